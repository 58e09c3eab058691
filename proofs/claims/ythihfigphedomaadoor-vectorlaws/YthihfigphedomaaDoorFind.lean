/-
  What find and Get hand back, for every list of entries by rising replicas that lies in memory. No conditions beyond what each theorem states.
-/
import Derived.Test.YthihfigphedomaaDoorJoin
namespace Go.Proofs.YthihfigphedomaaDoor
open Go.ChangeShapes Go.WideShapes Go.ChangeAt Go.RowKit Go.Lib
open Go.Sort
set_option linter.unusedVariables false
set_option linter.unusedSimpArgs false

/-- By rising replicas. -/
def Srt (xs : List En) : Prop := ∀ i j, i < j → j < xs.length → (atL xs i).1 < (atL xs j).1

theorem count_first (p : Nat → Bool) : ∀ n, (∀ a b, a ≤ b → b < n → p a = true → p b = true) → ∀ i, i < n → (p i = true ↔ (List.range n).countP (fun i => !p i) ≤ i)
  | 0, _, i, hi => by omega
  | n + 1, h, i, hi => by
    have ih := count_first p n (fun a b hab hb => h a b hab (by omega))
    have hle : (List.range n).countP (fun i => !p i) ≤ n := by have := List.countP_le_length (p := fun i => !p i) (l := List.range n); simpa using this
    rw [List.range_succ, List.countP_append]
    cases hp : p n with
    | true =>
      have e : List.countP (fun i => !p i) [n] = 0 := by simp [hp]
      rw [e, Nat.add_zero]
      by_cases hin : i = n
      · subst hin; simp [hp, hle]
      · exact ih i (by omega)
    | false =>
      have hall : ∀ j, j < n + 1 → p j = false := fun j hj => by
        cases hj2 : p j with
        | false => rfl
        | true => rw [h j n (by omega) (by omega) hj2] at hp; cases hp
      have e1 : (List.range n).countP (fun i => !p i) = n := by
        rw [List.countP_eq_length.2 (fun a ha => by rw [hall a (by have := List.mem_range.1 ha; omega)]; rfl)]; simp
      have e2 : List.countP (fun i => !p i) [n] = 1 := by simp [hp]
      rw [e1, e2, hall i hi]
      constructor
      · intro h; cases h
      · intro h; omega

/-- How many entries are of lesser replicas. -/
def rank (xs : List En) (r : Int) : Nat := (List.range xs.length).countP (fun i => !decide (r ≤ (atL xs i).1))
def hasL (xs : List En) (r : Int) : Bool := decide (rank xs r < xs.length ∧ (atL xs (rank xs r)).1 = r)
theorem rank_le (xs : List En) (r : Int) : rank xs r ≤ xs.length := by have := List.countP_le_length (p := fun i => !decide (r ≤ (atL xs i).1)) (l := List.range xs.length); simpa [rank] using this
theorem mono_srt {xs : List En} (h : Srt xs) (r : Int) : ∀ a b, a ≤ b → b < xs.length → decide (r ≤ (atL xs a).1) = true → decide (r ≤ (atL xs b).1) = true := by
  intro a b hab hb ha
  simp only [decide_eq_true_eq] at ha ⊢
  rcases Nat.eq_or_lt_of_le hab with e | e
  · subst e; exact ha
  · have := h a b e hb; omega
theorem rank_iff {xs : List En} (h : Srt xs) (r : Int) {i : Nat} (hi : i < xs.length) : r ≤ (atL xs i).1 ↔ rank xs r ≤ i := by
  have := count_first (fun i => decide (r ≤ (atL xs i).1)) xs.length (mono_srt h r) i hi
  simpa [rank] using this

set_option maxHeartbeats 800000 in
theorem findf_any (xs : List En) (r : Int) (p : Option Addr) (c i b1 b2 : Nat) (W : World) (h1 : W.cell? ⟨b1, 0, none⟩ = some (.slice p xs.length c)) (h2 : W.cell? ⟨b2, 0, none⟩ = some (.int .u16 r)) (hR : Row W p xs) (hi : i < xs.length) (hl : xs.length ≤ 4000) :
    Calls Tryd.prog 36 #[.int .i64 i, .pointer (some ⟨b1, 0, none⟩), .pointer (some ⟨b2, 0, none⟩)] W fun e w' => e = .returned (.bool (decide (r ≤ (atL xs i).1))) ∧ ∃ q os', w' = grow (W.drewN q) os' := by
  obtain ⟨b, o, rfl, c0, c1⟩ := hR i hi
  clear hR c1
  generalize (atL xs i).1 = x at c0 ⊢
  go_enter Tryd.func36, Tryd.ntmps36
  go_wp2_with fail
  go_quiet (fail)
  go_wp2
  go_ret
  exact ⟨rfl, _, #[], (grow_empty _).symm⟩

theorem below_grown (w : World) (q : Nat) (os : Array Obj) : Below w.heap.size w (grow (w.drewN q) os) := ⟨rfl, rfl, rfl, by simp [grow], fun k hk => by simp [grow, Array.getElem?_append, hk]⟩

set_option maxHeartbeats 1600000 in
set_option maxRecDepth 100000 in
theorem find_any (xs : List En) (r : Int) (p : Option Addr) (c : Nat) (w : World) (hR : Row w p xs) (hs : Srt xs) (hl : xs.length ≤ 4000) :
    Calls Tryd.prog 27 #[.slice p xs.length c, .int .u16 r] w fun e w' => e = .returned (.tuple #[.int .i64 (rank xs r : Nat), .bool (hasL xs r)]) ∧ Below w.heap.size w w' := by
  have eg : ∀ args w, (callFunc 36 args).run Tryd.prog w = .ok (.enter 36 args) w := enters_of Tryd.func36 (by kernel_rfl) rfl
  have HR : Hid (Row w p xs) := hR
  have hb2 : Below w.heap.size w ((w.alloc (.cells #[.slice p xs.length c] 23)).alloc (.cells #[.int .u16 r] 29)) := below_alloc (below_alloc (Below.refl _ _) _) _
  have g1 : ((w.alloc (.cells #[.slice p xs.length c] 23)).alloc (.cells #[.int .u16 r] 29)).cell? ⟨w.heap.size, 0, none⟩ = some (.slice p xs.length c) := cellA (by simp) _
  have g2 : ((w.alloc (.cells #[.slice p xs.length c] 23)).alloc (.cells #[.int .u16 r] 29)).cell? ⟨w.heap.size + 1, 0, none⟩ = some (.int .u16 r) := by simp
  have hsr := Any.sort_Search Tryd.laysSearch 36 #[.pointer (some ⟨w.heap.size, 0, none⟩), .pointer (some ⟨w.heap.size + 1, 0, none⟩)] xs.length (fun i => decide (r ≤ (atL xs i).1)) ((w.alloc (.cells #[.slice p xs.length c] 23)).alloc (.cells #[.int .u16 r] 29)) eg (by omega)
    (fun m os i hi => findf_any xs r p c i w.heap.size (w.heap.size + 1) _ (cellU g1 (below_grown _ m os)) (cellU g2 (below_grown _ m os)) ((hR.below hb2).below (below_grown _ m os)) hi hl) (mono_srt hs r)
  change Calls Tryd.prog 35 _ _ _ at hsr
  have HS := Lib.hid hsr
  have HRK : Hid ((List.range xs.length).countP (fun i => !decide (r ≤ (atL xs i).1)) = rank xs r) := rfl
  rw [HRK.out] at HS
  have hrl := rank_le xs r
  have G : Hid (((w.alloc (.cells #[.slice p xs.length c] 23)).alloc (.cells #[.int .u16 r] 29)).cell? ⟨w.heap.size, 0, none⟩ = some (.slice p xs.length c) ∧ ((w.alloc (.cells #[.slice p xs.length c] 23)).alloc (.cells #[.int .u16 r] 29)).cell? ⟨w.heap.size + 1, 0, none⟩ = some (.int .u16 r)) := ⟨g1, g2⟩
  have HB2 := Lib.hid hb2
  have HH : Hid (hasL xs r = decide (rank xs r < xs.length ∧ (atL xs (rank xs r)).1 = r)) := rfl
  generalize rank xs r = k at HS hrl HH ⊢
  generalize hasL xs r = b at HH ⊢
  clear hsr hR hs g1 g2 hb2 HRK
  go_enter Tryd.func27, Tryd.ntmps27
  go_wp2_with (first | (go_at_call 35; refine HS.out.mono ?_; rintro e w1 ⟨rfl, q, os, rfl⟩))
  have g1 := cellU G.out.1 (below_grown _ q os)
  have g2 := cellU G.out.2 (below_grown _ q os)
  have HB3 : Hid (Below w.heap.size w (grow (((w.alloc (.cells #[.slice p xs.length c] 23)).alloc (.cells #[.int .u16 r] 29)).drewN q) os)) := below_step HB2.out (below_grown _ q os)
  clear HS HB2 G
  generalize grow (((w.alloc (.cells #[.slice p xs.length c] 23)).alloc (.cells #[.int .u16 r] 29)).drewN q) os = W at g1 g2 HB3 ⊢
  have HRW : Hid (Row W p xs) := HR.out.below HB3.out
  clear HR
  by_cases hk : k < xs.length
  · have hk' : (k : Int) < (xs.length : Int) := by omega
    obtain ⟨b', o, rfl, c0, -⟩ := HRW.out k hk
    have HE : Hid (∀ v, v = decide ((atL xs k).1 = r) → b = v) := fun v hv => by rw [HH.out, hv]; simp [hk]
    generalize (atL xs k).1 = x at c0 HE
    clear HH
    by_cases hx : x = r
    · have hx' : (x == r) = true := by simp [hx]
      have e := HE.out true (by simp [hx])
      subst e
      go_quiet (fail)
      go_wp2
      go_ret2
      exact ⟨rfl, below_drewN HB3.out _⟩
    · have hx' : (x == r) = false := by simp [hx]
      have e := HE.out false (by simp [hx])
      subst e
      go_quiet (fail)
      go_wp2
      go_ret2
      exact ⟨rfl, below_drewN HB3.out _⟩
  · have hk' : decide ((k : Int) < (xs.length : Int)) = false := by simp; omega
    have hkn : ¬ (k : Int) < (xs.length : Int) := by omega
    have e : b = false := by rw [HH.out]; simp [hk]
    subst e
    clear HH
    go_quiet (fail)
    go_wp2
    go_ret2
    exact ⟨rfl, below_drewN HB3.out _⟩

theorem getL_has {xs : List En} (h : Srt xs) {r : Int} (hh : hasL xs r = true) : getL xs r = (atL xs (rank xs r)).2 := by
  simp only [hasL, decide_eq_true_eq] at hh
  refine getL_at hh.1 (fun i hi e => ?_) hh.2
  have := (rank_iff h r (show i < xs.length by omega)).1 (by omega)
  omega
theorem getL_hasnt {xs : List En} (h : Srt xs) {r : Int} (hh : hasL xs r = false) : getL xs r = 0 := by
  refine getL_none fun i hi e => ?_
  simp only [hasL, decide_eq_false_iff_not] at hh
  have h1 := (rank_iff h r hi).1 (by omega)
  apply hh
  have h2 := (rank_iff h r (show rank xs r < xs.length by omega)).2 (Nat.le_refl _)
  refine ⟨by omega, ?_⟩
  rcases Nat.eq_or_lt_of_le h1 with e2 | e2
  · rw [e2]; exact e
  · have := h _ _ e2 hi; omega

set_option maxHeartbeats 800000 in
theorem get_any (xs : List En) (r : Int) (p : Option Addr) (c : Nat) (w : World) (hR : Row w p xs) (hs : Srt xs) (hl : xs.length ≤ 4000) :
    Calls Tryd.prog 12 #[.slice p xs.length c, .int .u16 r] w fun e w' => e = .returned (.int .u32 (getL xs r)) ∧ Below w.heap.size w w' := by
  have HF : Hid (Calls Tryd.prog 27 #[.slice p xs.length c, .int .u16 r] w fun e w' => e = .returned (.tuple #[.int .i64 (rank xs r : Nat), .bool (hasL xs r)]) ∧ Below w.heap.size w w') := find_any xs r p c w hR hs hl
  have HR : Hid (Row w p xs) := hR
  clear hR
  cases hh : hasL xs r with
  | true =>
    have hk : rank xs r < xs.length := by simp only [hasL, decide_eq_true_eq] at hh; exact hh.1
    rw [getL_has hs hh]
    rw [hh] at HF
    clear hh
    generalize rank xs r = k at HF hk ⊢
    obtain ⟨b', o, rfl, -, c1⟩ := HR.out k hk
    generalize (atL xs k).2 = y at c1 ⊢
    go_enter Tryd.func12, Tryd.ntmps12
    go_wp2_with (first | (go_at_call 27; refine HF.out.mono ?_; rintro e w1 ⟨rfl, hb⟩; have c2 := cellU c1 hb))
    go_ret
    exact ⟨rfl, hb⟩
  | false =>
    rw [getL_hasnt hs hh]
    rw [hh] at HF
    clear hh
    generalize rank xs r = k at HF ⊢
    go_enter Tryd.func12, Tryd.ntmps12
    go_wp2_with (first | (go_at_call 27; refine HF.out.mono ?_; rintro e w1 ⟨rfl, hb⟩))
    go_ret
    exact ⟨rfl, hb⟩

end Go.Proofs.YthihfigphedomaaDoor
