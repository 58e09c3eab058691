/-
  What the comparison behind Join and the sort by it come to: the row holds the same entries, by rising replicas, of one replica's the greatest first. No conditions beyond what each theorem states.
-/
import Derived.Test.YthihfigphedomaaDoorRefLacks
import Derived.Test.YthihfigphedomaaDoorLaid
namespace Go.Proofs.YthihfigphedomaaDoor
open Go.ChangeShapes Go.WideShapes Go.ChangeAt Go.RowKit Go.Lib
open Go.Sort
set_option linter.unusedVariables false
set_option linter.unusedSimpArgs false

def cmp3 (a b : Int) : Int := if a < b then -1 else if b < a then 1 else 0
theorem cmp3_lt {a b : Int} (h : a < b) : cmp3 a b = -1 := by simp [cmp3, h]
theorem cmp3_gt {a b : Int} (h : b < a) : cmp3 a b = 1 := by unfold cmp3; rw [if_neg (by omega), if_pos h]
theorem cmp3_eq {a b : Int} (h1 : ¬ a < b) (h2 : ¬ b < a) : cmp3 a b = 0 := by simp [cmp3, h1, h2]

set_option maxHeartbeats 400000 in
theorem compare16 (a b : Int) (w : World) :
    Calls Tryd.prog 39 #[.int .u16 a, .int .u16 b] w fun e w' => e = .returned (.int .i64 (cmp3 a b)) ∧ w' = w := by
  by_cases h1 : a < b
  · rw [cmp3_lt h1]
    go_enter Tryd.func39, Tryd.ntmps39
    go_wp2
    go_ret
    exact ⟨rfl, rfl⟩
  · by_cases h2 : b < a
    · rw [cmp3_gt h2]
      go_enter Tryd.func39, Tryd.ntmps39
      go_wp2
      go_ret
      exact ⟨rfl, rfl⟩
    · rw [cmp3_eq h1 h2]
      go_enter Tryd.func39, Tryd.ntmps39
      go_wp2
      go_ret
      exact ⟨rfl, rfl⟩

set_option maxHeartbeats 400000 in
theorem compare32 (a b : Int) (w : World) :
    Calls Tryd.prog 40 #[.int .u32 a, .int .u32 b] w fun e w' => e = .returned (.int .i64 (cmp3 a b)) ∧ w' = w := by
  by_cases h1 : a < b
  · rw [cmp3_lt h1]
    go_enter Tryd.func40, Tryd.ntmps40
    go_wp2
    go_ret
    exact ⟨rfl, rfl⟩
  · by_cases h2 : b < a
    · rw [cmp3_gt h2]
      go_enter Tryd.func40, Tryd.ntmps40
      go_wp2
      go_ret
      exact ⟨rfl, rfl⟩
    · rw [cmp3_eq h1 h2]
      go_enter Tryd.func40, Tryd.ntmps40
      go_wp2
      go_ret
      exact ⟨rfl, rfl⟩

/-- The comparison behind Join. -/
def most (x y : En) : Int := if cmp3 x.1 y.1 = 0 then cmp3 y.2 x.2 else cmp3 x.1 y.1
def encE (x : En) : List Value := [.int .u16 x.1, .int .u32 x.2]

set_option maxHeartbeats 400000 in
theorem most_any (x y : En) (w : World) :
    Calls Tryd.prog 30 #[.agg #[.int .u16 x.1, .int .u32 x.2], .agg #[.int .u16 y.1, .int .u32 y.2]] w fun e w' => e = .returned (.int .i64 (most x y)) ∧ ∃ q os', w' = grow (w.drewN q) os' := by
  obtain ⟨r, n⟩ := x
  obtain ⟨s, m⟩ := y
  unfold most
  by_cases h : cmp3 r s = 0
  · rw [if_pos h]
    have h' : (cmp3 r s == 0) = true := by simp [h]
    go_enter Tryd.func30, Tryd.ntmps30
    go_wp2_with (first | (go_at_call 39; refine (compare16 _ _ _).mono ?_; rintro e w' ⟨rfl, rfl⟩) | (go_at_call 40; refine (compare32 _ _ _).mono ?_; rintro e w' ⟨rfl, rfl⟩))
    go_ret
    exact ⟨rfl, 0, _, by rw [alloc_eq_grow, alloc_eq_grow, grow_grow]; rfl⟩
  · rw [if_neg h]
    have h' : (cmp3 r s == 0) = false := by simp [h]
    go_enter Tryd.func30, Tryd.ntmps30
    go_wp2_with (first | (go_at_call 39; refine (compare16 _ _ _).mono ?_; rintro e w' ⟨rfl, rfl⟩) | (go_at_call 40; refine (compare32 _ _ _).mono ?_; rintro e w' ⟨rfl, rfl⟩))
    go_ret
    exact ⟨rfl, 0, _, by rw [alloc_eq_grow, alloc_eq_grow, grow_grow]; rfl⟩

theorem lt_most (x y : En) : ltOf most x y = decide (x.1 < y.1 ∨ x.1 = y.1 ∧ y.2 < x.2) := by
  unfold ltOf most
  apply decide_eq_decide.2
  by_cases h1 : x.1 < y.1
  · rw [cmp3_lt h1, if_neg (by omega)]; omega
  · by_cases h2 : y.1 < x.1
    · rw [cmp3_gt h2, if_neg (by omega)]; omega
    · rw [cmp3_eq h1 h2, if_pos rfl]
      by_cases h3 : y.2 < x.2
      · rw [cmp3_lt h3]; omega
      · by_cases h4 : x.2 < y.2
        · rw [cmp3_gt h4]; omega
        · rw [cmp3_eq h3 h4]; omega

theorem swo_most : SWO (ltOf most) where
  irrefl x := by rw [lt_most]; simp
  trans x y z h1 h2 := by rw [lt_most] at *; simp at *; omega
  ntrans x y z h1 h2 := by rw [lt_most] at *; simp at *; omega

/-- A row of entries that may be written. -/
def Free (w : World) (g o : Nat) (xs : List En) : Prop := ∀ i, i < xs.length → (w.cell? ⟨g, o + i * 2, none⟩ = some (.int .u16 (atL xs i).1) ∧ w.cell? ⟨g, o + i * 2 + 1, none⟩ = some (.int .u32 (atL xs i).2)) ∧ w.frozen? ⟨g, o + i * 2, none⟩ = false ∧ w.frozen? ⟨g, o + i * 2 + 1, none⟩ = false

theorem toArray_at (xs : List En) (i : Nat) : xs.toArray[i]! = atL xs i := by
  simp only [atL, List.getD_eq_getElem?_getD, List.getElem!_toArray, List.getElem!_eq_getElem?_getD]
  rfl

theorem holdsK_of_free {w : World} {g o : Nat} {xs : List En} (h : Free w g o xs) : HoldsK encE 2 w g o xs.toArray := by
  intro j hj
  rw [size_flatK, List.size_toArray] at hj
  have hi : j / 2 < xs.length := by omega
  obtain ⟨⟨h1, h2⟩, h3, h4⟩ := h (j / 2) hi
  rw [get_flatK _ _ _ _ (by rw [List.size_toArray]; exact hj), toArray_at]
  rcases Nat.mod_two_eq_zero_or_one j with e | e
  · rw [e, show o + j = o + j / 2 * 2 by omega]; exact ⟨h1, h3⟩
  · rw [e, show o + j = o + j / 2 * 2 + 1 by omega]; exact ⟨h2, h4⟩

theorem free_of_holdsK {w : World} {g o : Nat} {d : Array En} (h : HoldsK encE 2 w g o d) : Free w g o d.toList := by
  intro i hi
  have hi' : i < d.size := by simpa using hi
  have e : d[i]! = atL d.toList i := by rw [← toArray_at]
  have h0 := h.cell hi' (c := 0) (by omega)
  have h1 := h.cell hi' (c := 1) (by omega)
  rw [e] at h0 h1
  exact ⟨⟨h0.1, h1.1⟩, h0.2, h1.2⟩

theorem below_sortWorldK {B g o m : Nat} {w : World} {d : Array En} {os : Array Obj} (hB : B ≤ g) (hg : g < w.heap.size) : Below B w (sortWorldK encE 2 w g o m d os) := by
  refine ⟨rfl, rfl, rfl, ?_, fun k hk => ?_⟩
  · simp [sortWorldK, putRowK, putRow, Sort.mapBlock, grow, Sort.ahead]
  · simp only [sortWorldK, putRowK, putRow, Sort.mapBlock, grow, Sort.ahead]
    rw [Array.getElem?_append_left (by simp; omega), Array.getElem?_modify, if_neg (by omega)]

set_option maxHeartbeats 800000 in
theorem sort_any (B g o cap : Nat) (xs : List En) (w : World) (hF : Free w g o xs) (hg : g < w.heap.size) (hB : B ≤ g) (hl : xs.length ≤ 4000) :
    Calls Tryd.prog 29 #[.slice (some ⟨g, o, none⟩) xs.length cap, .func (.func 30) #[] #[]] w fun e w' => e = .returned (.tuple #[]) ∧ ∃ ys, ys.Perm xs ∧ (∀ i j, i < j → j < ys.length → ltOf most (atL ys j) (atL ys i) = false) ∧ Free w' g o ys ∧ Below B w w' := by
  have hK := holdsK_of_free hF
  have eg : ∀ args w, (callFunc 30 args).run Tryd.prog w = .ok (.enter 30 args) w := enters_of Tryd.func30 (by kernel_rfl) rfl
  have hcmp : CmpLays Tryd.prog 30 #[] encE 2 most g o xs.toArray.size w := fun _ _ _ _ x y => most_any x y _
  have hlen : xs.toArray.size = xs.length := by simp
  have hb : Lib.bitLen xs.length < 4611686018427387904 := Nat.lt_of_le_of_lt (Lib.bitLen_le xs.length 62 (by omega) (by omega)) (by omega)
  have hp := AnyQ.pdqsortCmpFunc_all Tryd.laysPdq 2 Tryd.isAgg55 Tryd.sizeOf55 encE most 30 #[] swo_most g o cap xs.toArray w eg hcmp ⟨fun _ => rfl, fun x v hv => by simp [encE] at hv; rcases hv with rfl | rfl <;> rfl, hK, hg⟩ (xs.length + 1) 0 xs.length (Lib.bitLen xs.length) xs.toArray w (by omega) rfl (SWK.start hK) (Nat.zero_le _) (by simp) (by simp; omega) hb (Or.inl rfl)
  have hsorts := Sort.pdq_sorts (ltOf most) swo_most xs.toArray 0 xs.length (Lib.bitLen xs.length) true true (Nat.zero_le _) (by simp) (Or.inl rfl)
  rw [hlen] at hp
  change Calls Tryd.prog 37 _ _ _ at hp
  have hlb : Calls Tryd.prog 38 #[.int .u64 (xs.length : Int)] w fun e w' => e = .returned (.int .i64 (Lib.bitLen xs.length : Nat)) ∧ w' = w := by
    have h := Any.bits_Len Tryd.lays125 (xs.length : Int) w (by omega) (by omega)
    rwa [Int.toNat_natCast] at h
  have wr : IntKind.u64.wrap (xs.length : Int) = xs.length := by rw [IntKind.wrap_u64]; omega
  generalize Sort.pdq (ltOf most) xs.toArray 0 xs.length (Lib.bitLen xs.length) true true = d' at hp hsorts
  have HS : Hid (PermIn 0 xs.length xs.toArray d' ∧ SortedIn (ltOf most) 0 xs.length d') := hsorts
  have HK : Hid (HoldsK encE 2 w g o xs.toArray) := hK
  have HP := Lib.hid hp
  clear hK hcmp hF hlen hp hsorts
  go_enter Tryd.func29, Tryd.ntmps29
  go_wp2_with (first | (go_at_call 38; refine hlb.mono ?_; rintro e w' ⟨rfl, he⟩; obtain rfl := Eq.symm he) | (go_at_call 37; refine HP.out.mono ?_; rintro e w' ⟨rfl, n, os, rfl⟩))
  go_end0
  obtain ⟨⟨hs1, hs2, hs3⟩, hs4⟩ := HS.out
  have hsz : d'.size = xs.length := by simpa using hs1
  refine ⟨rfl, d'.toList, ?_, ?_, ?_, below_sortWorldK hB hg⟩
  · have e1 : d'.extract 0 xs.length = d' := by rw [← hsz]; simp
    have e2 : xs.toArray.extract 0 xs.length = xs.toArray := by simp
    rw [e1, e2] at hs3; simpa using hs3
  · intro i j hij hj
    have := hs4 i j (Nat.zero_le _) hij (by rw [← hsz]; simpa using hj)
    have e : ∀ i, d'[i]! = atL d'.toList i := fun i => by rw [← toArray_at]
    rwa [e, e] at this
  · exact free_of_holdsK (holdsK_sortWorldK encE 2 w g o n xs.toArray d' os hg HK.out (by simpa using hs1))

set_option maxHeartbeats 400000 in
theorem ins_none (p : Option Addr) (cap : Nat) (fv : Value) (w : World) :
    Calls Tryd.prog 42 #[.slice p 0 cap, .int .i64 0, .int .i64 0, fv] w fun e w' => e = .returned (.tuple #[]) ∧ w' = w := by
  go_enter Tryd.func42, Tryd.ntmps42
  go_wp2
  refine wp_loop_rounds 1 ?_
  rw [rounds_succ]
  go_wp2
  go_end0
  exact ⟨rfl, rfl⟩

set_option maxHeartbeats 800000 in
theorem pdq_none (p : Option Addr) (cap : Nat) (lim : Int) (fv : Value) (w : World) :
    Calls Tryd.prog 37 #[.slice p 0 cap, .int .i64 0, .int .i64 0, .int .i64 lim, fv] w fun e w' => e = .returned (.tuple #[]) ∧ w' = w := by
  go_enter Tryd.func37, Tryd.ntmps37
  go_wp2
  refine wp_loop_rounds 1 ?_
  rw [rounds_succ]
  go_wp2_with (go_at_call 42; refine (ins_none p cap fv _).mono ?_; rintro e w' ⟨rfl, rfl⟩)
  (try simp only [Exit.inBlock, Exit.then])
  refine bodyPost_ret (results_none rfl _ _ _) rfl ?_
  exact ⟨rfl, rfl⟩

set_option maxHeartbeats 400000 in
/-- The sort of no entry. -/
theorem sort_none (p : Option Addr) (cap : Nat) (fv : Value) (w : World) :
    Calls Tryd.prog 29 #[.slice p 0 cap, fv] w fun e w' => e = .returned (.tuple #[]) ∧ w' = w := by
  have hlb : ∀ W, Calls Tryd.prog 38 #[.int .u64 0] W fun e w' => e = .returned (.int .i64 (Lib.bitLen 0 : Nat)) ∧ w' = W := fun W => Any.bits_Len Tryd.lays125 0 W (by omega) (by omega)
  go_enter Tryd.func29, Tryd.ntmps29
  go_wp2_with (first | (go_at_call 38; refine (hlb _).mono ?_; rintro e w' ⟨rfl, rfl⟩) | (go_at_call 37; refine (pdq_none _ _ _ _ _).mono ?_; rintro e w' ⟨rfl, rfl⟩))
  go_end0
  exact ⟨rfl, rfl⟩

end Go.Proofs.YthihfigphedomaaDoor
