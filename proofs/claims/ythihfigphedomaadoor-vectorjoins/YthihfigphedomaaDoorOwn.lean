/-
  Rows of entries that a call has made, and what refs, right and same hand back. No conditions beyond what each theorem states.
-/
import Derived.Test.YthihfigphedomaaDoorReads
namespace Go.Proofs.YthihfigphedomaaDoor
open Go.ChangeShapes Go.WideShapes Go.ChangeAt Go.RowKit
set_option linter.unusedVariables false
set_option linter.unusedSimpArgs false

theorem info39 : (Tryd.prog.info? 39).map (fun i => (i.zero, i.size, i.bytes)) = some (some (.agg #[.int .u16 0, .int .u32 0]), 2, 8) := by kernel_rfl
theorem info55 : (Tryd.prog.info? 55).map (fun i => (i.zero, i.size, i.bytes)) = some (some (.agg #[.int .u16 0, .int .u32 0]), 2, 8) := by kernel_rfl
theorem info52 : (Tryd.prog.info? 52).map (fun i => (i.zero, i.size, i.bytes)) = some (some (.agg #[.int .u16 0, .int .u32 0, .int .u32 0]), 3, 12) := by kernel_rfl
theorem info51 : (Tryd.prog.info? 51).map (fun i => (i.zero, i.size, i.bytes)) = some (some (.agg #[.int .u16 0, .int .u32 0, .int .u32 0]), 3, 12) := by kernel_rfl

/-- The cells of entries, one behind the other. -/
def cellsL : List En → List Value
  | [] => []
  | x :: xs => .int .u16 x.1 :: .int .u32 x.2 :: cellsL xs
theorem cellsL_length (xs : List En) : (cellsL xs).length = xs.length * 2 := by
  induction xs with
  | nil => rfl
  | cons x xs ih => simp [cellsL, ih]; omega
theorem cellsL_append (xs ys : List En) : cellsL (xs ++ ys) = cellsL xs ++ cellsL ys := by
  induction xs with
  | nil => rfl
  | cons x xs ih => simp [cellsL, ih]
theorem cellsL_at (xs : List En) (i : Nat) (h : i < xs.length) : (cellsL xs)[i * 2]? = some (.int .u16 (atL xs i).1) ∧ (cellsL xs)[i * 2 + 1]? = some (.int .u32 (atL xs i).2) := by
  induction xs generalizing i with
  | nil => simp at h
  | cons x xs ih =>
    cases i with
    | zero => simp [cellsL, atL]
    | succ i =>
      have := ih i (by simpa using h)
      rw [show (i + 1) * 2 = i * 2 + 1 + 1 by omega]
      simpa [cellsL, atL] using this
theorem cellsL_one (xs : List En) : ∀ u ∈ cellsL xs, u.oneCell' = true := by
  induction xs with
  | nil => intro u hu; cases hu
  | cons x xs ih => intro u hu; simp only [cellsL, List.mem_cons] at hu; rcases hu with rfl | rfl | hu; rfl; rfl; exact ih u hu
theorem atL_append_left {xs ys : List En} {i : Nat} (h : i < xs.length) : atL (xs ++ ys) i = atL xs i := by simp [atL, List.getElem?_append_left h]
theorem atL_drop (xs : List En) (k i : Nat) : atL (xs.drop k) i = atL xs (k + i) := by simp [atL, List.getElem?_drop]
theorem atL_take (xs : List En) (k i : Nat) (h : i < k) : atL (xs.take k) i = atL xs i := by simp [atL, List.getElem?_take, h]
theorem take_atL (xs : List En) (k : Nat) (h : k < xs.length) : xs.take (k + 1) = xs.take k ++ [atL xs k] := by
  rw [List.take_add_one]; simp [atL, h]
theorem atL_mem {xs : List En} {i : Nat} (h : i < xs.length) : atL xs i ∈ xs := by simp [atL, h]
theorem mem_atL {xs : List En} {x : En} (h : x ∈ xs) : ∃ i, i < xs.length ∧ atL xs i = x := by
  obtain ⟨i, hi, e⟩ := List.getElem_of_mem h
  exact ⟨i, hi, by simp [atL, hi, e]⟩

/-- What a call's own row holds, read. -/
theorem row_of_owns {w : World} {base n : Nat} {e : TypeId} {v : Value} {xs : List En} (h : w.ownsRow base e 2 v n (cellsL xs)) : ∃ p c, v = .slice p xs.length c ∧ n = xs.length ∧ Row w p xs := by
  have hn : n = xs.length := by have := h.1; rw [cellsL_length] at this; omega
  subst hn
  rcases h.2 with ⟨hv, h0⟩ | ⟨g, cap, cur, rfl, hb, hh, h1, h2, h3, h4⟩
  · exact ⟨none, 0, by rw [hv, h0], rfl, fun i hi => by omega⟩
  · refine ⟨_, cap, rfl, rfl, fun i hi => ⟨g, 0, rfl, ?_, ?_⟩⟩
    · rw [h.cellAt (0 + i * 2) (by omega), Nat.zero_add]; exact (cellsL_at xs i hi).1
    · rw [h.cellAt (0 + i * 2 + 1) (by omega), Nat.zero_add]; exact (cellsL_at xs i hi).2

theorem cells_pair {W : World} {b : Nat} {x y : Value} (t : TypeId) (hx : W.cell? ⟨b, 0, none⟩ = some x) (hy : W.cell? ⟨b, 1, none⟩ = some y) : ∀ j u, [x, y][j]? = some u → W.cell? ((⟨b, 0, none⟩ : Addr).add j) = some u := by
  intro j u hj
  match j, hj with
  | 0, hj => simp at hj; subst hj; simpa [Addr.add] using hx
  | 1, hj => simp at hj; subst hj; simpa [Addr.add] using hy
theorem pair_one (x y : Int) : ∀ u ∈ [Value.int .u16 x, Value.int .u32 y], u.oneCell' = true := by intro u hu; simp at hu; rcases hu with rfl | rfl <;> rfl

/-- A slice that the call has made, holding these entries. -/
def Gave (w : World) (xs : List En) (e : Ending) (w' : World) : Prop := ∃ p c, e = .returned (.slice p xs.length c) ∧ Row w' p xs ∧ Below w.heap.size w w'

set_option maxHeartbeats 1600000 in
theorem refs_any (xs : List En) (p : Option Addr) (c : Nat) (w : World) (hR : Row w p xs) (hl : xs.length ≤ 1000) :
    Calls Tryd.prog 10 #[.slice p xs.length c] w (Gave w xs) := by
  have HR : Hid (Row w p xs) := hR
  clear hR
  obtain ⟨i0, hi, hz0, hz1, hz2⟩ := info_parts info39
  go_enter Tryd.func10, Tryd.ntmps10
  go_wp2
  go_loopg [3, 8] xs.length (fun g v i wr => ∃ k : Nat, k ≤ xs.length ∧ xs.length - k ≤ g ∧ i = .int .i64 k ∧ wr.ownsRow w.heap.size 39 2 v k (cellsL (xs.take k)) ∧ Below w.heap.size w wr)
  case atStart => exact ⟨0, Nat.zero_le _, by omega, rfl, by simpa [cellsL] using World.ownsRow_nil w w.heap.size 39 2, Below.refl _ _⟩
  case round =>
    obtain ⟨k, hk, hg, rfl, hown, hb⟩ := hrel
    have HO : Hid (wr.ownsRow w.heap.size 39 2 u3 k (cellsL (xs.take k))) := hown
    have HB : Hid (Below w.heap.size w wr) := hb
    clear hb hown
    by_cases hlt : k < xs.length
    · obtain ⟨b, o, rfl, c0', c1'⟩ := HR.out k hlt
      have c0 := cellU c0' HB.out
      have c1 := cellU c1' HB.out
      clear c0' c1'
      generalize hx : (atL xs k).1 = x at c0
      generalize hy : (atL xs k).2 = y at c1
      have B : Hid ((atL xs k).1 = x ∧ (atL xs k).2 = y) := ⟨hx, hy⟩
      clear hx hy
      go_wp2_with (first
        | (at_builtin; refine wpList_append_own _ rfl (.tmp 12) (.tmp 14) 26 rfl w.heap.size 39 i0 (.agg #[.int .u16 0, .int .u32 0]) 2 8 Tryd.underlying26 hi hz0 hz1 hz2 rfl (by decide) _ _ _ rfl ((HO.out.alloc _).alloc _) ⟨wr.heap.size + 1, 0, none⟩ 1 1 [.int .u16 x, .int .u32 y] rfl rfl (cells_pair 39 (by simp) (by simp)) (pair_one x y) (by unfold maxLen; omega) (by omega) (by have := HB.out.size; simp; omega) ?_))
      intro v' w1 hown' hgrow _
      have HO2 : Hid (w1.ownsRow w.heap.size 39 2 v' (k + 1) (cellsL (xs.take (k + 1)))) := by
        rw [take_atL xs k hlt, cellsL_append, show atL xs k = (x, y) from Prod.ext B.out.1 B.out.2]; exact hown'
      have HB2 : Hid (Below w.heap.size w w1) := (below_alloc (below_alloc HB.out _) _).grown hgrow (by have := HB.out.size; simp; omega) (fun j hj => (HO.out.lt j hj).1)
      clear hown' hgrow
      go_wp2
      go_roundg (xs.length - (k + 1))
      case measure => omega
      case rel => exact ⟨k + 1, by omega, Nat.le_refl _, by go_num, HO2.out, HB2.out⟩
    · have : k = xs.length := by omega
      subst this
      have hO := HO.out
      rw [List.take_length] at hO
      obtain ⟨p', c', rfl, -, hr⟩ := row_of_owns hO
      have HR' : Hid (Row wr p' xs) := hr
      clear hO hr HO
      go_wp2
      go_ret
      exact ⟨p', c', rfl, HR'.out, HB.out⟩

/-- right: at most 60 entries that are a vector. -/
def rightS (xs : List En) : Bool := decide (xs.length ≤ 60) && rightB xs
theorem rightS_big {xs : List En} (h : ¬ xs.length ≤ 60) : rightS xs = false := by simp [rightS, h]
theorem rightS_small {xs : List En} (h : xs.length ≤ 60) : rightS xs = rightB xs := by simp [rightS, h]

set_option maxHeartbeats 800000 in
theorem rights_any (xs : List En) (p : Option Addr) (c : Nat) (w : World) (hR : Row w p xs) (hl : xs.length ≤ 9223372036854775807) :
    Calls Tryd.prog 11 #[.slice p xs.length c] w fun e w' => e = .returned (.bool (rightS xs)) ∧ Below w.heap.size w w' := by
  have HR : Hid (Row w p xs) := hR
  clear hR
  by_cases h60 : xs.length ≤ 60
  · rw [rightS_small h60]
    have h60' : ((xs.length : Nat) : Int) ≤ 60 := by omega
    go_enter Tryd.func11, Tryd.ntmps11
    go_wp2_with (first
      | (go_at_call 10; refine (refs_any xs p c _ HR.out (by omega)).mono ?_; rintro e w1 ⟨p1, c1, rfl, hr1, hb1⟩)
      | (go_at_call 9; refine (refright_any xs p1 c1 _ hr1 (by omega)).mono ?_; rintro e w2 ⟨rfl, hb2⟩))
    go_ret
    exact ⟨rfl, below_step hb1 hb2⟩
  · rw [rightS_big h60]
    have h60' : ¬ ((xs.length : Nat) : Int) ≤ 60 := by omega
    go_enter Tryd.func11, Tryd.ntmps11
    go_wp2
    go_ret
    exact ⟨rfl, Below.refl _ _⟩

theorem list_ext_at {xs ys : List En} (h : xs.length = ys.length) (ha : ∀ i, i < xs.length → atL xs i = atL ys i) : xs = ys := by
  apply List.ext_getElem h
  intro i h1 h2
  have := ha i h1
  simpa [atL, h1, h2] using this

set_option maxHeartbeats 1600000 in
theorem same_any (xs ys : List En) (p q : Option Addr) (c d : Nat) (w : World) (hR : Row w p xs) (hS : Row w q ys) (hl : xs.length ≤ 4611686018427387904) :
    Calls Tryd.prog 14 #[.slice p xs.length c, .slice q ys.length d] w fun e w' => e = .returned (.bool (decide (xs = ys))) ∧ Below w.heap.size w w' := by
  have HR : Hid (Row w p xs) := hR
  have HS : Hid (Row w q ys) := hS
  clear hR hS
  by_cases hlen : xs.length = ys.length
  · have HL : Hid (xs.length = ys.length) := hlen
    have hne : ((xs.length : Nat) : Int) = ((ys.length : Nat) : Int) := by omega
    rw [← hlen]
    clear hne hlen
    go_enter Tryd.func14, Tryd.ntmps14
    go_wp2
    go_loopg [13] xs.length (fun g i wr => ∃ k q : Nat, k ≤ xs.length ∧ xs.length - k ≤ g ∧ i = .int .i64 k ∧ wr = w.drewN q ∧ ∀ j, j < k → atL xs j = atL ys j)
    case atStart => exact ⟨0, 0, Nat.zero_le _, by omega, rfl, rfl, fun j hj => by omega⟩
    case round =>
      obtain ⟨k, n, hk, hg, rfl, rfl, hno⟩ := hrel
      have HN : Hid (∀ j, j < k → atL xs j = atL ys j) := hno
      clear hno
      by_cases hlt : k < xs.length
      · obtain ⟨b, o, rfl, c0, c1⟩ := HR.out k hlt
        obtain ⟨b', o', rfl, d0, d1⟩ := HS.out k (by rw [← HL.out]; exact hlt)
        generalize hx : (atL xs k).1 = x at c0
        generalize hy : (atL xs k).2 = y at c1
        generalize hu : (atL ys k).1 = u at d0
        generalize hv : (atL ys k).2 = v at d1
        have B : Hid (atL xs k = (x, y) ∧ atL ys k = (u, v)) := ⟨Prod.ext hx hy, Prod.ext hu hv⟩
        clear hx hy hu hv
        by_cases h1 : x = u
        · subst h1
          by_cases h2 : y = v
          · subst h2
            go_wp2_with fail
            go_quiet (fail)
            go_wp2
            go_roundg (xs.length - (k + 1))
            case measure => omega
            case rel => exact ⟨k + 1, _, by omega, Nat.le_refl _, by go_num, rfl, fun j hj => by
              by_cases e : j = k
              · subst e; rw [B.out.1, B.out.2]
              · exact HN.out j (by omega)⟩
          · have h2' : (y == v) = false := by simp [h2]
            go_wp2_with fail
            go_quiet (fail)
            go_wp2
            go_ret
            exact ⟨ret_bool (decide_eq_false (fun e => h2 (by have := B.out.1; rw [e, B.out.2] at this; exact ((Prod.mk.inj this).2).symm))).symm, below_drewN (below_drewN (Below.refl _ _) _) _⟩
        · have h1' : (x == u) = false := by simp [h1]
          go_wp2_with fail
          go_quiet (fail)
          go_wp2
          go_ret
          exact ⟨ret_bool (decide_eq_false (fun e => h1 (by have := B.out.1; rw [e, B.out.2] at this; exact ((Prod.mk.inj this).1).symm))).symm, below_drewN (below_drewN (Below.refl _ _) _) _⟩
      · have : k = xs.length := by omega
        subst this
        go_wp2
        go_ret
        exact ⟨ret_bool (decide_eq_true (list_ext_at HL.out HN.out)).symm, below_drewN (Below.refl _ _) _⟩
  · have hne : (((xs.length : Nat) : Int) == ((ys.length : Nat) : Int)) = false := by simp; omega
    go_enter Tryd.func14, Tryd.ntmps14
    go_wp2
    go_ret
    exact ⟨ret_bool (decide_eq_false (fun e => hlen (by rw [e]))).symm, Below.refl _ _⟩

end Go.Proofs.YthihfigphedomaaDoor
