/-
  What Right, its reference, same and Sum hand back, for every list of entries that lies in memory. No conditions beyond what each theorem states.
-/
import Derived.Test.YthihfigphedomaaDoorBase
namespace Go.Proofs.YthihfigphedomaaDoor
open Go.ChangeShapes Go.WideShapes Go.ChangeAt Go.RowKit
set_option linter.unusedVariables false
set_option linter.unusedSimpArgs false

def okAt (xs : List En) (i : Nat) : Prop := 1 ≤ (atL xs i).2 ∧ (atL xs i).2 ≤ 268435456 ∧ (0 < i → (atL xs (i - 1)).1 < (atL xs i).1)
def decOk (xs : List En) (i : Nat) : Decidable (okAt xs i) := inferInstanceAs (Decidable (1 ≤ (atL xs i).2 ∧ (atL xs i).2 ≤ 268435456 ∧ (0 < i → (atL xs (i - 1)).1 < (atL xs i).1)))
/-- The entries are a vector. -/
def RightP (xs : List En) : Prop := ∀ i, i < xs.length → okAt xs i
def decRight (xs : List En) : Decidable (RightP xs) := @Nat.decidableBallLT xs.length (fun i _ => okAt xs i) (fun i _ => decOk xs i)
def rightB (xs : List En) : Bool := @decide (RightP xs) (decRight xs)
theorem rightB_true {xs : List En} (h : ∀ i, i < xs.length → okAt xs i) : rightB xs = true := @decide_eq_true _ (decRight xs) h
theorem rightB_false {xs : List En} {k : Nat} (hk : k < xs.length) (h : ¬ okAt xs k) : rightB xs = false := @decide_eq_false _ (decRight xs) fun hh => h (hh k hk)

theorem ret_bool {a b : Bool} (h : a = b) : Ending.returned (.bool a) = .returned (.bool b) := by rw [h]

set_option maxHeartbeats 1600000 in
theorem refright_any (xs : List En) (p : Option Addr) (c : Nat) (w : World) (hR : Row w p xs) (hl : xs.length ≤ 4611686018427387904) :
    Calls Tryd.prog 9 #[.slice p xs.length c] w fun e w' => e = .returned (.bool (rightB xs)) ∧ Below w.heap.size w w' := by
  have HR : Hid (Row w p xs) := hR
  clear hR
  go_enter Tryd.func9, Tryd.ntmps9
  go_wp2
  go_loopg [3] xs.length (fun g i wr => ∃ k q : Nat, k ≤ xs.length ∧ xs.length - k ≤ g ∧ i = .int .i64 k ∧ wr = w.drewN q ∧ ∀ j, j < k → okAt xs j)
  case atStart => exact ⟨0, 0, Nat.zero_le _, by omega, rfl, rfl, fun j hj => by omega⟩
  case round =>
    obtain ⟨k, q, hk, hg, rfl, rfl, hno⟩ := hrel
    have HN : Hid (∀ j, j < k → okAt xs j) := hno
    clear hno
    by_cases hlt : k < xs.length
    · obtain ⟨b, o, rfl, c0, c1⟩ := HR.out k hlt
      generalize hx : (atL xs k).1 = x at c0
      generalize hy : (atL xs k).2 = y at c1
      have B : Hid ((atL xs k).1 = x ∧ (atL xs k).2 = y) := ⟨hx, hy⟩
      clear hx hy
      by_cases h1 : y < 1
      · go_wp2
        go_ret
        exact ⟨ret_bool (rightB_false hlt (fun h => by have := h.1; rw [B.out.2] at this; omega)).symm, Below.trans (Below.refl _ _) ⟨rfl, rfl, rfl, Nat.le_refl _, fun _ _ => rfl⟩⟩
      · by_cases h2 : 268435456 < y
        · go_wp2
          go_ret
          exact ⟨ret_bool (rightB_false hlt (fun h => by have := h.2.1; rw [B.out.2] at this; omega)).symm, Below.trans (Below.refl _ _) ⟨rfl, rfl, rfl, Nat.le_refl _, fun _ _ => rfl⟩⟩
        · by_cases h3 : 0 < k
          · obtain ⟨b', o', e', d0, d1⟩ := HR.out (k - 1) (by omega)
            cases e'
            clear d1
            generalize hu : (atL xs (k - 1)).1 = u at d0
            have U : Hid ((atL xs (k - 1)).1 = u) := hu
            clear hu
            have h3' : (0 : Int) < (k : Int) := by omega
            have hk1 : (k : Int) - 1 = ((k - 1 : Nat) : Int) := by omega
            have hlt1 : k - 1 < xs.length := by omega
            by_cases h4 : x ≤ u
            · have h4' : decide (x ≤ u) = true := by simp [h4]
              go_wp2_with fail
              go_quiet (fail)
              go_wp2
              go_ret
              exact ⟨ret_bool (rightB_false hlt (fun h => by have := h.2.2 h3; rw [B.out.1, U.out] at this; omega)).symm, Below.trans (Below.refl _ _) ⟨rfl, rfl, rfl, Nat.le_refl _, fun _ _ => rfl⟩⟩
            · have h4' : decide (x ≤ u) = false := by simp [h4]
              go_wp2_with fail
              go_quiet (fail)
              go_wp2
              go_roundg (xs.length - (k + 1))
              case measure => omega
              case rel => exact ⟨k + 1, _, by omega, Nat.le_refl _, by go_num, rfl, fun j hj => by
                by_cases e : j = k
                · subst e; exact ⟨by rw [B.out.2]; omega, by rw [B.out.2]; omega, fun _ => by rw [B.out.1, U.out]; omega⟩
                · exact HN.out j (by omega)⟩
          · have hk0 : k = 0 := by omega
            subst hk0
            go_wp2_with fail
            go_quiet (fail)
            go_wp2
            go_roundg (xs.length - (0 + 1))
            case measure => omega
            case rel => exact ⟨1, _, by omega, Nat.le_refl _, by go_num, rfl, fun j hj => by
              have : j = 0 := by omega
              subst this; exact ⟨by rw [B.out.2]; omega, by rw [B.out.2]; omega, fun h => by omega⟩⟩
    · have : k = xs.length := by omega
      subst this
      go_wp2
      go_ret
      exact ⟨ret_bool (rightB_true HN.out).symm, Below.trans (Below.refl _ _) ⟨rfl, rfl, rfl, Nat.le_refl _, fun _ _ => rfl⟩⟩

theorem below_drewN {B : Nat} {a w : World} (h : Below B a w) (n : Nat) : Below B a (w.drewN n) := h.trans ⟨rfl, rfl, rfl, Nat.le_refl _, fun _ _ => rfl⟩
theorem cellU {w W : World} {a : Addr} {v : Value} (h : w.cell? a = some v) (hb : Below w.heap.size w W) : W.cell? a = some v := by rw [hb.cell (block_lt_of_cell h)]; exact h

theorem cellA {W : World} {a : Addr} {v : Value} (h : W.cell? a = some v) (o : Obj) : (W.alloc o).cell? a = some v := cellU h (below_alloc (Below.refl _ _) o)

set_option maxHeartbeats 3200000 in
theorem right_any (xs : List En) (p : Option Addr) (c : Nat) (w : World) (hR : Row w p xs) (hl : xs.length ≤ 4611686018427387904) :
    Calls Tryd.prog 8 #[.slice p xs.length c] w fun e w' => e = .returned (.bool (rightB xs)) ∧ Below w.heap.size w w' := by
  have HR : Hid (Row w p xs) := hR
  clear hR
  go_enter Tryd.func8, Tryd.ntmps8
  go_wp2
  go_loopg [7] xs.length (fun g i wr => ∃ k : Nat, k ≤ xs.length ∧ xs.length - k ≤ g ∧ i = .int .i64 k ∧ Below w.heap.size w wr ∧ ∀ j, j < k → okAt xs j)
  case atStart => exact ⟨0, Nat.zero_le _, by omega, rfl, Below.refl _ _, fun j hj => by omega⟩
  case round =>
    obtain ⟨k, hk, hg, rfl, hb, hno⟩ := hrel
    have HN : Hid (∀ j, j < k → okAt xs j) := hno
    have HB : Hid (Below w.heap.size w wr) := hb
    clear hno hb
    by_cases hlt : k < xs.length
    · obtain ⟨b, o, rfl, c0', c1'⟩ := HR.out k hlt
      have c0 := cellU c0' HB.out
      have c1 := cellU c1' HB.out
      clear c0' c1'
      generalize hx : (atL xs k).1 = x at c0
      generalize hy : (atL xs k).2 = y at c1
      have B : Hid ((atL xs k).1 = x ∧ (atL xs k).2 = y) := ⟨hx, hy⟩
      clear hx hy
      by_cases h1 : y < 1
      · go_wp2
        go_ret
        exact ⟨ret_bool (rightB_false hlt (fun h => by have := h.1; rw [B.out.2] at this; omega)).symm, below_alloc HB.out _⟩
      · by_cases h2 : 268435456 < y
        · go_wp2
          go_ret
          exact ⟨ret_bool (rightB_false hlt (fun h => by have := h.2.1; rw [B.out.2] at this; omega)).symm, below_alloc HB.out _⟩
        · by_cases h3 : 0 < k
          · obtain ⟨b', o', e', d0', d1'⟩ := HR.out (k - 1) (by omega)
            cases e'
            have d0 := cellU d0' HB.out
            clear d1' d0'
            generalize hu : (atL xs (k - 1)).1 = u at d0
            have U : Hid ((atL xs (k - 1)).1 = u) := hu
            clear hu
            have d0a := cellA d0
            have h3' : (0 : Int) < (k : Int) := by omega
            have hk1 : (k : Int) - 1 = ((k - 1 : Nat) : Int) := by omega
            have hlt1 : k - 1 < xs.length := by omega
            have hwk : IntKind.i64.wrap ((k - 1 : Nat) : Int) = ((k - 1 : Nat) : Int) := by rw [IntKind.wrap_i64]; omega
            by_cases h4 : x ≤ u
            · have h4' : decide (x ≤ u) = true := by simp [h4]
              go_wp2_with fail
              go_quiet (fail)
              go_wp2
              go_ret
              exact ⟨ret_bool (rightB_false hlt (fun h => by have := h.2.2 h3; rw [B.out.1, U.out] at this; omega)).symm, below_drewN (below_alloc HB.out _) _⟩
            · have h4' : decide (x ≤ u) = false := by simp [h4]
              go_wp2_with fail
              go_quiet (fail)
              go_wp2
              go_roundg (xs.length - (k + 1))
              case measure => omega
              case rel => exact ⟨k + 1, by omega, Nat.le_refl _, by go_num, below_drewN (below_alloc HB.out _) _, fun j hj => by
                by_cases e : j = k
                · subst e; exact ⟨by rw [B.out.2]; omega, by rw [B.out.2]; omega, fun _ => by rw [B.out.1, U.out]; omega⟩
                · exact HN.out j (by omega)⟩
          · have hk0 : k = 0 := by omega
            subst hk0
            simp only [Nat.zero_mul, Nat.add_zero] at c0 c1
            go_wp2_with fail
            go_quiet (fail)
            go_wp2
            go_roundg (xs.length - (0 + 1))
            case measure => omega
            case rel => exact ⟨1, by omega, Nat.le_refl _, by go_num, below_drewN (below_alloc HB.out _) _, fun j hj => by
              have : j = 0 := by omega
              subst this; exact ⟨by rw [B.out.2]; omega, by rw [B.out.2]; omega, fun h => by omega⟩⟩
    · have : k = xs.length := by omega
      subst this
      go_wp2
      go_ret
      exact ⟨ret_bool (rightB_true HN.out).symm, HB.out⟩

/-- Sum: of how much is known. -/
def sumL : List En → Int
  | [] => 0
  | x :: xs => x.2 + sumL xs
theorem sumL_take (xs : List En) (k : Nat) (h : k < xs.length) : sumL (xs.take (k + 1)) = sumL (xs.take k) + (atL xs k).2 := by
  induction xs generalizing k with
  | nil => simp at h
  | cons x xs ih =>
    cases k with
    | zero => simp [sumL, atL]
    | succ k => simp only [List.take_succ_cons, sumL]; rw [ih k (by simpa using h)]; simp [atL]; omega

set_option maxHeartbeats 1600000 in
theorem sum_any (xs : List En) (p : Option Addr) (c : Nat) (w : World) (hR : Row w p xs) (hl : xs.length ≤ 1000) (hf : ∀ i, i < xs.length → 0 ≤ (atL xs i).2 ∧ (atL xs i).2 ≤ 4294967295) :
    Calls Tryd.prog 19 #[.slice p xs.length c] w fun e w' => e = .returned (.int .i64 (sumL xs)) ∧ Below w.heap.size w w' := by
  have HR : Hid (Row w p xs) := hR
  have HF : Hid (∀ i, i < xs.length → 0 ≤ (atL xs i).2 ∧ (atL xs i).2 ≤ 4294967295) := hf
  clear hR hf
  go_enter Tryd.func19, Tryd.ntmps19
  go_wp2
  go_loopg [3, 8] xs.length (fun g s i wr => ∃ (k : Nat) (z : Int), k ≤ xs.length ∧ xs.length - k ≤ g ∧ i = .int .i64 k ∧ s = .int .i64 z ∧ z = sumL (xs.take k) ∧ 0 ≤ z ∧ z ≤ 4294967295 * (k : Int) ∧ Below w.heap.size w wr)
  case atStart => exact ⟨0, 0, Nat.zero_le _, by omega, rfl, rfl, by simp [sumL], by omega, by omega, Below.refl _ _⟩
  case round =>
    obtain ⟨k, z, hk, hg, rfl, rfl, hz, z0, z1, hb⟩ := hrel
    have HZ : Hid (z = sumL (xs.take k)) := hz
    have HB : Hid (Below w.heap.size w wr) := hb
    clear hb hz
    by_cases hlt : k < xs.length
    · obtain ⟨b, o, rfl, c0', c1'⟩ := HR.out k hlt
      have c0 := cellU c0' HB.out
      have c1 := cellU c1' HB.out
      obtain ⟨y0, y1⟩ := HF.out k hlt
      clear c0' c1'
      generalize hy : (atL xs k).2 = y at c1 y0 y1
      have B : Hid ((atL xs k).2 = y) := hy
      clear hy
      have hw1 : IntKind.i64.wrap y = y := by rw [IntKind.wrap_i64]; omega
      go_wp2
      go_roundg (xs.length - (k + 1))
      case measure => omega
      case rel => exact ⟨k + 1, z + y, by omega, Nat.le_refl _, by go_num, by go_num, by rw [sumL_take xs k hlt, B.out, HZ.out], by omega, by omega, below_alloc HB.out _⟩
    · have : k = xs.length := by omega
      subst this
      go_wp2
      go_ret
      exact ⟨by rw [HZ.out, List.take_length]; rfl, HB.out⟩

end Go.Proofs.YthihfigphedomaaDoor
