
/-
  What gauss's Turn and Turns and the document's own Turned hand back, for every count and every complex number. No conditions beyond what each theorem states.
-/
import Derived.Test.YtglcihfcnbifcaaDoorRef
import Derived.Deep.LoopGhost
namespace Go.Proofs.YtglcihfcnbifcaaDoor
open Go.ChangeShapes Go.WideShapes Go.ChangeAt Go.RowKit Go.Sort
set_option linter.unusedVariables false
set_option linter.unusedSimpArgs false

/-- 1, turned r times (r modulo 4), as words and as whole numbers. -/
def turnX (r : Int) : Nat := if r = 1 then 0 else if r = 2 then 13830554455654793216 else if r = 3 then 0 else 4607182418800017408
def turnY (r : Int) : Nat := if r = 1 then 4607182418800017408 else if r = 2 then 0 else if r = 3 then 13830554455654793216 else 0
def tRe (r : Int) : Int := if r = 1 then 0 else if r = 2 then -1 else if r = 3 then 0 else 1
def tIm (r : Int) : Int := if r = 1 then 1 else if r = 2 then 0 else if r = 3 then -1 else 0
theorem wh_mone : Wh 13830554455654793216 (-1) := wh_lit true 4503599627370496 (-52) 52 (by decide) (by omega) (by decide)
theorem turnX_wh (r : Int) : Wh (turnX r) (tRe r) := by
  unfold turnX tRe
  split
  · exact wh_zero
  · split
    · exact wh_mone
    · split
      · exact wh_zero
      · exact wh_one
theorem turnY_wh (r : Int) : Wh (turnY r) (tIm r) := by
  unfold turnY tIm
  split
  · exact wh_one
  · split
    · exact wh_zero
    · split
      · exact wh_mone
      · exact wh_zero
theorem t_sm (r : Int) : (-1 ≤ tRe r ∧ tRe r ≤ 1) ∧ (-1 ≤ tIm r ∧ tIm r ≤ 1) := by
  unfold tRe tIm
  repeat' split
  all_goals omega
theorem turnX_is (r : Int) : IsW (turnX r) (tRe r) := ⟨turnX_wh r, by have := t_sm r; omega, by have := t_sm r; omega⟩
theorem turnY_is (r : Int) : IsW (turnY r) (tIm r) := ⟨turnY_wh r, by have := t_sm r; omega, by have := t_sm r; omega⟩

theorem and3 (n : Int) : bits .and .i64 n 3 = n % 4 := by
  have e : (BitVec.ofInt 64 n &&& BitVec.ofInt 64 3).toNat = (n % 4).toNat := by
    rw [BitVec.toNat_and, show (BitVec.ofInt 64 3).toNat = 3 from rfl, nat_mask2, BitVec.toNat_ofInt]
    omega
  show IntKind.i64.wrap ((BitVec.ofInt 64 n &&& BitVec.ofInt 64 3).toNat : Int) = _
  rw [e, wrap_id (by omega) (by omega)]
  omega

set_option maxHeartbeats 1600000 in
theorem turn_any (n : Int) (w : World) :
    Calls Tryd.prog 17 #[.int .i64 n] w fun e w' => e = .returned (.complex .f64 (turnX (n % 4)) (turnY (n % 4))) ∧ w' = w := by
  have ha := and3 n
  generalize hr : n % 4 = r at ha ⊢
  have hb : 0 ≤ r ∧ r < 4 := by omega
  clear hr
  have hc : r = 0 ∨ r = 1 ∨ r = 2 ∨ r = 3 := by omega
  clear hb
  rcases hc with rfl | rfl | rfl | rfl
  all_goals
    go_enter Tryd.func17, Tryd.ntmps17
    go_wp2
    go_ret
    exact ⟨rfl, rfl⟩

/-- Is a number 1, turned k times? -/
def eqz (x y : Nat) (k : Int) : Bool := (FloatKind.f64.format.order x (turnX k) == some .eq) && (FloatKind.f64.format.order y (turnY k) == some .eq)
theorem eqz_whole {x y : Nat} {a b : Int} (hx : Wh x a) (hy : Wh y b) (k : Int) : eqz x y k = decide (a = tRe k ∧ b = tIm k) := wh_ceq hx hy (turnX_wh k) (turnY_wh k)

theorem eq_wh {x c : Nat} {v : Int} (h : Ieee.double.order x c = some .eq) (hc : Wh c v) : Wh x v := by
  obtain ⟨t, n, j, h3, h4⟩ := hc
  cases hr : Ieee.double.read x with
  | number s m i =>
    obtain ⟨K, hi, hj⟩ := scale_both i j
    rw [order_at hr h3 hi hj, Option.some.injEq, Int.compare_eq_eq] at h
    exact ⟨s, m, i, hr, all_scales hi (by rw [h]; exact h4 K hj)⟩
  | infinity s => unfold Ieee.Format.order at h; rw [hr, h3] at h; cases s <;> simp [Ieee.Datum.order] at h
  | nan s f => unfold Ieee.Format.order at h; rw [hr, h3] at h; simp [Ieee.Datum.order] at h
theorem eqz_is {x y : Nat} {k : Int} (h : eqz x y k = true) : IsW x (tRe k) ∧ IsW y (tIm k) := by
  unfold eqz at h
  rw [Bool.and_eq_true, beq_iff_eq, beq_iff_eq] at h
  have := t_sm k
  exact ⟨⟨eq_wh h.1 (turnX_wh k), by omega, by omega⟩, ⟨eq_wh h.2 (turnY_wh k), by omega, by omega⟩⟩

set_option maxHeartbeats 1600000 in
theorem turns_at (x y : Nat) (K : Nat) (hK : K < 4) (hno : ∀ j : Nat, j < K → eqz x y j = false) (hyes : eqz x y K = true) (w : World) :
    Calls Tryd.prog 22 #[.complex .f64 x y] w fun e w' => e = .returned (.tuple #[.int .i64 K, .bool true]) ∧ w' = w := by
  have HN : Hid (∀ j : Nat, j < K → eqz x y j = false) := hno
  have HY : Hid (eqz x y K = true) := hyes
  clear hno hyes
  go_enter Tryd.func22, Tryd.ntmps22
  go_wp2
  go_loopg [5] 4 (fun g i wr => ∃ k : Nat, k ≤ K ∧ 4 - k ≤ g ∧ i = .int .i64 k ∧ wr = w)
  case atStart => exact ⟨0, Nat.zero_le _, by omega, rfl, rfl⟩
  case round =>
    obtain ⟨k, hk, hg, rfl, rfl⟩ := hrel
    have h4 : (k : Int) < 4 := by omega
    have H : Hid (∀ W, Calls Tryd.prog 17 #[.int .i64 k] W fun e w' => e = .returned (.complex .f64 (turnX k) (turnY k)) ∧ w' = W) := fun W => by
      have := turn_any (k : Int) W
      rwa [show (k : Int) % 4 = k by omega] at this
    by_cases he : k = K
    · subst he
      have hy : (FloatKind.f64.format.order x (turnX k) == some .eq && FloatKind.f64.format.order y (turnY k) == some .eq) = true := HY.out
      generalize turnX k = X at H hy
      generalize turnY k = Y at H hy
      go_wp2_with fail
      refine (H.out _).mono ?_
      rintro e w' ⟨rfl, rfl⟩
      go_wp2
      go_ret2
      exact ⟨rfl, rfl⟩
    · have hy : (FloatKind.f64.format.order x (turnX k) == some .eq && FloatKind.f64.format.order y (turnY k) == some .eq) = false := HN.out k (by omega)
      generalize turnX k = X at H hy
      generalize turnY k = Y at H hy
      go_wp2_with fail
      refine (H.out _).mono ?_
      rintro e w' ⟨rfl, rfl⟩
      go_wp2
      go_roundg (4 - (k + 1))
      case measure => omega
      case rel => exact ⟨k + 1, by omega, Nat.le_refl _, by go_num, rfl⟩

set_option maxHeartbeats 1600000 in
theorem turns_none (x y : Nat) (hno : ∀ j : Nat, j < 4 → eqz x y j = false) (w : World) :
    Calls Tryd.prog 22 #[.complex .f64 x y] w fun e w' => e = .returned (.tuple #[.int .i64 0, .bool false]) ∧ w' = w := by
  have HN : Hid (∀ j : Nat, j < 4 → eqz x y j = false) := hno
  clear hno
  go_enter Tryd.func22, Tryd.ntmps22
  go_wp2
  go_loopg [5] 4 (fun g i wr => ∃ k : Nat, k ≤ 4 ∧ 4 - k ≤ g ∧ i = .int .i64 k ∧ wr = w)
  case atStart => exact ⟨0, Nat.zero_le _, by omega, rfl, rfl⟩
  case round =>
    obtain ⟨k, hk, hg, rfl, rfl⟩ := hrel
    by_cases hlt : k < 4
    · have h4 : (k : Int) < 4 := by omega
      have H : Hid (∀ W, Calls Tryd.prog 17 #[.int .i64 k] W fun e w' => e = .returned (.complex .f64 (turnX k) (turnY k)) ∧ w' = W) := fun W => by
        have := turn_any (k : Int) W
        rwa [show (k : Int) % 4 = k by omega] at this
      have hy : (FloatKind.f64.format.order x (turnX k) == some .eq && FloatKind.f64.format.order y (turnY k) == some .eq) = false := HN.out k (by omega)
      generalize turnX k = X at H hy
      generalize turnY k = Y at H hy
      go_wp2_with fail
      refine (H.out _).mono ?_
      rintro e w' ⟨rfl, rfl⟩
      go_wp2
      go_roundg (4 - (k + 1))
      case measure => omega
      case rel => exact ⟨k + 1, by omega, Nat.le_refl _, by go_num, rfl⟩
    · have h4 : ¬ (k : Int) < 4 := by omega
      go_wp2
      go_ret2
      exact ⟨rfl, rfl⟩

end Go.Proofs.YtglcihfcnbifcaaDoor
