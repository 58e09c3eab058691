
/-
  What gauss's Of and Turn hand back, for every two parts and every count. No conditions beyond what each theorem states.
-/
import Derived.Test.YtglcihfcnbifcaaWhole
import Derived.Test.YtglcihfcnbifcaaProg
import Derived.WalkKit
import Derived.ProofKit
import Derived.OpenShut
import Derived.Below
import Derived.BigQuiet
import Derived.Lib.QuietBelow
import Derived.WalkSpells
import Derived.WalkLawsBesides
import Derived.Lib.Hide
import Derived.Deep.LoopGhost
namespace Go.Proofs.Ytglcihfcnbifcaa
open Go.ChangeShapes Go.WideShapes Go.ChangeAt Go.RowKit Go.Sort
set_option linter.unusedVariables false
set_option linter.unusedSimpArgs false

theorem below_step {w w' w'' : World} (h : Below w.heap.size w w') (k : Below w'.heap.size w' w'') : Below w.heap.size w w'' := h.trans (k.mono h.size)

theorem below_alloc {w W : World} (h : Below w.heap.size w W) (o : Obj) : Below w.heap.size w (W.alloc o) := h.alloc h.size o

theorem ret_bool {a b : Bool} (h : a = b) : Ending.returned (.bool a) = .returned (.bool b) := by rw [h]

theorem ret_int {k : IntKind} {a b : Int} (h : a = b) : Ending.returned (.int k a) = .returned (.int k b) := by rw [h]

theorem ret_str {a b : ByteArray} (h : a = b) : Ending.returned (.string a) = .returned (.string b) := by rw [h]

def IsW (x : Nat) (a : Int) : Prop := Wh x a ∧ -33554432 ≤ a ∧ a ≤ 33554432

theorem of_any (a b : Int) (w : World) :
    Calls Try.prog 11 #[.int .i64 a, .int .i64 b] w fun e w' => e = .returned (.complex .f64 (floatOfInt .f64 a) (floatOfInt .f64 b)) ∧ w' = w := by
  go_enter Try.func11, Try.ntmps11
  go_wp2
  go_ret
  exact ⟨rfl, rfl⟩

theorem wrap_id {n : Int} (h1 : -9223372036854775808 ≤ n) (h2 : n ≤ 9223372036854775807) : IntKind.i64.wrap n = n := by rw [IntKind.wrap_i64]; omega

def Sm (a : Int) : Prop := -33554432 ≤ a ∧ a ≤ 33554432

theorem sm_mul {a b : Int} (ha : Sm a) (hb : Sm b) : -1125899906842624 ≤ a * b ∧ a * b ≤ 1125899906842624 := by
  have h : (a * b).natAbs ≤ 33554432 * 33554432 := by
    rw [Int.natAbs_mul]; exact Nat.mul_le_mul (by have := ha; unfold Sm at this; omega) (by have := hb; unfold Sm at this; omega)
  omega

def turnX (r : Int) : Nat := if r = 1 then 0 else if r = 2 then 13830554455654793216 else if r = 3 then 0 else 4607182418800017408

def turnY (r : Int) : Nat := if r = 1 then 4607182418800017408 else if r = 2 then 0 else if r = 3 then 13830554455654793216 else 0

def tRe (r : Int) : Int := if r = 1 then 0 else if r = 2 then -1 else if r = 3 then 0 else 1

def tIm (r : Int) : Int := if r = 1 then 1 else if r = 2 then 0 else if r = 3 then -1 else 0

theorem wh_mone : Wh 13830554455654793216 (-1) := wh_lit true 4503599627370496 (-52) 52 (by decide) (by omega) (by decide)

theorem turnX_wh (r : Int) : Wh (turnX r) (tRe r) := by
  unfold turnX tRe
  split
  · exact wh_zero
  · split
    · exact wh_mone
    · split
      · exact wh_zero
      · exact wh_one

theorem turnY_wh (r : Int) : Wh (turnY r) (tIm r) := by
  unfold turnY tIm
  split
  · exact wh_one
  · split
    · exact wh_zero
    · split
      · exact wh_mone
      · exact wh_zero

theorem t_sm (r : Int) : (-1 ≤ tRe r ∧ tRe r ≤ 1) ∧ (-1 ≤ tIm r ∧ tIm r ≤ 1) := by
  unfold tRe tIm
  repeat' split
  all_goals omega

theorem turnX_is (r : Int) : IsW (turnX r) (tRe r) := ⟨turnX_wh r, by have := t_sm r; omega, by have := t_sm r; omega⟩

theorem turnY_is (r : Int) : IsW (turnY r) (tIm r) := ⟨turnY_wh r, by have := t_sm r; omega, by have := t_sm r; omega⟩

theorem and3 (n : Int) : bits .and .i64 n 3 = n % 4 := by
  have e : (BitVec.ofInt 64 n &&& BitVec.ofInt 64 3).toNat = (n % 4).toNat := by
    rw [BitVec.toNat_and, show (BitVec.ofInt 64 3).toNat = 3 from rfl, nat_mask2, BitVec.toNat_ofInt]
    omega
  show IntKind.i64.wrap ((BitVec.ofInt 64 n &&& BitVec.ofInt 64 3).toNat : Int) = _
  rw [e, wrap_id (by omega) (by omega)]
  omega

set_option maxHeartbeats 1600000 in
theorem turn_any (n : Int) (w : World) :
    Calls Try.prog 10 #[.int .i64 n] w fun e w' => e = .returned (.complex .f64 (turnX (n % 4)) (turnY (n % 4))) ∧ w' = w := by
  have ha := and3 n
  generalize hr : n % 4 = r at ha ⊢
  have hb : 0 ≤ r ∧ r < 4 := by omega
  clear hr
  have hc : r = 0 ∨ r = 1 ∨ r = 2 ∨ r = 3 := by omega
  clear hb
  rcases hc with rfl | rfl | rfl | rfl
  all_goals
    go_enter Try.func10, Try.ntmps10
    go_wp2
    go_ret
    exact ⟨rfl, rfl⟩

end Go.Proofs.Ytglcihfcnbifcaa
