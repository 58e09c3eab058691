
/-
  What the reader's take, number and Done do, for every reader that lies in memory. No conditions beyond what each theorem states.
-/
import Derived.Test.YtafhjccghbpbbaaPackReader
namespace Go.Proofs.Ytafhjccghbpbbaa
open Go.ChangeShapes Go.WideShapes Go.ChangeAt Go.RowKit Go.Lib
set_option linter.unusedVariables false
set_option linter.unusedSimpArgs false

theorem brow_sub {w : World} {D q s : Nat} {bs : List UInt8} (h : BRow w (some ⟨D, 0, none⟩) bs) (hq : q + s ≤ bs.length) : BRow w (some ⟨D, q, none⟩) ((bs.drop q).take s) := fun i hi => by
  rw [List.length_take, List.length_drop] at hi
  obtain ⟨b, o, e, hc⟩ := h (q + i) (by omega)
  cases e
  exact ⟨D, q, rfl, by rw [atB_take (by omega), atB_drop]; simpa using hc⟩

theorem pow_less {y k N : Nat} (hk : k ≤ 8) (hN : N < 128 ^ k) : N + y % 128 * 128 ^ k < 9223372036854775808 ∧ N + y % 128 * 128 ^ k < 128 ^ (k + 1) := by
  have h1 : y % 128 * 128 ^ k ≤ 127 * 128 ^ k := Nat.mul_le_mul_right _ (by omega)
  have h2 : 128 ^ (k + 1) = 128 ^ k * 128 := Nat.pow_succ ..
  have h3 : 128 ^ (k + 1) ≤ 128 ^ 9 := Nat.pow_le_pow_right (by omega) (by omega)
  have h4 : 128 ^ 9 = 9223372036854775808 := by decide
  generalize y % 128 * 128 ^ k = T at h1 ⊢
  generalize 128 ^ (k + 1) = Q at h2 h3 ⊢
  generalize 128 ^ k = P at h1 h2 hN
  omega

end Go.Proofs.Ytafhjccghbpbbaa
