/-
  The order of IDs and keys as plain numbers: what one compares is the sign of the document's order; it is total, and what is ahead of what is ahead is ahead. No conditions.
-/
import Derived.Test.YthkkbfkbgpkbmaaWalks
namespace Go.Proofs.Ythkkbfkbgpkbmaa
set_option linter.unusedVariables false
set_option linter.unusedSimpArgs false

theorem idc_sign (r n s m : Int) : idc r n s m = signI (lessB r n s m) (lessB s m r n) := by
  unfold idc cmp3 signI lessB
  simp only [decide_eq_true_eq]
  repeat' split
  all_goals omega

theorem kec_sign (c r n d s m : Int) : kec c r n d s m = signI (klessB c r n d s m) (klessB d s m c r n) := by
  unfold kec idc cmp3 signI klessB
  simp only [decide_eq_true_eq]
  repeat' split
  all_goals omega

theorem kec_three (c r n d s m : Int) : (kec c r n d s m = 0 ∧ kec d s m c r n = 0 ∧ c = d ∧ r = s ∧ n = m) ∨ (kec c r n d s m = 1 ∧ kec d s m c r n = -1) ∨ (kec c r n d s m = -1 ∧ kec d s m c r n = 1) := by
  unfold kec idc cmp3
  repeat' split
  all_goals omega

theorem kec_trans (c r n d s m f t l : Int) (h1 : ¬ 0 < kec c r n d s m) (h2 : ¬ 0 < kec d s m f t l) : kec c r n f t l ≤ 0 ∧ klessB f t l c r n = false := by
  have a : ¬ klessB d s m c r n = true := by
    intro hk
    apply h1
    rw [kec_sign]
    unfold signI
    have : ¬ klessB c r n d s m = true := by
      unfold klessB at *
      simp only [decide_eq_true_eq] at *
      omega
    rw [if_neg this, if_pos hk]; omega
  have b : ¬ klessB f t l d s m = true := by
    intro hk
    apply h2
    rw [kec_sign]
    unfold signI
    have : ¬ klessB d s m f t l = true := by
      unfold klessB at *
      simp only [decide_eq_true_eq] at *
      omega
    rw [if_neg this, if_pos hk]; omega
  have e : ¬ klessB f t l c r n = true := by
    unfold klessB at *
    simp only [decide_eq_true_eq] at *
    omega
  refine ⟨?_, by simpa using e⟩
  rw [kec_sign]
  unfold signI
  rw [if_neg e]
  split <;> simp

end Go.Proofs.Ythkkbfkbgpkbmaa
