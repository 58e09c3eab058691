
/-
  What the laws' own refs, right, names and same of layer 7 hand back. No conditions beyond what each theorem states.
-/
import Derived.Test.YtedlmngfkkpmgaaSpanRef3
namespace Go.Proofs.Ytedlmngfkkpmgaa
open Go.ChangeShapes Go.WideShapes Go.ChangeAt Go.RowKit Go.Lib
set_option linter.unusedVariables false
set_option linter.unusedSimpArgs false

/-- All are spans, with few names, and few. -/
def rightL (l : List Sp) : Bool := l.all rightS && decide (totalL l ≤ 1500) && decide (l.length ≤ 60)
theorem rightL_iff {l : List Sp} : rightL l = true ↔ RightS l ∧ totalL l ≤ 1500 ∧ l.length ≤ 60 := by
  unfold rightL RightS
  simp only [Bool.and_eq_true, List.all_eq_true, decide_eq_true_eq, and_assoc]
theorem rightL_no {l : List Sp} (h : ¬ (RightS l ∧ totalL l ≤ 1500 ∧ l.length ≤ 60)) : rightL l = false := by
  cases hb : rightL l with
  | false => rfl
  | true => exact absurd (rightL_iff.1 hb) h
theorem box_cells (w : World) (r n m : Value) (t : TypeId) : (w.alloc (.cells #[r, n, m] t)).cell? ⟨w.heap.size, 0, none⟩ = some r ∧ (w.alloc (.cells #[r, n, m] t)).cell? ⟨w.heap.size, 1, none⟩ = some n ∧ (w.alloc (.cells #[r, n, m] t)).cell? ⟨w.heap.size, 2, none⟩ = some m := by
  refine ⟨?_, ?_, ?_⟩ <;> rw [cell_of_block (heap_alloc_new w _)] <;> rfl
end Go.Proofs.Ytedlmngfkkpmgaa
