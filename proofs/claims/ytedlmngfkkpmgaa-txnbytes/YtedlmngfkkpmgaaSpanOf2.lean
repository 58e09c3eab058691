
/-
  What the document's Of of layer 7 hands back. No conditions beyond what each theorem states.
-/
import Derived.Test.YtedlmngfkkpmgaaSpanOf
namespace Go.Proofs.Ytedlmngfkkpmgaa
open Go.ChangeShapes Go.WideShapes Go.ChangeAt Go.RowKit Go.Lib
set_option linter.unusedVariables false
set_option linter.unusedSimpArgs false

theorem flat_last (D : List Sp) (s : Sp) (l : Int) : (layS.flat (D ++ [s])).set (D.length * 3 + 2) (.int .i64 l) = layS.flat (D ++ [(s.1, s.2.1, l)]) := by
  have hl : (layS.flat D).length = D.length * 3 := layS.flat_length D
  rw [layS.flat_append, layS.flat_append, List.set_append_right _ _ (by omega), hl, layS.flat_one, layS.flat_one, show D.length * 3 + 2 - D.length * 3 = 2 by omega]
  rfl
end Go.Proofs.Ytedlmngfkkpmgaa
