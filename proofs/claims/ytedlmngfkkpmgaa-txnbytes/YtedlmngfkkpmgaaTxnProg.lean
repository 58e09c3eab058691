
/-
  What txn's functions hand back and leave, each by its contract. No conditions beyond what each theorem states.
-/
import Derived.Test.YtedlmngfkkpmgaaTxnProg1
import Derived.Test.YtedlmngfkkpmgaaTxnProg3
import Derived.Test.YtedlmngfkkpmgaaTxnProg4
import Derived.Test.YtedlmngfkkpmgaaTxnProg5
import Derived.Test.YtedlmngfkkpmgaaTxnProg6
import Derived.Test.YtedlmngfkkpmgaaOpProg6
namespace Go.Proofs.Ytedlmngfkkpmgaa
open Go.ChangeShapes Go.WideShapes Go.ChangeAt Go.RowKit Go.Lib

theorem fitT_spec : FitTSpec := fun t xs p c w H hs _ => fitT_of fitO_spec t xs p c w H hs
end Go.Proofs.Ytedlmngfkkpmgaa
