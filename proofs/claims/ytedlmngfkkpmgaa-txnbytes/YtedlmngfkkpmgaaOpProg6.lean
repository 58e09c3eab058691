
/-
  What the program's Fit of layer 8 hands back, with layer 7's Fit. No conditions beyond what each theorem states.
-/
import Derived.Test.YtedlmngfkkpmgaaOpProg3
import Derived.Test.YtedlmngfkkpmgaaSpanProg9
namespace Go.Proofs.Ytedlmngfkkpmgaa
theorem fitO_spec : FitOSpec := fitO_of fit_spec
end Go.Proofs.Ytedlmngfkkpmgaa
