
/-
  What the program's Fit of layer 8 hands back, with layer 7's Fit. No conditions beyond what each theorem states.
-/
import Derived.Test.YtjmekhepbbgkeaaOpProg3
import Derived.Test.YtjmekhepbbgkeaaSpanProg9
namespace Go.Proofs.Ytjmekhepbbgkeaa
theorem fitO_spec : FitOSpec := fitO_of fit_spec
end Go.Proofs.Ytjmekhepbbgkeaa
