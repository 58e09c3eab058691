
/-
  What the document's own ReadText of layer 5 hands back, for all bytes. No conditions beyond what each theorem states.
-/
import Derived.Test.YtafhjccghbpbbaaPackRef
namespace Go.Proofs.Ytafhjccghbpbbaa
open Go.ChangeShapes Go.WideShapes Go.ChangeAt Go.RowKit Go.Lib
set_option linter.unusedVariables false
set_option linter.unusedSimpArgs false

theorem brow_at {w : World} {D o q s : Nat} {bs : List UInt8} (h : BRow w (some ⟨D, o, none⟩) bs) (hq : q + s ≤ bs.length) : BRow w (some ⟨D, o + q, none⟩) ((bs.drop q).take s) := fun i hi => by
  rw [List.length_take, List.length_drop] at hi
  obtain ⟨b, o', e, hc⟩ := h (q + i) (by omega)
  cases e
  exact ⟨D, o + q, rfl, by rw [atB_take (by omega), atB_drop, Nat.add_assoc]; exact hc⟩

end Go.Proofs.Ytafhjccghbpbbaa
