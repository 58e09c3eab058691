
/-
  What the document's Less of layer 7 hands back. No conditions beyond what each theorem states.
-/
import Derived.Test.YtedlmngfkkpmgaaSpanRef3
namespace Go.Proofs.Ytedlmngfkkpmgaa
open Go.ChangeShapes Go.WideShapes Go.ChangeAt Go.RowKit Go.Lib
set_option linter.unusedVariables false
set_option linter.unusedSimpArgs false

theorem owns_rebase {w : World} {B B' n size : Nat} {e : TypeId} {v : Value} {xs : List Value} (h : w.ownsRow B' e size v n xs) (hb : B ≤ B') : w.ownsRow B e size v n xs := by
  refine ⟨h.1, ?_⟩
  rcases h.2 with hv | ⟨g, cap, cur, rfl, hbg, rest⟩
  · exact .inl hv
  · exact .inr ⟨g, cap, cur, rfl, Nat.le_trans hb hbg, rest⟩
theorem Hold.rebase {α : Type} {L : Lay α} {w w' wr : World} {e : TypeId} {v : Value} {xs : List α} (h : Hold L w' e v xs wr) (hb : Below w.heap.size w w') : Hold L w e v xs wr := ⟨owns_rebase h.1 hb.size, below_step hb h.2⟩
theorem Made.rebase {α : Type} {L : Lay α} {t : TypeId} {w w' w'' : World} {xs : List α} {e : Ending} (h : Made L t w' xs e w'') (hb : Below w.heap.size w w') : Made L t w xs e w'' := by
  obtain ⟨v, e, hh⟩ := h
  exact ⟨v, e, hh.rebase hb⟩
theorem lessN_right {l wo : List Sp} (h : RightS l) : RightN (lessN l wo) := fun a ha => rightN_ids h a ((List.mem_filter.1 ha).1)
theorem lessN_le (l wo : List Sp) : (lessN l wo).length ≤ totalL l := List.length_filter_le _ _

end Go.Proofs.Ytedlmngfkkpmgaa
