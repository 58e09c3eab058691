
/-
  What the program's join of layer 7 hands back. No conditions beyond what each theorem states.
-/
import Derived.Test.YtedlmngfkkpmgaaSpanProg3
import Derived.Lib.QuietBelow
namespace Go.Proofs.Ytedlmngfkkpmgaa
open Go.ChangeShapes Go.WideShapes Go.ChangeAt Go.RowKit Go.Lib
set_option linter.unusedVariables false
set_option linter.unusedSimpArgs false

/-- What join leaves: the row with one name more, all else as it was. -/
def Joined (w0 : World) (v : Value) (A : List Sp) (a : Nm) (w : World) (e : Ending) (w' : World) : Prop :=
  ∃ v', e = .returned v' ∧ Hold layS w0 114 v' (joinL A a) w' ∧ Kept (fun i => v.ownBlock = some i) w w' ∧ (∀ j, v'.ownBlock = some j → v.ownBlock = some j ∨ w.heap.size ≤ j)
theorem kept_grown {w w' : World} {v : Value} (h : w.grownBy w' v.ownBlock) : Kept (fun i => v.ownBlock = some i) w w' := ⟨h.os, h.tape, h.output, h.size, fun k hk hn => h.block k hk (fun e => hn e.symm)⟩

theorem joined_append {w0 w W w1 : World} {v v' : Value} {A : List Sp} {x y : Int} (hO : Hold layS w0 114 v A W) (hb : Below w.heap.size w W) (hown : w1.ownsRow w0.heap.size 114 3 v' (A.length + 1) (layS.flat A ++ [.int .u16 x, .int .u32 y, .int .i64 1])) (hg : W.grownBy w1 v.ownBlock) (hw : ∀ j, v'.ownBlock = some j → v.ownBlock = some j ∨ W.heap.size ≤ j) (hj : joinL A (x, y) = A ++ [(x, y, 1)]) : Joined w0 v A (x, y) w (.returned v') w1 := by
  refine ⟨v', rfl, ?_, ?_, ?_⟩
  · rw [hj]; exact hO.onto (ys := [(x, y, 1)]) (by rw [layS.flat_one]; rfl) rfl hown hg
  · exact (Kept.ofBelow (S := fun i => v.ownBlock = some i) hb).trans (T := fun i => v.ownBlock = some i) (kept_grown hg) (fun i _ e => e)
  · intro j hj
    rcases hw j hj with h | h
    · exact Or.inl h
    · have := hb.size; exact Or.inr (by omega)
end Go.Proofs.Ytedlmngfkkpmgaa
