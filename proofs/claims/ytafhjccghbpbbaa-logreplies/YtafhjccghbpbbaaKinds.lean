
/-
  In blocks of which kind a row lies. Of no program; no conditions beyond what each theorem states.
-/
import Derived.Test.YtafhjccghbpbbaaLay
import Derived.Lib.OwnKind
namespace Go.Proofs.Ytafhjccghbpbbaa
open Go.ChangeShapes Go.WideShapes Go.ChangeAt Go.RowKit Go.Lib
set_option linter.unusedVariables false
set_option linter.unusedSimpArgs false

/-- A row lies in a block of this kind. -/
def KindAt (t : TypeId) (w : World) (p : Option Addr) : Prop := ∀ q, p = some q → ∃ cs f, w.heap[q.block]? = some (.cells cs t f)
theorem KindAt.nil (t : TypeId) (w : World) : KindAt t w none := fun q e => by cases e
theorem KindAt.below {t : TypeId} {w w' : World} {p : Option Addr} (h : KindAt t w p) (hb : Below w.heap.size w w') : KindAt t w' p := fun q e => by
  obtain ⟨cs, f, hq⟩ := h q e
  exact ⟨cs, f, by rw [hb.block _ (lt_of_block hq)]; exact hq⟩
theorem KindAt.apart {s : TypeId} {w : World} {p : Option Addr} (h : KindAt s w p) {X : Nat} {cs : Array Value} {t : TypeId} {f : Nat × Nat} (ht : t ≠ s) (hX : w.heap[X]? = some (.cells cs t f)) : ∀ q, p = some q → q.block ≠ X := fun q e ee => by
  obtain ⟨cs', f', hq⟩ := h q e
  rw [ee, hX] at hq
  injection hq with hq
  injection hq with h1 h2 h3
  exact ht h2
theorem KindAt.kept {s : TypeId} {S : Nat → Prop} {w w' : World} {p : Option Addr} (h : KindAt s w p) (hk : Kept S w w') (hn : ∀ q, p = some q → ¬ S q.block) : KindAt s w' p := fun q e => by
  obtain ⟨cs, f, hq⟩ := h q e
  exact ⟨cs, f, hk.stays hq (hn q e)⟩
theorem kind_owns {w : World} {base size n c m : Nat} {t : TypeId} {p : Option Addr} {xs : List Value} (h : w.ownsRow base t size (.slice p m c) n xs) : KindAt t w p := fun q e => by
  subst e
  exact Lib.ownsRow_kind h q.block rfl
end Go.Proofs.Ytafhjccghbpbbaa
