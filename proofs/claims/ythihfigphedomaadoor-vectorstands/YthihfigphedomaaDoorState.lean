/-
  What is carried from call to call in the laws' walks: all that lay below as it was, and rows of entries that still read so. No conditions beyond what each theorem states.
-/
import Derived.Test.YthihfigphedomaaDoorAnchor
namespace Go.Proofs.YthihfigphedomaaDoor
open Go.ChangeShapes Go.WideShapes Go.ChangeAt Go.RowKit Go.Lib
open Go.Sort
set_option linter.unusedVariables false
set_option linter.unusedSimpArgs false

abbrev Sl := Option Addr × List En
def St (w : World) (l : List Sl) (W : World) : Prop := Below w.heap.size w W ∧ ∀ x ∈ l, Row W x.1 x.2
theorem St.step {w W W' : World} {l : List Sl} (h : St w l W) (hb : Below W.heap.size W W') : St w l W' := ⟨below_step h.1 hb, fun x hx => (h.2 x hx).below hb⟩
theorem St.add {w W : World} {l : List Sl} {p : Option Addr} {xs : List En} (h : St w l W) (hr : Row W p xs) : St w ((p, xs) :: l) W := ⟨h.1, fun x hx => by
  rcases List.mem_cons.1 hx with e | e
  · subst e; exact hr
  · exact h.2 x e⟩
theorem St.alloc {w W : World} {l : List Sl} (h : St w l W) (o : Obj) : St w l (W.alloc o) := h.step (below_alloc (Below.refl _ _) o)
theorem St.drewN {w W : World} {l : List Sl} (h : St w l W) (n : Nat) : St w l (W.drewN n) := h.step (below_drewN (Below.refl _ _) n)
theorem St.row {w W : World} {l : List Sl} (h : St w l W) (p : Option Addr) (xs : List En) (hm : (p, xs) ∈ l) : Row W p xs := h.2 _ hm
theorem St.start (w : World) {l : List Sl} (h : ∀ x ∈ l, Row w x.1 x.2) : St w l w := ⟨Below.refl _ _, h⟩

theorem rightS_true {xs : List En} (h : rightS xs = true) : xs.length ≤ 60 ∧ Srt xs ∧ ∀ x ∈ xs, 1 ≤ x.2 ∧ x.2 ≤ 268435456 := by
  simp only [rightS, rightB, Bool.and_eq_true, decide_eq_true_eq] at h
  have := (right_iff xs).1 h.2
  exact ⟨h.1, this.1, this.2⟩

end Go.Proofs.YthihfigphedomaaDoor
