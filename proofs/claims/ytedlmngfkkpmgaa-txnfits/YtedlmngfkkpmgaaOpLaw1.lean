
/-
  What the laws' own ref of layer 8 hands back. No conditions beyond what each theorem states.
-/
import Derived.Test.YtedlmngfkkpmgaaOpRef3
import Derived.Test.YtedlmngfkkpmgaaSpanProg5
import Derived.Test.YtedlmngfkkpmgaaSpanPack3
namespace Go.Proofs.Ytedlmngfkkpmgaa
open Go.ChangeShapes Go.WideShapes Go.ChangeAt Go.RowKit Go.Lib
set_option linter.unusedVariables false
set_option linter.unusedSimpArgs false

theorem sz8 : (Try.prog.info? 49).map (·.size) = some 7 := by kernel_rfl
theorem box_seven {w : World} {B : Nat} {a b c d e f g a' b' c' d' e' f' g' : Value} {t : TypeId} (h : w.heap[B]? = some (.cells #[a, b, c, d, e, f, g] t (0, 0))) :
    (((((((w.setCell ⟨B, 0, none⟩ a').setCell ⟨B, 1, none⟩ b').setCell ⟨B, 2, none⟩ c').setCell ⟨B, 3, none⟩ d').setCell ⟨B, 4, none⟩ e').setCell ⟨B, 5, none⟩ f').setCell ⟨B, 6, none⟩ g').heap[B]? = some (.cells #[a', b', c', d', e', f', g'] t (0, 0)) := by
  have h1 := heap_setCell_same w B 0 _ t a' h
  have h2 := heap_setCell_same _ B 1 _ t b' h1
  have h3 := heap_setCell_same _ B 2 _ t c' h2
  have h4 := heap_setCell_same _ B 3 _ t d' h3
  have h5 := heap_setCell_same _ B 4 _ t e' h4
  have h6 := heap_setCell_same _ B 5 _ t f' h5
  have h7 := heap_setCell_same _ B 6 _ t g' h6
  simpa using h7
theorem only_set (w : World) (B o : Nat) (u : Value) : Only B w (w.setCell ⟨B, o, none⟩ u) := ⟨rfl, rfl, rfl, by simp [World.setCell], fun k _ hn => Below.heap_setCell _ _ _ _ hn⟩
theorem Only.trans {K : Nat} {a b c : World} (h : Only K a b) (k : Only K b c) : Only K a c := Kept.trans h k (fun _ _ e => e)
theorem only_seven (w : World) (B : Nat) (a b c d e f g : Value) :
    Only B w (((((((w.setCell ⟨B, 0, none⟩ a).setCell ⟨B, 1, none⟩ b).setCell ⟨B, 2, none⟩ c).setCell ⟨B, 3, none⟩ d).setCell ⟨B, 4, none⟩ e).setCell ⟨B, 5, none⟩ f).setCell ⟨B, 6, none⟩ g) :=
  (((((((only_set w B 0 a).trans (only_set _ B 1 b)).trans (only_set _ B 2 c)).trans (only_set _ B 3 d)).trans (only_set _ B 4 e)).trans (only_set _ B 5 f)).trans (only_set _ B 6 g))
/-- A variable of another kind is no part of a row of the call's own. -/
theorem kind_apart {w : World} {B base size n : Nat} {cs : Array Value} {t e : TypeId} {v : Value} {xs : List Value} {f : Nat × Nat} (hne : t ≠ e) (h : w.heap[B]? = some (.cells cs t f)) (hown : w.ownsRow base e size v n xs) : v.ownBlock ≠ some B := by
  intro ee
  obtain ⟨c, fz, hc⟩ := Lib.ownsRow_kind hown B ee
  rw [h] at hc
  injection hc with hc
  injection hc with h1 h2 h3
  exact hne h2
theorem three_blocks8 (w : World) (A B C : Obj) : (((w.alloc A).alloc B).alloc C).heap[w.heap.size + 1]? = some B ∧ (((w.alloc A).alloc B).alloc C).heap[w.heap.size + 2]? = some C := by
  have h2 : ((w.alloc A).alloc B).heap.size = w.heap.size + 2 := by simp
  refine ⟨?_, ?_⟩
  · rw [Go.heap_alloc_old ((w.alloc A).alloc B) C (by omega)]; exact heap_alloc2_new w A B
  · rw [← h2]; exact heap_alloc_new _ _
/-- An operation that a call hands back, with spans of its own. -/
def GaveO (o : Om) (w : World) (e : Ending) (w' : World) : Prop := ∃ p c, e = .returned (ov o p c) ∧ GRow layS w' p o.spans ∧ o.spans.length ≤ c ∧ (p = none → c = 0) ∧ Below w.heap.size w w'

end Go.Proofs.Ytedlmngfkkpmgaa
