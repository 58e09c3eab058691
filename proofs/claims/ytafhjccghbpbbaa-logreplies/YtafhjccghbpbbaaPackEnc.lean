
/-
  What the document's own Num and Text of layer 5 hand back: the bytes of any number and of any short text, in new memory. No conditions beyond what each theorem states.
-/
import Derived.Test.YtafhjccghbpbbaaPackRefText
namespace Go.Proofs.Ytafhjccghbpbbaa
open Go.ChangeShapes Go.WideShapes Go.ChangeAt Go.RowKit Go.Lib
set_option linter.unusedVariables false
set_option linter.unusedSimpArgs false

/-- Bytes in new memory of the call's own. -/
def Fresh (bs : List UInt8) (w : World) (e : Ending) (w' : World) : Prop := ∃ v, e = .returned v ∧ w'.ownsRow w.heap.size 5 1 v bs.length (byteCells bs) ∧ Below w.heap.size w w'
theorem owns_one (w : World) (x : UInt8) : (w.alloc (.cells #[.int .u8 (x.toNat : Int)] 5)).ownsRow w.heap.size 5 1 (.slice (some ⟨w.heap.size, 0, none⟩) 1 1) 1 (byteCells [x]) :=
  World.ownsRow_lit w #[.int .u8 (x.toNat : Int)] 1 (Nat.le_refl _) (by decide) rfl
/-- A row of some bytes has an address. -/
theorem owns_some {w : World} {B n : Nat} {v : Value} {e : TypeId} {bs : List UInt8} (h : w.ownsRow B e 1 v n (byteCells bs)) (hn : 1 ≤ bs.length) : ∃ g c, v = .slice (some ⟨g, 0, none⟩) bs.length c ∧ BRow w (some ⟨g, 0, none⟩) bs := by
  obtain ⟨p, c, rfl, rfl, hr, _⟩ := brow_owns h
  rcases h.2 with ⟨hv, h0⟩ | ⟨g, cap, cur, hv, _⟩
  · omega
  · cases hv
    exact ⟨g, c, rfl, hr⟩

theorem bytes_conv (s : List UInt8) (w : World) : ∃ w' c, (convert 9 33 (.string ⟨s.toArray⟩)).run Try.prog w = .ok (.slice (some ⟨w.heap.size, 0, none⟩) s.length c) w' ∧ BRow w' (some ⟨w.heap.size, 0, none⟩) s ∧ Below w.heap.size w w' := by
  refine ⟨_, _, run_bytes_of_string (P := Try.prog) w 9 33 5 ⟨s.toArray⟩ Try.underlying9 Try.underlying33 Try.underlying5, fun i hi => ⟨w.heap.size, 0, rfl, ?_⟩, (Below.drew (Below.refl _ _)).alloc (Nat.le_refl _) _⟩
  rw [Nat.zero_add]
  have := World.cell?_alloc_mark w.drew (bytesRow ⟨s.toArray⟩ (grownCap w (⟨s.toArray⟩ : ByteArray).size 0 5)) 5 ((bytesRow ⟨s.toArray⟩ (grownCap w (⟨s.toArray⟩ : ByteArray).size 0 5)).size, (bytesRow ⟨s.toArray⟩ (grownCap w (⟨s.toArray⟩ : ByteArray).size 0 5)).size + 1) i
  rw [show (w.drew).heap.size = w.heap.size from rfl] at this
  rw [this]
  unfold bytesRow
  rw [Array.getElem?_append_left (by simpa using hi)]
  simp [atB, hi]

end Go.Proofs.Ytafhjccghbpbbaa
