
/-
  What the writer's Text, Raw, Len and Bytes, and copied, do, for every writer that lies in memory and all that is written. No conditions beyond what each theorem states (what is written stays below a million bytes).
-/
import Derived.Test.YtafhjccghbpbbaaPackWriter
namespace Go.Proofs.Ytafhjccghbpbbaa
open Go.ChangeShapes Go.WideShapes Go.ChangeAt Go.RowKit Go.Lib
set_option linter.unusedVariables false
set_option linter.unusedSimpArgs false

theorem str_cells (s : List UInt8) : strCells ⟨s.toArray⟩ = byteCells s := rfl
theorem str_size (s : List UInt8) : (⟨s.toArray⟩ : ByteArray).size = s.length := rfl

theorem splice_all {L cs : List Value} (h : L.length = cs.length) : splice L 0 cs = cs := by simp [splice, h]
theorem infoS : (Try.prog.info? 5).map (·.size) = some 1 := by kernel_rfl

theorem copy_eq (bs : List UInt8) (p : Option Addr) (c g : Nat) (w1 : World) (cur : List Value) (hcs : cur.length = bs.length) (hh : w1.heap[g]? = some (.cells cur.toArray 5 (0, 0)))
    (hp : 0 < (byteCells bs).length → ∃ ad, p = some ad ∧ ∀ j v, (byteCells bs)[j]? = some v → w1.cell? (ad.add j) = some v) (w : World) (hb : Below g w w1) :
    ∃ w2, (Builtin.copy_ #[33, 33] 3 #[.slice (some ⟨g, 0, none⟩) bs.length bs.length, .slice p bs.length c]).run Try.prog w1 = .ok (goInt bs.length) w2 ∧ w2.heap[g]? = some (.cells (byteCells bs).toArray 5 (0, 0)) ∧ Below g w w2 := by
  have hl := byteCells_length bs
  have hm : Nat.min bs.length bs.length = bs.length := Nat.min_self _
  by_cases h0 : bs.length = 0
  · refine ⟨w1, ?_, ?_, hb⟩
    · rw [run_copy_none (P := Try.prog) w1 33 33 3 5 _ p bs.length bs.length bs.length c Try.underlying33 infoS (by rw [hm]; exact h0), h0]; rfl
    · rw [hh, List.eq_nil_of_length_eq_zero (l := cur) (by rw [hcs]; exact h0), List.eq_nil_of_length_eq_zero (l := byteCells bs) (by rw [hl]; exact h0)]
  · obtain ⟨ad, rfl, hc⟩ := hp (by omega)
    have hr := run_copy_row (P := Try.prog) w1 33 33 3 5 g 0 bs.length bs.length ad bs.length c cur.toArray 5 (byteCells bs) Try.underlying33 infoS hh (by rw [hm]; exact hl) hc (by simp; omega) (byteCells_one bs)
    rw [show goInt ((byteCells bs).length : Int) = goInt (bs.length : Int) by rw [hl]] at hr
    refine ⟨_, hr, ?_, below_setRow hb (Nat.le_refl _) _⟩
    rw [setRow_heap w1 g _ _ 5 _ hh]
    simp [hcs, hl]

/-- What copied leaves: the bytes in new memory. -/
def Copied (bs : List UInt8) (w : World) (e : Ending) (w' : World) : Prop := e = .returned (.slice (some ⟨w.heap.size, 0, none⟩) bs.length bs.length) ∧ w'.heap[w.heap.size]? = some (.cells (byteCells bs).toArray 5 (0, 0)) ∧ Below w.heap.size w w'

end Go.Proofs.Ytafhjccghbpbbaa
