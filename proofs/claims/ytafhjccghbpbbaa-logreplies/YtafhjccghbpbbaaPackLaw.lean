
/-
  The law's own few and anchor of layer 5, and how its things lie in memory. No conditions beyond what each theorem states.
-/
import Derived.Test.YtafhjccghbpbbaaPackRefText
namespace Go.Proofs.Ytafhjccghbpbbaa
open Go.ChangeShapes Go.WideShapes Go.ChangeAt Go.RowKit Go.Lib
set_option linter.unusedVariables false
set_option linter.unusedSimpArgs false

/-- A thing: its kind, its number, its text, its limit. -/
abbrev Th := Int × Nat × List UInt8 × Int
def atO (xs : List Th) (i : Nat) : Th := xs.getD i (0, 0, [], 0)
/-- Things that lie behind an address, four cells each. -/
def ORow (w : World) (p : Option Addr) (xs : List Th) : Prop :=
  ∀ i, i < xs.length → ∃ b o, p = some ⟨b, o, none⟩ ∧ w.cell? ⟨b, o + i * 4, none⟩ = some (.int .i64 (atO xs i).1) ∧ w.cell? ⟨b, o + i * 4 + 1, none⟩ = some (.int .u64 ((atO xs i).2.1 : Int)) ∧ w.cell? ⟨b, o + i * 4 + 2, none⟩ = some (.string ⟨(atO xs i).2.2.1.toArray⟩) ∧ w.cell? ⟨b, o + i * 4 + 3, none⟩ = some (.int .i64 (atO xs i).2.2.2)
theorem ORow.below {w w' : World} {p : Option Addr} {xs : List Th} (h : ORow w p xs) (hb : Below w.heap.size w w') : ORow w' p xs := fun i hi => by
  obtain ⟨b, o, e, h1, h2, h3, h4⟩ := h i hi
  exact ⟨b, o, e, by rw [hb.cell (block_lt_of_cell h1)]; exact h1, by rw [hb.cell (block_lt_of_cell h2)]; exact h2, by rw [hb.cell (block_lt_of_cell h3)]; exact h3, by rw [hb.cell (block_lt_of_cell h4)]; exact h4⟩
/-- All things may be: numbers of 64 bits, limits that are ints. -/
def OFit (xs : List Th) : Prop := ∀ i, i < xs.length → -9223372036854775808 ≤ (atO xs i).1 ∧ (atO xs i).1 < 9223372036854775808 ∧ (atO xs i).2.1 < 18446744073709551616 ∧ -9223372036854775808 ≤ (atO xs i).2.2.2 ∧ (atO xs i).2.2.2 < 9223372036854775808
/-- Things are few, and texts short. -/
def fewB (xs : List Th) : Bool := xs.all (fun x => decide (x.2.2.1.length ≤ 300)) && decide (xs.length ≤ 60)
theorem fewB_at {xs : List Th} (h : fewB xs = true) : xs.length ≤ 60 ∧ ∀ i, i < xs.length → (atO xs i).2.2.1.length ≤ 300 := by
  simp only [fewB, Bool.and_eq_true, List.all_eq_true, decide_eq_true_eq] at h
  exact ⟨h.2, fun i hi => h.1 _ (by simp [atO, hi])⟩
theorem fewB_no {xs : List Th} {i : Nat} (hi : i < xs.length) (h : ¬ (atO xs i).2.2.1.length ≤ 300) : fewB xs = false := by
  by_cases hf : fewB xs = true
  · exact absurd ((fewB_at hf).2 i hi) h
  · simpa using hf
theorem fewB_all {xs : List Th} (h : ∀ i, i < xs.length → (atO xs i).2.2.1.length ≤ 300) : fewB xs = decide (xs.length ≤ 60) := by
  have : xs.all (fun x => decide (x.2.2.1.length ≤ 300)) = true := by
    rw [List.all_eq_true]
    intro x hx
    obtain ⟨i, hi, e⟩ := List.getElem_of_mem hx
    have := h i hi
    simp [atO, hi, e] at this
    simpa using this
  rw [fewB, this, Bool.true_and]

theorem enc300 : encN 300 = [172, 2] := by rw [encN_big (by omega), encN_small (by omega)]; rfl
theorem read300 : rdN [172, 2] 0 0 300 = (300, 2, 0) := by decide

end Go.Proofs.Ytafhjccghbpbbaa
