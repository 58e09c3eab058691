
/-
  A writer and a row of bytes beside it: what each step leaves of the other. No conditions beyond what each theorem states.
-/
import Derived.Test.YtafhjccghbpbbaaPackCutMath
namespace Go.Proofs.Ytafhjccghbpbbaa
open Go.ChangeShapes Go.WideShapes Go.ChangeAt Go.RowKit Go.Lib
set_option linter.unusedVariables false
set_option linter.unusedSimpArgs false

theorem row_apart {W : World} {B n : Nat} {u : Value} {xs : List Value} {k : Nat} {cs : Array Value} {t : TypeId} {f : Nat × Nat} (h : W.ownsRow B 5 1 u n xs) (hk : W.heap[k]? = some (.cells cs t f)) (ht : t ≠ 5) : u.ownBlock ≠ some k := by
  intro e
  rcases h.2 with ⟨rfl, _⟩ | ⟨g, cap, cur, rfl, _, hg, _⟩
  · cases e
  · simp [Value.ownBlock] at e
    subst e
    rw [hk] at hg
    simp only [Option.some.injEq, Obj.cells.injEq] at hg
    exact ht hg.2.1
/-- Any slice of bytes as a text. -/
theorem conv_any {w : World} {p : Option Addr} {n c : Nat} {bs : List UInt8} (h : BRow w p bs) (hn : bs.length = n) :
    (convert 33 9 (.slice p n c)).run Try.prog w = .ok (.string ⟨bs.toArray⟩) w := by
  cases p with
  | some a =>
    cases bs with
    | nil =>
      subst hn
      exact run_convert_bytes_back (P := Try.prog) w 33 9 5 a c [] Try.underlying33 Try.underlying5 Try.underlying9 (fun j hj => by simp at hj)
    | cons x xs =>
      obtain ⟨b, o, e, _⟩ := h 0 (by simp)
      cases e
      exact conv_bytes h hn
  | none =>
    cases bs with
    | nil =>
      subst hn
      rw [List.length_nil, run_convert_bytes_string (P := Try.prog) w 33 9 5 none 0 c Try.underlying33 Try.underlying5 Try.underlying9]
      rfl
    | cons x xs => obtain ⟨b, o, e, _⟩ := h 0 (by simp); cases e

end Go.Proofs.Ytafhjccghbpbbaa
