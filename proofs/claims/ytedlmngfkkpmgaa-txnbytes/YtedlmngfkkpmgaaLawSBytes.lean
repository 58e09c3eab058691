
/-
  SpanBytes' function hands back true, for all spans and bytes that lie in memory, if span's Of, Put and Get are as the document says. No conditions beyond what each theorem states.
-/
import Derived.Test.YtedlmngfkkpmgaaSpanPack3
namespace Go.Proofs.Ytedlmngfkkpmgaa
open Go.ChangeShapes Go.WideShapes Go.ChangeAt Go.RowKit Go.Lib
set_option linter.unusedVariables false
set_option linter.unusedSimpArgs false

/-- What Get leaves. -/
def Got (bs : List UInt8) (q e K D : Nat) (w : World) (r : Ending) (w' : World) : Prop := ∃ p c q', r = .returned (.slice p (readS bs q e).1.length c) ∧ GRow layS w' p (readS bs q e).1 ∧ (readS bs q e).1.length ≤ c ∧ (p = none → c = 0) ∧ Rd K D bs q' (readS bs q e).2.2 w' ∧ ((readS bs q e).2.2 = 0 → q' = (readS bs q e).2.1) ∧ Only K w w'
def GetSpec : Prop := ∀ (bs : List UInt8) (q e K D : Nat) (w : World), Rd K D bs q e w → bs.length ≤ 100000 → e < 16 → Calls Try.prog 64 #[.pointer (some ⟨K, 0, none⟩)] w (Got bs q e K D w)
def PutSpec : Prop := ∀ (B K : Nat) (v : Value) (bs : List UInt8) (l : List Sp) (p : Option Addr) (c : Nat) (w : World), Wr B K v bs w → GRow layS w p l → (0 < l.length → ∀ q, p = some q → q.block < B) → RightS l → FitSs l → l.length ≤ 1024 → bs.length ≤ 100000 → Calls Try.prog 56 #[.pointer (some ⟨K, 0, none⟩), .slice p l.length c] w fun e w' => e = .returned (.tuple #[]) ∧ Wrote B K v bs (bytesL l) w w'

theorem only_below {w w1 w2 : World} {K : Nat} (h : Below w.heap.size w w1) (hk : Only K w1 w2) (hK : w.heap.size ≤ K) : Below w.heap.size w w2 := h.trans (hk.below h.size (by rintro k rfl; exact hK))
theorem grow_lt {α : Type} {L : Lay α} {w : World} {p : Option Addr} {xs : List α} (h : GRow L w p xs) (hx : 0 < (L.flat xs).length) : ∀ q, p = some q → q.block < w.heap.size := by
  intro q hq
  obtain ⟨b, o, e, hc⟩ := h 0 _ (List.getElem?_eq_getElem hx)
  rw [hq] at e
  cases e
  exact block_lt_of_cell hc
theorem conv_row {w : World} {p : Option Addr} {n c : Nat} {bs : List UInt8} (h : BRow w p bs) (hn : bs.length = n) :
    (convert 52 9 (.slice p n c)).run Try.prog w = .ok (.string ⟨bs.toArray⟩) w := by
  cases p with
  | some a =>
    subst hn
    exact run_convert_bytes_back (P := Try.prog) w 52 9 5 a c bs Try.underlying52 Try.underlying5 Try.underlying9 (fun j hj => by
      obtain ⟨b, o', e, hc⟩ := h j hj
      cases e
      rw [Addr.add_lit, hc]
      simp [atB, hj])
  | none =>
    cases bs with
    | nil =>
      subst hn
      rw [List.length_nil, run_convert_bytes_string (P := Try.prog) w 52 9 5 none 0 c Try.underlying52 Try.underlying5 Try.underlying9]
      rfl
    | cons x xs => obtain ⟨b, o, e, _⟩ := h 0 (by simp); cases e

end Go.Proofs.Ytedlmngfkkpmgaa
