
/-
  What the laws of layer 8 lean on: what op's calls hand back (to be proved of the landed code), and the laws' own anchor under that. No conditions beyond what each theorem states.
-/
import Derived.Test.YtedlmngfkkpmgaaOpLaw1
import Derived.Test.YtedlmngfkkpmgaaLawSBytes
import Derived.Test.YtedlmngfkkpmgaaPackEnc
namespace Go.Proofs.Ytedlmngfkkpmgaa
open Go.ChangeShapes Go.WideShapes Go.ChangeAt Go.RowKit Go.Lib
set_option linter.unusedVariables false
set_option linter.unusedSimpArgs false

/-- An operation, written. -/
def bytesO (o : Om) : List UInt8 := encN o.kind.toNat ++ (if o.kind = 1 ∨ o.kind = 3 then encN o.r.toNat ++ (encN o.n.toNat ++ encN o.num.toNat) else []) ++ (if o.kind = 1 then encT o.text else if o.kind = 2 ∨ o.kind = 3 then bytesL o.spans else encN o.seq.toNat)
/-- An operation that comes in: values of their kinds, its spans behind their address. -/
structure InO (o : Om) (p : Option Addr) (c : Nat) (w : World) : Prop where
  fit : FitOm o
  row : GRow layS w p o.spans
  cap : o.spans.length ≤ c
  nil : p = none → c = 0
theorem InO.below {o : Om} {p : Option Addr} {c : Nat} {w w' : World} (h : InO o p c w) (hb : Below w.heap.size w w') : InO o p c w' := ⟨h.fit, h.row.below hb, h.cap, h.nil⟩
def PlainSpec : Prop := ∀ (s : List UInt8) (w : World), s.length ≤ 300 → Calls Try.prog 80 #[.string ⟨s.toArray⟩] w fun e w' => e = .returned (.bool (plainB s)) ∧ Below w.heap.size w w'
def AtomsSpec : Prop := ∀ (o : Om) (p : Option Addr) (c : Nat) (w : World), InO o p c w → o.text.length ≤ 300 → o.spans.length ≤ 60 → fitO o = 0 → Calls Try.prog 32 #[ov o p c] w fun e w' => e = .returned (.int .i64 (atomsO o)) ∧ Below w.heap.size w w'
def FitOSpec : Prop := ∀ (o : Om) (p : Option Addr) (c : Nat) (w : World), InO o p c w → o.text.length ≤ 300 → o.spans.length ≤ 60 → Calls Try.prog 50 #[ov o p c] w fun e w' => e = .returned (.int .i64 (fitO o)) ∧ Below w.heap.size w w'
def PutOSpec : Prop := ∀ (B K : Nat) (v : Value) (bs : List UInt8) (o : Om) (p : Option Addr) (c : Nat) (w : World), Wr B K v bs w → InO o p c w → (0 < o.spans.length → ∀ q, p = some q → q.block < B) → o.text.length ≤ 300 → o.spans.length ≤ 60 → fitO o = 0 → bs.length ≤ 100000 → Calls Try.prog 34 #[ov o p c, .pointer (some ⟨K, 0, none⟩)] w fun e w' => e = .returned (.tuple #[]) ∧ Wrote B K v bs (bytesO o) w w'
/-- The document's example. -/
def ex8 : Om := ⟨1, 0, 0, 5, [104, 105], [], 0⟩
theorem ex8_fits : fitO ex8 = 0 := by decide
theorem ex8_bytes : bytesO ex8 = [1, 0, 0, 5, 2, 104, 105] := by
  show encN 1 ++ (encN 0 ++ (encN 0 ++ encN 5)) ++ (encN 2 ++ [104, 105]) = _
  rw [encN_small (n := 1) (by decide), encN_small (n := 0) (by decide), encN_small (n := 5) (by decide), encN_small (n := 2) (by decide)]
  rfl
end Go.Proofs.Ytedlmngfkkpmgaa
