
/-
  What the reader's Byte, Num, Text and Done hand back, for every reader that lies in memory. No conditions beyond what each theorem states.
-/
import Derived.Test.YtafhjccghbpbbaaPackReader2
namespace Go.Proofs.Ytafhjccghbpbbaa
open Go.ChangeShapes Go.WideShapes Go.ChangeAt Go.RowKit Go.Lib
set_option linter.unusedVariables false
set_option linter.unusedSimpArgs false

/-- What is read, how many bytes were read then, and the error. -/
def rdB (bs : List UInt8) (q e : Nat) : Nat × Nat × Nat := if e = 0 then (if q < bs.length then ((bs.getD q 0).toNat, q + 1, 0) else (0, q, 14)) else (0, q, e)
def rdN (bs : List UInt8) (q e limit : Nat) : Nat × Nat × Nat := if e = 0 then ((readN (bs.drop q) limit).1, q + (readN (bs.drop q) limit).2.1, (readN (bs.drop q) limit).2.2) else (0, q, e)
def rdT (bs : List UInt8) (q e limit : Nat) : List UInt8 × Nat × Nat := if e = 0 then ((readT (bs.drop q) limit).1, q + (readT (bs.drop q) limit).2.1, (readT (bs.drop q) limit).2.2) else ([], q, e)

theorem conv_bytes {w : World} {D o n c : Nat} {bs : List UInt8} (h : BRow w (some ⟨D, o, none⟩) bs) (hn : bs.length = n) :
    (convert 33 9 (.slice (some ⟨D, o, none⟩) n c)).run Try.prog w = .ok (.string ⟨bs.toArray⟩) w := by
  subst hn
  exact run_convert_bytes_back (P := Try.prog) w 33 9 5 ⟨D, o, none⟩ c bs Try.underlying33 Try.underlying5 Try.underlying9 (fun j hj => by
    obtain ⟨b, o', e, hc⟩ := h j hj
    cases e
    rw [Addr.add_lit, hc]
    simp [atB, hj])

end Go.Proofs.Ytafhjccghbpbbaa
