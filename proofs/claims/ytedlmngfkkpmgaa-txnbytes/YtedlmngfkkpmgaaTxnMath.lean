
/-
  Transactions: what may be one, by the document. Of no program; no conditions beyond what each theorem states.
-/
import Derived.Test.YtedlmngfkkpmgaaOpRead1
namespace Go.Proofs.Ytedlmngfkkpmgaa
open Go.ChangeShapes Go.WideShapes Go.ChangeAt Go.RowKit Go.Lib
set_option linter.unusedVariables false
set_option linter.unusedSimpArgs false

/-- A transaction: its replica, sequence number, clock, user and operations. -/
structure Tm where
  r : Int
  seq : Int
  clock : Int
  user : Int
  ops : List Om
def t0 : Tm := ⟨0, 0, 0, 0, []⟩
def FitTm (t : Tm) : Prop := 0 ≤ t.r ∧ t.r ≤ 65535 ∧ 0 ≤ t.seq ∧ t.seq ≤ 4294967295 ∧ 0 ≤ t.clock ∧ t.clock ≤ 18446744073709551615 ∧ -9223372036854775808 ≤ t.user ∧ t.user ≤ 9223372036854775807 ∧ ∀ o ∈ t.ops, FitOm o
/-- How many atoms are made. -/
def atomsL (l : List Om) : Int := (l.map atomsO).sum
theorem atomsL_nil : atomsL [] = 0 := rfl
theorem atomsL_cons (o : Om) (l : List Om) : atomsL (o :: l) = atomsO o + atomsL l := by simp [atomsL]
theorem atomsL_append (a b : List Om) : atomsL (a ++ b) = atomsL a + atomsL b := by simp [atomsL]
/-- Operations, one by one: so many, of a transaction with this sequence number, behind this last atom. -/
def fitOs (n : Nat) (seq : Int) : Int → List Om → Int
  | _, [] => 0
  | last, o :: l => if fitO o ≠ 0 then fitO o else if 3 < o.kind ∧ (n ≠ 1 ∨ seq ≤ o.seq) then 11 else if 0 < atomsO o ∧ 0 ≤ last ∧ o.num ≠ last + 1 then 11 else fitOs n seq (if 0 < atomsO o then o.num + atomsO o - 1 else last) l
def fitT (t : Tm) : Int := if t.seq < 1 ∨ 268435456 < t.seq ∨ t.clock < 1 ∨ 1099511627776 < t.clock ∨ t.user < 0 ∨ 7 < t.user ∨ t.ops.length = 0 then 11 else if 16 < t.ops.length then 13 else fitOs t.ops.length t.seq (-1) t.ops
theorem fitOs_ok {n : Nat} {seq : Int} : ∀ (l : List Om) (last : Int), fitOs n seq last l = 0 → ∀ o ∈ l, fitO o = 0 ∧ (3 < o.kind → n = 1 ∧ o.seq < seq) := by
  intro l
  induction l with
  | nil => intro last _ o ho; simp at ho
  | cons x l ih =>
    intro last h o ho
    rw [fitOs] at h
    by_cases h1 : fitO x ≠ 0
    · rw [if_pos h1] at h; exact absurd h h1
    · rw [if_neg h1] at h
      by_cases h2 : 3 < x.kind ∧ (n ≠ 1 ∨ seq ≤ x.seq)
      · rw [if_pos h2] at h; cases h
      · rw [if_neg h2] at h
        by_cases h3 : 0 < atomsO x ∧ 0 ≤ last ∧ x.num ≠ last + 1
        · rw [if_pos h3] at h; cases h
        · rw [if_neg h3] at h
          rcases List.mem_cons.1 ho with rfl | ho
          · refine ⟨by simpa using h1, fun hk => ?_⟩
            by_cases hn : n = 1
            · by_cases hs : o.seq < seq
              · exact ⟨hn, hs⟩
              · exact absurd ⟨hk, Or.inr (by omega)⟩ h2
            · exact absurd ⟨hk, Or.inl hn⟩ h2
          · exact ih _ h o ho
theorem fitT_ok {t : Tm} (h : fitT t = 0) : 1 ≤ t.seq ∧ t.seq ≤ 268435456 ∧ 1 ≤ t.clock ∧ t.clock ≤ 1099511627776 ∧ 0 ≤ t.user ∧ t.user ≤ 7 ∧ 1 ≤ t.ops.length ∧ t.ops.length ≤ 16 ∧ fitOs t.ops.length t.seq (-1) t.ops = 0 := by
  unfold fitT at h
  by_cases h1 : t.seq < 1 ∨ 268435456 < t.seq ∨ t.clock < 1 ∨ 1099511627776 < t.clock ∨ t.user < 0 ∨ 7 < t.user ∨ t.ops.length = 0
  · rw [if_pos h1] at h; cases h
  · rw [if_neg h1] at h
    by_cases h2 : 16 < t.ops.length
    · rw [if_pos h2] at h; cases h
    · rw [if_neg h2] at h
      refine ⟨by omega, by omega, by omega, by omega, by omega, by omega, by omega, by omega, h⟩
/-- A transaction, written. -/
def bytesT (t : Tm) : List UInt8 := encN t.r.toNat ++ (encN t.seq.toNat ++ (encN t.clock.toNat ++ (encN t.user.toNat ++ (encN t.ops.length ++ t.ops.flatMap bytesO))))
/-- So many operations, read one behind the other; nothing more behind an error. -/
def rdOs (bs : List UInt8) : Nat → Nat → Nat → List Om × Nat × Nat
  | 0, q, e => ([], q, e)
  | n + 1, q, e => if e = 0 then ((readO bs q 0).1 :: (rdOs bs n (readO bs q 0).2.1 (readO bs q 0).2.2).1, (rdOs bs n (readO bs q 0).2.1 (readO bs q 0).2.2).2) else ([], q, e)
theorem rdOs_err (bs : List UInt8) (n q e : Nat) (h : e ≠ 0) : rdOs bs n q e = ([], q, e) := by
  cases n with
  | zero => rfl
  | succ n => rw [rdOs, if_neg h]
/-- A transaction at a place; where the next thing stands, and an error. -/
def readTx (bs : List UInt8) (q e : Nat) : Tm × Nat × Nat :=
  let a := rdN bs q e 65535
  let b := rdN bs a.2.1 a.2.2 268435456
  let c := rdN bs b.2.1 b.2.2 1099511627776
  let d := rdN bs c.2.1 c.2.2 7
  let n := rdN bs d.2.1 d.2.2 16
  let l := rdOs bs n.1 n.2.1 n.2.2
  if l.2.2 = 0 then (⟨(a.1 : Int), (b.1 : Int), (c.1 : Int), (d.1 : Int), l.1⟩, l.2) else (t0, l.2)
end Go.Proofs.Ytedlmngfkkpmgaa
