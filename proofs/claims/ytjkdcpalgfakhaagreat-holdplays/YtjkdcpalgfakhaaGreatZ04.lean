/-
  Several texts of one proof, joined: each part says at its head what it proves. No conditions beyond what each theorem states.
-/
import Derived.Lib.OwnKind
import Derived.WalkKit
import Derived.ProofKit
import Derived.OpenShut
import Derived.Below
import Derived.BigQuiet
import Derived.WalkSpells
import Derived.WalkLawsBesides
import Derived.Deep.LoopGhost
import Derived.Test.YtjkdcpalgfakhaaGreatZ03
import Derived.Test.YtjkdcpalgfakhaaGreatZ01
import Derived.Test.YtjkdcpalgfakhaaGreatZ02
import Derived.Test.YtjkdcpalgfakhaaGreatRows
/-
  The document's Bytes of layer 8, of any operation that fits; and what is read of bytes, by the document. No conditions beyond what each theorem states.
-/
namespace Go.Proofs.YtjkdcpalgfakhaaGreat
open Go.ChangeShapes Go.WideShapes Go.ChangeAt Go.RowKit Go.Lib
set_option linter.unusedVariables false
set_option linter.unusedSimpArgs false

theorem nat_of {x : Int} (h : 0 ≤ x) : ∃ N : Nat, x = (N : Int) := ⟨x.toNat, by omega⟩
theorem bytesO_len {o : Om} (hf : FitOm o) (ht : o.text.length ≤ 300) (hl : o.spans.length ≤ 1024) (hk : 0 ≤ o.kind) : (bytesO o).length ≤ 31000 := by
  unfold FitOm at hf
  have e1 := encN_len (n := o.kind.toNat) (by omega)
  have e2 := encN_len (n := o.r.toNat) (by omega)
  have e3 := encN_len (n := o.n.toNat) (by omega)
  have e4 := encN_len (n := o.num.toNat) (by omega)
  have e5 := encN_len (n := o.seq.toNat) (by omega)
  have e6 := bytesL_len (l := o.spans) hf.2.2.2.2.2.2.2.2.1 (by omega)
  have e7 : (encT o.text).length ≤ 400 := by unfold encT; rw [List.length_append]; have := encN_len (n := o.text.length) (by omega); omega
  unfold bytesO
  rw [List.length_append, List.length_append]
  have a1 : (if o.kind = 1 ∨ o.kind = 3 then encN o.r.toNat ++ (encN o.n.toNat ++ encN o.num.toNat) else []).length ≤ 27 := by
    split
    · rw [List.length_append, List.length_append]; omega
    · simp
  have a2 : (if o.kind = 1 then encT o.text else if o.kind = 2 ∨ o.kind = 3 then bytesL o.spans else encN o.seq.toNat).length ≤ 30000 := by
    split
    · omega
    · split
      · omega
      · omega
  omega

/-- Anchor and number, read. -/
def rdP (bs : List UInt8) (q e : Nat) : (Nat × Nat × Nat) × Nat × Nat :=
  (((rdN bs q e 65535).1, (rdN bs (rdN bs q e 65535).2.1 (rdN bs q e 65535).2.2 268435456).1, (rdN bs (rdN bs (rdN bs q e 65535).2.1 (rdN bs q e 65535).2.2 268435456).2.1 (rdN bs (rdN bs q e 65535).2.1 (rdN bs q e 65535).2.2 268435456).2.2 268435456).1), (rdN bs (rdN bs (rdN bs q e 65535).2.1 (rdN bs q e 65535).2.2 268435456).2.1 (rdN bs (rdN bs q e 65535).2.1 (rdN bs q e 65535).2.2 268435456).2.2 268435456).2)
/-- What stands behind the kind (and the anchor), read. -/
def readB (bs : List UInt8) (k : Nat) (t : Nat × Nat × Nat) (q e : Nat) : Om × Nat × Nat :=
  if k = 1 then (if (rdT bs q e 64).2.2 = 0 then (⟨1, (t.1 : Int), (t.2.1 : Int), (t.2.2 : Int), (rdT bs q e 64).1, [], 0⟩, (rdT bs q e 64).2) else (o0, (rdT bs q e 64).2))
  else if k = 2 ∨ k = 3 then (if (readS bs q e).2.2 = 0 then (⟨(k : Int), (t.1 : Int), (t.2.1 : Int), (t.2.2 : Int), [], (readS bs q e).1, 0⟩, (readS bs q e).2) else (o0, (readS bs q e).2))
  else (if (rdN bs q e 268435456).2.2 = 0 then (⟨(k : Int), (t.1 : Int), (t.2.1 : Int), (t.2.2 : Int), [], [], ((rdN bs q e 268435456).1 : Int)⟩, (rdN bs q e 268435456).2) else (o0, (rdN bs q e 268435456).2))
/-- An operation at a place; where the next thing stands, and an error. -/
def readO (bs : List UInt8) (q e : Nat) : Om × Nat × Nat :=
  if (rdN bs q e 5).1 = 1 ∨ (rdN bs q e 5).1 = 3 then readB bs (rdN bs q e 5).1 (rdP bs (rdN bs q e 5).2.1 (rdN bs q e 5).2.2).1 (rdP bs (rdN bs q e 5).2.1 (rdN bs q e 5).2.2).2.1 (rdP bs (rdN bs q e 5).2.1 (rdN bs q e 5).2.2).2.2
  else readB bs (rdN bs q e 5).1 (0, 0, 0) (rdN bs q e 5).2.1 (rdN bs q e 5).2.2
theorem rdT_at {pre post s : List UInt8} {limit : Nat} (hs : s.length ≤ limit) (hl : limit < 9223372036854775808) : rdT (pre ++ (encT s ++ post)) pre.length 0 limit = (s, pre.length + (encT s).length, 0) := by
  unfold rdT
  rw [if_pos rfl, List.drop_left, readT_enc (by omega) hs]
theorem rdP_at {pre post : List UInt8} {R N M : Nat} (hR : R ≤ 65535) (hN : N ≤ 268435456) (hM : M ≤ 268435456) : rdP (pre ++ ((encN R ++ (encN N ++ encN M)) ++ post)) pre.length 0 = ((R, N, M), pre.length + (encN R ++ (encN N ++ encN M)).length, 0) := by
  have h1 := rdN_at (pre := pre) (post := encN N ++ (encN M ++ post)) (n := R) (limit := 65535) (by omega) hR
  have h2 := rdN_at (pre := pre ++ encN R) (post := encN M ++ post) (n := N) (limit := 268435456) (by omega) hN
  have h3 := rdN_at (pre := pre ++ encN R ++ encN N) (post := post) (n := M) (limit := 268435456) (by omega) hM
  unfold rdP
  simp only [List.append_assoc, List.length_append] at h1 h2 h3 ⊢
  rw [h1]
  simp only
  rw [h2]
  simp only
  rw [show pre.length + (encN R).length + (encN N).length = pre.length + ((encN R).length + (encN N).length) by omega, h3]
  simp only [Prod.mk.injEq, true_and, and_true]
  omega
end Go.Proofs.YtjkdcpalgfakhaaGreat
/-
  What is written is read again, by the document; and what its Read may tell. No conditions beyond what each theorem states.
-/
namespace Go.Proofs.YtjkdcpalgfakhaaGreat
open Go.ChangeShapes Go.WideShapes Go.ChangeAt Go.RowKit Go.Lib
set_option linter.unusedVariables false
set_option linter.unusedSimpArgs false

theorem readS_at {pre : List UInt8} {l : List Sp} (hr : RightS l) (hf : FitSs l) (hl : l.length ≤ 1024) : readS (pre ++ bytesL l) pre.length 0 = (l, pre.length + (bytesL l).length, 0) := by
  unfold readS bytesL
  have e1 := rdN_at (pre := pre) (post := l.flatMap bytesS) (n := l.length) (limit := 1024) (by omega) (by omega)
  rw [e1]
  have e2 := rdL_at l (pre ++ encN l.length) [] hr hf
  rw [List.append_nil, List.append_assoc, List.length_append] at e2
  simp only
  rw [e2]
  simp
  omega
theorem readO_all {o : Om} (hf : FitOm o) (h0 : fitO o = 0) : readO (bytesO o) 0 0 = (o, (bytesO o).length, 0) := by
  have hc := fitO_cases h0
  unfold FitOm at hf
  obtain ⟨f1, f2, f3, f4, f5, f6, f7, f8, f9, f10, f11⟩ := hf
  obtain ⟨kind, r, n, num, text, spans, seq⟩ := o
  simp only at f1 f2 f3 f4 f5 f6 f7 f8 f9 f10 f11
  rcases hc with h | h | h | h
  · obtain ⟨rfl, rfl, rfl, -, -, ht, hn⟩ := h
    obtain ⟨R, rfl⟩ := nat_of f3
    obtain ⟨N, rfl⟩ := nat_of f5
    obtain ⟨M, rfl⟩ := nat_of f7
    have hn := of_decide_eq_true hn
    simp only at hn ht
    have hk := rdN_at (pre := []) (post := (encN R ++ (encN N ++ encN M)) ++ encT text) (n := 1) (limit := 5) (by decide) (by decide)
    have hp := rdP_at (pre := encN 1) (post := encT text) (R := R) (N := N) (M := M) (by omega) (by omega) (by omega)
    have hx := rdT_at (pre := encN 1 ++ (encN R ++ (encN N ++ encN M))) (post := []) (s := text) (limit := 64) ht (by decide)
    rw [List.append_nil] at hx
    have hb : bytesO ⟨1, (R : Int), (N : Int), (M : Int), text, [], 0⟩ = encN 1 ++ ((encN R ++ (encN N ++ encN M)) ++ encT text) := by unfold bytesO; simp
    rw [hb]
    unfold readO
    rw [List.nil_append, List.length_nil, Nat.zero_add] at hk
    rw [hk]
    simp only [true_or, if_true]
    rw [hp]
    simp only
    unfold readB
    rw [if_pos rfl]
    rw [List.append_assoc, List.length_append] at hx
    rw [hx]
    simp
    omega
  · obtain ⟨rfl, rfl, rfl, hp, hfl⟩ := h
    have hp := of_decide_eq_true hp
    simp only at hp
    obtain ⟨rfl, rfl, rfl⟩ := hp
    obtain ⟨a1, a2, a3⟩ := fitL_ok hfl
    simp only at a1 a2 a3
    have hk := rdN_at (pre := []) (post := bytesL spans) (n := 2) (limit := 5) (by decide) (by decide)
    have hx := readS_at (pre := encN 2) a1 f9 a3
    have hb : bytesO ⟨2, 0, 0, 0, [], spans, 0⟩ = encN 2 ++ bytesL spans := by unfold bytesO; simp
    rw [hb]
    unfold readO
    rw [List.nil_append, List.length_nil, Nat.zero_add] at hk
    rw [hk]
    rw [if_neg (by simp)]
    unfold readB
    simp only
    rw [if_neg (by decide), if_pos (Or.inl trivial), hx]
    simp
  · obtain ⟨rfl, rfl, rfl, hfl, hn⟩ := h
    obtain ⟨R, rfl⟩ := nat_of f3
    obtain ⟨N, rfl⟩ := nat_of f5
    obtain ⟨M, rfl⟩ := nat_of f7
    have hn := of_decide_eq_true hn
    simp only at hn
    obtain ⟨a1, a2, a3⟩ := fitL_ok hfl
    simp only at a1 a2 a3
    have hk := rdN_at (pre := []) (post := (encN R ++ (encN N ++ encN M)) ++ bytesL spans) (n := 3) (limit := 5) (by decide) (by decide)
    have hat : 0 ≤ atomsO ⟨3, (R : Int), (N : Int), (M : Int), [], spans, 0⟩ := by unfold atomsO; simp
    have hp := rdP_at (pre := encN 3) (post := bytesL spans) (R := R) (N := N) (M := M) (by omega) (by omega) (by omega)
    have hx := readS_at (pre := encN 3 ++ (encN R ++ (encN N ++ encN M))) a1 f9 a3
    have hb : bytesO ⟨3, (R : Int), (N : Int), (M : Int), [], spans, 0⟩ = encN 3 ++ ((encN R ++ (encN N ++ encN M)) ++ bytesL spans) := by unfold bytesO; simp
    rw [hb]
    unfold readO
    rw [List.nil_append, List.length_nil, Nat.zero_add] at hk
    rw [hk]
    simp only [or_true, if_true]
    rw [hp]
    simp only
    unfold readB
    rw [if_neg (by decide), if_pos (Or.inr rfl)]
    rw [List.append_assoc, List.length_append] at hx
    rw [hx]
    simp
    omega
  · obtain ⟨hk, rfl, rfl, hp, hs1, hs2⟩ := h
    have hp := of_decide_eq_true hp
    simp only at hp hk hs1 hs2
    obtain ⟨rfl, rfl, rfl⟩ := hp
    obtain ⟨S, rfl⟩ := nat_of f10
    have hx := fun k => rdN_at (pre := encN k) (post := []) (n := S) (limit := 268435456) (by omega) (by omega)
    simp only [List.append_nil] at hx
    rcases hk with rfl | rfl
    · have hk := rdN_at (pre := []) (post := encN S) (n := 4) (limit := 5) (by decide) (by decide)
      have hb : bytesO ⟨4, 0, 0, 0, [], [], (S : Int)⟩ = encN 4 ++ encN S := by unfold bytesO; simp
      rw [hb]
      unfold readO
      rw [List.nil_append, List.length_nil, Nat.zero_add] at hk
      rw [hk]
      rw [if_neg (by simp)]
      unfold readB
      simp only
      rw [if_neg (by decide), if_neg (by decide), hx 4]
      simp
    · have hk := rdN_at (pre := []) (post := encN S) (n := 5) (limit := 5) (by decide) (by decide)
      have hb : bytesO ⟨5, 0, 0, 0, [], [], (S : Int)⟩ = encN 5 ++ encN S := by unfold bytesO; simp
      rw [hb]
      unfold readO
      rw [List.nil_append, List.length_nil, Nat.zero_add] at hk
      rw [hk]
      rw [if_neg (by simp)]
      unfold readB
      simp only
      rw [if_neg (by decide), if_neg (by decide), hx 5]
      simp
end Go.Proofs.YtjkdcpalgfakhaaGreat
/-
  Transactions: what may be one, by the document. Of no program; no conditions beyond what each theorem states.
-/
namespace Go.Proofs.YtjkdcpalgfakhaaGreat
open Go.ChangeShapes Go.WideShapes Go.ChangeAt Go.RowKit Go.Lib
set_option linter.unusedVariables false
set_option linter.unusedSimpArgs false

/-- A transaction: its replica, sequence number, clock, user and operations. -/
structure Tm where
  r : Int
  seq : Int
  clock : Int
  user : Int
  ops : List Om
def t0 : Tm := ⟨0, 0, 0, 0, []⟩
def FitTm (t : Tm) : Prop := 0 ≤ t.r ∧ t.r ≤ 65535 ∧ 0 ≤ t.seq ∧ t.seq ≤ 4294967295 ∧ 0 ≤ t.clock ∧ t.clock ≤ 18446744073709551615 ∧ -9223372036854775808 ≤ t.user ∧ t.user ≤ 9223372036854775807 ∧ ∀ o ∈ t.ops, FitOm o
/-- How many atoms are made. -/
def atomsL (l : List Om) : Int := (l.map atomsO).sum
theorem atomsL_nil : atomsL [] = 0 := rfl
theorem atomsL_cons (o : Om) (l : List Om) : atomsL (o :: l) = atomsO o + atomsL l := by simp [atomsL]
theorem atomsL_append (a b : List Om) : atomsL (a ++ b) = atomsL a + atomsL b := by simp [atomsL]
/-- Operations, one by one: so many, of a transaction with this sequence number, behind this last atom. -/
def fitOs (n : Nat) (seq : Int) : Int → List Om → Int
  | _, [] => 0
  | last, o :: l => if fitO o ≠ 0 then fitO o else if 3 < o.kind ∧ (n ≠ 1 ∨ seq ≤ o.seq) then 11 else if 0 < atomsO o ∧ 0 ≤ last ∧ o.num ≠ last + 1 then 11 else fitOs n seq (if 0 < atomsO o then o.num + atomsO o - 1 else last) l
def fitT (t : Tm) : Int := if t.seq < 1 ∨ 268435456 < t.seq ∨ t.clock < 1 ∨ 1099511627776 < t.clock ∨ t.user < 0 ∨ 7 < t.user ∨ t.ops.length = 0 then 11 else if 16 < t.ops.length then 13 else fitOs t.ops.length t.seq (-1) t.ops
theorem fitOs_ok {n : Nat} {seq : Int} : ∀ (l : List Om) (last : Int), fitOs n seq last l = 0 → ∀ o ∈ l, fitO o = 0 ∧ (3 < o.kind → n = 1 ∧ o.seq < seq) := by
  intro l
  induction l with
  | nil => intro last _ o ho; simp at ho
  | cons x l ih =>
    intro last h o ho
    rw [fitOs] at h
    by_cases h1 : fitO x ≠ 0
    · rw [if_pos h1] at h; exact absurd h h1
    · rw [if_neg h1] at h
      by_cases h2 : 3 < x.kind ∧ (n ≠ 1 ∨ seq ≤ x.seq)
      · rw [if_pos h2] at h; cases h
      · rw [if_neg h2] at h
        by_cases h3 : 0 < atomsO x ∧ 0 ≤ last ∧ x.num ≠ last + 1
        · rw [if_pos h3] at h; cases h
        · rw [if_neg h3] at h
          rcases List.mem_cons.1 ho with rfl | ho
          · refine ⟨by simpa using h1, fun hk => ?_⟩
            by_cases hn : n = 1
            · by_cases hs : o.seq < seq
              · exact ⟨hn, hs⟩
              · exact absurd ⟨hk, Or.inr (by omega)⟩ h2
            · exact absurd ⟨hk, Or.inl hn⟩ h2
          · exact ih _ h o ho
theorem fitT_ok {t : Tm} (h : fitT t = 0) : 1 ≤ t.seq ∧ t.seq ≤ 268435456 ∧ 1 ≤ t.clock ∧ t.clock ≤ 1099511627776 ∧ 0 ≤ t.user ∧ t.user ≤ 7 ∧ 1 ≤ t.ops.length ∧ t.ops.length ≤ 16 ∧ fitOs t.ops.length t.seq (-1) t.ops = 0 := by
  unfold fitT at h
  by_cases h1 : t.seq < 1 ∨ 268435456 < t.seq ∨ t.clock < 1 ∨ 1099511627776 < t.clock ∨ t.user < 0 ∨ 7 < t.user ∨ t.ops.length = 0
  · rw [if_pos h1] at h; cases h
  · rw [if_neg h1] at h
    by_cases h2 : 16 < t.ops.length
    · rw [if_pos h2] at h; cases h
    · rw [if_neg h2] at h
      refine ⟨by omega, by omega, by omega, by omega, by omega, by omega, by omega, by omega, h⟩
/-- A transaction, written. -/
def bytesT (t : Tm) : List UInt8 := encN t.r.toNat ++ (encN t.seq.toNat ++ (encN t.clock.toNat ++ (encN t.user.toNat ++ (encN t.ops.length ++ t.ops.flatMap bytesO))))
/-- So many operations, read one behind the other; nothing more behind an error. -/
def rdOs (bs : List UInt8) : Nat → Nat → Nat → List Om × Nat × Nat
  | 0, q, e => ([], q, e)
  | n + 1, q, e => if e = 0 then ((readO bs q 0).1 :: (rdOs bs n (readO bs q 0).2.1 (readO bs q 0).2.2).1, (rdOs bs n (readO bs q 0).2.1 (readO bs q 0).2.2).2) else ([], q, e)
theorem rdOs_err (bs : List UInt8) (n q e : Nat) (h : e ≠ 0) : rdOs bs n q e = ([], q, e) := by
  cases n with
  | zero => rfl
  | succ n => rw [rdOs, if_neg h]
/-- A transaction at a place; where the next thing stands, and an error. -/
def readTx (bs : List UInt8) (q e : Nat) : Tm × Nat × Nat :=
  let a := rdN bs q e 65535
  let b := rdN bs a.2.1 a.2.2 268435456
  let c := rdN bs b.2.1 b.2.2 1099511627776
  let d := rdN bs c.2.1 c.2.2 7
  let n := rdN bs d.2.1 d.2.2 16
  let l := rdOs bs n.1 n.2.1 n.2.2
  if l.2.2 = 0 then (⟨(a.1 : Int), (b.1 : Int), (c.1 : Int), (d.1 : Int), l.1⟩, l.2) else (t0, l.2)
end Go.Proofs.YtjkdcpalgfakhaaGreat
/-
  A transaction that is written is read again, by the document. Of no program; no conditions beyond what each theorem states.
-/
namespace Go.Proofs.YtjkdcpalgfakhaaGreat
open Go.ChangeShapes Go.WideShapes Go.ChangeAt Go.RowKit Go.Lib
set_option linter.unusedVariables false
set_option linter.unusedSimpArgs false

theorem readS_atp {pre post : List UInt8} {l : List Sp} (hr : RightS l) (hf : FitSs l) (hl : l.length ≤ 1024) : readS (pre ++ (bytesL l ++ post)) pre.length 0 = (l, pre.length + (bytesL l).length, 0) := by
  unfold readS bytesL
  have e1 := rdN_at (pre := pre) (post := l.flatMap bytesS ++ post) (n := l.length) (limit := 1024) (by omega) (by omega)
  rw [List.append_assoc, e1]
  have e2 := rdL_at l (pre ++ encN l.length) post hr hf
  rw [List.append_assoc, List.length_append] at e2
  simp only
  rw [e2]
  simp
  omega
theorem readO_at {o : Om} {pre post : List UInt8} (hf : FitOm o) (h0 : fitO o = 0) : readO (pre ++ (bytesO o ++ post)) pre.length 0 = (o, pre.length + (bytesO o).length, 0) := by
  have hc := fitO_cases h0
  unfold FitOm at hf
  obtain ⟨f1, f2, f3, f4, f5, f6, f7, f8, f9, f10, f11⟩ := hf
  obtain ⟨kind, r, n, num, text, spans, seq⟩ := o
  simp only at f1 f2 f3 f4 f5 f6 f7 f8 f9 f10 f11
  rcases hc with h | h | h | h
  · obtain ⟨rfl, rfl, rfl, -, -, ht, hn⟩ := h
    obtain ⟨R, rfl⟩ := nat_of f3
    obtain ⟨N, rfl⟩ := nat_of f5
    obtain ⟨M, rfl⟩ := nat_of f7
    have hn := of_decide_eq_true hn
    simp only at hn ht
    have hk := rdN_at (pre := pre) (post := (encN R ++ (encN N ++ encN M)) ++ (encT text ++ post)) (n := 1) (limit := 5) (by decide) (by decide)
    have hp := rdP_at (pre := pre ++ encN 1) (post := encT text ++ post) (R := R) (N := N) (M := M) (by omega) (by omega) (by omega)
    have hx := rdT_at (pre := pre ++ encN 1 ++ (encN R ++ (encN N ++ encN M))) (post := post) (s := text) (limit := 64) ht (by decide)
    have hb : bytesO ⟨1, (R : Int), (N : Int), (M : Int), text, [], 0⟩ = encN 1 ++ ((encN R ++ (encN N ++ encN M)) ++ encT text) := by unfold bytesO; simp
    rw [hb]
    simp only [List.append_assoc, List.length_append] at hk hp hx ⊢
    unfold readO
    rw [hk]
    simp only [true_or, if_true]
    rw [hp]
    simp only
    unfold readB
    rw [if_pos rfl]
    simp only [Nat.add_assoc] at hx ⊢
    rw [hx]
    simp [Nat.add_assoc]
  · obtain ⟨rfl, rfl, rfl, hp, hfl⟩ := h
    have hp := of_decide_eq_true hp
    simp only at hp
    obtain ⟨rfl, rfl, rfl⟩ := hp
    obtain ⟨a1, a2, a3⟩ := fitL_ok hfl
    simp only at a1 a2 a3
    have hk := rdN_at (pre := pre) (post := bytesL spans ++ post) (n := 2) (limit := 5) (by decide) (by decide)
    have hx := readS_atp (pre := pre ++ encN 2) (post := post) a1 f9 a3
    have hb : bytesO ⟨2, 0, 0, 0, [], spans, 0⟩ = encN 2 ++ bytesL spans := by unfold bytesO; simp
    rw [hb]
    simp only [List.append_assoc, List.length_append] at hk hx ⊢
    unfold readO
    rw [hk]
    rw [if_neg (by simp)]
    unfold readB
    simp only
    rw [if_neg (by decide), if_pos (Or.inl trivial), hx]
    simp
    omega
  · obtain ⟨rfl, rfl, rfl, hfl, hn⟩ := h
    obtain ⟨R, rfl⟩ := nat_of f3
    obtain ⟨N, rfl⟩ := nat_of f5
    obtain ⟨M, rfl⟩ := nat_of f7
    have hn := of_decide_eq_true hn
    simp only at hn
    obtain ⟨a1, a2, a3⟩ := fitL_ok hfl
    simp only at a1 a2 a3
    have hk := rdN_at (pre := pre) (post := (encN R ++ (encN N ++ encN M)) ++ (bytesL spans ++ post)) (n := 3) (limit := 5) (by decide) (by decide)
    have hat : 0 ≤ atomsO ⟨3, (R : Int), (N : Int), (M : Int), [], spans, 0⟩ := by unfold atomsO; simp
    have hp := rdP_at (pre := pre ++ encN 3) (post := bytesL spans ++ post) (R := R) (N := N) (M := M) (by omega) (by omega) (by omega)
    have hx := readS_atp (pre := pre ++ encN 3 ++ (encN R ++ (encN N ++ encN M))) (post := post) a1 f9 a3
    have hb : bytesO ⟨3, (R : Int), (N : Int), (M : Int), [], spans, 0⟩ = encN 3 ++ ((encN R ++ (encN N ++ encN M)) ++ bytesL spans) := by unfold bytesO; simp
    rw [hb]
    simp only [List.append_assoc, List.length_append] at hk hp hx ⊢
    unfold readO
    rw [hk]
    simp only [or_true, if_true]
    rw [hp]
    simp only
    unfold readB
    rw [if_neg (by decide), if_pos (Or.inr rfl)]
    simp only [Nat.add_assoc] at hx ⊢
    rw [hx]
    simp [Nat.add_assoc]
  · obtain ⟨hk, rfl, rfl, hp, hs1, hs2⟩ := h
    have hp := of_decide_eq_true hp
    simp only at hp hk hs1 hs2
    obtain ⟨rfl, rfl, rfl⟩ := hp
    obtain ⟨S, rfl⟩ := nat_of f10
    have hx := fun k => rdN_at (pre := pre ++ encN k) (post := post) (n := S) (limit := 268435456) (by omega) (by omega)
    simp only [List.append_assoc, List.length_append] at hx
    rcases hk with rfl | rfl
    · have hk := rdN_at (pre := pre) (post := encN S ++ post) (n := 4) (limit := 5) (by decide) (by decide)
      have hb : bytesO ⟨4, 0, 0, 0, [], [], (S : Int)⟩ = encN 4 ++ encN S := by unfold bytesO; simp
      rw [hb]
      simp only [List.append_assoc, List.length_append] at hk ⊢
      unfold readO
      rw [hk]
      rw [if_neg (by simp)]
      unfold readB
      simp only
      rw [if_neg (by decide), if_neg (by decide), hx 4]
      simp
      omega
    · have hk := rdN_at (pre := pre) (post := encN S ++ post) (n := 5) (limit := 5) (by decide) (by decide)
      have hb : bytesO ⟨5, 0, 0, 0, [], [], (S : Int)⟩ = encN 5 ++ encN S := by unfold bytesO; simp
      rw [hb]
      simp only [List.append_assoc, List.length_append] at hk ⊢
      unfold readO
      rw [hk]
      rw [if_neg (by simp)]
      unfold readB
      simp only
      rw [if_neg (by decide), if_neg (by decide), hx 5]
      simp
      omega
theorem rdOs_at : ∀ (l : List Om) (pre post : List UInt8), (∀ o ∈ l, FitOm o) → (∀ o ∈ l, fitO o = 0) → rdOs (pre ++ (l.flatMap bytesO ++ post)) l.length pre.length 0 = (l, pre.length + (l.flatMap bytesO).length, 0) := by
  intro l
  induction l with
  | nil => intro pre post _ _; simp [rdOs]
  | cons o l ih =>
    intro pre post hf h0
    have e1 := readO_at (pre := pre) (post := l.flatMap bytesO ++ post) (hf o (by simp)) (h0 o (by simp))
    have e2 := ih (pre ++ bytesO o) post (fun x hx => hf x (by simp [hx])) (fun x hx => h0 x (by simp [hx]))
    rw [List.flatMap_cons, List.length_cons, rdOs, if_pos rfl]
    simp only [List.append_assoc, List.length_append] at e1 e2 ⊢
    rw [e1]
    simp only
    rw [e2]
    simp
    omega
theorem readTx_all {t : Tm} (hf : FitTm t) (h0 : fitT t = 0) : readTx (bytesT t) 0 0 = (t, (bytesT t).length, 0) := by
  obtain ⟨g1, g2, g3, g4, g5, g6, g7, g8, g9⟩ := fitT_ok h0
  have hO := fitOs_ok t.ops (-1) g9
  unfold FitTm at hf
  obtain ⟨f1, f2, f3, f4, f5, f6, f7, f8, f9⟩ := hf
  obtain ⟨r, seq, clock, user, ops⟩ := t
  simp only at f1 f2 f3 f4 f5 f6 f7 f8 f9 g1 g2 g3 g4 g5 g6 g7 g8 g9 hO
  obtain ⟨R, rfl⟩ := nat_of f1
  obtain ⟨S, rfl⟩ := nat_of f3
  obtain ⟨C, rfl⟩ := nat_of f5
  obtain ⟨U, rfl⟩ := nat_of g5
  have e1 := rdN_at (pre := []) (post := encN S ++ (encN C ++ (encN U ++ (encN ops.length ++ ops.flatMap bytesO)))) (n := R) (limit := 65535) (by omega) (by omega)
  have e2 := rdN_at (pre := encN R) (post := encN C ++ (encN U ++ (encN ops.length ++ ops.flatMap bytesO))) (n := S) (limit := 268435456) (by omega) (by omega)
  have e3 := rdN_at (pre := encN R ++ encN S) (post := encN U ++ (encN ops.length ++ ops.flatMap bytesO)) (n := C) (limit := 1099511627776) (by omega) (by omega)
  have e4 := rdN_at (pre := encN R ++ (encN S ++ encN C)) (post := encN ops.length ++ ops.flatMap bytesO) (n := U) (limit := 7) (by omega) (by omega)
  have e5 := rdN_at (pre := encN R ++ (encN S ++ (encN C ++ encN U))) (post := ops.flatMap bytesO) (n := ops.length) (limit := 16) (by omega) (by omega)
  have e6 := rdOs_at ops (encN R ++ (encN S ++ (encN C ++ (encN U ++ encN ops.length)))) [] f9 (fun o ho => (hO o ho).1)
  have hb : bytesT ⟨(R : Int), (S : Int), (C : Int), (U : Int), ops⟩ = encN R ++ (encN S ++ (encN C ++ (encN U ++ (encN ops.length ++ ops.flatMap bytesO)))) := by unfold bytesT; simp
  rw [hb]
  rw [List.append_nil] at e6
  simp only [List.append_assoc, List.length_append, List.nil_append, List.length_nil, Nat.zero_add, Nat.add_assoc] at e1 e2 e3 e4 e5 e6 ⊢
  unfold readTx
  simp only
  rw [e1]
  simp only
  rw [e2]
  simp only
  rw [e3]
  simp only [Nat.add_assoc]
  rw [e4]
  simp only [Nat.add_assoc]
  rw [e5]
  simp only [Nat.add_assoc]
  rw [e6]
  simp [Nat.add_assoc]
end Go.Proofs.YtjkdcpalgfakhaaGreat
/-
  In blocks of which kind a row lies. Of no program; no conditions beyond what each theorem states.
-/
namespace Go.Proofs.YtjkdcpalgfakhaaGreat
open Go.ChangeShapes Go.WideShapes Go.ChangeAt Go.RowKit Go.Lib
set_option linter.unusedVariables false
set_option linter.unusedSimpArgs false

/-- A row lies in a block of this kind. -/
def KindAt (t : TypeId) (w : World) (p : Option Addr) : Prop := ∀ q, p = some q → ∃ cs f, w.heap[q.block]? = some (.cells cs t f)
theorem KindAt.nil (t : TypeId) (w : World) : KindAt t w none := fun q e => by cases e
theorem KindAt.below {t : TypeId} {w w' : World} {p : Option Addr} (h : KindAt t w p) (hb : Below w.heap.size w w') : KindAt t w' p := fun q e => by
  obtain ⟨cs, f, hq⟩ := h q e
  exact ⟨cs, f, by rw [hb.block _ (lt_of_block hq)]; exact hq⟩
theorem KindAt.apart {s : TypeId} {w : World} {p : Option Addr} (h : KindAt s w p) {X : Nat} {cs : Array Value} {t : TypeId} {f : Nat × Nat} (ht : t ≠ s) (hX : w.heap[X]? = some (.cells cs t f)) : ∀ q, p = some q → q.block ≠ X := fun q e ee => by
  obtain ⟨cs', f', hq⟩ := h q e
  rw [ee, hX] at hq
  injection hq with hq
  injection hq with h1 h2 h3
  exact ht h2
theorem KindAt.kept {s : TypeId} {S : Nat → Prop} {w w' : World} {p : Option Addr} (h : KindAt s w p) (hk : Kept S w w') (hn : ∀ q, p = some q → ¬ S q.block) : KindAt s w' p := fun q e => by
  obtain ⟨cs, f, hq⟩ := h q e
  exact ⟨cs, f, hk.stays hq (hn q e)⟩
theorem kind_owns {w : World} {base size n c m : Nat} {t : TypeId} {p : Option Addr} {xs : List Value} (h : w.ownsRow base t size (.slice p m c) n xs) : KindAt t w p := fun q e => by
  subst e
  exact Lib.ownsRow_kind h q.block rfl
end Go.Proofs.YtjkdcpalgfakhaaGreat
/-
  Reading's ground for layer 8: the operation that is read, as a variable of the call, and three numbers behind so many of them. No conditions beyond what each theorem states.
-/
namespace Go.Proofs.YtjkdcpalgfakhaaGreat
open Go.ChangeShapes Go.WideShapes Go.ChangeAt Go.RowKit Go.Lib
set_option linter.unusedVariables false
set_option linter.unusedSimpArgs false

/-- What Read holds: its result (still nothing), and what it has read so far. -/
structure RS (w : World) (k a b c : Int) (s : ByteArray) (v : Value) (q : Int) (W : World) : Prop where
  res : W.heap[w.heap.size]? = some (.cells #[.int .i64 0, .int .u16 0, .int .u32 0, .int .u32 0, .string ⟨#[]⟩, .slice none 0 0, .int .u32 0] 108 (0, 0))
  box : W.heap[w.heap.size + 1]? = some (.cells #[.int .i64 k, .int .u16 a, .int .u32 b, .int .u32 c, .string s, v, .int .u32 q] 108 (0, 0))
  bel : Below w.heap.size w W
theorem RS.new (w : World) : RS w 0 0 0 0 ⟨#[]⟩ (.slice none 0 0) 0 ((w.alloc (.cells #[.int .i64 0, .int .u16 0, .int .u32 0, .int .u32 0, .string ⟨#[]⟩, .slice none 0 0, .int .u32 0] 108)).alloc (.cells #[.int .i64 0, .int .u16 0, .int .u32 0, .int .u32 0, .string ⟨#[]⟩, .slice none 0 0, .int .u32 0] 108)) :=
  ⟨heap_alloc2_old w _ _, heap_alloc2_new w _ _, below_alloc (below_alloc (Below.refl _ _) _) _⟩
theorem RS.below {w W W' : World} {k a b c q : Int} {s : ByteArray} {v : Value} (h : RS w k a b c s v q W) (hb : Below W.heap.size W W') : RS w k a b c s v q W' := ⟨kept_box h.res hb, kept_box h.box hb, below_step h.bel hb⟩
theorem RS.set {w W : World} {k a b c q : Int} {s : ByteArray} {v : Value} (h : RS w k a b c s v q W) (i : Nat) (u : Value) {k' a' b' c' q' : Int} {s' : ByteArray} {v' : Value}
    (e : (#[.int .i64 k, .int .u16 a, .int .u32 b, .int .u32 c, .string s, v, .int .u32 q] : Array Value).setIfInBounds i u = #[.int .i64 k', .int .u16 a', .int .u32 b', .int .u32 c', .string s', v', .int .u32 q']) : RS w k' a' b' c' s' v' q' (W.setCell ⟨w.heap.size + 1, i, none⟩ u) :=
  ⟨by rw [heap_setCell_other _ _ _ _ (by simp)]; exact h.res, by rw [heap_setCell_same W _ i _ _ u h.box, e], h.bel.setCell (p := ⟨w.heap.size + 1, i, none⟩) (by simp) _⟩
theorem RS.other {w W : World} {k a b c q : Int} {s : ByteArray} {v : Value} (h : RS w k a b c s v q W) {V o : Nat} (hV : w.heap.size + 1 < V) (u : Value) : RS w k a b c s v q (W.setCell ⟨V, o, none⟩ u) :=
  ⟨by rw [heap_setCell_other _ _ _ _ (by simp; omega)]; exact h.res, by rw [heap_setCell_other _ _ _ _ (by simp; omega)]; exact h.box, h.bel.setCell (p := ⟨V, o, none⟩) (by simp; omega) _⟩
theorem RS.frozen {w W : World} {k a b c q : Int} {s : ByteArray} {v : Value} (h : RS w k a b c s v q W) : (∀ o, W.frozen? ⟨w.heap.size, o, none⟩ = false) ∧ (∀ o, W.frozen? ⟨w.heap.size + 1, o, none⟩ = false) := ⟨fun o => frozen_of_block h.res, fun o => frozen_of_block h.box⟩
theorem results_ctt {P : Program} {fn : Func} {p t u : Tmp} {ty : TypeId} (h : fn.results = #[.cell p ty, .tmp t, .tmp u]) (tmps : Array Value) (w : World) (a : Addr) (va : Value)
    (hp : tmps.getD p undef = .pointer (some a)) (la : (loadVar ty a).run P w = .ok va w) :
    (results fn tmps).run P w = .ok (.tuple #[va, tmps.getD t undef, tmps.getD u undef]) w := by
  have hp' : tmps[p]?.getD undef = .pointer (some a) := by simpa using hp
  simp [results, h, hp', asAddr, la]
theorem load8 {w : World} {B : Nat} {cs : Array Value} {t : TypeId} (h : w.heap[B]? = some (.cells cs t (0, 0))) (hs : cs.size = 7) : (loadVar 108 ⟨B, 0, none⟩).run Tryz.prog w = .ok (.agg cs) w :=
  run_loadVar_row w B t 108 _ (0, 0) _ h Tryz.underlying108 rfl (by rw [hs]; exact sz8)
/-- Three numbers behind so many of them: anchor and number. -/
def St8 (bs : List UInt8) (q0 : Nat) (i : Nat) (a b c q e : Nat) : Prop :=
  match i with
  | 0 => a = 0 ∧ b = 0 ∧ c = 0 ∧ q = q0 ∧ e = 0
  | 1 => (a, q, e) = rdN bs q0 0 65535 ∧ b = 0 ∧ c = 0
  | 2 => ∃ q1 e1, (a, q1, e1) = rdN bs q0 0 65535 ∧ (b, q, e) = rdN bs q1 e1 268435456 ∧ c = 0
  | _ => ∃ q1 e1 q2 e2, (a, q1, e1) = rdN bs q0 0 65535 ∧ (b, q2, e2) = rdN bs q1 e1 268435456 ∧ (c, q, e) = rdN bs q2 e2 268435456
theorem St8.done {bs : List UInt8} {q0 i a b c q e : Nat} (h : St8 bs q0 i a b c q e) (hi : i ≤ 3) (hd : i = 3 ∨ e ≠ 0) : rdP bs q0 0 = ((a, b, c), q, e) := by
  have : i = 0 ∨ i = 1 ∨ i = 2 ∨ i = 3 := by omega
  unfold rdP
  rcases this with rfl | rfl | rfl | rfl
  · obtain ⟨_, _, _, _, rfl⟩ := h
    rcases hd with hd | hd
    · cases hd
    · exact absurd rfl hd
  · obtain ⟨h1, rfl, rfl⟩ := h
    have he : e ≠ 0 := by rcases hd with hd | hd; cases hd; exact hd
    rw [← h1]
    simp only
    rw [rdN_err he]
    simp only
    rw [rdN_err he]
  · obtain ⟨q1, e1, h1, h2, rfl⟩ := h
    have he : e ≠ 0 := by rcases hd with hd | hd; cases hd; exact hd
    rw [← h1]
    simp only
    rw [← h2]
    simp only
    rw [rdN_err he]
  · obtain ⟨q1, e1, q2, e2, h1, h2, h3⟩ := h
    rw [← h1]
    simp only
    rw [← h2]
    simp only
    rw [← h3]
theorem St8.next0 {bs : List UInt8} {q0 a b c q : Nat} (h : St8 bs q0 0 a b c q 0) : St8 bs q0 1 (rdN bs q 0 65535).1 b c (rdN bs q 0 65535).2.1 (rdN bs q 0 65535).2.2 := by
  obtain ⟨rfl, rfl, rfl, rfl, _⟩ := h; exact ⟨rfl, rfl, rfl⟩
theorem St8.next1 {bs : List UInt8} {q0 a b c q : Nat} (h : St8 bs q0 1 a b c q 0) : St8 bs q0 2 a (rdN bs q 0 268435456).1 c (rdN bs q 0 268435456).2.1 (rdN bs q 0 268435456).2.2 := by
  obtain ⟨h1, rfl, rfl⟩ := h; exact ⟨q, 0, h1, rfl, rfl⟩
theorem St8.next2 {bs : List UInt8} {q0 a b c q : Nat} (h : St8 bs q0 2 a b c q 0) : St8 bs q0 3 a b (rdN bs q 0 268435456).1 (rdN bs q 0 268435456).2.1 (rdN bs q 0 268435456).2.2 := by
  obtain ⟨q1, e1, h1, h2, rfl⟩ := h; exact ⟨q1, e1, q, 0, h1, h2, rfl⟩
/-- What the document's Read tells, at a place. -/
def Read8At (bs : List UInt8) (Q : Nat) (w : World) (r : Ending) (w' : World) : Prop := ∃ p c q', r = .returned (.tuple #[ov (readO bs Q 0).1 p c, .int .i64 (q' : Int), .int .i64 ((readO bs Q 0).2.2 : Int)]) ∧ GRow layS w' p (readO bs Q 0).1.spans ∧ ((readO bs Q 0).2.2 = 0 → q' = ((readO bs Q 0).2.1 : Nat)) ∧ Below w.heap.size w w' ∧ KindAt 136 w' p
def Read8 (bs : List UInt8) (w : World) (r : Ending) (w' : World) : Prop := ∃ p c q', r = .returned (.tuple #[ov (readO bs 0 0).1 p c, .int .i64 (q' : Int), .int .i64 ((readO bs 0 0).2.2 : Int)]) ∧ GRow layS w' p (readO bs 0 0).1.spans ∧ ((readO bs 0 0).2.2 = 0 → q' = ((readO bs 0 0).2.1 : Nat)) ∧ Below w.heap.size w w'
/-- Nothing is told behind an error. -/
theorem read8_zero {bs : List UInt8} {Q : Nat} {w W : World} {k a b c q : Int} {s : ByteArray} {v : Value} {qq e pos : Nat} (h : RS w k a b c s v q W) (he : readO bs Q 0 = (o0, qq, e)) (h0 : e ≠ 0) :
    Read8At bs Q w (.returned (.tuple #[.agg #[.int .i64 0, .int .u16 0, .int .u32 0, .int .u32 0, .string ⟨#[]⟩, .slice none 0 0, .int .u32 0], .int .i64 (pos : Int), .int .i64 (e : Int)])) (((((((W.setCell ⟨w.heap.size, 0, none⟩ (.int .i64 0)).setCell ⟨w.heap.size, 1, none⟩ (.int .u16 0)).setCell ⟨w.heap.size, 2, none⟩ (.int .u32 0)).setCell ⟨w.heap.size, 3, none⟩ (.int .u32 0)).setCell ⟨w.heap.size, 4, none⟩ (.string ⟨#[]⟩)).setCell ⟨w.heap.size, 5, none⟩ (.slice none 0 0)).setCell ⟨w.heap.size, 6, none⟩ (.int .u32 0)) := by
  have hS := only_seven W w.heap.size (.int .i64 0) (.int .u16 0) (.int .u32 0) (.int .u32 0) (.string ⟨#[]⟩) (.slice none 0 0) (.int .u32 0)
  refine ⟨none, 0, pos, by rw [he]; rfl, by rw [he]; exact GRow.nil _ _ _, fun h => by rw [he] at h; exact absurd h h0, ?_, KindAt.nil _ _⟩
  exact h.bel.trans (hS.below (Nat.le_trans h.bel.size (Nat.le_refl _)) (by intro k ek; have ek : k = w.heap.size := ek; omega))
/-- What was read is told. -/
theorem read8_some {bs : List UInt8} {Q : Nat} {w W : World} {o : Om} {p : Option Addr} {cc : Nat} {q pos : Nat} (h : RS w o.kind o.r o.n o.num ⟨o.text.toArray⟩ (.slice p o.spans.length cc) o.seq W) (hG : GRow layS W p o.spans) (hp : ∀ a, p = some a → a.block ≠ w.heap.size) (hk : KindAt 136 W p) (he : readO bs Q 0 = (o, pos, 0)) :
    Read8At bs Q w (.returned (.tuple #[.agg #[.int .i64 o.kind, .int .u16 o.r, .int .u32 o.n, .int .u32 o.num, .string ⟨o.text.toArray⟩, .slice p o.spans.length cc, .int .u32 o.seq], .int .i64 (pos : Int), .int .i64 0])) (((((((W.setCell ⟨w.heap.size, 0, none⟩ (.int .i64 o.kind)).setCell ⟨w.heap.size, 1, none⟩ (.int .u16 o.r)).setCell ⟨w.heap.size, 2, none⟩ (.int .u32 o.n)).setCell ⟨w.heap.size, 3, none⟩ (.int .u32 o.num)).setCell ⟨w.heap.size, 4, none⟩ (.string ⟨o.text.toArray⟩)).setCell ⟨w.heap.size, 5, none⟩ (.slice p o.spans.length cc)).setCell ⟨w.heap.size, 6, none⟩ (.int .u32 o.seq)) := by
  have hS := only_seven W w.heap.size (.int .i64 o.kind) (.int .u16 o.r) (.int .u32 o.n) (.int .u32 o.num) (.string ⟨o.text.toArray⟩) (.slice p o.spans.length cc) (.int .u32 o.seq)
  refine ⟨p, cc, pos, by rw [he]; rfl, by rw [he]; exact hG.kept hS (fun a ea => hp a ea), fun _ => by rw [he], ?_, hk.kept hS (fun a ea => hp a ea)⟩
  exact h.bel.trans (hS.below (Nat.le_trans h.bel.size (Nat.le_refl _)) (by intro k ek; have ek : k = w.heap.size := ek; omega))
end Go.Proofs.YtjkdcpalgfakhaaGreat
/-
  What the document's Read of layer 8 hands back: where there is no anchor to read. No conditions beyond what each theorem states.
-/
namespace Go.Proofs.YtjkdcpalgfakhaaGreat
open Go.ChangeShapes Go.WideShapes Go.ChangeAt Go.RowKit Go.Lib
set_option linter.unusedVariables false
set_option linter.unusedSimpArgs false

theorem rdN_zero {bs : List UInt8} {q limit : Nat} (h : (rdN bs q 0 limit).2.2 ≠ 0) : (rdN bs q 0 limit).1 = 0 := by
  rw [rdN_read] at h ⊢
  have := read_fair (bs.drop q) limit
  unfold Fair at this
  simp only at h ⊢
  omega
end Go.Proofs.YtjkdcpalgfakhaaGreat
/-
  What the document's Read of layer 8 hands back: where spans stand behind the kind. No conditions beyond what each theorem states.
-/
namespace Go.Proofs.YtjkdcpalgfakhaaGreat
open Go.ChangeShapes Go.WideShapes Go.ChangeAt Go.RowKit Go.Lib
set_option linter.unusedVariables false
set_option linter.unusedSimpArgs false

end Go.Proofs.YtjkdcpalgfakhaaGreat
/-
  What the document's Read of layer 8 hands back: where an anchor and a number stand behind the kind. No conditions beyond what each theorem states.
-/
namespace Go.Proofs.YtjkdcpalgfakhaaGreat
open Go.ChangeShapes Go.WideShapes Go.ChangeAt Go.RowKit Go.Lib
set_option linter.unusedVariables false
set_option linter.unusedSimpArgs false

theorem readB_err {bs : List UInt8} {k : Nat} {t : Nat × Nat × Nat} {q e : Nat} (h : e ≠ 0) : readB bs k t q e = (o0, q, e) := by
  have h1 : rdT bs q e 64 = ([], q, e) := by unfold rdT; rw [if_neg h]
  have h2 : readS bs q e = ([], q, e) := by unfold readS; rw [rdN_err h]; simp only; rw [rdL_err _ _ _ _ h]; simp only; rw [if_neg h]
  unfold readB
  rw [h1, h2, rdN_err h]
  simp only
  rw [if_neg h, if_neg h, if_neg h]
  split
  · rfl
  · split <;> rfl
end Go.Proofs.YtjkdcpalgfakhaaGreat
/-
  How a transaction is read, number by number and operation by operation. Of no program; no conditions beyond what each theorem states.
-/
namespace Go.Proofs.YtjkdcpalgfakhaaGreat
open Go.ChangeShapes Go.WideShapes Go.ChangeAt Go.RowKit Go.Lib
set_option linter.unusedVariables false
set_option linter.unusedSimpArgs false

def lim9 (i : Nat) : Nat := match i with | 0 => 65535 | 1 => 268435456 | 2 => 1099511627776 | 3 => 7 | _ => 16
/-- Where the number with this place is read, and the error ahead of it. -/
def chS (bs : List UInt8) (Q E : Nat) : Nat → Nat × Nat
  | 0 => (Q, E)
  | i + 1 => (rdN bs (chS bs Q E i).1 (chS bs Q E i).2 (lim9 i)).2
def chV (bs : List UInt8) (Q E i : Nat) : Nat := (rdN bs (chS bs Q E i).1 (chS bs Q E i).2 (lim9 i)).1
theorem chS_succ (bs : List UInt8) (Q E i : Nat) : chS bs Q E (i + 1) = (rdN bs (chS bs Q E i).1 (chS bs Q E i).2 (lim9 i)).2 := rfl
theorem readTx_ch (bs : List UInt8) (Q E : Nat) : readTx bs Q E = (if (rdOs bs (chV bs Q E 4) (chS bs Q E 5).1 (chS bs Q E 5).2).2.2 = 0 then (⟨(chV bs Q E 0 : Int), (chV bs Q E 1 : Int), (chV bs Q E 2 : Int), (chV bs Q E 3 : Int), (rdOs bs (chV bs Q E 4) (chS bs Q E 5).1 (chS bs Q E 5).2).1⟩, (rdOs bs (chV bs Q E 4) (chS bs Q E 5).1 (chS bs Q E 5).2).2) else (t0, (rdOs bs (chV bs Q E 4) (chS bs Q E 5).1 (chS bs Q E 5).2).2)) := rfl
theorem chS_le {bs : List UInt8} {Q E : Nat} (hQ : Q ≤ bs.length) : ∀ i, (chS bs Q E i).1 ≤ bs.length ∧ ((chS bs Q E i).2 < 16 ∨ (chS bs Q E i).2 = E) := by
  intro i
  induction i with
  | zero => exact ⟨hQ, Or.inr rfl⟩
  | succ i ih =>
    rw [chS_succ]
    have := rdN_fits (bs := bs) (q := (chS bs Q E i).1) (e := (chS bs Q E i).2) (limit := lim9 i) ih.1
    omega
theorem chV_le {bs : List UInt8} {Q E : Nat} (hQ : Q ≤ bs.length) (i : Nat) : chV bs Q E i ≤ lim9 i := (rdN_fits (bs := bs) (q := (chS bs Q E i).1) (e := (chS bs Q E i).2) (limit := lim9 i) (chS_le hQ i).1).2.1
theorem ch_err {bs : List UInt8} {Q E i : Nat} (h : (chS bs Q E i).2 ≠ 0) : ∀ j, chS bs Q E (i + j) = chS bs Q E i ∧ chV bs Q E (i + j) = 0 := by
  intro j
  induction j with
  | zero => exact ⟨rfl, by unfold chV; rw [Nat.add_zero, rdN_err h]⟩
  | succ j ih =>
    have e : chS bs Q E (i + (j + 1)) = chS bs Q E i := by
      rw [← Nat.add_assoc, chS_succ, ih.1, rdN_err h]
    refine ⟨e, ?_⟩
    unfold chV
    rw [e, rdN_err h]
/-- Number j, behind the first i ones. -/
def V9 (bs : List UInt8) (Q i j : Nat) : Nat := if j < i then chV bs Q 0 j else 0
theorem V9_end {bs : List UInt8} {Q i : Nat} (hi : i ≤ 5) (h : i = 5 ∨ (chS bs Q 0 i).2 ≠ 0) : chS bs Q 0 5 = chS bs Q 0 i ∧ ∀ j, j < 5 → V9 bs Q i j = chV bs Q 0 j := by
  rcases h with rfl | h
  · exact ⟨rfl, fun j hj => by unfold V9; rw [if_pos hj]⟩
  · refine ⟨?_, fun j hj => ?_⟩
    · have := (ch_err h (5 - i)).1
      rwa [show i + (5 - i) = 5 by omega] at this
    · unfold V9
      by_cases hji : j < i
      · rw [if_pos hji]
      · rw [if_neg hji]
        have := (ch_err h (j - i)).2
        rw [show i + (j - i) = j by omega] at this
        exact this.symm
theorem V9_next {bs : List UInt8} {Q i : Nat} (j : Nat) : V9 bs Q (i + 1) j = if j = i then chV bs Q 0 i else V9 bs Q i j := by
  unfold V9
  by_cases h : j = i
  · subst h; rw [if_pos (by omega), if_pos rfl]
  · rw [if_neg h]
    by_cases h2 : j < i
    · rw [if_pos (by omega), if_pos h2]
    · rw [if_neg (by omega), if_neg h2]
theorem V9_zero {bs : List UInt8} {Q : Nat} (j : Nat) : V9 bs Q 0 j = 0 := by unfold V9; rw [if_neg (by omega)]
theorem V9_same {bs : List UInt8} {Q i j : Nat} (h : i ≤ j) : V9 bs Q i j = 0 := by unfold V9; rw [if_neg (by omega)]
theorem V9_old {bs : List UInt8} {Q i j : Nat} (h : j < i) : V9 bs Q i j = chV bs Q 0 j := by unfold V9; rw [if_pos h]
theorem readT_lt (bs : List UInt8) (limit : Nat) : (readT bs limit).2.2 < 16 := by
  have hf := read_fair bs limit
  unfold Fair at hf
  unfold readT
  split
  · simp only; omega
  · split
    · simp
    · simp
theorem rdT_fits {bs : List UInt8} {q e limit : Nat} (hq : q ≤ bs.length) (he : e < 16) : (rdT bs q e limit).2.1 ≤ bs.length ∧ (rdT bs q e limit).2.2 < 16 := by
  unfold rdT
  by_cases h : e = 0
  · rw [if_pos h]
    have := readT_fair (bs.drop q) limit
    have h2 := readT_lt (bs.drop q) limit
    rw [List.length_drop] at this
    simp only
    omega
  · rw [if_neg h]; exact ⟨hq, he⟩
theorem readS_range {bs : List UInt8} {q e : Nat} (hq : q ≤ bs.length) (he : e < 16) : (readS bs q e).2.1 ≤ bs.length ∧ FitSs (readS bs q e).1 ∧ (readS bs q e).1.length ≤ 1024 ∧ (readS bs q e).2.2 < 16 := by
  by_cases h : e = 0
  · subst h; exact readS_fits hq
  · have h2 : readS bs q e = ([], q, e) := by unfold readS; rw [rdN_err h]; simp only; rw [rdL_err _ _ _ _ h]; simp only; rw [if_neg h]
    rw [h2]
    exact ⟨hq, fun x hx => (by cases hx), by simp, he⟩
theorem fitOm_zero : FitOm o0 := by unfold FitOm o0; simp [FitSs]
theorem readB_range {bs : List UInt8} {k : Nat} {t : Nat × Nat × Nat} {q e : Nat} (hq : q ≤ bs.length) (he : e < 16) (hk : k ≤ 5) (h1 : t.1 ≤ 65535) (h2 : t.2.1 ≤ 268435456) (h3 : t.2.2 ≤ 268435456) : (readB bs k t q e).2.1 ≤ bs.length ∧ (readB bs k t q e).2.2 < 16 ∧ FitOm (readB bs k t q e).1 ∧ (readB bs k t q e).1.spans.length ≤ 1024 ∧ (readB bs k t q e).1.text.length ≤ 1000000 ∨ 1000000 < bs.length := by
  by_cases hb : 1000000 < bs.length
  · exact Or.inr hb
  refine Or.inl ?_
  have a := rdT_fits (limit := 64) hq he
  have b := readS_range hq he
  have c := rdN_fits (e := e) (limit := 268435456) hq
  have c3 : (rdN bs q e 268435456).2.2 < 16 := by have := c.2.2; omega
  have d : (rdT bs q e 64).1.length ≤ bs.length := by
    unfold rdT
    by_cases h : e = 0
    · rw [if_pos h]
      have := readT_fair (bs.drop q) 64
      rw [List.length_drop] at this
      rcases this with h | h
      · simp only; omega
      · simp only; rw [h.1]; simp
    · rw [if_neg h]; simp
  unfold readB
  by_cases k1 : k = 1
  · rw [if_pos k1]
    split
    · refine ⟨a.1, a.2, ?_, by simp, by simp only; omega⟩
      unfold FitOm; simp only
      refine ⟨by omega, by omega, by omega, by omega, by omega, by omega, by omega, by omega, fun x hx => (by cases hx), by omega, by omega⟩
    · exact ⟨a.1, a.2, fitOm_zero, by simp [o0], by simp [o0]⟩
  · rw [if_neg k1]
    by_cases k2 : k = 2 ∨ k = 3
    · rw [if_pos k2]
      split
      · refine ⟨b.1, b.2.2.2, ?_, b.2.2.1, by simp⟩
        unfold FitOm; simp only
        refine ⟨by omega, by omega, by omega, by omega, by omega, by omega, by omega, by omega, b.2.1, by omega, by omega⟩
      · exact ⟨b.1, b.2.2.2, fitOm_zero, by simp [o0], by simp [o0]⟩
    · rw [if_neg k2]
      split
      · refine ⟨c.1, c3, ?_, by simp, by simp⟩
        unfold FitOm; simp only
        refine ⟨by omega, by omega, by omega, by omega, by omega, by omega, by omega, by omega, fun x hx => (by cases hx), by omega, by omega⟩
      · exact ⟨c.1, c3, fitOm_zero, by simp [o0], by simp [o0]⟩
theorem readO_range {bs : List UInt8} {q e : Nat} (hq : q ≤ bs.length) (he : e < 16) (hb : bs.length ≤ 1000000) : (readO bs q e).2.1 ≤ bs.length ∧ (readO bs q e).2.2 < 16 ∧ FitOm (readO bs q e).1 ∧ (readO bs q e).1.spans.length ≤ 1024 := by
  have a := rdN_fits (e := e) (limit := 5) hq
  have b := rdN_fits (bs := bs) (q := (rdN bs q e 5).2.1) (e := (rdN bs q e 5).2.2) (limit := 65535) a.1
  have c := rdN_fits (bs := bs) (q := (rdN bs (rdN bs q e 5).2.1 (rdN bs q e 5).2.2 65535).2.1) (e := (rdN bs (rdN bs q e 5).2.1 (rdN bs q e 5).2.2 65535).2.2) (limit := 268435456) b.1
  have d := rdN_fits (bs := bs) (q := (rdN bs (rdN bs (rdN bs q e 5).2.1 (rdN bs q e 5).2.2 65535).2.1 (rdN bs (rdN bs q e 5).2.1 (rdN bs q e 5).2.2 65535).2.2 268435456).2.1) (e := (rdN bs (rdN bs (rdN bs q e 5).2.1 (rdN bs q e 5).2.2 65535).2.1 (rdN bs (rdN bs q e 5).2.1 (rdN bs q e 5).2.2 65535).2.2 268435456).2.2) (limit := 268435456) c.1
  unfold readO
  split
  · have := readB_range (bs := bs) (k := (rdN bs q e 5).1) (t := (rdP bs (rdN bs q e 5).2.1 (rdN bs q e 5).2.2).1) (q := (rdP bs (rdN bs q e 5).2.1 (rdN bs q e 5).2.2).2.1) (e := (rdP bs (rdN bs q e 5).2.1 (rdN bs q e 5).2.2).2.2) d.1 (by unfold rdP; simp only; omega) (by omega) b.2.1 c.2.1 d.2.1
    rcases this with h | h
    · exact ⟨h.1, h.2.1, h.2.2.1, h.2.2.2.1⟩
    · omega
  · have := readB_range (bs := bs) (k := (rdN bs q e 5).1) (t := (0, 0, 0)) (q := (rdN bs q e 5).2.1) (e := (rdN bs q e 5).2.2) a.1 (by omega) (by omega) (by simp) (by simp) (by simp)
    rcases this with h | h
    · exact ⟨h.1, h.2.1, h.2.2.1, h.2.2.2.1⟩
    · omega
theorem rdOs_range {bs : List UInt8} (hb : bs.length ≤ 1000000) : ∀ (n q e : Nat), q ≤ bs.length → e < 16 → (∀ o ∈ (rdOs bs n q e).1, FitOm o ∧ o.spans.length ≤ 1024) ∧ (rdOs bs n q e).1.length ≤ n := by
  intro n
  induction n with
  | zero => intro q e _ _; exact ⟨fun o ho => (by cases ho), by simp [rdOs]⟩
  | succ n ih =>
    intro q e hq he
    rw [rdOs]
    split
    · have r := readO_range hq (e := 0) (by omega) hb
      have i := ih (readO bs q 0).2.1 (readO bs q 0).2.2 r.1 r.2.1
      refine ⟨fun o ho => ?_, by simp only [List.length_cons]; omega⟩
      rcases List.mem_cons.1 ho with rfl | ho
      · exact ⟨r.2.2.1, r.2.2.2⟩
      · exact i.1 o ho
    · exact ⟨fun o ho => (by cases ho), by simp⟩
theorem fitTm_zero : FitTm t0 := by unfold FitTm t0; simp
theorem readTx_range {bs : List UInt8} {q e : Nat} (hq : q ≤ bs.length) (he : e < 16) (hb : bs.length ≤ 1000000) : FitTm (readTx bs q e).1 ∧ (∀ o ∈ (readTx bs q e).1.ops, o.spans.length ≤ 1024) ∧ (readTx bs q e).1.ops.length ≤ 16 := by
  rw [readTx_ch]
  have c0 := chV_le (E := e) hq 0
  have c1 := chV_le (E := e) hq 1
  have c2 := chV_le (E := e) hq 2
  have c3 := chV_le (E := e) hq 3
  have c4 := chV_le (E := e) hq 4
  have s5 := chS_le (E := e) hq 5
  have r := rdOs_range hb (chV bs q e 4) (chS bs q e 5).1 (chS bs q e 5).2 s5.1 (by omega)
  unfold lim9 at c0 c1 c2 c3 c4
  simp only at c0 c1 c2 c3 c4
  split
  · refine ⟨?_, fun o ho => (r.1 o ho).2, by simp only; omega⟩
    unfold FitTm
    simp only
    refine ⟨by omega, by omega, by omega, by omega, by omega, by omega, by omega, by omega, fun o ho => (r.1 o ho).1⟩
  · exact ⟨fitTm_zero, fun o ho => (by cases ho), by simp [t0]⟩
/-- Operations one by one: what was read so far, and what is still to be read. -/
theorem rdOs_step {bs : List UInt8} {n k q : Nat} (hk : k < n) : rdOs bs (n - k) q 0 = ((readO bs q 0).1 :: (rdOs bs (n - (k + 1)) (readO bs q 0).2.1 (readO bs q 0).2.2).1, (rdOs bs (n - (k + 1)) (readO bs q 0).2.1 (readO bs q 0).2.2).2) := by
  rw [show n - k = (n - (k + 1)) + 1 by omega, rdOs, if_pos rfl]
end Go.Proofs.YtjkdcpalgfakhaaGreat
/-
  Entries of vectors as plain lists, how a slice of entries lies in memory, and what the document's Get hands back. No conditions beyond what each theorem states.
-/
namespace Go.Proofs.YtjkdcpalgfakhaaGreat.Vec
open Go.ChangeShapes Go.WideShapes Go.ChangeAt Go.RowKit
set_option linter.unusedVariables false
set_option linter.unusedSimpArgs false

abbrev En := Int × Int
def atL (xs : List En) (i : Nat) : En := xs.getD i (0, 0)

/-- A slice's address, at which the entries lie, two cells each. -/
def Row (w : World) (p : Option Addr) (xs : List En) : Prop :=
  ∀ i, i < xs.length → ∃ b o, p = some ⟨b, o, none⟩ ∧ w.cell? ⟨b, o + i * 2, none⟩ = some (.int .u16 (atL xs i).1) ∧ w.cell? ⟨b, o + i * 2 + 1, none⟩ = some (.int .u32 (atL xs i).2)

theorem Row.below {w w' : World} {p : Option Addr} {xs : List En} (h : Row w p xs) (hb : Below w.heap.size w w') : Row w' p xs := fun i hi => by
  obtain ⟨b, o, e, h1, h2⟩ := h i hi
  exact ⟨b, o, e, by rw [hb.cell (block_lt_of_cell h1)]; exact h1, by rw [hb.cell (block_lt_of_cell h2)]; exact h2⟩

theorem below_step {w w' w'' : World} (h : Below w.heap.size w w') (k : Below w'.heap.size w' w'') : Below w.heap.size w w'' := h.trans (k.mono h.size)
theorem below_alloc {w W : World} (h : Below w.heap.size w W) (o : Obj) : Below w.heap.size w (W.alloc o) := h.alloc h.size o

/-- How far a replica's work is known. -/
def getL : List En → Int → Int
  | [], _ => 0
  | x :: xs, r => if x.1 = r then x.2 else getL xs r

theorem getL_none {xs : List En} {r : Int} (h : ∀ i, i < xs.length → (atL xs i).1 ≠ r) : getL xs r = 0 := by
  induction xs with
  | nil => rfl
  | cons x xs ih =>
    have h0 := h 0 (by simp)
    simp [atL] at h0
    rw [getL, if_neg h0]
    exact ih fun i hi => by have := h (i + 1) (by simp; omega); simpa [atL] using this

theorem getL_at {xs : List En} {r : Int} {k : Nat} (hk : k < xs.length) (h : ∀ i, i < k → (atL xs i).1 ≠ r) (e : (atL xs k).1 = r) : getL xs r = (atL xs k).2 := by
  induction xs generalizing k with
  | nil => simp at hk
  | cons x xs ih =>
    cases k with
    | zero => simp [atL] at e ⊢; rw [getL, if_pos e]
    | succ k =>
      have h0 := h 0 (by omega)
      simp [atL] at h0
      rw [getL, if_neg h0, ih (k := k) (by simpa using hk) (fun i hi => by have := h (i + 1) (by omega); simpa [atL] using this) (by simpa [atL] using e)]
      simp [atL]

set_option maxHeartbeats 1600000 in
theorem refget_any (xs : List En) (r : Int) (p : Option Addr) (c : Nat) (w : World) (hR : Row w p xs) (hl : xs.length ≤ 4611686018427387904) :
    Calls Tryz.prog 46 #[.slice p xs.length c, .int .u16 r] w fun e w' => e = .returned (.int .u32 (getL xs r)) ∧ w' = w := by
  go_enter Tryz.func46, Tryz.ntmps46
  go_wp2
  go_loopg [5] xs.length (fun g i wr => ∃ k : Nat, k ≤ xs.length ∧ xs.length - k ≤ g ∧ i = .int .i64 k ∧ wr = w ∧ ∀ j, j < k → (atL xs j).1 ≠ r)
  case atStart => exact ⟨0, Nat.zero_le _, by omega, rfl, rfl, fun j hj => by omega⟩
  case round =>
    obtain ⟨k, hk, hg, rfl, rfl, hno⟩ := hrel
    by_cases hlt : k < xs.length
    · obtain ⟨b, o, rfl, c0, c1⟩ := hR k hlt
      have HN : Hid (∀ j, j < k → (atL xs j).1 ≠ r) := hno
      have HE : Hid (∀ j, (atL xs j).1 = (atL xs j).1) := fun _ => rfl
      clear hno hR
      generalize hx : (atL xs k).1 = x at c0
      generalize hy : (atL xs k).2 = y at c1
      have B : Hid ((atL xs k).1 = x ∧ (atL xs k).2 = y) := ⟨hx, hy⟩
      clear hx hy
      by_cases he : x = r
      · subst he
        go_wp2
        go_ret
        exact ⟨by rw [getL_at hlt HN.out B.out.1, B.out.2]; rfl, rfl⟩
      · have he' : (x == r) = false := by simp [he]
        go_wp2
        go_roundg (xs.length - (k + 1))
        case measure => omega
        case rel => exact ⟨k + 1, by omega, Nat.le_refl _, by go_num, rfl, fun j hj => by
          by_cases e : j = k
          · subst e; rw [B.out.1]; exact he
          · exact HN.out j (by omega)⟩
    · have : k = xs.length := by omega
      subst this
      have HN : Hid (∀ j, j < xs.length → (atL xs j).1 ≠ r) := hno
      clear hno
      go_wp2
      go_ret
      exact ⟨by rw [getL_none HN.out]; rfl, rfl⟩

end Go.Proofs.YtjkdcpalgfakhaaGreat.Vec
/-
  What Right, its reference, same and Sum hand back, for every list of entries that lies in memory. No conditions beyond what each theorem states.
-/
namespace Go.Proofs.YtjkdcpalgfakhaaGreat.Vec
open Go.ChangeShapes Go.WideShapes Go.ChangeAt Go.RowKit
set_option linter.unusedVariables false
set_option linter.unusedSimpArgs false

def okAt (xs : List En) (i : Nat) : Prop := 1 ≤ (atL xs i).2 ∧ (atL xs i).2 ≤ 268435456 ∧ (0 < i → (atL xs (i - 1)).1 < (atL xs i).1)
def decOk (xs : List En) (i : Nat) : Decidable (okAt xs i) := inferInstanceAs (Decidable (1 ≤ (atL xs i).2 ∧ (atL xs i).2 ≤ 268435456 ∧ (0 < i → (atL xs (i - 1)).1 < (atL xs i).1)))
/-- The entries are a vector. -/
def RightP (xs : List En) : Prop := ∀ i, i < xs.length → okAt xs i
def decRight (xs : List En) : Decidable (RightP xs) := @Nat.decidableBallLT xs.length (fun i _ => okAt xs i) (fun i _ => decOk xs i)
def rightB (xs : List En) : Bool := @decide (RightP xs) (decRight xs)
theorem rightB_true {xs : List En} (h : ∀ i, i < xs.length → okAt xs i) : rightB xs = true := @decide_eq_true _ (decRight xs) h
theorem rightB_false {xs : List En} {k : Nat} (hk : k < xs.length) (h : ¬ okAt xs k) : rightB xs = false := @decide_eq_false _ (decRight xs) fun hh => h (hh k hk)

theorem ret_bool {a b : Bool} (h : a = b) : Ending.returned (.bool a) = .returned (.bool b) := by rw [h]

set_option maxHeartbeats 1600000 in
theorem refright_any (xs : List En) (p : Option Addr) (c : Nat) (w : World) (hR : Row w p xs) (hl : xs.length ≤ 4611686018427387904) :
    Calls Tryz.prog 21 #[.slice p xs.length c] w fun e w' => e = .returned (.bool (rightB xs)) ∧ Below w.heap.size w w' := by
  have HR : Hid (Row w p xs) := hR
  clear hR
  go_enter Tryz.func21, Tryz.ntmps21
  go_wp2
  go_loopg [3] xs.length (fun g i wr => ∃ k q : Nat, k ≤ xs.length ∧ xs.length - k ≤ g ∧ i = .int .i64 k ∧ wr = w.drewN q ∧ ∀ j, j < k → okAt xs j)
  case atStart => exact ⟨0, 0, Nat.zero_le _, by omega, rfl, rfl, fun j hj => by omega⟩
  case round =>
    obtain ⟨k, q, hk, hg, rfl, rfl, hno⟩ := hrel
    have HN : Hid (∀ j, j < k → okAt xs j) := hno
    clear hno
    by_cases hlt : k < xs.length
    · obtain ⟨b, o, rfl, c0, c1⟩ := HR.out k hlt
      generalize hx : (atL xs k).1 = x at c0
      generalize hy : (atL xs k).2 = y at c1
      have B : Hid ((atL xs k).1 = x ∧ (atL xs k).2 = y) := ⟨hx, hy⟩
      clear hx hy
      by_cases h1 : y < 1
      · go_wp2
        go_ret
        exact ⟨ret_bool (rightB_false hlt (fun h => by have := h.1; rw [B.out.2] at this; omega)).symm, Below.trans (Below.refl _ _) ⟨rfl, rfl, rfl, Nat.le_refl _, fun _ _ => rfl⟩⟩
      · by_cases h2 : 268435456 < y
        · go_wp2
          go_ret
          exact ⟨ret_bool (rightB_false hlt (fun h => by have := h.2.1; rw [B.out.2] at this; omega)).symm, Below.trans (Below.refl _ _) ⟨rfl, rfl, rfl, Nat.le_refl _, fun _ _ => rfl⟩⟩
        · by_cases h3 : 0 < k
          · obtain ⟨b', o', e', d0, d1⟩ := HR.out (k - 1) (by omega)
            cases e'
            clear d1
            generalize hu : (atL xs (k - 1)).1 = u at d0
            have U : Hid ((atL xs (k - 1)).1 = u) := hu
            clear hu
            have h3' : (0 : Int) < (k : Int) := by omega
            have hk1 : (k : Int) - 1 = ((k - 1 : Nat) : Int) := by omega
            have hlt1 : k - 1 < xs.length := by omega
            by_cases h4 : x ≤ u
            · have h4' : decide (x ≤ u) = true := by simp [h4]
              go_wp2_with fail
              go_quiet (fail)
              go_wp2
              go_ret
              exact ⟨ret_bool (rightB_false hlt (fun h => by have := h.2.2 h3; rw [B.out.1, U.out] at this; omega)).symm, Below.trans (Below.refl _ _) ⟨rfl, rfl, rfl, Nat.le_refl _, fun _ _ => rfl⟩⟩
            · have h4' : decide (x ≤ u) = false := by simp [h4]
              go_wp2_with fail
              go_quiet (fail)
              go_wp2
              go_roundg (xs.length - (k + 1))
              case measure => omega
              case rel => exact ⟨k + 1, _, by omega, Nat.le_refl _, by go_num, rfl, fun j hj => by
                by_cases e : j = k
                · subst e; exact ⟨by rw [B.out.2]; omega, by rw [B.out.2]; omega, fun _ => by rw [B.out.1, U.out]; omega⟩
                · exact HN.out j (by omega)⟩
          · have hk0 : k = 0 := by omega
            subst hk0
            go_wp2_with fail
            go_quiet (fail)
            go_wp2
            go_roundg (xs.length - (0 + 1))
            case measure => omega
            case rel => exact ⟨1, _, by omega, Nat.le_refl _, by go_num, rfl, fun j hj => by
              have : j = 0 := by omega
              subst this; exact ⟨by rw [B.out.2]; omega, by rw [B.out.2]; omega, fun h => by omega⟩⟩
    · have : k = xs.length := by omega
      subst this
      go_wp2
      go_ret
      exact ⟨ret_bool (rightB_true HN.out).symm, Below.trans (Below.refl _ _) ⟨rfl, rfl, rfl, Nat.le_refl _, fun _ _ => rfl⟩⟩

theorem below_drewN {B : Nat} {a w : World} (h : Below B a w) (n : Nat) : Below B a (w.drewN n) := h.trans ⟨rfl, rfl, rfl, Nat.le_refl _, fun _ _ => rfl⟩
theorem cellU {w W : World} {a : Addr} {v : Value} (h : w.cell? a = some v) (hb : Below w.heap.size w W) : W.cell? a = some v := by rw [hb.cell (block_lt_of_cell h)]; exact h

theorem cellA {W : World} {a : Addr} {v : Value} (h : W.cell? a = some v) (o : Obj) : (W.alloc o).cell? a = some v := cellU h (below_alloc (Below.refl _ _) o)

/-- Sum: of how much is known. -/
def sumL : List En → Int
  | [] => 0
  | x :: xs => x.2 + sumL xs
theorem sumL_take (xs : List En) (k : Nat) (h : k < xs.length) : sumL (xs.take (k + 1)) = sumL (xs.take k) + (atL xs k).2 := by
  induction xs generalizing k with
  | nil => simp at h
  | cons x xs ih =>
    cases k with
    | zero => simp [sumL, atL]
    | succ k => simp only [List.take_succ_cons, sumL]; rw [ih k (by simpa using h)]; simp [atL]; omega

end Go.Proofs.YtjkdcpalgfakhaaGreat.Vec
