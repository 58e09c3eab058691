
/-
  Spans as bytes: how they are written, and what is read of any bytes. Of no program but how bytes lie in memory; no conditions beyond what each theorem states.
-/
import Derived.Test.YtedlmngfkkpmgaaSpanSpec
import Derived.Test.YtedlmngfkkpmgaaPackEnc
namespace Go.Proofs.Ytedlmngfkkpmgaa
open Go.ChangeShapes Go.WideShapes Go.ChangeAt Go.RowKit Go.Lib
set_option linter.unusedVariables false
set_option linter.unusedSimpArgs false

/-- Spans, written. -/
def bytesS (s : Sp) : List UInt8 := encN s.1.toNat ++ encN s.2.1.toNat ++ encN s.2.2.toNat
def bytesL (l : List Sp) : List UInt8 := encN l.length ++ l.flatMap bytesS

/-- Three numbers, read one behind the other; nothing more is read behind an error. -/
def rd3 (bs : List UInt8) (q e : Nat) : Sp × Nat × Nat :=
  let a := rdN bs q e 65535
  let b := rdN bs a.2.1 a.2.2 268435456
  let c := rdN bs b.2.1 b.2.2 1024
  (((a.1 : Int), (b.1 : Int), (c.1 : Int)), c.2.1, c.2.2)
/-- So many spans, read one behind the other. -/
def rdL (bs : List UInt8) : Nat → Nat → Nat → List Sp × Nat × Nat
  | 0, q, e => ([], q, e)
  | n + 1, q, e => if e = 0 then ((rd3 bs q 0).1 :: (rdL bs n (rd3 bs q 0).2.1 (rd3 bs q 0).2.2).1, (rdL bs n (rd3 bs q 0).2.1 (rd3 bs q 0).2.2).2) else ([], q, e)
theorem rdL_err (bs : List UInt8) (n q e : Nat) (h : e ≠ 0) : rdL bs n q e = ([], q, e) := by
  cases n with
  | zero => rfl
  | succ n => rw [rdL, if_neg h]
/-- Spans at a place: none, if there is an error. -/
def readS (bs : List UInt8) (q e : Nat) : List Sp × Nat × Nat :=
  let c := rdN bs q e 1024
  let r := rdL bs c.1 c.2.1 c.2.2
  (if r.2.2 = 0 then r.1 else [], r.2.1, r.2.2)

theorem rdN_fits {bs : List UInt8} {q e limit : Nat} (hq : q ≤ bs.length) : (rdN bs q e limit).2.1 ≤ bs.length ∧ (rdN bs q e limit).1 ≤ limit ∧ ((rdN bs q e limit).2.2 < 16 ∨ (rdN bs q e limit).2.2 = e) := by
  unfold rdN
  split
  · have := read_fair (bs.drop q) limit
    unfold Fair at this
    rw [List.length_drop] at this
    simp only
    omega
  · exact ⟨hq, Nat.zero_le _, Or.inr rfl⟩
theorem rdN_err {bs : List UInt8} {q e limit : Nat} (h : e ≠ 0) : rdN bs q e limit = (0, q, e) := by unfold rdN; rw [if_neg h]
theorem rdN_read {bs : List UInt8} {q limit : Nat} : rdN bs q 0 limit = ((readN (bs.drop q) limit).1, q + (readN (bs.drop q) limit).2.1, (readN (bs.drop q) limit).2.2) := by unfold rdN; rw [if_pos rfl]
theorem rd3_fits {bs : List UInt8} {q : Nat} (hq : q ≤ bs.length) : (rd3 bs q 0).2.1 ≤ bs.length ∧ FitS (rd3 bs q 0).1 ∧ (rd3 bs q 0).2.2 < 16 := by
  have h1 := rdN_fits (e := 0) (limit := 65535) hq
  have h2 := rdN_fits (e := (rdN bs q 0 65535).2.2) (limit := 268435456) h1.1
  have h3 := rdN_fits (e := (rdN bs (rdN bs q 0 65535).2.1 (rdN bs q 0 65535).2.2 268435456).2.2) (limit := 1024) h2.1
  unfold rd3 FitS
  simp only
  omega
theorem rdL_fits {bs : List UInt8} : ∀ n q e, q ≤ bs.length → e < 16 → (rdL bs n q e).2.1 ≤ bs.length ∧ FitSs (rdL bs n q e).1 ∧ (rdL bs n q e).1.length ≤ n ∧ (rdL bs n q e).2.2 < 16 := by
  intro n
  induction n with
  | zero => intro q e hq he; exact ⟨hq, (by intro x hx; simp [rdL] at hx), by simp [rdL], he⟩
  | succ n ih =>
    intro q e hq he
    by_cases h : e = 0
    · obtain ⟨a1, a2, a3⟩ := rd3_fits hq
      obtain ⟨b1, b2, b3, b4⟩ := ih _ _ a1 a3
      rw [rdL, if_pos h]
      refine ⟨b1, ?_, by simp; omega, b4⟩
      intro x hx
      rcases List.mem_cons.1 hx with rfl | hx
      · exact a2
      · exact b2 x hx
    · rw [rdL, if_neg h]
      exact ⟨hq, (by intro x hx; simp at hx), by simp, he⟩
theorem readS_fits {bs : List UInt8} {q : Nat} (hq : q ≤ bs.length) : (readS bs q 0).2.1 ≤ bs.length ∧ FitSs (readS bs q 0).1 ∧ (readS bs q 0).1.length ≤ 1024 ∧ (readS bs q 0).2.2 < 16 := by
  have h1 := rdN_fits (e := 0) (limit := 1024) hq
  obtain ⟨b1, b2, b3, b4⟩ := rdL_fits (bs := bs) (rdN bs q 0 1024).1 (rdN bs q 0 1024).2.1 (rdN bs q 0 1024).2.2 h1.1 (by omega)
  unfold readS
  simp only
  refine ⟨b1, ?_, ?_, b4⟩
  · split
    · exact b2
    · intro x hx; simp at hx
  · split
    · omega
    · simp

/-- What was written is read again. -/
theorem rdN_at {pre post : List UInt8} {n limit : Nat} (hn : n < 9223372036854775808) (hl : n ≤ limit) : rdN (pre ++ (encN n ++ post)) pre.length 0 limit = (n, pre.length + (encN n).length, 0) := by
  unfold rdN
  rw [if_pos rfl, List.drop_left, read_enc hn hl]
theorem rd3_at {pre post : List UInt8} {s : Sp} (hr : rightS s = true) (hf : FitS s) : rd3 (pre ++ (bytesS s ++ post)) pre.length 0 = (s, pre.length + (bytesS s).length, 0) := by
  have h := rightS_iff.1 hr
  unfold FitS at hf
  unfold bytesS rd3
  have e1 : rdN (pre ++ ((encN s.1.toNat ++ encN s.2.1.toNat ++ encN s.2.2.toNat) ++ post)) pre.length 0 65535 = (s.1.toNat, pre.length + (encN s.1.toNat).length, 0) := by
    rw [List.append_assoc (encN s.1.toNat ++ encN s.2.1.toNat), List.append_assoc (encN s.1.toNat)]
    exact rdN_at (by omega) (by omega)
  have e2 : rdN (pre ++ ((encN s.1.toNat ++ encN s.2.1.toNat ++ encN s.2.2.toNat) ++ post)) (pre.length + (encN s.1.toNat).length) 0 268435456 = (s.2.1.toNat, pre.length + (encN s.1.toNat).length + (encN s.2.1.toNat).length, 0) := by
    have := rdN_at (pre := pre ++ encN s.1.toNat) (post := encN s.2.2.toNat ++ post) (n := s.2.1.toNat) (limit := 268435456) (by omega) (by omega)
    rw [List.length_append] at this
    rw [← this]
    simp only [List.append_assoc]
  have e3 : rdN (pre ++ ((encN s.1.toNat ++ encN s.2.1.toNat ++ encN s.2.2.toNat) ++ post)) (pre.length + (encN s.1.toNat).length + (encN s.2.1.toNat).length) 0 1024 = (s.2.2.toNat, pre.length + (encN s.1.toNat).length + (encN s.2.1.toNat).length + (encN s.2.2.toNat).length, 0) := by
    have := rdN_at (pre := pre ++ encN s.1.toNat ++ encN s.2.1.toNat) (post := post) (n := s.2.2.toNat) (limit := 1024) (by omega) (by omega)
    rw [List.length_append, List.length_append] at this
    rw [← this]
    simp only [List.append_assoc]
  rw [e1]
  simp only
  rw [e2]
  simp only
  rw [e3]
  simp only [List.length_append]
  refine Prod.ext ?_ (Prod.ext (by simp only; omega) rfl)
  refine Prod.ext ?_ (Prod.ext ?_ ?_) <;> simp only <;> omega
theorem rdL_at : ∀ (l : List Sp) (pre post : List UInt8), RightS l → FitSs l → rdL (pre ++ (l.flatMap bytesS ++ post)) l.length pre.length 0 = (l, pre.length + (l.flatMap bytesS).length, 0) := by
  intro l
  induction l with
  | nil => intro pre post _ _; simp [rdL]
  | cons s l ih =>
    intro pre post hr hf
    have e1 := rd3_at (pre := pre) (post := l.flatMap bytesS ++ post) (hr s (by simp)) (hf s (by simp))
    have e2 := ih (pre ++ bytesS s) post (fun x hx => hr x (by simp [hx])) (fun x hx => hf x (by simp [hx]))
    rw [List.length_append] at e2
    rw [List.flatMap_cons, List.length_cons, rdL, if_pos rfl, List.append_assoc, e1]
    simp only
    rw [List.append_assoc] at e2
    rw [e2]
    simp only [List.length_append]
    refine Prod.ext rfl (Prod.ext (by simp only; omega) rfl)
theorem readS_all {l : List Sp} (hr : RightS l) (hf : FitSs l) (hl : l.length ≤ 1024) : readS (bytesL l) 0 0 = (l, (bytesL l).length, 0) := by
  unfold readS bytesL
  have e1 := rdN_at (pre := []) (post := l.flatMap bytesS) (n := l.length) (limit := 1024) (by omega) (by omega)
  rw [List.nil_append, List.length_nil] at e1
  rw [e1]
  have e2 := rdL_at l (encN l.length) [] hr hf
  rw [List.append_nil] at e2
  simp only [Nat.zero_add]
  rw [e2]
  simp
theorem bytesS_len {s : Sp} (hf : FitS s) : (bytesS s).length ≤ 27 := by
  unfold FitS at hf
  unfold bytesS
  rw [List.length_append, List.length_append]
  have h1 := encN_len (n := s.1.toNat) (by omega)
  have h2 := encN_len (n := s.2.1.toNat) (by omega)
  have h3 := encN_len (n := s.2.2.toNat) (by omega)
  omega
theorem bytesL_len {l : List Sp} (hf : FitSs l) (hl : l.length ≤ 1024) : (bytesL l).length ≤ 9 + 27 * l.length := by
  unfold bytesL
  rw [List.length_append]
  have h1 := encN_len (n := l.length) (by omega)
  have h2 : (l.flatMap bytesS).length ≤ 27 * l.length := by
    clear h1 hl
    induction l with
    | nil => simp
    | cons s l ih =>
      have := ih (fun x hx => hf x (by simp [hx]))
      have := bytesS_len (hf s (by simp))
      rw [List.flatMap_cons, List.length_append, List.length_cons]; omega
  omega

end Go.Proofs.Ytedlmngfkkpmgaa
