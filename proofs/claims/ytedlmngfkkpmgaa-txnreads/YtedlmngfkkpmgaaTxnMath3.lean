
/-
  How a transaction is read, number by number and operation by operation. Of no program; no conditions beyond what each theorem states.
-/
import Derived.Test.YtedlmngfkkpmgaaTxnMath2
import Derived.Test.YtedlmngfkkpmgaaOpRead5
namespace Go.Proofs.Ytedlmngfkkpmgaa
open Go.ChangeShapes Go.WideShapes Go.ChangeAt Go.RowKit Go.Lib
set_option linter.unusedVariables false
set_option linter.unusedSimpArgs false

def lim9 (i : Nat) : Nat := match i with | 0 => 65535 | 1 => 268435456 | 2 => 1099511627776 | 3 => 7 | _ => 16
/-- Where the number with this place is read, and the error ahead of it. -/
def chS (bs : List UInt8) (Q E : Nat) : Nat → Nat × Nat
  | 0 => (Q, E)
  | i + 1 => (rdN bs (chS bs Q E i).1 (chS bs Q E i).2 (lim9 i)).2
def chV (bs : List UInt8) (Q E i : Nat) : Nat := (rdN bs (chS bs Q E i).1 (chS bs Q E i).2 (lim9 i)).1
theorem chS_succ (bs : List UInt8) (Q E i : Nat) : chS bs Q E (i + 1) = (rdN bs (chS bs Q E i).1 (chS bs Q E i).2 (lim9 i)).2 := rfl
theorem readTx_ch (bs : List UInt8) (Q E : Nat) : readTx bs Q E = (if (rdOs bs (chV bs Q E 4) (chS bs Q E 5).1 (chS bs Q E 5).2).2.2 = 0 then (⟨(chV bs Q E 0 : Int), (chV bs Q E 1 : Int), (chV bs Q E 2 : Int), (chV bs Q E 3 : Int), (rdOs bs (chV bs Q E 4) (chS bs Q E 5).1 (chS bs Q E 5).2).1⟩, (rdOs bs (chV bs Q E 4) (chS bs Q E 5).1 (chS bs Q E 5).2).2) else (t0, (rdOs bs (chV bs Q E 4) (chS bs Q E 5).1 (chS bs Q E 5).2).2)) := rfl
theorem chS_le {bs : List UInt8} {Q E : Nat} (hQ : Q ≤ bs.length) : ∀ i, (chS bs Q E i).1 ≤ bs.length ∧ ((chS bs Q E i).2 < 16 ∨ (chS bs Q E i).2 = E) := by
  intro i
  induction i with
  | zero => exact ⟨hQ, Or.inr rfl⟩
  | succ i ih =>
    rw [chS_succ]
    have := rdN_fits (bs := bs) (q := (chS bs Q E i).1) (e := (chS bs Q E i).2) (limit := lim9 i) ih.1
    omega
theorem chV_le {bs : List UInt8} {Q E : Nat} (hQ : Q ≤ bs.length) (i : Nat) : chV bs Q E i ≤ lim9 i := (rdN_fits (bs := bs) (q := (chS bs Q E i).1) (e := (chS bs Q E i).2) (limit := lim9 i) (chS_le hQ i).1).2.1
theorem ch_err {bs : List UInt8} {Q E i : Nat} (h : (chS bs Q E i).2 ≠ 0) : ∀ j, chS bs Q E (i + j) = chS bs Q E i ∧ chV bs Q E (i + j) = 0 := by
  intro j
  induction j with
  | zero => exact ⟨rfl, by unfold chV; rw [Nat.add_zero, rdN_err h]⟩
  | succ j ih =>
    have e : chS bs Q E (i + (j + 1)) = chS bs Q E i := by
      rw [← Nat.add_assoc, chS_succ, ih.1, rdN_err h]
    refine ⟨e, ?_⟩
    unfold chV
    rw [e, rdN_err h]
/-- Number j, behind the first i ones. -/
def V9 (bs : List UInt8) (Q i j : Nat) : Nat := if j < i then chV bs Q 0 j else 0
theorem V9_end {bs : List UInt8} {Q i : Nat} (hi : i ≤ 5) (h : i = 5 ∨ (chS bs Q 0 i).2 ≠ 0) : chS bs Q 0 5 = chS bs Q 0 i ∧ ∀ j, j < 5 → V9 bs Q i j = chV bs Q 0 j := by
  rcases h with rfl | h
  · exact ⟨rfl, fun j hj => by unfold V9; rw [if_pos hj]⟩
  · refine ⟨?_, fun j hj => ?_⟩
    · have := (ch_err h (5 - i)).1
      rwa [show i + (5 - i) = 5 by omega] at this
    · unfold V9
      by_cases hji : j < i
      · rw [if_pos hji]
      · rw [if_neg hji]
        have := (ch_err h (j - i)).2
        rw [show i + (j - i) = j by omega] at this
        exact this.symm
theorem V9_next {bs : List UInt8} {Q i : Nat} (j : Nat) : V9 bs Q (i + 1) j = if j = i then chV bs Q 0 i else V9 bs Q i j := by
  unfold V9
  by_cases h : j = i
  · subst h; rw [if_pos (by omega), if_pos rfl]
  · rw [if_neg h]
    by_cases h2 : j < i
    · rw [if_pos (by omega), if_pos h2]
    · rw [if_neg (by omega), if_neg h2]
theorem V9_zero {bs : List UInt8} {Q : Nat} (j : Nat) : V9 bs Q 0 j = 0 := by unfold V9; rw [if_neg (by omega)]
theorem V9_same {bs : List UInt8} {Q i j : Nat} (h : i ≤ j) : V9 bs Q i j = 0 := by unfold V9; rw [if_neg (by omega)]
theorem V9_old {bs : List UInt8} {Q i j : Nat} (h : j < i) : V9 bs Q i j = chV bs Q 0 j := by unfold V9; rw [if_pos h]
theorem readT_lt (bs : List UInt8) (limit : Nat) : (readT bs limit).2.2 < 16 := by
  have hf := read_fair bs limit
  unfold Fair at hf
  unfold readT
  split
  · simp only; omega
  · split
    · simp
    · simp
theorem rdT_fits {bs : List UInt8} {q e limit : Nat} (hq : q ≤ bs.length) (he : e < 16) : (rdT bs q e limit).2.1 ≤ bs.length ∧ (rdT bs q e limit).2.2 < 16 := by
  unfold rdT
  by_cases h : e = 0
  · rw [if_pos h]
    have := readT_fair (bs.drop q) limit
    have h2 := readT_lt (bs.drop q) limit
    rw [List.length_drop] at this
    simp only
    omega
  · rw [if_neg h]; exact ⟨hq, he⟩
theorem readS_range {bs : List UInt8} {q e : Nat} (hq : q ≤ bs.length) (he : e < 16) : (readS bs q e).2.1 ≤ bs.length ∧ FitSs (readS bs q e).1 ∧ (readS bs q e).1.length ≤ 1024 ∧ (readS bs q e).2.2 < 16 := by
  by_cases h : e = 0
  · subst h; exact readS_fits hq
  · have h2 : readS bs q e = ([], q, e) := by unfold readS; rw [rdN_err h]; simp only; rw [rdL_err _ _ _ _ h]; simp only; rw [if_neg h]
    rw [h2]
    exact ⟨hq, fun x hx => (by cases hx), by simp, he⟩
theorem fitOm_zero : FitOm o0 := by unfold FitOm o0; simp [FitSs]
theorem readB_range {bs : List UInt8} {k : Nat} {t : Nat × Nat × Nat} {q e : Nat} (hq : q ≤ bs.length) (he : e < 16) (hk : k ≤ 5) (h1 : t.1 ≤ 65535) (h2 : t.2.1 ≤ 268435456) (h3 : t.2.2 ≤ 268435456) : (readB bs k t q e).2.1 ≤ bs.length ∧ (readB bs k t q e).2.2 < 16 ∧ FitOm (readB bs k t q e).1 ∧ (readB bs k t q e).1.spans.length ≤ 1024 ∧ (readB bs k t q e).1.text.length ≤ 1000000 ∨ 1000000 < bs.length := by
  by_cases hb : 1000000 < bs.length
  · exact Or.inr hb
  refine Or.inl ?_
  have a := rdT_fits (limit := 64) hq he
  have b := readS_range hq he
  have c := rdN_fits (e := e) (limit := 268435456) hq
  have c3 : (rdN bs q e 268435456).2.2 < 16 := by have := c.2.2; omega
  have d : (rdT bs q e 64).1.length ≤ bs.length := by
    unfold rdT
    by_cases h : e = 0
    · rw [if_pos h]
      have := readT_fair (bs.drop q) 64
      rw [List.length_drop] at this
      rcases this with h | h
      · simp only; omega
      · simp only; rw [h.1]; simp
    · rw [if_neg h]; simp
  unfold readB
  by_cases k1 : k = 1
  · rw [if_pos k1]
    split
    · refine ⟨a.1, a.2, ?_, by simp, by simp only; omega⟩
      unfold FitOm; simp only
      refine ⟨by omega, by omega, by omega, by omega, by omega, by omega, by omega, by omega, fun x hx => (by cases hx), by omega, by omega⟩
    · exact ⟨a.1, a.2, fitOm_zero, by simp [o0], by simp [o0]⟩
  · rw [if_neg k1]
    by_cases k2 : k = 2 ∨ k = 3
    · rw [if_pos k2]
      split
      · refine ⟨b.1, b.2.2.2, ?_, b.2.2.1, by simp⟩
        unfold FitOm; simp only
        refine ⟨by omega, by omega, by omega, by omega, by omega, by omega, by omega, by omega, b.2.1, by omega, by omega⟩
      · exact ⟨b.1, b.2.2.2, fitOm_zero, by simp [o0], by simp [o0]⟩
    · rw [if_neg k2]
      split
      · refine ⟨c.1, c3, ?_, by simp, by simp⟩
        unfold FitOm; simp only
        refine ⟨by omega, by omega, by omega, by omega, by omega, by omega, by omega, by omega, fun x hx => (by cases hx), by omega, by omega⟩
      · exact ⟨c.1, c3, fitOm_zero, by simp [o0], by simp [o0]⟩
theorem readO_range {bs : List UInt8} {q e : Nat} (hq : q ≤ bs.length) (he : e < 16) (hb : bs.length ≤ 1000000) : (readO bs q e).2.1 ≤ bs.length ∧ (readO bs q e).2.2 < 16 ∧ FitOm (readO bs q e).1 ∧ (readO bs q e).1.spans.length ≤ 1024 := by
  have a := rdN_fits (e := e) (limit := 5) hq
  have b := rdN_fits (bs := bs) (q := (rdN bs q e 5).2.1) (e := (rdN bs q e 5).2.2) (limit := 65535) a.1
  have c := rdN_fits (bs := bs) (q := (rdN bs (rdN bs q e 5).2.1 (rdN bs q e 5).2.2 65535).2.1) (e := (rdN bs (rdN bs q e 5).2.1 (rdN bs q e 5).2.2 65535).2.2) (limit := 268435456) b.1
  have d := rdN_fits (bs := bs) (q := (rdN bs (rdN bs (rdN bs q e 5).2.1 (rdN bs q e 5).2.2 65535).2.1 (rdN bs (rdN bs q e 5).2.1 (rdN bs q e 5).2.2 65535).2.2 268435456).2.1) (e := (rdN bs (rdN bs (rdN bs q e 5).2.1 (rdN bs q e 5).2.2 65535).2.1 (rdN bs (rdN bs q e 5).2.1 (rdN bs q e 5).2.2 65535).2.2 268435456).2.2) (limit := 268435456) c.1
  unfold readO
  split
  · have := readB_range (bs := bs) (k := (rdN bs q e 5).1) (t := (rdP bs (rdN bs q e 5).2.1 (rdN bs q e 5).2.2).1) (q := (rdP bs (rdN bs q e 5).2.1 (rdN bs q e 5).2.2).2.1) (e := (rdP bs (rdN bs q e 5).2.1 (rdN bs q e 5).2.2).2.2) d.1 (by unfold rdP; simp only; omega) (by omega) b.2.1 c.2.1 d.2.1
    rcases this with h | h
    · exact ⟨h.1, h.2.1, h.2.2.1, h.2.2.2.1⟩
    · omega
  · have := readB_range (bs := bs) (k := (rdN bs q e 5).1) (t := (0, 0, 0)) (q := (rdN bs q e 5).2.1) (e := (rdN bs q e 5).2.2) a.1 (by omega) (by omega) (by simp) (by simp) (by simp)
    rcases this with h | h
    · exact ⟨h.1, h.2.1, h.2.2.1, h.2.2.2.1⟩
    · omega
theorem rdOs_range {bs : List UInt8} (hb : bs.length ≤ 1000000) : ∀ (n q e : Nat), q ≤ bs.length → e < 16 → (∀ o ∈ (rdOs bs n q e).1, FitOm o ∧ o.spans.length ≤ 1024) ∧ (rdOs bs n q e).1.length ≤ n := by
  intro n
  induction n with
  | zero => intro q e _ _; exact ⟨fun o ho => (by cases ho), by simp [rdOs]⟩
  | succ n ih =>
    intro q e hq he
    rw [rdOs]
    split
    · have r := readO_range hq (e := 0) (by omega) hb
      have i := ih (readO bs q 0).2.1 (readO bs q 0).2.2 r.1 r.2.1
      refine ⟨fun o ho => ?_, by simp only [List.length_cons]; omega⟩
      rcases List.mem_cons.1 ho with rfl | ho
      · exact ⟨r.2.2.1, r.2.2.2⟩
      · exact i.1 o ho
    · exact ⟨fun o ho => (by cases ho), by simp⟩
theorem fitTm_zero : FitTm t0 := by unfold FitTm t0; simp
theorem readTx_range {bs : List UInt8} {q e : Nat} (hq : q ≤ bs.length) (he : e < 16) (hb : bs.length ≤ 1000000) : FitTm (readTx bs q e).1 ∧ (∀ o ∈ (readTx bs q e).1.ops, o.spans.length ≤ 1024) ∧ (readTx bs q e).1.ops.length ≤ 16 := by
  rw [readTx_ch]
  have c0 := chV_le (E := e) hq 0
  have c1 := chV_le (E := e) hq 1
  have c2 := chV_le (E := e) hq 2
  have c3 := chV_le (E := e) hq 3
  have c4 := chV_le (E := e) hq 4
  have s5 := chS_le (E := e) hq 5
  have r := rdOs_range hb (chV bs q e 4) (chS bs q e 5).1 (chS bs q e 5).2 s5.1 (by omega)
  unfold lim9 at c0 c1 c2 c3 c4
  simp only at c0 c1 c2 c3 c4
  split
  · refine ⟨?_, fun o ho => (r.1 o ho).2, by simp only; omega⟩
    unfold FitTm
    simp only
    refine ⟨by omega, by omega, by omega, by omega, by omega, by omega, by omega, by omega, fun o ho => (r.1 o ho).1⟩
  · exact ⟨fitTm_zero, fun o ho => (by cases ho), by simp [t0]⟩
/-- Operations one by one: what was read so far, and what is still to be read. -/
theorem rdOs_step {bs : List UInt8} {n k q : Nat} (hk : k < n) : rdOs bs (n - k) q 0 = ((readO bs q 0).1 :: (rdOs bs (n - (k + 1)) (readO bs q 0).2.1 (readO bs q 0).2.2).1, (rdOs bs (n - (k + 1)) (readO bs q 0).2.1 (readO bs q 0).2.2).2) := by
  rw [show n - k = (n - (k + 1)) + 1 by omega, rdOs, if_pos rfl]
end Go.Proofs.Ytedlmngfkkpmgaa
