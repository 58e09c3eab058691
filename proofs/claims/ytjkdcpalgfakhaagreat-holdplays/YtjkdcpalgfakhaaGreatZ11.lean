/-
  Several texts of one proof, joined: each part says at its head what it proves. No conditions beyond what each theorem states.
-/
import Derived.Lib.Hide
import Derived.Test.YtjkdcpalgfakhaaGreatZ06
import Derived.Test.YtjkdcpalgfakhaaGreatZ10
import Derived.Test.YtjkdcpalgfakhaaGreatZ04
import Derived.Test.YtjkdcpalgfakhaaGreatZ07
import Derived.Test.YtjkdcpalgfakhaaGreatZ05
/-
  Whatever is read of bytes, written, is just these bytes: numbers, texts, spans, operations, transactions, entries. Of no program; no conditions beyond what each theorem states.
-/
namespace Go.Proofs.YtjkdcpalgfakhaaGreat
open Go.ChangeShapes Go.WideShapes Go.ChangeAt Go.RowKit Go.Lib
set_option linter.unusedVariables false
set_option linter.unusedSimpArgs false

/-- The bytes from a place to another one. -/
def seg (bs : List UInt8) (a b : Nat) : List UInt8 := (bs.drop a).take (b - a)
theorem seg_join {bs : List UInt8} {a b c : Nat} (h : a ≤ b) (h2 : b ≤ c) : seg bs a b ++ seg bs b c = seg bs a c := by
  unfold seg
  rw [show c - a = (b - a) + (c - b) by omega, List.take_add, List.drop_drop, show a + (b - a) = b by omega]
theorem seg_none (bs : List UInt8) (a : Nat) : seg bs a a = [] := by unfold seg; rw [Nat.sub_self, List.take_zero]
theorem seg_all {bs : List UInt8} {b : Nat} (h : bs.length ≤ b) : seg bs 0 b = bs := by unfold seg; rw [List.drop_zero, Nat.sub_zero, List.take_of_length_le h]
theorem scan_back (limit : Nat) : ∀ f (bs : List UInt8) k n, (scanN limit f bs k n).2.2 = 0 → ∃ m, (scanN limit f bs k n).1 = n + m * 128 ^ k ∧ k ≤ (scanN limit f bs k n).2.1 ∧ encN m = bs.take ((scanN limit f bs k n).2.1 - k) ∧ (0 < m ∨ k = 0) := by
  intro f
  induction f with
  | zero => intro bs k n h; simp [scanN] at h
  | succ f ih =>
    intro bs k n h
    cases bs with
    | nil => simp [scanN] at h
    | cons b r =>
      rw [scanN] at h ⊢
      have hb : b.toNat < 256 := b.toNat_lt
      by_cases h1 : 128 ≤ b.toNat
      · rw [if_pos h1] at h ⊢
        obtain ⟨m, e1, e2, e3, e4⟩ := ih r (k + 1) _ h
        have hm : 0 < m := by omega
        refine ⟨b.toNat % 128 + m * 128, ?_, by omega, ?_, Or.inl (by omega)⟩
        · rw [e1, Nat.add_mul, Nat.pow_succ, Nat.mul_comm (128 ^ k) 128, ← Nat.mul_assoc]; omega
        · rw [encN_big (by omega), show (b.toNat % 128 + m * 128) / 128 = m by omega, e3]
          generalize (scanN limit f r (k + 1) (n + b.toNat % 128 * 128 ^ k)).2.1 = q at e2 ⊢
          rw [show q - k = (q - (k + 1)) + 1 by omega, List.take_succ_cons]
          congr 1
          apply UInt8.toNat.inj
          rw [u8_nat (by omega)]
          omega
      · rw [if_neg h1] at h ⊢
        by_cases h2 : b.toNat = 0 ∧ 0 < k
        · rw [if_pos h2] at h; simp at h
        · rw [if_neg h2] at h ⊢
          by_cases h3 : limit < n + b.toNat % 128 * 128 ^ k
          · rw [if_pos h3] at h; simp at h
          · rw [if_neg h3] at h ⊢
            refine ⟨b.toNat, by simp only; rw [Nat.mod_eq_of_lt (by omega)], by simp, ?_, by omega⟩
            rw [encN_small (by omega)]
            simp only [Nat.add_sub_cancel_left]
            simp
theorem read_back {bs : List UInt8} {limit : Nat} (h : (readN bs limit).2.2 = 0) : encN (readN bs limit).1 = bs.take (readN bs limit).2.1 := by
  obtain ⟨m, e1, -, e3, -⟩ := scan_back limit 9 bs 0 0 h
  unfold readN
  rw [e1, Nat.zero_add, Nat.pow_zero, Nat.mul_one, e3, Nat.sub_zero]
/-- A number, read: its bytes are those between. -/
theorem back_N {bs : List UInt8} {q limit : Nat} (hq : q ≤ bs.length) (h : (rdN bs q 0 limit).2.2 = 0) : q ≤ (rdN bs q 0 limit).2.1 ∧ (rdN bs q 0 limit).2.1 ≤ bs.length ∧ encN (rdN bs q 0 limit).1 = seg bs q (rdN bs q 0 limit).2.1 := by
  have hf := rdN_fits (bs := bs) (q := q) (e := 0) (limit := limit) hq
  rw [rdN_read] at h hf ⊢
  simp only at h hf ⊢
  refine ⟨by omega, hf.1, ?_⟩
  rw [read_back h]
  unfold seg
  rw [Nat.add_sub_cancel_left]
/-- An error ahead stays. -/
theorem err_N {bs : List UInt8} {q e limit : Nat} (h : (rdN bs q e limit).2.2 = 0) : e = 0 := by
  by_cases he : e = 0
  · exact he
  · rw [rdN_err he] at h; exact h
theorem readT_ok {bs : List UInt8} {limit : Nat} (h : (readT bs limit).2.2 = 0) : (readN bs limit).2.2 = 0 ∧ (readN bs limit).1 ≤ bs.length - (readN bs limit).2.1 ∧ readT bs limit = ((bs.drop (readN bs limit).2.1).take (readN bs limit).1, (readN bs limit).2.1 + (readN bs limit).1, 0) := by
  unfold readT at h ⊢
  by_cases h1 : (readN bs limit).2.2 ≠ 0
  · rw [if_pos h1] at h; exact absurd h h1
  · rw [if_neg h1] at h ⊢
    by_cases h2 : bs.length - (readN bs limit).2.1 < (readN bs limit).1
    · rw [if_pos h2] at h; simp at h
    · rw [if_neg h2]
      exact ⟨by omega, by omega, rfl⟩
/-- What was read lies between two places, and has just their bytes. -/
def Back (bs : List UInt8) (a b : Nat) (x : List UInt8) : Prop := a ≤ b ∧ b ≤ bs.length ∧ x = seg bs a b
theorem Back.trans {bs : List UInt8} {a b c : Nat} {x y : List UInt8} (h : Back bs a b x) (k : Back bs b c y) : Back bs a c (x ++ y) :=
  ⟨Nat.le_trans h.1 k.1, k.2.1, by rw [h.2.2, k.2.2, seg_join h.1 k.1]⟩
theorem Back.nil {bs : List UInt8} {a : Nat} (h : a ≤ bs.length) : Back bs a a [] := ⟨Nat.le_refl _, h, (seg_none bs a).symm⟩
theorem bk_N {bs : List UInt8} {q e limit : Nat} (hq : q ≤ bs.length) (h : (rdN bs q e limit).2.2 = 0) : e = 0 ∧ Back bs q (rdN bs q e limit).2.1 (encN (rdN bs q e limit).1) := by
  have he := err_N h
  subst he
  exact ⟨rfl, back_N hq h⟩
theorem bk_T {bs : List UInt8} {q e limit : Nat} (hq : q ≤ bs.length) (h : (rdT bs q e limit).2.2 = 0) : e = 0 ∧ Back bs q (rdT bs q e limit).2.1 (encT (rdT bs q e limit).1) := by
  unfold rdT at h ⊢
  by_cases he : e = 0
  · rw [if_pos he] at h ⊢
    refine ⟨he, ?_⟩
    simp only at h ⊢
    obtain ⟨h1, h2, h3⟩ := readT_ok h
    have hb := read_back h1
    have hf := read_fair (bs.drop q) limit
    unfold Fair at hf
    rw [List.length_drop] at hf h2
    rw [h3]
    simp only
    refine ⟨by omega, by omega, ?_⟩
    unfold encT seg
    rw [List.length_take, List.length_drop, List.length_drop, Nat.min_eq_left (by omega), hb, show q + ((readN (bs.drop q) limit).2.1 + (readN (bs.drop q) limit).1) - q = (readN (bs.drop q) limit).2.1 + (readN (bs.drop q) limit).1 by omega, List.take_add]
  · rw [if_neg he] at h; exact absurd h he
theorem bk_3 {bs : List UInt8} {q e : Nat} (hq : q ≤ bs.length) (h : (rd3 bs q e).2.2 = 0) : e = 0 ∧ Back bs q (rd3 bs q e).2.1 (bytesS (rd3 bs q e).1) := by
  unfold rd3 at h ⊢
  simp only at h ⊢
  have f1 := rdN_fits (bs := bs) (q := q) (e := e) (limit := 65535) hq
  have f2 := rdN_fits (bs := bs) (q := (rdN bs q e 65535).2.1) (e := (rdN bs q e 65535).2.2) (limit := 268435456) f1.1
  obtain ⟨e3, b3⟩ := bk_N f2.1 h
  obtain ⟨e2, b2⟩ := bk_N f1.1 e3
  obtain ⟨e1, b1⟩ := bk_N hq e2
  refine ⟨e1, ?_⟩
  unfold bytesS
  simp only [Int.toNat_natCast]
  exact (b1.trans b2).trans b3
theorem bk_L {bs : List UInt8} : ∀ (n q e : Nat), q ≤ bs.length → (rdL bs n q e).2.2 = 0 → e = 0 ∧ (rdL bs n q e).1.length = n ∧ Back bs q (rdL bs n q e).2.1 ((rdL bs n q e).1.flatMap bytesS) := by
  intro n
  induction n with
  | zero => intro q e hq h; exact ⟨h, rfl, Back.nil hq⟩
  | succ n ih =>
    intro q e hq h
    by_cases he : e = 0
    · rw [rdL, if_pos he] at h ⊢
      simp only at h ⊢
      obtain ⟨a1, a2, a3⟩ := rd3_fits hq
      obtain ⟨i1, i2, i3⟩ := ih _ _ a1 h
      obtain ⟨-, b1⟩ := bk_3 hq i1
      refine ⟨he, by simp [i2], ?_⟩
      rw [List.flatMap_cons]
      exact b1.trans i3
    · rw [rdL_err _ _ _ _ he] at h; exact absurd h he
theorem bk_S {bs : List UInt8} {q e : Nat} (hq : q ≤ bs.length) (h : (readS bs q e).2.2 = 0) : e = 0 ∧ Back bs q (readS bs q e).2.1 (bytesL (readS bs q e).1) := by
  unfold readS at h ⊢
  simp only at h ⊢
  have f1 := rdN_fits (bs := bs) (q := q) (e := e) (limit := 1024) hq
  obtain ⟨e2, l2, b2⟩ := bk_L _ _ _ f1.1 h
  obtain ⟨e1, b1⟩ := bk_N hq e2
  refine ⟨e1, ?_⟩
  rw [if_pos h]
  unfold bytesL
  rw [l2]
  exact b1.trans b2
/-- An operation's bytes behind its kind and anchor. -/
def tailO (o : Om) : List UInt8 := if o.kind = 1 then encT o.text else if o.kind = 2 ∨ o.kind = 3 then bytesL o.spans else encN o.seq.toNat
theorem bk_B {bs : List UInt8} {k : Nat} {t : Nat × Nat × Nat} {q e : Nat} (hq : q ≤ bs.length) (h : (readB bs k t q e).2.2 = 0) : e = 0 ∧ Back bs q (readB bs k t q e).2.1 (tailO (readB bs k t q e).1) ∧ (readB bs k t q e).1.kind = (k : Int) ∧ (readB bs k t q e).1.r = (t.1 : Int) ∧ (readB bs k t q e).1.n = (t.2.1 : Int) ∧ (readB bs k t q e).1.num = (t.2.2 : Int) := by
  unfold readB at h ⊢
  by_cases k1 : k = 1
  · subst k1
    rw [if_pos rfl] at h ⊢
    by_cases h0 : (rdT bs q e 64).2.2 = 0
    · rw [if_pos h0] at h ⊢
      obtain ⟨e1, b1⟩ := bk_T hq h0
      exact ⟨e1, b1, rfl, rfl, rfl, rfl⟩
    · rw [if_neg h0] at h; exact absurd h h0
  · rw [if_neg k1] at h ⊢
    by_cases k2 : k = 2 ∨ k = 3
    · rw [if_pos k2] at h ⊢
      by_cases h0 : (readS bs q e).2.2 = 0
      · rw [if_pos h0] at h ⊢
        obtain ⟨e1, b1⟩ := bk_S hq h0
        refine ⟨e1, ?_, rfl, rfl, rfl, rfl⟩
        unfold tailO
        simp only
        rw [if_neg (by omega), if_pos (by omega)]
        exact b1
      · rw [if_neg h0] at h; exact absurd h h0
    · rw [if_neg k2] at h ⊢
      by_cases h0 : (rdN bs q e 268435456).2.2 = 0
      · rw [if_pos h0] at h ⊢
        obtain ⟨e1, b1⟩ := bk_N hq h0
        refine ⟨e1, ?_, rfl, rfl, rfl, rfl⟩
        unfold tailO
        simp only
        rw [if_neg (by omega), if_neg (by omega), Int.toNat_natCast]
        exact b1
      · rw [if_neg h0] at h; exact absurd h h0
theorem bytesO_tail (o : Om) : bytesO o = encN o.kind.toNat ++ (if o.kind = 1 ∨ o.kind = 3 then encN o.r.toNat ++ (encN o.n.toNat ++ encN o.num.toNat) else []) ++ tailO o := rfl
theorem bk_O {bs : List UInt8} {q e : Nat} (hq : q ≤ bs.length) (h : (readO bs q e).2.2 = 0) : e = 0 ∧ Back bs q (readO bs q e).2.1 (bytesO (readO bs q e).1) := by
  have f1 := rdN_fits (bs := bs) (q := q) (e := e) (limit := 5) hq
  have f2 := rdN_fits (bs := bs) (q := (rdN bs q e 5).2.1) (e := (rdN bs q e 5).2.2) (limit := 65535) f1.1
  have f3 := rdN_fits (bs := bs) (q := (rdN bs (rdN bs q e 5).2.1 (rdN bs q e 5).2.2 65535).2.1) (e := (rdN bs (rdN bs q e 5).2.1 (rdN bs q e 5).2.2 65535).2.2) (limit := 268435456) f2.1
  have f4 := rdN_fits (bs := bs) (q := (rdN bs (rdN bs (rdN bs q e 5).2.1 (rdN bs q e 5).2.2 65535).2.1 (rdN bs (rdN bs q e 5).2.1 (rdN bs q e 5).2.2 65535).2.2 268435456).2.1) (e := (rdN bs (rdN bs (rdN bs q e 5).2.1 (rdN bs q e 5).2.2 65535).2.1 (rdN bs (rdN bs q e 5).2.1 (rdN bs q e 5).2.2 65535).2.2 268435456).2.2) (limit := 268435456) f3.1
  unfold readO at h ⊢
  by_cases hk : (rdN bs q e 5).1 = 1 ∨ (rdN bs q e 5).1 = 3
  · rw [if_pos hk] at h ⊢
    obtain ⟨e5, b5, c1, c2, c3, c4⟩ := bk_B (by unfold rdP; exact f4.1) h
    generalize hO : readB bs (rdN bs q e 5).1 (rdP bs (rdN bs q e 5).2.1 (rdN bs q e 5).2.2).1 (rdP bs (rdN bs q e 5).2.1 (rdN bs q e 5).2.2).2.1 (rdP bs (rdN bs q e 5).2.1 (rdN bs q e 5).2.2).2.2 = O at *
    unfold rdP at e5 b5 c2 c3 c4
    simp only at e5 b5 c2 c3 c4
    obtain ⟨e4, b4⟩ := bk_N f3.1 e5
    obtain ⟨e3, b3⟩ := bk_N f2.1 e4
    obtain ⟨e2, b2⟩ := bk_N f1.1 e3
    obtain ⟨e1, b1⟩ := bk_N hq e2
    refine ⟨e1, ?_⟩
    have hb : bytesO O.1 = encN (rdN bs q e 5).1 ++ ((encN (rdN bs (rdN bs q e 5).2.1 (rdN bs q e 5).2.2 65535).1 ++ (encN (rdN bs (rdN bs (rdN bs q e 5).2.1 (rdN bs q e 5).2.2 65535).2.1 (rdN bs (rdN bs q e 5).2.1 (rdN bs q e 5).2.2 65535).2.2 268435456).1 ++ encN (rdN bs (rdN bs (rdN bs (rdN bs q e 5).2.1 (rdN bs q e 5).2.2 65535).2.1 (rdN bs (rdN bs q e 5).2.1 (rdN bs q e 5).2.2 65535).2.2 268435456).2.1 (rdN bs (rdN bs (rdN bs q e 5).2.1 (rdN bs q e 5).2.2 65535).2.1 (rdN bs (rdN bs q e 5).2.1 (rdN bs q e 5).2.2 65535).2.2 268435456).2.2 268435456).1)) ++ tailO O.1) := by
      rw [bytesO_tail, c1, c2, c3, c4, if_pos (by omega)]
      simp only [Int.toNat_natCast, List.append_assoc]
    rw [hb]
    exact b1.trans ((b2.trans (b3.trans b4)).trans b5)
  · rw [if_neg hk] at h ⊢
    obtain ⟨e5, b5, c1, c2, c3, c4⟩ := bk_B f1.1 h
    generalize hO : readB bs (rdN bs q e 5).1 (0, 0, 0) (rdN bs q e 5).2.1 (rdN bs q e 5).2.2 = O at *
    obtain ⟨e1, b1⟩ := bk_N hq e5
    refine ⟨e1, ?_⟩
    have hb : bytesO O.1 = encN (rdN bs q e 5).1 ++ tailO O.1 := by
      rw [bytesO_tail, c1, if_neg (by omega)]
      simp only [Int.toNat_natCast, List.nil_append, List.append_nil]
    rw [hb]
    exact b1.trans b5
theorem bk_Os {bs : List UInt8} (hl : bs.length ≤ 1000000) : ∀ (n q e : Nat), q ≤ bs.length → e < 16 → (rdOs bs n q e).2.2 = 0 → e = 0 ∧ (rdOs bs n q e).1.length = n ∧ Back bs q (rdOs bs n q e).2.1 ((rdOs bs n q e).1.flatMap bytesO) := by
  intro n
  induction n with
  | zero => intro q e hq _ h; exact ⟨h, rfl, Back.nil hq⟩
  | succ n ih =>
    intro q e hq he16 h
    by_cases he : e = 0
    · rw [rdOs, if_pos he] at h ⊢
      simp only at h ⊢
      obtain ⟨a1, a2, -, -⟩ := readO_range (e := 0) hq (by omega) hl
      obtain ⟨i1, i2, i3⟩ := ih _ _ a1 a2 h
      obtain ⟨-, b1⟩ := bk_O hq i1
      refine ⟨he, by simp [i2], ?_⟩
      rw [List.flatMap_cons]
      exact b1.trans i3
    · rw [rdOs_err _ _ _ _ he] at h; exact absurd h he
theorem bk_Tx {bs : List UInt8} (hl : bs.length ≤ 1000000) {q e : Nat} (hq : q ≤ bs.length) (he : e < 16) (h : (readTx bs q e).2.2 = 0) : e = 0 ∧ Back bs q (readTx bs q e).2.1 (bytesT (readTx bs q e).1) := by
  rw [readTx_ch] at h ⊢
  have s5 := chS_le (E := e) hq 5
  have s4 := chS_le (E := e) hq 4
  have s3 := chS_le (E := e) hq 3
  have s2 := chS_le (E := e) hq 2
  have s1 := chS_le (E := e) hq 1
  by_cases h0 : (rdOs bs (chV bs q e 4) (chS bs q e 5).1 (chS bs q e 5).2).2.2 = 0
  · rw [if_pos h0] at h ⊢
    obtain ⟨e6, l6, b6⟩ := bk_Os hl _ _ _ s5.1 (by omega) h0
    obtain ⟨e5, b5⟩ := bk_N s4.1 e6
    obtain ⟨e4, b4⟩ := bk_N s3.1 e5
    obtain ⟨e3, b3⟩ := bk_N s2.1 e4
    obtain ⟨e2, b2⟩ := bk_N s1.1 e3
    obtain ⟨e1, b1⟩ := bk_N (limit := lim9 0) hq e2
    refine ⟨e1, ?_⟩
    unfold bytesT
    simp only [Int.toNat_natCast]
    rw [l6]
    exact b1.trans (b2.trans (b3.trans (b4.trans (b5.trans b6))))
  · rw [if_neg h0] at h; exact absurd h h0
theorem bk_D {bs : List UInt8} {q : Nat} (hq : q ≤ bs.length) (h : (rdD bs q).2.2 = 0) : Back bs q (rdD bs q).2.1 (encN (rdD bs q).1.1.toNat ++ encN (rdD bs q).1.2.toNat) := by
  have f1 := rdN_fits (bs := bs) (q := q) (e := 0) (limit := 65535) hq
  unfold rdD at h ⊢
  simp only at h ⊢
  obtain ⟨e2, b2⟩ := bk_N f1.1 h
  obtain ⟨-, b1⟩ := bk_N hq e2
  simp only [Int.toNat_natCast]
  exact b1.trans b2
theorem bk_Ds {bs : List UInt8} : ∀ (n q e : Nat), q ≤ bs.length → (rdDs bs n q e).2.2 = 0 → e = 0 ∧ (rdDs bs n q e).1.length = n ∧ Back bs q (rdDs bs n q e).2.1 (bytesD (rdDs bs n q e).1) := by
  intro n
  induction n with
  | zero => intro q e hq h; exact ⟨h, rfl, Back.nil hq⟩
  | succ n ih =>
    intro q e hq h
    by_cases he : e = 0
    · subst he
      have hs := rdDs_step (bs := bs) (n := n + 1) (k := 0) (q := q) (by omega)
      rw [Nat.sub_zero, Nat.zero_add, Nat.add_sub_cancel] at hs
      rw [hs] at h ⊢
      simp only at h ⊢
      obtain ⟨i1, i2, i3⟩ := ih _ _ (rdD_range hq).1 h
      have b1 := bk_D hq i1
      refine ⟨by trivial, by simp [i2], ?_⟩
      have hb : bytesD ((rdD bs q).1 :: (rdDs bs n (rdD bs q).2.1 (rdD bs q).2.2).1) = (encN (rdD bs q).1.1.toNat ++ encN (rdD bs q).1.2.toNat) ++ bytesD (rdDs bs n (rdD bs q).2.1 (rdD bs q).2.2).1 := by simp [bytesD]
      rw [hb]
      exact b1.trans i3
    · rw [rdDs_err _ _ _ _ he] at h; exact absurd h he
/-- What is read of a frame's inner bytes has just these bytes, and fits. -/
theorem body_back {bs : List UInt8} (hl : bs.length ≤ 1000000) {e : Em} (h : readBody bs = (e, 0)) : bodyE e = bs ∧ fitE e = 0 := by
  unfold readBody at h
  simp only at h
  have f1 := rdN_fits (bs := bs) (q := 0) (e := 0) (limit := 65536) (Nat.zero_le _)
  have f2 := rdDs_range (bs := bs) (rdN bs 0 0 65536).1 (rdN bs 0 0 65536).2.1 (rdN bs 0 0 65536).2.2 f1.1 (by omega)
  by_cases h1 : (readTx bs (rdDs bs (rdN bs 0 0 65536).1 (rdN bs 0 0 65536).2.1 (rdN bs 0 0 65536).2.2).2.1 (rdDs bs (rdN bs 0 0 65536).1 (rdN bs 0 0 65536).2.1 (rdN bs 0 0 65536).2.2).2.2).2.2 = 0
  · rw [if_neg (by omega)] at h
    obtain ⟨e3, b3⟩ := bk_Tx hl f2.1 f2.2.1 h1
    obtain ⟨e2, l2, b2⟩ := bk_Ds _ _ _ f1.1 e3
    obtain ⟨-, b1⟩ := bk_N (Nat.zero_le _) e2
    have B := b1.trans (b2.trans b3)
    split at h
    · simp at h
    · rename_i hlt
      split at h
      · rename_i hne
        exact absurd (Prod.mk.inj h).2 hne
      · rename_i hfit
        have he := (Prod.mk.inj h).1
        subst he
        refine ⟨?_, by omega⟩
        unfold bodyE
        simp only
        rw [l2, B.2.2, seg_all (by omega)]
  · rw [if_pos h1] at h
    exact absurd (Prod.mk.inj h).2 (by omega)
end Go.Proofs.YtjkdcpalgfakhaaGreat
/-
  An envelope's bytes are read again; what is read of bytes has just these; cut off, or with others behind, or with some bits turned, they are none. Of no program; no conditions beyond what each theorem states.
-/
namespace Go.Proofs.YtjkdcpalgfakhaaGreat
open Go.ChangeShapes Go.WideShapes Go.ChangeAt Go.RowKit Go.Lib
set_option linter.unusedVariables false
set_option linter.unusedSimpArgs false

theorem be4n_num {n : Nat} (h : n < 4294967296) (rest : List UInt8) : num4 (headE n ++ rest) = n := by
  unfold num4 headE be4n
  simp only [List.cons_append, List.getD_cons_succ, List.getD_cons_zero, List.nil_append]
  rw [u8_nat (by omega), u8_nat (by omega), u8_nat (by omega), u8_nat (by omega)]
  omega
theorem head_three (n : Nat) (rest : List UInt8) : ((headE n ++ rest).getD 0 0).toNat = 67 ∧ ((headE n ++ rest).getD 1 0).toNat = 80 ∧ ((headE n ++ rest).getD 2 0).toNat = 1 := ⟨rfl, rfl, rfl⟩
theorem bytesE_parts (e : Em) : bytesE e = headE (bytesE e).length ++ (bodyE e ++ be4 (sumL (frameE e))) := by
  rw [bytesE_len, ← List.append_assoc]
  rfl
theorem readE_ok {bs : List UInt8} (h : (readE bs).2 = 0) : 11 ≤ bs.length ∧ bs.length ≤ 1048576 ∧ (bs.getD 0 0).toNat = 67 ∧ (bs.getD 1 0).toNat = 80 ∧ (bs.getD 2 0).toNat = 1 ∧ num4 bs = bs.length ∧ openL bs = true ∧ readE bs = readBody ((bs.take (bs.length - 4)).drop 7) := by
  unfold readE at h ⊢
  by_cases h1 : bs.length < 11
  · rw [if_pos h1] at h; simp at h
  · rw [if_neg h1] at h ⊢
    by_cases h2 : 1048576 < bs.length
    · rw [if_pos h2] at h; simp at h
    · rw [if_neg h2] at h ⊢
      by_cases h3 : (bs.getD 0 0).toNat ≠ 67 ∨ (bs.getD 1 0).toNat ≠ 80 ∨ (bs.getD 2 0).toNat ≠ 1 ∨ num4 bs ≠ bs.length
      · rw [if_pos h3] at h; simp at h
      · rw [if_neg h3] at h ⊢
        by_cases h4 : openL bs = false
        · rw [if_pos h4] at h; simp at h
        · rw [if_neg h4]
          exact ⟨by omega, by omega, by omega, by omega, by omega, by omega, by simpa using h4, rfl⟩
theorem readE_shut {bs : List UInt8} (h : openL bs = false) : (readE bs).2 ≠ 0 := fun h0 => by
  have := (readE_ok h0).2.2.2.2.2.2.1
  rw [h] at this
  cases this
theorem readE_all {e : Em} (hd : Vec.Fits e.deps) (hl : e.deps.length ≤ 65536) (ht : FitTm e.txn) (h0 : fitE e = 0) (hb : (bytesE e).length ≤ 1048576) : readE (bytesE e) = (e, 0) := by
  have hp := bytesE_parts e
  have hn := be4n_num (n := (bytesE e).length) (by omega) (bodyE e ++ be4 (sumL (frameE e)))
  have h3 := head_three (bytesE e).length (bodyE e ++ be4 (sumL (frameE e)))
  rw [← hp] at hn h3
  have hlen := bytesE_len e
  unfold readE
  rw [if_neg (by omega), if_neg (by omega), if_neg (by omega), if_neg (by rw [show openL (bytesE e) = true from open_seal _]; simp)]
  have ht4 : (bytesE e).take ((bytesE e).length - 4) = frameE e := by
    rw [hlen, show (bodyE e).length + 11 - 4 = (frameE e).length by rw [frameE_len]; omega]
    unfold bytesE sealL
    rw [List.take_left]
  rw [ht4]
  unfold frameE
  rw [show (headE ((bodyE e).length + 11) ++ bodyE e).drop 7 = bodyE e from rfl]
  exact readBody_all hd hl ht h0
theorem five_take {bs : List UInt8} (h : 7 ≤ bs.length) : bs.take 7 = [bs.getD 0 0, bs.getD 1 0, bs.getD 2 0, bs.getD 3 0, bs.getD 4 0, bs.getD 5 0, bs.getD 6 0] := by
  match bs, h with
  | a :: b :: c :: d :: e :: f :: g :: r, _ => rfl
theorem u8_ext {a : UInt8} {n : Nat} (h : a.toNat = n) : a = UInt8.ofNat n := by
  apply UInt8.toNat.inj
  rw [u8_nat (by have := a.toNat_lt; omega), h]
theorem readE_back {bs : List UInt8} {e : Em} (hl : bs.length ≤ 1000000) (h : readE bs = (e, 0)) : bytesE e = bs ∧ fitE e = 0 := by
  obtain ⟨h1, h2, h3, h4, h5, h6, h7, h8⟩ := readE_ok (bs := bs) (by rw [h])
  rw [h8] at h
  obtain ⟨hb, hf⟩ := body_back (by rw [List.length_drop, List.length_take]; omega) h
  refine ⟨?_, hf⟩
  have hlen : (bodyE e).length = bs.length - 11 := by rw [hb, List.length_drop, List.length_take]; omega
  have hfr : frameE e = bs.take (bs.length - 4) := by
    unfold frameE
    rw [hlen, show bs.length - 11 + 11 = bs.length by omega, hb]
    have h7' : headE (num4 bs) = bs.take 7 := by
      rw [five_take (by omega)]
      have b3 := (bs.getD 3 0).toNat_lt
      have b4 := (bs.getD 4 0).toNat_lt
      have b5 := (bs.getD 5 0).toNat_lt
      have b6 := (bs.getD 6 0).toNat_lt
      unfold headE be4n
      rw [u8_ext h3, u8_ext h4, u8_ext h5]
      have e3 : num4 bs / 16777216 = (bs.getD 3 0).toNat := by unfold num4; omega
      have e4 : num4 bs / 65536 % 256 = (bs.getD 4 0).toNat := by unfold num4; omega
      have e5 : num4 bs / 256 % 256 = (bs.getD 5 0).toNat := by unfold num4; omega
      have e6 : num4 bs % 256 = (bs.getD 6 0).toNat := by unfold num4; omega
      rw [e3, e4, e5, e6, ← u8_ext rfl, ← u8_ext rfl, ← u8_ext rfl, ← u8_ext rfl]
      rfl
    have h7n : headE bs.length = bs.take 7 := by rw [← h6]; exact h7'
    rw [h7n, show bs.take 7 = (bs.take (bs.length - 4)).take 7 by rw [List.take_take, Nat.min_eq_left (by omega)], List.take_append_drop]
  unfold bytesE
  rw [hfr]
  exact open_is h7
theorem getD_take {bs : List UInt8} {i k : Nat} (h : i < k) : (bs.take k).getD i 0 = bs.getD i 0 := by
  simp [List.getD_eq_getElem?_getD, List.getElem?_take, h]
theorem num4_take {bs : List UInt8} {k : Nat} (h : 7 ≤ k) : num4 (bs.take k) = num4 bs := by
  unfold num4
  rw [getD_take (by omega), getD_take (by omega), getD_take (by omega), getD_take (by omega)]
theorem num4_bytesE {e : Em} (rest : List UInt8) (h : (bytesE e).length < 4294967296) : num4 (bytesE e ++ rest) = (bytesE e).length := by
  have hp := bytesE_parts e
  have hn := be4n_num h ((bodyE e ++ be4 (sumL (frameE e))) ++ rest)
  rw [← List.append_assoc, ← hp] at hn
  exact hn
theorem readE_cut {e : Em} {k : Nat} (hk : k < (bytesE e).length) (hl : (bytesE e).length < 4294967296) : (readE ((bytesE e).take k)).2 ≠ 0 := fun h0 => by
  obtain ⟨h1, -, -, -, -, h6, -⟩ := readE_ok h0
  rw [List.length_take, Nat.min_eq_left (by omega)] at h1 h6
  rw [num4_take (by omega)] at h6
  have := num4_bytesE [] hl
  rw [List.append_nil] at this
  omega
theorem readE_more {e : Em} {more : List UInt8} (hm : 0 < more.length) (hl : (bytesE e).length < 4294967296) : (readE (bytesE e ++ more)).2 ≠ 0 := fun h0 => by
  obtain ⟨-, -, -, -, -, h6, -⟩ := readE_ok h0
  rw [num4_bytesE more hl, List.length_append] at h6
  omega
end Go.Proofs.YtjkdcpalgfakhaaGreat
/-
  What the laws of layer 9 lean on: what txn's calls hand back (to be proved of the landed code), and the laws' own anchor under that. No conditions beyond what each theorem states.
-/
namespace Go.Proofs.YtjkdcpalgfakhaaGreat
open Go.ChangeShapes Go.WideShapes Go.ChangeAt Go.RowKit Go.Lib
set_option linter.unusedVariables false
set_option linter.unusedSimpArgs false

/-- What is undone, or done again. -/
def undB (t : Tm) : Bool := decide (3 < (t.ops.getD 0 o0).kind)
def undR (t : Tm) : Int := if 3 < (t.ops.getD 0 o0).kind then t.r else 0
def undS (t : Tm) : Int := if 3 < (t.ops.getD 0 o0).kind then (t.ops.getD 0 o0).seq else 0
def IDTSpec : Prop := ∀ (t : Tm) (p : Option Addr) (c : Nat) (w : World), Calls Tryz.prog 26 #[tv t p c] w fun e w' => e = .returned (.agg #[.int .u16 t.r, .int .u32 t.seq]) ∧ Below w.heap.size w w'
/-- A transaction's rows lie below a bound. -/
def BelowB (B : Nat) (xs : List OV) (p : Option Addr) : Prop := (0 < xs.length → ∀ q, p = some q → q.block < B) ∧ ∀ x ∈ xs, 0 < x.1.spans.length → ∀ q, x.2.1 = some q → q.block < B
/-- The document's example. -/
def exO (n : Int) (s : List UInt8) : Om := ⟨1, 0, 0, n, s, [], 0⟩
def exX (m : Int) : List OV := [(exO 4 [97, 98], none, 0), (exO m [99], none, 0)]
def exT (m : Int) : Tm := ⟨0, 1, 1, 0, [exO 4 [97, 98], exO m [99]]⟩
theorem exT_yes : fitT (exT 6) = 0 := by decide
theorem exT_no : fitT (exT 7) = 11 := by decide
theorem exT_in {W : World} {A : Nat} (m : Int) (hm : m = 6 ∨ m = 7) (h : W.heap[A]? = some (.cells #[.int .i64 1, .int .u16 0, .int .u32 0, .int .u32 4, .string ⟨#[97, 98]⟩, .slice none 0 0, .int .u32 0, .int .i64 1, .int .u16 0, .int .u32 0, .int .u32 m, .string ⟨#[99]⟩, .slice none 0 0, .int .u32 0] 99 (0, 0))) : InT (exT m) (exX m) (some ⟨A, 0, none⟩) 2 W := by
  have hf : ∀ n : Int, ∀ s : List UInt8, 0 ≤ n → n ≤ 10 → FitOm (exO n s) := fun n s h1 h2 => by unfold FitOm exO; simp only; refine ⟨by omega, by omega, by omega, by omega, by omega, by omega, by omega, by omega, fun x hx => (by cases hx), by omega, by omega⟩
  have h4 := hf 4 [97, 98] (by omega) (by omega)
  have hm' := hf m [99] (by omega) (by omega)
  refine ⟨?_, rfl, ⟨grow_block (L := layO) (xs := exX m) h, ?_⟩, by simp [exT], fun e => by cases e⟩
  · unfold FitTm exT
    simp only
    refine ⟨by omega, by omega, by omega, by omega, by omega, by omega, by omega, by omega, fun o ho => ?_⟩
    simp only [List.mem_cons, List.not_mem_nil, or_false] at ho
    rcases ho with rfl | rfl
    · exact h4
    · exact hm'
  · intro x hx
    simp only [exX, List.mem_cons, List.not_mem_nil, or_false] at hx
    rcases hx with rfl | rfl
    · exact ⟨h4, GRow.nil _ _ _, Nat.le_refl _, fun _ => rfl⟩
    · exact ⟨hm', GRow.nil _ _ _, Nat.le_refl _, fun _ => rfl⟩
theorem exX_small (m : Int) : SmallX (exX m) := fun x hx => by
  simp only [exX, List.mem_cons, List.not_mem_nil, or_false] at hx
  rcases hx with rfl | rfl
  · simp [exO]
  · simp [exO]
end Go.Proofs.YtjkdcpalgfakhaaGreat
/-
  What the laws of layer 10 lean on: what wire's calls hand back (to be proved of the landed code), and the laws' own anchor under that. No conditions beyond what each theorem states.
-/
namespace Go.Proofs.YtjkdcpalgfakhaaGreat
open Go.ChangeShapes Go.WideShapes Go.ChangeAt Go.RowKit Go.Lib
set_option linter.unusedVariables false
set_option linter.unusedSimpArgs false

/-- An envelope that comes in: its entries and its operations behind their addresses. -/
structure InE (e : Em) (xs : List OV) (p : Option Addr) (c : Nat) (q : Option Addr) (d : Nat) (w : World) : Prop where
  row : Vec.Row w p e.deps
  fits : Vec.Fits e.deps
  cap : e.deps.length ≤ c
  nil : p = none → c = 0
  txn : InT e.txn xs q d w
theorem InE.below {e : Em} {xs : List OV} {p q : Option Addr} {c d : Nat} {w w' : World} (h : InE e xs p c q d w) (hb : Below w.heap.size w w') : InE e xs p c q d w' := ⟨h.row.below hb, h.fits, h.cap, h.nil, h.txn.below hb⟩
/-- What Encode tells. -/
def encE (e : Em) : List UInt8 := if fitE e = 0 then bytesE e else []
/-- What Decode tells. -/
def Decoded (e : Em) (f : Int) (w : World) (r : Ending) (w' : World) : Prop := ∃ xs a b q d, r = .returned (.tuple #[ev e a b q d, .int .i64 f]) ∧ Vec.Row w' a e.deps ∧ RowT e.txn xs q d w' ∧ Below w.heap.size w w'
def ReadyESpec : Prop := ∀ (e : Em) (xs : List OV) (h : List Vec.En) (p q s : Option Addr) (c d f : Nat) (w : World), InE e xs p c q d w → SmallP xs → fitE e = 0 → Vec.Row w s h → h.length ≤ f → (s = none → f = 0) → Vec.Fits h → Vec.RightP h → h.length ≤ 40000 → e.deps.length ≤ 100 → Calls Tryz.prog 30 #[ev e p c q d, .slice s h.length f] w fun r w' => r = .returned (.bool (readyE e h)) ∧ Below w.heap.size w w'
def PastESpec : Prop := ∀ (e : Em) (xs : List OV) (h : List Vec.En) (p q s : Option Addr) (c d f : Nat) (w : World), InE e xs p c q d w → SmallP xs → fitE e = 0 → Vec.Row w s h → h.length ≤ f → (s = none → f = 0) → Vec.Fits h → Vec.RightP h → h.length ≤ 40000 → e.deps.length ≤ 100 → Calls Tryz.prog 38 #[ev e p c q d, .slice s h.length f] w fun r w' => r = .returned (.bool (pastE e h)) ∧ Below w.heap.size w w'
/-- The number of an atom, and whether there is one. -/
def atomN : List Om → Int → Int × Bool
  | [], _ => (0, false)
  | o :: l, i => if i < atomsO o then (o.num + i, true) else atomN l (i - atomsO o)
def atomE (e : Em) (i : Int) : Int × Bool := if i < 0 then (0, false) else atomN e.txn.ops i
/-- The document's example. -/
def exE : Em := ⟨[], ⟨1, 1, 1, 0, [⟨1, 0, 0, 1, [97], [], 0⟩]⟩⟩
theorem exE_fit : fitE exE = 0 := by decide
theorem exE_len : (encE exE).length = 23 := by
  unfold encE
  rw [if_pos exE_fit, bytesE_len]
  unfold bodyE bytesD bytesT bytesO exE
  simp [encN_small, encT]
theorem exE_in {W : World} {A : Nat} (h : W.heap[A]? = some (.cells #[.int .i64 1, .int .u16 0, .int .u32 0, .int .u32 1, .string ⟨#[97]⟩, .slice none 0 0, .int .u32 0] 99 (0, 0))) : InE exE [(⟨1, 0, 0, 1, [97], [], 0⟩, none, 0)] none 0 (some ⟨A, 0, none⟩) 1 W := by
  have hf : FitOm ⟨1, 0, 0, 1, [97], [], 0⟩ := by unfold FitOm; simp only; refine ⟨by omega, by omega, by omega, by omega, by omega, by omega, by omega, by omega, fun x hx => (by cases hx), by omega, by omega⟩
  refine ⟨fun i hi => by simp [exE] at hi, fun x hx => by simp [exE] at hx, by simp [exE], fun _ => rfl, ?_, rfl, ⟨grow_block (L := layO) (xs := [(⟨1, 0, 0, 1, [97], [], 0⟩, none, 0)]) h, ?_⟩, by simp [exE], fun e => by cases e⟩
  · unfold FitTm exE
    simp only
    refine ⟨by omega, by omega, by omega, by omega, by omega, by omega, by omega, by omega, fun o ho => ?_⟩
    rw [List.mem_singleton.1 ho]; exact hf
  · intro x hx
    rw [List.mem_singleton.1 hx]
    exact ⟨hf, GRow.nil _ _ _, Nat.le_refl _, fun _ => rfl⟩
end Go.Proofs.YtjkdcpalgfakhaaGreat
/-
  What a buffer's calls hand back, as premises; what stays whatever a buffer writes; the laws' plain and anchor over them.
-/
namespace Go.Proofs.YtjkdcpalgfakhaaGreat
open Go.ChangeShapes Go.WideShapes Go.ChangeAt Go.RowKit Go.Lib
set_option linter.unusedVariables false
set_option linter.unusedSimpArgs false

/-- What holds whatever is done to the blocks of S. -/
def Firm (S : Nat → Prop) (w : World) (P : World → Prop) : Prop := ∀ w', Kept S w w' → P w'
/-- One call of a buffer: its blocks are its own, or new. -/
structure Step (S S' : Nat → Prop) (w w' : World) : Prop where
  kept : Kept S w w'
  new : ∀ k, k < w.heap.size → S' k → S k
theorem Firm.now {S : Nat → Prop} {w : World} {P : World → Prop} (h : Firm S w P) : P w := h w (Kept.refl S w)
theorem Firm.step {S S' : Nat → Prop} {w w' : World} {P : World → Prop} (h : Firm S w P) (k : Step S S' w w') : Firm S' w' P := fun w2 h2 => h w2 (k.kept.trans h2 k.new)
theorem Firm.below {S : Nat → Prop} {w w' : World} {P : World → Prop} (h : Firm S w P) (hb : Below w.heap.size w w') : Firm S w' P := fun w2 h2 => h w2 ((Kept.ofBelow hb).trans h2 (fun i _ hi => hi))
theorem Firm.mono {S : Nat → Prop} {w : World} {P Q : World → Prop} (h : Firm S w P) (hq : ∀ w', P w' → Q w') : Firm S w Q := fun w2 h2 => hq _ (h w2 h2)
theorem Firm.and {S : Nat → Prop} {w : World} {P Q : World → Prop} (h : Firm S w P) (k : Firm S w Q) : Firm S w (fun W => P W ∧ Q W) := fun w2 h2 => ⟨h w2 h2, k w2 h2⟩
/-- What there was ahead of the buffer. -/
theorem Firm.base {S : Nat → Prop} {w0 w : World} (hb : Below w0.heap.size w0 w) (hS : ∀ k, S k → w0.heap.size ≤ k) : Firm S w (fun W => Below w0.heap.size w0 W) := fun w2 h2 => hb.trans (h2.below hb.size hS)
theorem Firm.vrow {S : Nat → Prop} {w : World} {t : TypeId} (hS : Others S w) (ht : t = 75 ∨ t = 74) {p : Option Addr} {xs : List Vec.En} (h : Vec.Row w p xs) (hk : KindAt t w p) : Firm S w (fun W => Vec.Row W p xs) := fun w2 h2 => vrow_kept h h2 (hS.apart (by rcases ht with rfl | rfl <;> simp) hk)
theorem Firm.list {S : Nat → Prop} {w : World} (hS : Others S w) {p : Option Addr} {xs : List EV} (h : ListE w p xs) : Firm S w (fun W => ListE W p xs) := fun w2 h2 => h.kept hS h2

/-- Does an envelope come in, and with which answer? -/
def putOK (l : List Em) (e : Em) : Bool := !(hasM l e || decide (64 ≤ l.length))
def putErr (l : List Em) (e : Em) : Int := if hasM l e = false ∧ 64 ≤ l.length then 21 else 0
def putL (l : List Em) (e : Em) : List Em := if putOK l e = true then putM l e else l
/-- A row of names. -/
def namesM (l : List Em) : List Vec.En := l.map fun x => (x.txn.r, x.txn.seq)
/-- An envelope that was taken. -/
def Taken (l : List Em) (i : Nat) (r : Ending) (w' : World) : Prop := ∃ e xs p c q d, l[i]? = some e ∧ r = .returned (.tuple #[ev e p c q d, .bool true]) ∧ InE e xs p c q d w' ∧ SmallP xs ∧ xs.length ≤ 40
def TookNone (r : Ending) : Prop := ∃ e p c q d, e.deps = [] ∧ e.txn.ops = [] ∧ r = .returned (.tuple #[ev e p c q d, .bool false])
/-- A vector, as a buffer's call takes it. -/
structure Known (h : List Vec.En) (s : Option Addr) (f : Nat) : Prop where
  cap : h.length ≤ f
  nil : s = none → f = 0
  fits : Vec.Fits h
  right : Vec.RightP h
  len : h.length ≤ 40000
/-- A buffer: `Buf S K l w` says that the one at block K, which writes the blocks of S alone, holds l. -/
structure BufSpec (Buf : (Nat → Prop) → Nat → List Em → World → Prop) : Prop where
  below : ∀ S K l w w', Buf S K l w → Below w.heap.size w w' → Buf S K l w'
  others : ∀ S K l w, Buf S K l w → Others S w
  lt : ∀ S K l w, Buf S K l w → ∀ k, S k → k < w.heap.size
  zero : ∀ w : World, ∃ S, Buf S w.heap.size [] (w.alloc (.cells #[.slice none 0 0] 29)) ∧ ∀ k, S k → w.heap.size ≤ k
  len : ∀ S K l w, Buf S K l w → Calls Tryz.prog 40 #[.pointer (some ⟨K, 0, none⟩)] w fun r w' => r = .returned (.int .i64 (l.length : Int)) ∧ Below w.heap.size w w'
  put : ∀ S K l w e xs p c q d, Buf S K l w → Firm S w (InE e xs p c q d) → SmallP xs → xs.length ≤ 40 → e.deps.length ≤ 100 → fitE e = 0 → Calls Tryz.prog 9 #[.pointer (some ⟨K, 0, none⟩), ev e p c q d] w fun r w' => r = .returned (.tuple #[.bool (putOK l e), .int .i64 (putErr l e)]) ∧ ∃ S', Buf S' K (putL l e) w' ∧ Step S S' w w'
  take : ∀ S K l w h s f, Buf S K l w → Firm S w (fun W => Vec.Row W s h) → Known h s f → Calls Tryz.prog 12 #[.pointer (some ⟨K, 0, none⟩), .slice s h.length f] w fun r w' => ∃ S', Step S S' w w' ∧ ((∃ i, readyM l h = some i ∧ Taken l i r w' ∧ Buf S' K (withoutM l i) w') ∨ (readyM l h = none ∧ TookNone r ∧ Buf S' K l w'))
  drop : ∀ S K l w h s f, Buf S K l w → Firm S w (fun W => Vec.Row W s h) → Known h s f → Calls Tryz.prog 17 #[.pointer (some ⟨K, 0, none⟩), .slice s h.length f] w fun r w' => r = .returned (.int .i64 ((l.length : Int) - ((dropM l h).length : Int))) ∧ ∃ S', Buf S' K (dropM l h) w' ∧ Step S S' w w'
  names : ∀ S K l w, Buf S K l w → Calls Tryz.prog 39 #[.pointer (some ⟨K, 0, none⟩)] w (Vec.Gave w (namesM l))
  wants : ∀ S K l w h s f, Buf S K l w → Vec.Row w s h → Known h s f → Calls Tryz.prog 20 #[.pointer (some ⟨K, 0, none⟩), .slice s h.length f] w fun r w' => ∃ p c, r = .returned (.slice p (wantsM l h).length c) ∧ Firm S w' (fun W => Vec.Row3 W p (wantsM l h)) ∧ Below w.heap.size w w'

/-- An envelope without deps. -/
def plainE (r s : Int) : Em := ⟨[], ⟨r, s, 1, 0, [⟨1, 0, 0, 1, [97], [], 0⟩]⟩⟩
theorem plain_in {W : World} {A : Nat} {r s : Int} (hr : 0 ≤ r ∧ r ≤ 65535) (hs : 0 ≤ s ∧ s ≤ 4294967295) (h : W.heap[A]? = some (.cells #[.int .i64 1, .int .u16 0, .int .u32 0, .int .u32 1, .string ⟨#[97]⟩, .slice none 0 0, .int .u32 0] 99 (0, 0))) : InE (plainE r s) [(⟨1, 0, 0, 1, [97], [], 0⟩, none, 0)] none 0 (some ⟨A, 0, none⟩) 1 W := by
  have hf : FitOm ⟨1, 0, 0, 1, [97], [], 0⟩ := by unfold FitOm; simp only; refine ⟨by omega, by omega, by omega, by omega, by omega, by omega, by omega, by omega, fun x hx => (by cases hx), by omega, by omega⟩
  refine ⟨fun i hi => by simp [plainE] at hi, fun x hx => by simp [plainE] at hx, by simp [plainE], fun _ => rfl, ?_, rfl, ⟨grow_block (L := layO) (xs := [(⟨1, 0, 0, 1, [97], [], 0⟩, none, 0)]) h, ?_⟩, by simp [plainE], fun e => by cases e⟩
  · unfold FitTm plainE
    simp only
    refine ⟨by omega, by omega, by omega, by omega, by omega, by omega, by omega, by omega, fun o ho => ?_⟩
    rw [List.mem_singleton.1 ho]; exact hf
  · intro x hx
    rw [List.mem_singleton.1 hx]
    exact ⟨hf, GRow.nil _ _ _, Nat.le_refl _, fun _ => rfl⟩
theorem plain_fit1 : fitE (plainE 1 2) = 0 := by decide
theorem plain_fit2 : fitE (plainE 2 1) = 0 := by decide
theorem plain_put1 : putOK [] (plainE 1 2) = true ∧ putErr [] (plainE 1 2) = 0 ∧ putL [] (plainE 1 2) = [plainE 1 2] := ⟨by decide, by decide, rfl⟩
theorem plain_put2 : putOK [plainE 1 2] (plainE 2 1) = true ∧ putErr [plainE 1 2] (plainE 2 1) = 0 ∧ putL [plainE 1 2] (plainE 2 1) = [plainE 1 2, plainE 2 1] := ⟨by decide, by decide, rfl⟩
theorem plain_wants : wantsM [plainE 1 2, plainE 2 1] [] = [(1, 1, 1)] := by decide
theorem plain_ready : readyM [plainE 1 2, plainE 2 1] [] = some 1 := by decide
theorem szEnv : (Tryz.prog.info? 38).map (·.size) = some 6 := by kernel_rfl
set_option maxHeartbeats 3200000 in
set_option maxRecDepth 20000 in
theorem plain11_any (r s : Int) (hr : 0 ≤ r ∧ r ≤ 65535) (hs : 0 ≤ s ∧ s ≤ 4294967295) (w : World) : Calls Tryz.prog 19 #[.int .u16 r, .int .u32 s] w fun e w' => ∃ A, w.heap.size ≤ A ∧ e = .returned (.agg #[.slice none 0 0, .int .u16 r, .int .u32 s, .int .u64 1, .int .i64 0, .slice (some ⟨A, 0, none⟩) 1 1]) ∧ w'.heap[A]? = some (.cells #[.int .i64 1, .int .u16 0, .int .u32 0, .int .u32 1, .string ⟨#[97]⟩, .slice none 0 0, .int .u32 0] 99 (0, 0)) ∧ Below w.heap.size w w' := by
  go_enter Tryz.func19, Tryz.ntmps19
  go_wp2
  have h1 := heap_alloc_new w (.cells #[.slice none 0 0, .int .u16 r, .int .u32 s, .int .u64 1, .int .i64 0, .slice (some ⟨w.heap.size + 1, 0, none⟩) 1 1] 38)
  have h2 := heap_alloc_new (w.alloc (.cells #[.slice none 0 0, .int .u16 r, .int .u32 s, .int .u64 1, .int .i64 0, .slice (some ⟨w.heap.size + 1, 0, none⟩) 1 1] 38)) (.cells #[.int .i64 1, .int .u16 0, .int .u32 0, .int .u32 1, .string ⟨#[97]⟩, .slice none 0 0, .int .u32 0] 99)
  have hz : (w.alloc (.cells #[.slice none 0 0, .int .u16 r, .int .u32 s, .int .u64 1, .int .i64 0, .slice (some ⟨w.heap.size + 1, 0, none⟩) 1 1] 38)).heap.size = w.heap.size + 1 := by simp
  rw [hz] at h2
  exact bodyPost_ret (results_cell_row rfl _ _ w.heap.size 38 #[.slice none 0 0, .int .u16 r, .int .u32 s, .int .u64 1, .int .i64 0, .slice (some ⟨w.heap.size + 1, 0, none⟩) 1 1] (0, 0) _ rfl (kept_box h1 (below_alloc (Below.refl _ _) _)) Tryz.underlying38 rfl szEnv) rfl ⟨w.heap.size + 1, by omega, rfl, h2, below_alloc (below_alloc (Below.refl _ _) _) _⟩
set_option maxHeartbeats 3200000 in
set_option maxRecDepth 20000 in
theorem anchor11_any {Buf : (Nat → Prop) → Nat → List Em → World → Prop} (HS : BufSpec Buf) (w : World) : Calls Tryz.prog 4 #[] w fun e w' => e = .returned (.bool true) ∧ Below w.heap.size w w' := by
  obtain ⟨S0, hB0, hS0⟩ := HS.zero w
  have HB0 := Lib.hid hB0
  have HW0 : Hid (Below w.heap.size w (w.alloc (.cells #[.slice none 0 0] 29))) := below_alloc (Below.refl _ _) _
  have HF0 : Hid (Firm S0 (w.alloc (.cells #[.slice none 0 0] 29)) (fun W => Below w.heap.size w W)) := Firm.base HW0.out hS0
  clear hB0 hS0
  go_enter Tryz.func4, Tryz.ntmps4
  go_wp2_with fail
  generalize (w.alloc (.cells #[.slice none 0 0] 29)) = w0 at HB0 HW0 HF0 ⊢
  refine (plain11_any 1 2 (by omega) (by omega) w0).mono ?_
  rintro r w1 ⟨A1, hA1, rfl, hb1, hl1⟩
  have HI1 : Hid (InE (plainE 1 2) [(⟨1, 0, 0, 1, [97], [], 0⟩, none, 0)] none 0 (some ⟨A1, 0, none⟩) 1 w1) := plain_in (by omega) (by omega) hb1
  have HL1 := Lib.hid hl1
  have HK1 : Hid (∀ k, S0 k → k ≠ A1) := fun k hk => by have := HS.lt _ _ _ _ HB0.out k hk; omega
  have HP1 : Hid (Calls Tryz.prog 9 #[.pointer (some ⟨w.heap.size, 0, none⟩), .agg #[.slice none 0 0, .int .u16 1, .int .u32 2, .int .u64 1, .int .i64 0, .slice (some ⟨A1, 0, none⟩) 1 1]] w1 fun r w' => r = .returned (.tuple #[.bool true, .int .i64 0]) ∧ ∃ S', Buf S' w.heap.size [plainE 1 2] w' ∧ Step S0 S' w1 w') := by
    have h := HS.put S0 w.heap.size [] w1 (plainE 1 2) _ none 0 (some ⟨A1, 0, none⟩) 1 (HS.below _ _ _ _ _ HB0.out HL1.out) (fun w2 h2 => plain_in (by omega) (by omega) (h2.stays hb1 (fun hs => HK1.out _ hs rfl))) (fun x hx => by rw [List.mem_singleton.1 hx]; simp) (by simp) (by simp [plainE]) plain_fit1
    rw [plain_put1.1, plain_put1.2.1, plain_put1.2.2] at h
    exact h
  have HF1 := Lib.hid (HF0.out.below HL1.out)
  clear hb1 hl1 HF0 HB0 HK1 HI1 HL1 hA1
  go_wp2_with fail
  refine HP1.out.mono ?_
  rintro r w2 ⟨rfl, S1, hB2, hst⟩
  have HB2 := Lib.hid hB2
  have HF2 := Lib.hid (HF1.out.step hst)
  clear hB2 hst HF1 HP1
  go_wp2_with fail
  refine (plain11_any 2 1 (by omega) (by omega) w2).mono ?_
  rintro r w3 ⟨A2, hA2, rfl, hb3, hl3⟩
  have HL3 := Lib.hid hl3
  have HK2 : Hid (∀ k, S1 k → k ≠ A2) := fun k hk => by have := HS.lt _ _ _ _ HB2.out k hk; omega
  have HP2 : Hid (Calls Tryz.prog 9 #[.pointer (some ⟨w.heap.size, 0, none⟩), .agg #[.slice none 0 0, .int .u16 2, .int .u32 1, .int .u64 1, .int .i64 0, .slice (some ⟨A2, 0, none⟩) 1 1]] w3 fun r w' => r = .returned (.tuple #[.bool true, .int .i64 0]) ∧ ∃ S', Buf S' w.heap.size [plainE 1 2, plainE 2 1] w' ∧ Step S1 S' w3 w') := by
    have h := HS.put S1 w.heap.size [plainE 1 2] w3 (plainE 2 1) _ none 0 (some ⟨A2, 0, none⟩) 1 (HS.below _ _ _ _ _ HB2.out HL3.out) (fun w2 h2 => plain_in (by omega) (by omega) (h2.stays hb3 (fun hs => HK2.out _ hs rfl))) (fun x hx => by rw [List.mem_singleton.1 hx]; simp) (by simp) (by simp [plainE]) plain_fit2
    rw [plain_put2.1, plain_put2.2.1, plain_put2.2.2] at h
    exact h
  have HF3 := Lib.hid (HF2.out.below HL3.out)
  clear hb3 hl3 HF2 HB2 HK2 HL3 hA2
  go_wp2_with fail
  refine HP2.out.mono ?_
  rintro r w4 ⟨rfl, S2, hB4, hst⟩
  have HB4 := Lib.hid hB4
  have HF4 := Lib.hid (HF3.out.step hst)
  clear hB4 hst HF3 HP2
  have HW : Hid (Calls Tryz.prog 20 #[.pointer (some ⟨w.heap.size, 0, none⟩), .slice none 0 0] w4 fun r w' => ∃ p c, r = .returned (.slice p 1 c) ∧ Firm S2 w' (fun W => Vec.Row3 W p [(1, 1, 1)]) ∧ Below w4.heap.size w4 w') := by
    have h := HS.wants S2 w.heap.size _ w4 [] none 0 HB4.out (fun i hi => absurd hi (Nat.not_lt_zero _)) ⟨Nat.le_refl _, fun _ => rfl, fun x hx => (by cases hx), fun i hi => absurd hi (Nat.not_lt_zero _), Nat.zero_le _⟩
    rw [plain_wants] at h
    exact h
  go_wp2_with fail
  refine HW.out.mono ?_
  rintro r w5 ⟨p5, c5, rfl, hR5, hl5⟩
  have HB5 := Lib.hid (HS.below _ _ _ _ _ HB4.out hl5)
  have HR5 := Lib.hid hR5
  have HF5 := Lib.hid (HF4.out.below hl5)
  clear hR5 hl5 HF4 HB4 HW
  have HT : Hid (Calls Tryz.prog 12 #[.pointer (some ⟨w.heap.size, 0, none⟩), .slice none 0 0] w5 fun r w' => (∃ p c q d, r = .returned (.tuple #[ev (plainE 2 1) p c q d, .bool true])) ∧ Vec.Row3 w' p5 [(1, 1, 1)] ∧ Below w.heap.size w w') := by
    refine (HS.take S2 w.heap.size _ w5 [] none 0 HB5.out (fun w2 h2 => fun i hi => absurd hi (Nat.not_lt_zero _)) ⟨Nat.le_refl _, fun _ => rfl, fun x hx => (by cases hx), fun i hi => absurd hi (Nat.not_lt_zero _), Nat.zero_le _⟩).mono ?_
    rintro r w' ⟨S', hst, h⟩
    refine ⟨?_, (HR5.out.step hst).now, (HF5.out.step hst).now⟩
    rcases h with ⟨i, hi, ⟨e, xs, p, c, q, d, he, hr, -⟩, -⟩ | ⟨hn, -⟩
    · rw [plain_ready] at hi
      cases hi
      cases he
      exact ⟨p, c, q, d, hr⟩
    · rw [plain_ready] at hn; cases hn
  clear HR5 HF5 HB5
  go_wp2_with fail
  refine HT.out.mono ?_
  rintro r w6 ⟨⟨p6, c6, q6, d6, rfl⟩, hR6, hb6⟩
  have HB6 := Lib.hid hb6
  obtain ⟨b, o, rfl, c0, c1, c2⟩ := hR6 0 (by simp)
  unfold ev plainE
  clear hb6 hR6 HT
  simp only [Nat.zero_mul, Nat.add_zero] at c0 c1 c2
  have c0 : w6.cell? ⟨b, o, none⟩ = some (.int .u16 1) := c0
  have c1 : w6.cell? ⟨b, o + 1, none⟩ = some (.int .u32 1) := c1
  have c2 : w6.cell? ⟨b, o + 2, none⟩ = some (.int .u32 1) := c2
  have HB7 : Hid (Below w6.heap.size w6 (w6.alloc (.cells #[.slice p6 0 c6, .int .u16 2, .int .u32 1, .int .u64 1, .int .i64 0, .slice q6 1 d6] 38))) := below_alloc (Below.refl _ _) _
  have d0 := cellU c0 HB7.out
  have d1 := cellU c1 HB7.out
  have d2 := cellU c2 HB7.out
  clear c0 c1 c2
  go_wp2
  go_ret
  exact ⟨rfl, below_step HB6.out HB7.out⟩
end Go.Proofs.YtjkdcpalgfakhaaGreat
/-
  What the document's Wants of layer 11 hands back. No conditions beyond what each theorem states.
-/
namespace Go.Proofs.YtjkdcpalgfakhaaGreat
open Go.ChangeShapes Go.WideShapes Go.ChangeAt Go.RowKit Go.Lib
set_option linter.unusedVariables false
set_option linter.unusedSimpArgs false

theorem joinL_le (xs ys : List Vec.En) : (Vec.joinL xs ys).length ≤ xs.length + ys.length := by
  unfold Vec.joinL
  induction ys generalizing xs with
  | nil => simp
  | cons y ys ih =>
    rw [List.foldl_cons]
    have := ih (Vec.joinStep xs y)
    have := Vec.joinStep_le xs y
    rw [List.length_cons]; omega
theorem allStep_le (v : List Vec.En) (e : Em) : (allStep v e).length ≤ v.length + e.deps.length + 1 := by
  have h1 := joinL_le v e.deps
  unfold allStep
  split
  · have := joinL_le (Vec.joinL v e.deps) [(e.txn.r, e.txn.seq - 1)]
    simp only [List.length_singleton] at this
    omega
  · omega
theorem allM_take (xs : List EV) {k : Nat} (h : k < xs.length) : allM ((xs.take (k + 1)).map (·.e)) = allStep (allM ((xs.take k).map (·.e))) (xs.getD k x0E).e := by
  rw [take_getD x0E h, List.map_append]
  unfold allM
  rw [List.foldl_append]
  rfl
theorem row_one {w : World} {b : Nat} {r s : Int} {t : TypeId} (h : w.heap[b]? = some (.cells #[.int .u16 r, .int .u32 s] t)) : Vec.Row w (some ⟨b, 0, none⟩) [(r, s)] := fun i hi => by
  simp only [List.length_singleton] at hi
  obtain rfl : i = 0 := by omega
  obtain ⟨h0, h1⟩ := two_cells h
  exact ⟨b, 0, rfl, h0, h1⟩
set_option maxHeartbeats 6400000 in
set_option maxRecDepth 20000 in
theorem refwants_any (xs : List EV) (h : List Vec.En) (p : Option Addr) (c : Nat) (s : Option Addr) (f : Nat) (w : World) (hR : GRow layE w p xs) (hE : ∀ x ∈ xs, Vec.Row w x.p x.e.deps ∧ x.e.deps.length ≤ 100 ∧ 0 ≤ x.e.txn.seq ∧ x.e.txn.seq ≤ 4294967295) (hH : Vec.Row w s h) (hl : xs.length ≤ 190) (hhl : h.length ≤ 40000) (hf : Vec.Fits h) (hfa : Vec.Fits (allM (xs.map (·.e)))) :
    Calls Tryz.prog 42 #[.slice p xs.length c, .slice s h.length f] w (Vec.Gave3 w (wantsM (xs.map (·.e)) h)) := by
  have HR := Lib.hid hR
  have HE : Hid (∀ k, k < xs.length → Vec.Row w (xs.getD k x0E).p (xs.getD k x0E).e.deps ∧ (xs.getD k x0E).e.deps.length ≤ 100 ∧ 0 ≤ (xs.getD k x0E).e.txn.seq ∧ (xs.getD k x0E).e.txn.seq ≤ 4294967295) := fun k hk => hE _ (getD_mem x0E hk)
  have HST : Hid (∀ k, k < xs.length → allM ((xs.take (k + 1)).map (·.e)) = allStep (allM ((xs.take k).map (·.e))) (xs.getD k x0E).e) := fun k hk => allM_take xs hk
  have HFA := Lib.hid hfa
  have HH := Lib.hid hH
  clear hR hE hfa hH
  unfold wantsM
  go_enter Tryz.func42, Tryz.ntmps42
  go_wp2
  go_loopg [5, 6] xs.length (fun g v i wr => ∃ (k : Nat) (l : List Vec.En) (p' : Option Addr) (c' : Nat), k ≤ xs.length ∧ xs.length - k ≤ g ∧ i = .int .i64 (k : Int) ∧ v = .slice p' l.length c' ∧ l = allM ((xs.take k).map (·.e)) ∧ l.length ≤ 101 * k ∧ Vec.Row wr p' l ∧ Below w.heap.size w wr)
  case atStart => exact ⟨0, [], none, 0, Nat.zero_le _, by omega, rfl, rfl, rfl, by simp, fun i hi => absurd hi (Nat.not_lt_zero _), Below.refl _ _⟩
  case round =>
    obtain ⟨k, l, p', c', hk, hg, rfl, rfl, hv, hll, hr, hb⟩ := hrel
    have HV := Lib.hid hv
    have HRL := Lib.hid hr
    have HB := Lib.hid hb
    clear hv hr hb
    by_cases hlt : k < xs.length
    · have hkl : (k : Int) < (xs.length : Int) := by omega
      have HSK := Lib.hid (HST.out k hlt)
      obtain ⟨hd, hdl, hs0, hs1⟩ := HE.out k hlt
      have HD := Lib.hid hd
      have HDL := Lib.hid hdl
      clear hd hdl
      obtain ⟨b, o, rfl, c0, c1, c2, c3, c4, c5⟩ := erow_at (HR.out.below HB.out) hlt
      generalize hX1 : xs.getD k x0E = X1 at c0 c1 c2 c3 c4 c5 HD HDL HSK hs0 hs1
      clear hX1
      obtain ⟨⟨xd, ⟨xr, xq, xc, xu, xo⟩⟩, xys, xp, xcc, xqq, xdd⟩ := X1
      simp only at c0 c1 c2 c3 c4 c5 HD HDL HSK hs0 hs1
      have HJ : Hid (∀ W, Below wr.heap.size wr W → Calls Tryz.prog 62 #[.slice p' l.length c', .slice xp xd.length xcc] W (Vec.Gave W (Vec.joinL l xd))) := fun W hb => Vec.refjoin_any l xd p' xp c' xcc W (HRL.out.below hb) (HD.out.below (below_step HB.out hb)) (by omega) (by have := HDL.out; omega)
      have hjl := joinL_le l xd
      have HLE : Hid ((Vec.joinL l xd).length ≤ l.length + xd.length) := hjl
      clear hjl
      generalize hJL : Vec.joinL l xd = J at HJ HLE
      have HJL := Lib.hid hJL
      clear hJL
      go_wp2_with fail
      refine (HJ.out _ (Below.refl _ _)).mono ?_
      rintro r w1 ⟨p1, c1', rfl, hr1, hb1⟩
      have HR1 := Lib.hid hr1
      have HB1 := Lib.hid (below_step HB.out hb1)
      have c1 := cellU c1 hb1
      have c2 := cellU c2 hb1
      clear hr1 hb1 HJ c0 c3 c4 c5
      by_cases hq : 1 < xq
      · have hw1 : IntKind.u32.wrap (xq - 1) = xq - 1 := by rw [IntKind.wrap_u32]; omega
        have HK : Hid (allM ((xs.take (k + 1)).map (·.e)) = Vec.joinL J [(xr, xq - 1)]) := by show _ = _; rw [HSK.out, ← HV.out]; unfold allStep; simp only; rw [if_pos hq, HJL.out]
        have HJ2 : Hid (Calls Tryz.prog 62 #[.slice p1 J.length c1', .slice (some ⟨w1.heap.size, 0, none⟩) 1 1] (w1.alloc (.cells #[.int .u16 xr, .int .u32 (xq - 1)] 75)).drew (Vec.Gave (w1.alloc (.cells #[.int .u16 xr, .int .u32 (xq - 1)] 75)).drew (Vec.joinL J [(xr, xq - 1)]))) := Vec.refjoin_any J [(xr, xq - 1)] p1 _ c1' 1 _ (HR1.out.below (below_alloc (Below.refl _ _) _).drew) (row_one (heap_alloc_new w1 _)) (by have := HLE.out; have := HDL.out; omega) (by simp)
        have hj2 : Hid ((Vec.joinL J [(xr, xq - 1)]).length ≤ J.length + 1) := by show _ ≤ _; have := joinL_le J [(xr, xq - 1)]; simpa using this
        generalize Vec.joinL J [(xr, xq - 1)] = J2 at HJ2 HK hj2
        go_wp2_with fail
        go_region_with (first | (go_at_call 62; refine HJ2.out.mono ?_; rintro e w4 ⟨p4, c4, rfl, hr4, hb4⟩))
        all_goals
          have HB4 : Hid (Below w.heap.size w w4) := below_step HB1.out (below_step (below_alloc (Below.refl _ _) _).drew hb4)
          have HR4 := Lib.hid hr4
          clear hr4 hb4
          go_wp2
          go_roundg (xs.length - (k + 1))
          case measure => omega
          case rel => exact ⟨k + 1, J2, p4, c4, by omega, Nat.le_refl _, by go_num, rfl, HK.out.symm, by have := hj2.out; have := HLE.out; have := HDL.out; omega, HR4.out, HB4.out⟩
      · have HK : Hid (allM ((xs.take (k + 1)).map (·.e)) = J) := by show _ = _; rw [HSK.out, ← HV.out]; unfold allStep; simp only; rw [if_neg hq, HJL.out]
        go_wp2
        go_roundg (xs.length - (k + 1))
        case measure => omega
        case rel => exact ⟨k + 1, J, p1, c1', by omega, Nat.le_refl _, by go_num, rfl, HK.out.symm, by have := HLE.out; have := HDL.out; omega, HR1.out, HB1.out⟩
    · have : k = xs.length := by omega
      subst this
      have hkl : ¬ (xs.length : Int) < (xs.length : Int) := by omega
      rw [List.take_length] at HV
      rw [← HV.out] at HFA
      have HLK := Lib.hid (Vec.reflacks_any h l s p' f c' wr (HH.out.below HB.out) HRL.out hf HFA.out (by omega) (by omega))
      go_wp2_with fail
      refine HLK.out.mono ?_
      rintro r w1 ⟨p1, c1, rfl, hr1, hb1⟩
      have HR1 := Lib.hid hr1
      have HB1 := Lib.hid (below_step HB.out hb1)
      clear hr1 hb1
      go_wp2
      go_ret
      rw [← HV.out]
      exact ⟨p1, c1, rfl, HR1.out, HB1.out⟩
end Go.Proofs.YtjkdcpalgfakhaaGreat
/-
  What the laws' own SameVector and SameGaps of copyistsent hand back. No conditions beyond what each theorem states.
-/
namespace Go.Proofs.YtjkdcpalgfakhaaGreat.Vec
open Go.ChangeShapes Go.WideShapes Go.ChangeAt Go.RowKit Go.Lib
set_option linter.unusedVariables false
set_option linter.unusedSimpArgs false

set_option maxHeartbeats 1600000 in
theorem svsame_any (xs ys : List En) (p q : Option Addr) (c d : Nat) (w : World) (hR : Row w p xs) (hS : Row w q ys) (hl : xs.length ≤ 4611686018427387904) :
    Calls Tryz.prog 33 #[.slice p xs.length c, .slice q ys.length d] w fun e w' => e = .returned (.bool (decide (xs = ys))) ∧ Below w.heap.size w w' := by
  have HR : Hid (Row w p xs) := hR
  have HS : Hid (Row w q ys) := hS
  clear hR hS
  by_cases hlen : xs.length = ys.length
  · have HL : Hid (xs.length = ys.length) := hlen
    have hne : ((xs.length : Nat) : Int) = ((ys.length : Nat) : Int) := by omega
    rw [← hlen]
    clear hne hlen
    go_enter Tryz.func33, Tryz.ntmps33
    go_wp2
    go_loopg [13] xs.length (fun g i wr => ∃ k q : Nat, k ≤ xs.length ∧ xs.length - k ≤ g ∧ i = .int .i64 k ∧ wr = w.drewN q ∧ ∀ j, j < k → atL xs j = atL ys j)
    case atStart => exact ⟨0, 0, Nat.zero_le _, by omega, rfl, rfl, fun j hj => by omega⟩
    case round =>
      obtain ⟨k, n, hk, hg, rfl, rfl, hno⟩ := hrel
      have HN : Hid (∀ j, j < k → atL xs j = atL ys j) := hno
      clear hno
      by_cases hlt : k < xs.length
      · obtain ⟨b, o, rfl, c0, c1⟩ := HR.out k hlt
        obtain ⟨b', o', rfl, d0, d1⟩ := HS.out k (by rw [← HL.out]; exact hlt)
        generalize hx : (atL xs k).1 = x at c0
        generalize hy : (atL xs k).2 = y at c1
        generalize hu : (atL ys k).1 = u at d0
        generalize hv : (atL ys k).2 = v at d1
        have B : Hid (atL xs k = (x, y) ∧ atL ys k = (u, v)) := ⟨Prod.ext hx hy, Prod.ext hu hv⟩
        clear hx hy hu hv
        by_cases h1 : x = u
        · subst h1
          by_cases h2 : y = v
          · subst h2
            go_wp2_with fail
            go_quiet (fail)
            go_wp2
            go_roundg (xs.length - (k + 1))
            case measure => omega
            case rel => exact ⟨k + 1, _, by omega, Nat.le_refl _, by go_num, rfl, fun j hj => by
              by_cases e : j = k
              · subst e; rw [B.out.1, B.out.2]
              · exact HN.out j (by omega)⟩
          · have h2' : (y == v) = false := by simp [h2]
            go_wp2_with fail
            go_quiet (fail)
            go_wp2
            go_ret
            exact ⟨ret_bool (decide_eq_false (fun e => h2 (by have := B.out.1; rw [e, B.out.2] at this; exact ((Prod.mk.inj this).2).symm))).symm, below_drewN (below_drewN (Below.refl _ _) _) _⟩
        · have h1' : (x == u) = false := by simp [h1]
          go_wp2_with fail
          go_quiet (fail)
          go_wp2
          go_ret
          exact ⟨ret_bool (decide_eq_false (fun e => h1 (by have := B.out.1; rw [e, B.out.2] at this; exact ((Prod.mk.inj this).1).symm))).symm, below_drewN (below_drewN (Below.refl _ _) _) _⟩
      · have : k = xs.length := by omega
        subst this
        go_wp2
        go_ret
        exact ⟨ret_bool (decide_eq_true (list_ext_at HL.out HN.out)).symm, below_drewN (Below.refl _ _) _⟩
  · have hne : (((xs.length : Nat) : Int) == ((ys.length : Nat) : Int)) = false := by simp; omega
    go_enter Tryz.func33, Tryz.ntmps33
    go_wp2
    go_ret
    exact ⟨ret_bool (decide_eq_false (fun e => hlen (by rw [e]))).symm, Below.refl _ _⟩


set_option maxHeartbeats 1600000 in
theorem sgsame_yes (gs : List Gp) (p q : Option Addr) (c d : Nat) (w : World) (hR : Row3 w p gs) (hS : Row3 w q gs) (hl : gs.length ≤ 4611686018427387904) :
    Calls Tryz.prog 41 #[.slice p gs.length c, .slice q gs.length d] w fun e w' => e = .returned (.bool true) ∧ Below w.heap.size w w' := by
  have HR := Lib.hid hR
  have HS := Lib.hid hS
  clear hR hS
  go_enter Tryz.func41, Tryz.ntmps41
  go_wp2
  go_loopg [13] gs.length (fun g i wr => ∃ k : Nat, k ≤ gs.length ∧ gs.length - k ≤ g ∧ i = .int .i64 (k : Int) ∧ Below w.heap.size w wr)
  case atStart => exact ⟨0, Nat.zero_le _, by omega, rfl, Below.refl _ _⟩
  case round =>
    obtain ⟨k, hk, hg, rfl, hb⟩ := hrel
    have HB := Lib.hid hb
    clear hb
    by_cases hlt : k < gs.length
    · have hkl : (k : Int) < (gs.length : Int) := by omega
      obtain ⟨b1, o1, rfl, a0, a1, a2⟩ := (HR.out.below HB.out) k hlt
      obtain ⟨b2, o2, rfl, e0, e1, e2⟩ := (HS.out.below HB.out) k hlt
      generalize at3 gs k = s at a0 a1 a2 e0 e1 e2
      obtain ⟨x, y, z⟩ := s
      simp only at a0 a1 a2 e0 e1 e2
      go_wp2_with fail
      go_quiet (fail)
      go_wp2
      go_roundg (gs.length - (k + 1))
      case measure => omega
      case rel => exact ⟨k + 1, by omega, Nat.le_refl _, by go_num, below_drewN HB.out _⟩
    · have : k = gs.length := by omega
      subst this
      have hkl : ¬ (gs.length : Int) < (gs.length : Int) := by omega
      go_wp2
      go_ret
      exact ⟨rfl, HB.out⟩
/-- Few entries, and a vector. -/
def rightH (xs : List En) : Bool := decide (xs.length ≤ 100) && rightB xs
end Go.Proofs.YtjkdcpalgfakhaaGreat.Vec
