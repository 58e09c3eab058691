
/-
  Sums and seals of bytes, and what turned bits make of them. Of no program; no conditions beyond what each theorem states.
-/
import Derived.Test.YthohdnijngckiaaCheckMath
namespace Go.Proofs.Ythohdnijngckiaa
set_option linter.unusedVariables false
set_option linter.unusedSimpArgs false

/-- A byte's bits, the highest first. -/
def bitsB (c : UInt8) : List Bool := [c.toNat.testBit 7, c.toNat.testBit 6, c.toNat.testBit 5, c.toNat.testBit 4, c.toNat.testBit 3, c.toNat.testBit 2, c.toNat.testBit 1, c.toNat.testBit 0]
def bitsL (bs : List UInt8) : List Bool := bs.flatMap bitsB
theorem bitsL_append (a b : List UInt8) : bitsL (a ++ b) = bitsL a ++ bitsL b := by simp [bitsL]
theorem bitsL_cons (a : UInt8) (b : List UInt8) : bitsL (a :: b) = bitsB a ++ bitsL b := by simp [bitsL]
theorem bitsL_len (bs : List UInt8) : (bitsL bs).length = bs.length * 8 := by
  induction bs with
  | nil => rfl
  | cons c bs ih => rw [bitsL_cons, List.length_append, ih, List.length_cons]; simp [bitsB]; omega
def ones : R32 := 0xffffffff#32
/-- The register behind bytes, and their sum. -/
def regL (s : R32) (bs : List UInt8) : R32 := runB s (bitsL bs)
def sumL (bs : List UInt8) : R32 := regL ones bs ^^^ ones
theorem regL_append (s : R32) (a b : List UInt8) : regL s (a ++ b) = regL (regL s a) b := by rw [regL, bitsL_append, runB_append]; rfl
theorem regL_cons (s : R32) (c : UInt8) (b : List UInt8) : regL s (c :: b) = regL (runB s (bitsB c)) b := by rw [regL, bitsL_cons, runB_append]; rfl
theorem regL_nil (s : R32) : regL s [] = s := rfl
/-- A number's four bytes, the highest first. -/
def be4 (s : R32) : List UInt8 := [UInt8.ofNat (s.toNat / 16777216), UInt8.ofNat (s.toNat / 65536 % 256), UInt8.ofNat (s.toNat / 256 % 256), UInt8.ofNat (s.toNat % 256)]
def sealL (bs : List UInt8) : List UInt8 := bs ++ be4 (sumL bs)
/-- Are bytes sealed ones? -/
def openL (c : List UInt8) : Bool := decide (4 ≤ c.length) && decide (be4 (sumL (c.take (c.length - 4))) = c.drop (c.length - 4))

theorem bit_div (n k j : Nat) : (n / 2 ^ k).testBit j = n.testBit (k + j) := by rw [Nat.testBit_div_two_pow, Nat.add_comm]
theorem be4_bits (s : R32) : ∀ j, j < 32 → (bitsL (be4 s)).getD (31 - j) false = s.getLsbD j := by
  have hs : s.toNat < 4294967296 := s.isLt
  intro j hj
  have e0 : (UInt8.ofNat (s.toNat / 16777216)).toNat = s.toNat / 2 ^ 24 := by rw [UInt8.toNat_ofNat']; omega
  have e1 : (UInt8.ofNat (s.toNat / 65536 % 256)).toNat = s.toNat / 2 ^ 16 % 2 ^ 8 := by rw [UInt8.toNat_ofNat']; omega
  have e2 : (UInt8.ofNat (s.toNat / 256 % 256)).toNat = s.toNat / 2 ^ 8 % 2 ^ 8 := by rw [UInt8.toNat_ofNat']; omega
  have e3 : (UInt8.ofNat (s.toNat % 256)).toNat = s.toNat % 2 ^ 8 := by rw [UInt8.toNat_ofNat']; omega
  unfold BitVec.getLsbD
  unfold be4 bitsL bitsB
  simp only [List.flatMap_cons, List.flatMap_nil, List.append_nil, List.cons_append, List.nil_append, e0, e1, e2, e3, Nat.testBit_mod_two_pow, bit_div]
  have : j = 0 ∨ j = 1 ∨ j = 2 ∨ j = 3 ∨ j = 4 ∨ j = 5 ∨ j = 6 ∨ j = 7 ∨ j = 8 ∨ j = 9 ∨ j = 10 ∨ j = 11 ∨ j = 12 ∨ j = 13 ∨ j = 14 ∨ j = 15 ∨ j = 16 ∨ j = 17 ∨ j = 18 ∨ j = 19 ∨ j = 20 ∨ j = 21 ∨ j = 22 ∨ j = 23 ∨ j = 24 ∨ j = 25 ∨ j = 26 ∨ j = 27 ∨ j = 28 ∨ j = 29 ∨ j = 30 ∨ j = 31 := by omega
  rcases this with h | h | h | h | h | h | h | h | h | h | h | h | h | h | h | h | h | h | h | h | h | h | h | h | h | h | h | h | h | h | h | h <;> subst h <;> rfl
theorem word_be4 (s : R32) : wordB (bitsL (be4 s)) = s := by
  apply BitVec.eq_of_getLsbD_eq
  intro j hj
  rw [wordB_bit _ j hj, be4_bits s j hj]
theorem be4_len (s : R32) : (be4 s).length = 4 := rfl
theorem be4_inj {s t : R32} (h : be4 s = be4 t) : s = t := by rw [← word_be4 s, ← word_be4 t, h]
/-- Any four bytes are a number's. -/
theorem be4_of {c : List UInt8} (h : c.length = 4) : ∃ s, c = be4 s := by
  match c, h with
  | [a, b, d, e], _ =>
    have ha := a.toNat_lt
    have hb := b.toNat_lt
    have hd := d.toNat_lt
    have he := e.toNat_lt
    refine ⟨BitVec.ofNat 32 (a.toNat * 16777216 + b.toNat * 65536 + d.toNat * 256 + e.toNat), ?_⟩
    have ht : (BitVec.ofNat 32 (a.toNat * 16777216 + b.toNat * 65536 + d.toNat * 256 + e.toNat)).toNat = a.toNat * 16777216 + b.toNat * 65536 + d.toNat * 256 + e.toNat := by
      rw [BitVec.toNat_ofNat]; omega
    unfold be4
    rw [ht]
    have q1 : (a.toNat * 16777216 + b.toNat * 65536 + d.toNat * 256 + e.toNat) / 16777216 = a.toNat := by omega
    have q2 : (a.toNat * 16777216 + b.toNat * 65536 + d.toNat * 256 + e.toNat) / 65536 % 256 = b.toNat := by omega
    have q3 : (a.toNat * 16777216 + b.toNat * 65536 + d.toNat * 256 + e.toNat) / 256 % 256 = d.toNat := by omega
    have q4 : (a.toNat * 16777216 + b.toNat * 65536 + d.toNat * 256 + e.toNat) % 256 = e.toNat := by omega
    rw [q1, q2, q3, q4]
    simp

/-- Bytes are sealed ones just if the register behind all of them is the one that stands for that. -/
def good : R32 := runT 32 ones
theorem reg_sealed (bs : List UInt8) (v : R32) : regL ones (bs ++ be4 v) = good ↔ v = sumL bs := by
  rw [regL_append]
  have hlen : (bitsL (be4 v)).length = 32 := by rw [bitsL_len]; rfl
  have e : regL (regL ones bs) (be4 v) = runT 32 (regL ones bs ^^^ v) := by
    rw [regL, runB_word _ (by omega), hlen, word_be4]
  rw [e, good]
  constructor
  · intro h
    have h2 := runT_inj h
    have h3 : regL ones bs ^^^ (regL ones bs ^^^ v) = regL ones bs ^^^ ones := by rw [h2]
    rw [← BitVec.xor_assoc, BitVec.xor_self, BitVec.zero_xor] at h3
    exact h3
  · intro h
    rw [h, sumL, ← BitVec.xor_assoc, BitVec.xor_self, BitVec.zero_xor]
theorem open_iff {c : List UInt8} (h : 4 ≤ c.length) : openL c = true ↔ regL ones c = good := by
  obtain ⟨v, hv⟩ := be4_of (c := c.drop (c.length - 4)) (by rw [List.length_drop]; omega)
  have e := reg_sealed (c.take (c.length - 4)) v
  rw [← hv, List.take_append_drop] at e
  rw [e]
  unfold openL
  rw [decide_eq_true h, Bool.true_and, decide_eq_true_iff, hv]
  exact ⟨fun k => (be4_inj k).symm, fun k => by rw [k]⟩
theorem open_seal (bs : List UInt8) : openL (sealL bs) = true := by
  rw [open_iff (by unfold sealL; rw [List.length_append, be4_len]; omega)]
  exact (reg_sealed bs (sumL bs)).2 rfl
theorem open_is {c : List UInt8} (h : openL c = true) : sealL (c.take (c.length - 4)) = c := by
  unfold openL at h
  simp only [Bool.and_eq_true, decide_eq_true_eq] at h
  unfold sealL
  rw [h.2, List.take_append_drop]
theorem seal_open {c : List UInt8} (h4 : 4 ≤ c.length) (h : sealL (c.take (c.length - 4)) = c) : openL c = true := by
  rw [← h]; exact open_seal _

/-- A byte with one of its bits turned (the highest is number 0). -/
theorem bits_turn {c d : UInt8} {r : Nat} (hr : r < 8) (hd : d.toNat = c.toNat ^^^ (128 / 2 ^ r)) : bitsB d = (bitsB c).modify r (fun b => !b) := by
  unfold bitsB
  rw [hd]
  simp only [Nat.testBit_xor]
  generalize c.toNat.testBit 7 = x7
  generalize c.toNat.testBit 6 = x6
  generalize c.toNat.testBit 5 = x5
  generalize c.toNat.testBit 4 = x4
  generalize c.toNat.testBit 3 = x3
  generalize c.toNat.testBit 2 = x2
  generalize c.toNat.testBit 1 = x1
  generalize c.toNat.testBit 0 = x0
  have : r = 0 ∨ r = 1 ∨ r = 2 ∨ r = 3 ∨ r = 4 ∨ r = 5 ∨ r = 6 ∨ r = 7 := by omega
  clear hd hr
  rcases this with h | h | h | h | h | h | h | h <;> subst h <;> clear c d <;> revert x7 x6 x5 x4 x3 x2 x1 x0 <;> decide
theorem modify_parts (l : List Bool) : ∀ r, r < l.length → ∃ a x m, l = a ++ x :: m ∧ a.length = r ∧ l.modify r (fun b => !b) = a ++ (!x) :: m := by
  induction l with
  | nil => intro r h; simp at h
  | cons y l ih =>
    intro r h
    cases r with
    | zero => exact ⟨[], y, l, rfl, rfl, by simp⟩
    | succ r =>
      obtain ⟨a, x, m, e1, e2, e3⟩ := ih r (by simpa using h)
      exact ⟨y :: a, x, m, by rw [e1]; rfl, by rw [List.length_cons, e2], by rw [List.modify_succ_cons, e3]; rfl⟩
theorem set_parts (s : List UInt8) : ∀ i, i < s.length → ∃ a c b, s = a ++ c :: b ∧ a.length = i ∧ s.getD i 0 = c ∧ ∀ d, s.set i d = a ++ d :: b := by
  induction s with
  | nil => intro i h; simp at h
  | cons y s ih =>
    intro i h
    cases i with
    | zero => exact ⟨[], y, s, rfl, rfl, rfl, fun d => rfl⟩
    | succ i =>
      obtain ⟨a, c, b, e1, e2, e3, e4⟩ := ih i (by simpa using h)
      exact ⟨y :: a, c, b, by rw [e1]; rfl, by rw [List.length_cons, e2], by rw [List.getD_cons_succ]; exact e3, fun d => by rw [List.set_cons_succ, e4]; rfl⟩
/-- Bytes with one of their bits turned. -/
theorem reg_turn (g : R32) {s : List UInt8} {k : Nat} (hk : k < 8 * s.length) {d : UInt8} (hd : d.toNat = (s.getD (k / 8) 0).toNat ^^^ (128 / 2 ^ (k % 8))) : regL g (s.set (k / 8) d) = regL g s ^^^ runT (8 * s.length - k) topR := by
  obtain ⟨a, c, b, e1, e2, e3, e4⟩ := set_parts s (k / 8) (by omega)
  rw [e3] at hd
  have hb := bits_turn (by omega) hd
  obtain ⟨l, x, m, q1, q2, q3⟩ := modify_parts (bitsB c) (k % 8) (by simp [bitsB]; omega)
  have hm : m.length + (k % 8) + 1 = 8 := by
    have := congrArg List.length q1
    rw [List.length_append, List.length_cons, q2] at this
    simp [bitsB] at this
    omega
  have hs : s.length = k / 8 + 1 + b.length := by
    have := congrArg List.length e1
    rw [List.length_append, List.length_cons, e2] at this
    omega
  have h1 : bitsL s = (bitsL a ++ l) ++ x :: (m ++ bitsL b) := by
    conv => lhs; rw [e1]
    rw [bitsL_append, bitsL_cons, q1]; simp
  have h2 : bitsL (s.set (k / 8) d) = (bitsL a ++ l) ++ (!x) :: (m ++ bitsL b) := by
    rw [e4 d, bitsL_append, bitsL_cons, hb, q3]; simp
  unfold regL
  rw [h1, h2, runB_turn]
  congr 2
  rw [List.length_append, bitsL_len]
  omega
/-- .. and the next one of those that are turned. -/
theorem reg_next {s0 s : List UInt8} {at0 i f D : Nat} (hD : D + at0 = 8 * s.length) (h32 : 32 ≤ D) (hi : i < 32) (h : regL ones s = regL ones s0 ^^^ runT D (turnW f i)) (hf : f.testBit i = true) {d : UInt8}
    (hd : d.toNat = (s.getD ((at0 + i) / 8) 0).toNat ^^^ (128 / 2 ^ ((at0 + i) % 8))) : regL ones (s.set ((at0 + i) / 8) d) = regL ones s0 ^^^ runT D (turnW f (i + 1)) := by
  rw [reg_turn ones (by omega) hd, h, BitVec.xor_assoc, show 8 * s.length - (at0 + i) = D - i by omega, runT_top i (by omega) D (by omega), ← runT_xor, turnW, if_pos hf]
theorem reg_stay {f i : Nat} (hf : ¬ f.testBit i = true) : turnW f (i + 1) = turnW f i := by rw [turnW, if_neg hf, BitVec.xor_zero]
/-- Sealed bytes with some bits turned within 32 are none. -/
theorem burst_found {bs s : List UInt8} {f D : Nat} (hlen : s.length = (sealL bs).length) (hf : f < 4294967296) (h0 : f ≠ 0) (h : regL ones s = regL ones (sealL bs) ^^^ runT D (turnW f 32)) : openL s = false := by
  have h4 : 4 ≤ (sealL bs).length := by unfold sealL; rw [List.length_append, be4_len]; omega
  have hg := (open_iff h4).1 (open_seal bs)
  by_cases ho : openL s = true
  · have h1 := (open_iff (by omega)).1 ho
    rw [h, hg] at h1
    have h2 : good ^^^ (good ^^^ runT D (turnW f 32)) = good ^^^ good := by rw [h1]
    rw [← BitVec.xor_assoc, BitVec.xor_self, BitVec.zero_xor] at h2
    exact absurd (turnW_some hf (runT_none D _ h2)) h0
  · simpa using ho

end Go.Proofs.Ythohdnijngckiaa
