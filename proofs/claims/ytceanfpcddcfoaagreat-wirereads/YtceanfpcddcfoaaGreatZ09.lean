/-
  Several texts of one proof, joined: each part says at its head what it proves. No conditions beyond what each theorem states.
-/
import Derived.Lib.QuietBelow
import Derived.BigQuiet
import Derived.OrdersHeld
import Derived.Test.YtceanfpcddcfoaaGreatZ08
import Derived.Test.YtceanfpcddcfoaaGreatZ07
import Derived.Test.YtceanfpcddcfoaaGreatZ02
/-
  Sums and seals of bytes, and what turned bits make of them. Of no program; no conditions beyond what each theorem states.
-/
namespace Go.Proofs.YtceanfpcddcfoaaGreat
set_option linter.unusedVariables false
set_option linter.unusedSimpArgs false

/-- A byte's bits, the highest first. -/
def bitsB (c : UInt8) : List Bool := [c.toNat.testBit 7, c.toNat.testBit 6, c.toNat.testBit 5, c.toNat.testBit 4, c.toNat.testBit 3, c.toNat.testBit 2, c.toNat.testBit 1, c.toNat.testBit 0]
def bitsL (bs : List UInt8) : List Bool := bs.flatMap bitsB
theorem bitsL_append (a b : List UInt8) : bitsL (a ++ b) = bitsL a ++ bitsL b := by simp [bitsL]
theorem bitsL_cons (a : UInt8) (b : List UInt8) : bitsL (a :: b) = bitsB a ++ bitsL b := by simp [bitsL]
theorem bitsL_len (bs : List UInt8) : (bitsL bs).length = bs.length * 8 := by
  induction bs with
  | nil => rfl
  | cons c bs ih => rw [bitsL_cons, List.length_append, ih, List.length_cons]; simp [bitsB]; omega
def ones : R32 := 0xffffffff#32
/-- The register behind bytes, and their sum. -/
def regL (s : R32) (bs : List UInt8) : R32 := runB s (bitsL bs)
def sumL (bs : List UInt8) : R32 := regL ones bs ^^^ ones
theorem regL_append (s : R32) (a b : List UInt8) : regL s (a ++ b) = regL (regL s a) b := by rw [regL, bitsL_append, runB_append]; rfl
theorem regL_cons (s : R32) (c : UInt8) (b : List UInt8) : regL s (c :: b) = regL (runB s (bitsB c)) b := by rw [regL, bitsL_cons, runB_append]; rfl
theorem regL_nil (s : R32) : regL s [] = s := rfl
/-- A number's four bytes, the highest first. -/
def be4 (s : R32) : List UInt8 := [UInt8.ofNat (s.toNat / 16777216), UInt8.ofNat (s.toNat / 65536 % 256), UInt8.ofNat (s.toNat / 256 % 256), UInt8.ofNat (s.toNat % 256)]
def sealL (bs : List UInt8) : List UInt8 := bs ++ be4 (sumL bs)
/-- Are bytes sealed ones? -/
def openL (c : List UInt8) : Bool := decide (4 ≤ c.length) && decide (be4 (sumL (c.take (c.length - 4))) = c.drop (c.length - 4))

theorem bit_div (n k j : Nat) : (n / 2 ^ k).testBit j = n.testBit (k + j) := by rw [Nat.testBit_div_two_pow, Nat.add_comm]
theorem be4_bits (s : R32) : ∀ j, j < 32 → (bitsL (be4 s)).getD (31 - j) false = s.getLsbD j := by
  have hs : s.toNat < 4294967296 := s.isLt
  intro j hj
  have e0 : (UInt8.ofNat (s.toNat / 16777216)).toNat = s.toNat / 2 ^ 24 := by rw [UInt8.toNat_ofNat']; omega
  have e1 : (UInt8.ofNat (s.toNat / 65536 % 256)).toNat = s.toNat / 2 ^ 16 % 2 ^ 8 := by rw [UInt8.toNat_ofNat']; omega
  have e2 : (UInt8.ofNat (s.toNat / 256 % 256)).toNat = s.toNat / 2 ^ 8 % 2 ^ 8 := by rw [UInt8.toNat_ofNat']; omega
  have e3 : (UInt8.ofNat (s.toNat % 256)).toNat = s.toNat % 2 ^ 8 := by rw [UInt8.toNat_ofNat']; omega
  unfold BitVec.getLsbD
  unfold be4 bitsL bitsB
  simp only [List.flatMap_cons, List.flatMap_nil, List.append_nil, List.cons_append, List.nil_append, e0, e1, e2, e3, Nat.testBit_mod_two_pow, bit_div]
  have : j = 0 ∨ j = 1 ∨ j = 2 ∨ j = 3 ∨ j = 4 ∨ j = 5 ∨ j = 6 ∨ j = 7 ∨ j = 8 ∨ j = 9 ∨ j = 10 ∨ j = 11 ∨ j = 12 ∨ j = 13 ∨ j = 14 ∨ j = 15 ∨ j = 16 ∨ j = 17 ∨ j = 18 ∨ j = 19 ∨ j = 20 ∨ j = 21 ∨ j = 22 ∨ j = 23 ∨ j = 24 ∨ j = 25 ∨ j = 26 ∨ j = 27 ∨ j = 28 ∨ j = 29 ∨ j = 30 ∨ j = 31 := by omega
  rcases this with h | h | h | h | h | h | h | h | h | h | h | h | h | h | h | h | h | h | h | h | h | h | h | h | h | h | h | h | h | h | h | h <;> subst h <;> rfl
theorem word_be4 (s : R32) : wordB (bitsL (be4 s)) = s := by
  apply BitVec.eq_of_getLsbD_eq
  intro j hj
  rw [wordB_bit _ j hj, be4_bits s j hj]
theorem be4_len (s : R32) : (be4 s).length = 4 := rfl
theorem be4_inj {s t : R32} (h : be4 s = be4 t) : s = t := by rw [← word_be4 s, ← word_be4 t, h]
/-- Any four bytes are a number's. -/
theorem be4_of {c : List UInt8} (h : c.length = 4) : ∃ s, c = be4 s := by
  match c, h with
  | [a, b, d, e], _ =>
    have ha := a.toNat_lt
    have hb := b.toNat_lt
    have hd := d.toNat_lt
    have he := e.toNat_lt
    refine ⟨BitVec.ofNat 32 (a.toNat * 16777216 + b.toNat * 65536 + d.toNat * 256 + e.toNat), ?_⟩
    have ht : (BitVec.ofNat 32 (a.toNat * 16777216 + b.toNat * 65536 + d.toNat * 256 + e.toNat)).toNat = a.toNat * 16777216 + b.toNat * 65536 + d.toNat * 256 + e.toNat := by
      rw [BitVec.toNat_ofNat]; omega
    unfold be4
    rw [ht]
    have q1 : (a.toNat * 16777216 + b.toNat * 65536 + d.toNat * 256 + e.toNat) / 16777216 = a.toNat := by omega
    have q2 : (a.toNat * 16777216 + b.toNat * 65536 + d.toNat * 256 + e.toNat) / 65536 % 256 = b.toNat := by omega
    have q3 : (a.toNat * 16777216 + b.toNat * 65536 + d.toNat * 256 + e.toNat) / 256 % 256 = d.toNat := by omega
    have q4 : (a.toNat * 16777216 + b.toNat * 65536 + d.toNat * 256 + e.toNat) % 256 = e.toNat := by omega
    rw [q1, q2, q3, q4]
    simp

/-- Bytes are sealed ones just if the register behind all of them is the one that stands for that. -/
def good : R32 := runT 32 ones
theorem reg_sealed (bs : List UInt8) (v : R32) : regL ones (bs ++ be4 v) = good ↔ v = sumL bs := by
  rw [regL_append]
  have hlen : (bitsL (be4 v)).length = 32 := by rw [bitsL_len]; rfl
  have e : regL (regL ones bs) (be4 v) = runT 32 (regL ones bs ^^^ v) := by
    rw [regL, runB_word _ (by omega), hlen, word_be4]
  rw [e, good]
  constructor
  · intro h
    have h2 := runT_inj h
    have h3 : regL ones bs ^^^ (regL ones bs ^^^ v) = regL ones bs ^^^ ones := by rw [h2]
    rw [← BitVec.xor_assoc, BitVec.xor_self, BitVec.zero_xor] at h3
    exact h3
  · intro h
    rw [h, sumL, ← BitVec.xor_assoc, BitVec.xor_self, BitVec.zero_xor]
theorem open_iff {c : List UInt8} (h : 4 ≤ c.length) : openL c = true ↔ regL ones c = good := by
  obtain ⟨v, hv⟩ := be4_of (c := c.drop (c.length - 4)) (by rw [List.length_drop]; omega)
  have e := reg_sealed (c.take (c.length - 4)) v
  rw [← hv, List.take_append_drop] at e
  rw [e]
  unfold openL
  rw [decide_eq_true h, Bool.true_and, decide_eq_true_iff, hv]
  exact ⟨fun k => (be4_inj k).symm, fun k => by rw [k]⟩
theorem open_seal (bs : List UInt8) : openL (sealL bs) = true := by
  rw [open_iff (by unfold sealL; rw [List.length_append, be4_len]; omega)]
  exact (reg_sealed bs (sumL bs)).2 rfl
theorem open_is {c : List UInt8} (h : openL c = true) : sealL (c.take (c.length - 4)) = c := by
  unfold openL at h
  simp only [Bool.and_eq_true, decide_eq_true_eq] at h
  unfold sealL
  rw [h.2, List.take_append_drop]
theorem seal_open {c : List UInt8} (h4 : 4 ≤ c.length) (h : sealL (c.take (c.length - 4)) = c) : openL c = true := by
  rw [← h]; exact open_seal _

/-- A byte with one of its bits turned (the highest is number 0). -/
theorem bits_turn {c d : UInt8} {r : Nat} (hr : r < 8) (hd : d.toNat = c.toNat ^^^ (128 / 2 ^ r)) : bitsB d = (bitsB c).modify r (fun b => !b) := by
  unfold bitsB
  rw [hd]
  simp only [Nat.testBit_xor]
  generalize c.toNat.testBit 7 = x7
  generalize c.toNat.testBit 6 = x6
  generalize c.toNat.testBit 5 = x5
  generalize c.toNat.testBit 4 = x4
  generalize c.toNat.testBit 3 = x3
  generalize c.toNat.testBit 2 = x2
  generalize c.toNat.testBit 1 = x1
  generalize c.toNat.testBit 0 = x0
  have : r = 0 ∨ r = 1 ∨ r = 2 ∨ r = 3 ∨ r = 4 ∨ r = 5 ∨ r = 6 ∨ r = 7 := by omega
  clear hd hr
  rcases this with h | h | h | h | h | h | h | h <;> subst h <;> clear c d <;> revert x7 x6 x5 x4 x3 x2 x1 x0 <;> decide
theorem modify_parts (l : List Bool) : ∀ r, r < l.length → ∃ a x m, l = a ++ x :: m ∧ a.length = r ∧ l.modify r (fun b => !b) = a ++ (!x) :: m := by
  induction l with
  | nil => intro r h; simp at h
  | cons y l ih =>
    intro r h
    cases r with
    | zero => exact ⟨[], y, l, rfl, rfl, by simp⟩
    | succ r =>
      obtain ⟨a, x, m, e1, e2, e3⟩ := ih r (by simpa using h)
      exact ⟨y :: a, x, m, by rw [e1]; rfl, by rw [List.length_cons, e2], by rw [List.modify_succ_cons, e3]; rfl⟩
theorem set_parts (s : List UInt8) : ∀ i, i < s.length → ∃ a c b, s = a ++ c :: b ∧ a.length = i ∧ s.getD i 0 = c ∧ ∀ d, s.set i d = a ++ d :: b := by
  induction s with
  | nil => intro i h; simp at h
  | cons y s ih =>
    intro i h
    cases i with
    | zero => exact ⟨[], y, s, rfl, rfl, rfl, fun d => rfl⟩
    | succ i =>
      obtain ⟨a, c, b, e1, e2, e3, e4⟩ := ih i (by simpa using h)
      exact ⟨y :: a, c, b, by rw [e1]; rfl, by rw [List.length_cons, e2], by rw [List.getD_cons_succ]; exact e3, fun d => by rw [List.set_cons_succ, e4]; rfl⟩
/-- Bytes with one of their bits turned. -/
theorem reg_turn (g : R32) {s : List UInt8} {k : Nat} (hk : k < 8 * s.length) {d : UInt8} (hd : d.toNat = (s.getD (k / 8) 0).toNat ^^^ (128 / 2 ^ (k % 8))) : regL g (s.set (k / 8) d) = regL g s ^^^ runT (8 * s.length - k) topR := by
  obtain ⟨a, c, b, e1, e2, e3, e4⟩ := set_parts s (k / 8) (by omega)
  rw [e3] at hd
  have hb := bits_turn (by omega) hd
  obtain ⟨l, x, m, q1, q2, q3⟩ := modify_parts (bitsB c) (k % 8) (by simp [bitsB]; omega)
  have hm : m.length + (k % 8) + 1 = 8 := by
    have := congrArg List.length q1
    rw [List.length_append, List.length_cons, q2] at this
    simp [bitsB] at this
    omega
  have hs : s.length = k / 8 + 1 + b.length := by
    have := congrArg List.length e1
    rw [List.length_append, List.length_cons, e2] at this
    omega
  have h1 : bitsL s = (bitsL a ++ l) ++ x :: (m ++ bitsL b) := by
    conv => lhs; rw [e1]
    rw [bitsL_append, bitsL_cons, q1]; simp
  have h2 : bitsL (s.set (k / 8) d) = (bitsL a ++ l) ++ (!x) :: (m ++ bitsL b) := by
    rw [e4 d, bitsL_append, bitsL_cons, hb, q3]; simp
  unfold regL
  rw [h1, h2, runB_turn]
  congr 2
  rw [List.length_append, bitsL_len]
  omega
/-- .. and the next one of those that are turned. -/
theorem reg_next {s0 s : List UInt8} {at0 i f D : Nat} (hD : D + at0 = 8 * s.length) (h32 : 32 ≤ D) (hi : i < 32) (h : regL ones s = regL ones s0 ^^^ runT D (turnW f i)) (hf : f.testBit i = true) {d : UInt8}
    (hd : d.toNat = (s.getD ((at0 + i) / 8) 0).toNat ^^^ (128 / 2 ^ ((at0 + i) % 8))) : regL ones (s.set ((at0 + i) / 8) d) = regL ones s0 ^^^ runT D (turnW f (i + 1)) := by
  rw [reg_turn ones (by omega) hd, h, BitVec.xor_assoc, show 8 * s.length - (at0 + i) = D - i by omega, runT_top i (by omega) D (by omega), ← runT_xor, turnW, if_pos hf]
theorem reg_stay {f i : Nat} (hf : ¬ f.testBit i = true) : turnW f (i + 1) = turnW f i := by rw [turnW, if_neg hf, BitVec.xor_zero]
/-- Sealed bytes with some bits turned within 32 are none. -/
theorem burst_found {bs s : List UInt8} {f D : Nat} (hlen : s.length = (sealL bs).length) (hf : f < 4294967296) (h0 : f ≠ 0) (h : regL ones s = regL ones (sealL bs) ^^^ runT D (turnW f 32)) : openL s = false := by
  have h4 : 4 ≤ (sealL bs).length := by unfold sealL; rw [List.length_append, be4_len]; omega
  have hg := (open_iff h4).1 (open_seal bs)
  by_cases ho : openL s = true
  · have h1 := (open_iff (by omega)).1 ho
    rw [h, hg] at h1
    have h2 : good ^^^ (good ^^^ runT D (turnW f 32)) = good ^^^ good := by rw [h1]
    rw [← BitVec.xor_assoc, BitVec.xor_self, BitVec.zero_xor] at h2
    exact absurd (turnW_some hf (runT_none D _ h2)) h0
  · simpa using ho

end Go.Proofs.YtceanfpcddcfoaaGreat
/-
  Envelopes: what may be one, by the document; their bytes, and what is read of bytes. Of no program; no conditions beyond what each theorem states.
-/
namespace Go.Proofs.YtceanfpcddcfoaaGreat
open Go.ChangeShapes Go.WideShapes Go.ChangeAt Go.RowKit Go.Lib
set_option linter.unusedVariables false
set_option linter.unusedSimpArgs false

/-- An envelope: what must be known ahead, and a transaction. -/
structure Em where
  deps : List Vec.En
  txn : Tm
def e0 : Em := ⟨[], t0⟩
def fitE (e : Em) : Int := if Vec.rightB e.deps = false ∨ Vec.getL e.deps e.txn.r ≠ 0 then 11 else fitT e.txn
def readyE (e : Em) (h : List Vec.En) : Bool := decide (Vec.getL h e.txn.r + 1 = e.txn.seq) && Vec.coversL h e.deps
def pastE (e : Em) (h : List Vec.En) : Bool := decide (e.txn.seq ≤ Vec.getL h e.txn.r)
def needsE (e : Em) (h : List Vec.En) : List Vec.Gp := Vec.lacksL h (Vec.withL e.deps e.txn.r (e.txn.seq - 1))
theorem rightB_iff {xs : List Vec.En} : Vec.rightB xs = true ↔ Vec.RightP xs := by
  unfold Vec.rightB
  exact ⟨fun h => @of_decide_eq_true _ (Vec.decRight xs) h, fun h => @decide_eq_true _ (Vec.decRight xs) h⟩
theorem fitE_ok {e : Em} (h : fitE e = 0) : Vec.RightP e.deps ∧ Vec.getL e.deps e.txn.r = 0 ∧ fitT e.txn = 0 := by
  unfold fitE at h
  by_cases h1 : Vec.rightB e.deps = false ∨ Vec.getL e.deps e.txn.r ≠ 0
  · rw [if_pos h1] at h; cases h
  · rw [if_neg h1] at h
    refine ⟨rightB_iff.1 ?_, ?_, h⟩
    · cases hb : Vec.rightB e.deps
      · exact absurd (Or.inl hb) h1
      · rfl
    · by_cases hg : Vec.getL e.deps e.txn.r = 0
      · exact hg
      · exact absurd (Or.inr hg) h1
theorem right_mem {xs : List Vec.En} (h : Vec.RightP xs) : ∀ x ∈ xs, 1 ≤ x.2 ∧ x.2 ≤ 268435456 := fun x hx => by
  obtain ⟨i, hi, rfl⟩ := Vec.mem_atL hx
  exact ⟨(h i hi).1, (h i hi).2.1⟩
theorem getL_right {xs : List Vec.En} (h : Vec.RightP xs) (r : Int) : 0 ≤ Vec.getL xs r ∧ Vec.getL xs r ≤ 268435456 := by
  have := right_mem h
  clear h
  induction xs with
  | nil => simp [Vec.getL]
  | cons x xs ih =>
    have h1 := this x (by simp)
    have h2 := ih (fun y hy => this y (by simp [hy]))
    unfold Vec.getL
    split <;> omega
theorem right_srt {xs : List Vec.En} (h : Vec.RightP xs) : ∀ i j, i < j → j < xs.length → (Vec.atL xs i).1 < (Vec.atL xs j).1 := by
  intro i j hij
  induction j with
  | zero => omega
  | succ j ih =>
    intro hj
    have h1 := (h (j + 1) hj).2.2 (by omega)
    rw [Nat.add_sub_cancel] at h1
    by_cases e : i = j
    · subst e; exact h1
    · have := ih (by omega) (by omega); omega

/-- Entries, written. -/
def bytesD (l : List Vec.En) : List UInt8 := l.flatMap fun d => encN d.1.toNat ++ encN d.2.toNat
theorem bytesD_take {l : List Vec.En} {k : Nat} (h : k < l.length) : bytesD (l.take (k + 1)) = bytesD (l.take k) ++ (encN (Vec.atL l k).1.toNat ++ encN (Vec.atL l k).2.toNat) := by
  rw [Vec.take_atL l k h]; simp [bytesD]
theorem bytesD_len {l : List Vec.En} (h : Vec.Fits l) : (bytesD l).length ≤ 18 * l.length := by
  induction l with
  | nil => simp [bytesD]
  | cons x l ih =>
    have := ih (fun y hy => h y (by simp [hy]))
    have hx := h x (by simp)
    have e1 := encN_len (n := x.1.toNat) (by omega)
    have e2 := encN_len (n := x.2.toNat) (by omega)
    unfold bytesD at this ⊢
    rw [List.flatMap_cons, List.length_append, List.length_append, List.length_cons]
    omega
def bodyE (e : Em) : List UInt8 := encN e.deps.length ++ (bytesD e.deps ++ bytesT e.txn)
/-- A number as four bytes, the highest first. -/
def be4n (n : Nat) : List UInt8 := [UInt8.ofNat (n / 16777216), UInt8.ofNat (n / 65536 % 256), UInt8.ofNat (n / 256 % 256), UInt8.ofNat (n % 256)]
def headE (n : Nat) : List UInt8 := 67 :: 80 :: 1 :: be4n n
def frameE (e : Em) : List UInt8 := headE ((bodyE e).length + 11) ++ bodyE e
def bytesE (e : Em) : List UInt8 := sealL (frameE e)
theorem headE_len (n : Nat) : (headE n).length = 7 := rfl
theorem frameE_len (e : Em) : (frameE e).length = (bodyE e).length + 7 := by unfold frameE; rw [List.length_append, headE_len]; omega
theorem bytesE_len (e : Em) : (bytesE e).length = (bodyE e).length + 11 := by unfold bytesE sealL; rw [List.length_append, frameE_len]; rfl

/-- So many entries, read one behind the other; nothing more behind an error. -/
def rdDs (bs : List UInt8) : Nat → Nat → Nat → List Vec.En × Nat × Nat
  | 0, q, e => ([], q, e)
  | n + 1, q, e => if e = 0 then
      ((((rdN bs q 0 65535).1 : Int), ((rdN bs (rdN bs q 0 65535).2.1 (rdN bs q 0 65535).2.2 268435456).1 : Int)) :: (rdDs bs n (rdN bs (rdN bs q 0 65535).2.1 (rdN bs q 0 65535).2.2 268435456).2.1 (rdN bs (rdN bs q 0 65535).2.1 (rdN bs q 0 65535).2.2 268435456).2.2).1, (rdDs bs n (rdN bs (rdN bs q 0 65535).2.1 (rdN bs q 0 65535).2.2 268435456).2.1 (rdN bs (rdN bs q 0 65535).2.1 (rdN bs q 0 65535).2.2 268435456).2.2).2)
    else ([], q, e)
theorem rdDs_err (bs : List UInt8) (n q e : Nat) (h : e ≠ 0) : rdDs bs n q e = ([], q, e) := by
  cases n with
  | zero => rfl
  | succ n => rw [rdDs, if_neg h]
/-- An entry at a place. -/
def rdD (bs : List UInt8) (q : Nat) : Vec.En × Nat × Nat := ((((rdN bs q 0 65535).1 : Int), ((rdN bs (rdN bs q 0 65535).2.1 (rdN bs q 0 65535).2.2 268435456).1 : Int)), (rdN bs (rdN bs q 0 65535).2.1 (rdN bs q 0 65535).2.2 268435456).2)
theorem rdDs_step {bs : List UInt8} {n k q : Nat} (hk : k < n) : rdDs bs (n - k) q 0 = ((rdD bs q).1 :: (rdDs bs (n - (k + 1)) (rdD bs q).2.1 (rdD bs q).2.2).1, (rdDs bs (n - (k + 1)) (rdD bs q).2.1 (rdD bs q).2.2).2) := by
  rw [show n - k = (n - (k + 1)) + 1 by omega, rdDs, if_pos rfl]
  rfl
theorem rdD_range {bs : List UInt8} {q : Nat} (hq : q ≤ bs.length) : (rdD bs q).2.1 ≤ bs.length ∧ (rdD bs q).2.2 < 16 ∧ 0 ≤ (rdD bs q).1.1 ∧ (rdD bs q).1.1 ≤ 65535 ∧ 0 ≤ (rdD bs q).1.2 ∧ (rdD bs q).1.2 ≤ 268435456 := by
  have a := rdN_fits (bs := bs) (q := q) (e := 0) (limit := 65535) hq
  have b := rdN_fits (bs := bs) (q := (rdN bs q 0 65535).2.1) (e := (rdN bs q 0 65535).2.2) (limit := 268435456) a.1
  unfold rdD
  simp only
  omega
theorem rdN_step {bs : List UInt8} {q limit : Nat} : (rdN bs q 0 limit).2.2 = 0 → q + 1 ≤ (rdN bs q 0 limit).2.1 := by
  intro h
  rw [rdN_read] at h ⊢
  have := read_fair (bs.drop q) limit
  unfold Fair at this
  simp only at h ⊢
  omega
theorem rdD_more {bs : List UInt8} {q : Nat} (h : (rdD bs q).2.2 = 0) : q + 2 ≤ (rdD bs q).2.1 := by
  unfold rdD at h ⊢
  simp only at h ⊢
  by_cases h1 : (rdN bs q 0 65535).2.2 = 0
  · rw [h1] at h ⊢
    have := rdN_step h
    have := rdN_step h1
    omega
  · rw [rdN_err h1] at h
    exact absurd h h1
theorem rdDs_range {bs : List UInt8} : ∀ (n q e : Nat), q ≤ bs.length → e < 16 → (rdDs bs n q e).2.1 ≤ bs.length ∧ (rdDs bs n q e).2.2 < 16 ∧ Vec.Fits (rdDs bs n q e).1 ∧ q + 2 * (rdDs bs n q e).1.length ≤ bs.length + 2 := by
  intro n
  induction n with
  | zero => intro q e hq he; exact ⟨hq, he, fun x hx => (by cases hx), by simp [rdDs]; omega⟩
  | succ n ih =>
    intro q e hq he
    rw [rdDs]
    split
    · have r := rdD_range hq
      have i := ih (rdD bs q).2.1 (rdD bs q).2.2 r.1 r.2.1
      have m := rdD_more (bs := bs) (q := q)
      have hx : (((rdN bs q 0 65535).1 : Int), ((rdN bs (rdN bs q 0 65535).2.1 (rdN bs q 0 65535).2.2 268435456).1 : Int)) = (rdD bs q).1 := rfl
      have hy : (rdN bs (rdN bs q 0 65535).2.1 (rdN bs q 0 65535).2.2 268435456).2 = (rdD bs q).2 := rfl
      rw [hx, hy]
      refine ⟨i.1, i.2.1, fun x hx => ?_, ?_⟩
      · rcases List.mem_cons.1 hx with rfl | hx
        · have := r.2.2; omega
        · exact i.2.2.1 x hx
      · simp only [List.length_cons]
        by_cases h0 : (rdD bs q).2.2 = 0
        · have := m h0; have := i.2.2.2; omega
        · rw [rdDs_err _ _ _ _ h0]; simp; omega
    · exact ⟨hq, he, fun x hx => (by cases hx), by simp; omega⟩
theorem rdD_at {pre post : List UInt8} {x : Vec.En} (h0 : 0 ≤ x.1) (h1 : x.1 ≤ 65535) (h2 : 0 ≤ x.2) (h3 : x.2 ≤ 268435456) : rdD (pre ++ ((encN x.1.toNat ++ encN x.2.toNat) ++ post)) pre.length = (x, pre.length + (encN x.1.toNat ++ encN x.2.toNat).length, 0) := by
  have e1 := rdN_at (pre := pre) (post := encN x.2.toNat ++ post) (n := x.1.toNat) (limit := 65535) (by omega) (by omega)
  have e2 := rdN_at (pre := pre ++ encN x.1.toNat) (post := post) (n := x.2.toNat) (limit := 268435456) (by omega) (by omega)
  obtain ⟨a, b⟩ := x
  simp only [List.append_assoc, List.length_append] at e1 e2 ⊢
  unfold rdD
  rw [e1]
  simp only
  rw [e2]
  simp only [Prod.mk.injEq, and_true]
  simp only at h0 h2
  refine ⟨⟨Int.toNat_of_nonneg h0, Int.toNat_of_nonneg h2⟩, by omega⟩
theorem rdDs_at : ∀ (l : List Vec.En) (pre post : List UInt8), Vec.Fits l → (∀ x ∈ l, x.2 ≤ 268435456) → rdDs (pre ++ (bytesD l ++ post)) l.length pre.length 0 = (l, pre.length + (bytesD l).length, 0) := by
  intro l
  induction l with
  | nil => intro pre post _ _; simp [rdDs, bytesD]
  | cons x l ih =>
    intro pre post hf h0
    have hx := hf x (by simp)
    have e1 := rdD_at (pre := pre) (post := bytesD l ++ post) hx.1 hx.2.1 hx.2.2.1 (h0 x (by simp))
    have e2 := ih (pre ++ (encN x.1.toNat ++ encN x.2.toNat)) post (fun y hy => hf y (by simp [hy])) (fun y hy => h0 y (by simp [hy]))
    have hb : bytesD (x :: l) = (encN x.1.toNat ++ encN x.2.toNat) ++ bytesD l := by simp [bytesD]
    have hs := rdDs_step (bs := pre ++ (bytesD (x :: l) ++ post)) (n := l.length + 1) (k := 0) (q := pre.length) (by omega)
    rw [Nat.sub_zero, Nat.zero_add, Nat.add_sub_cancel] at hs
    rw [List.length_cons, hs, hb]
    simp only [List.append_assoc, List.length_append] at e1 e2 ⊢
    rw [e1]
    simp only
    rw [e2]
    simp
    omega
theorem be4_len4 (s : R32) : (be4 s).length = 4 := rfl
theorem readTx_atp {t : Tm} {pre post : List UInt8} (hf : FitTm t) (h0 : fitT t = 0) : readTx (pre ++ (bytesT t ++ post)) pre.length 0 = (t, pre.length + (bytesT t).length, 0) := by
  obtain ⟨g1, g2, g3, g4, g5, g6, g7, g8, g9⟩ := fitT_ok h0
  have hO := fitOs_ok t.ops (-1) g9
  unfold FitTm at hf
  obtain ⟨f1, f2, f3, f4, f5, f6, f7, f8, f9⟩ := hf
  obtain ⟨r, seq, clock, user, ops⟩ := t
  simp only at f1 f2 f3 f4 f5 f6 f7 f8 f9 g1 g2 g3 g4 g5 g6 g7 g8 g9 hO
  obtain ⟨R, rfl⟩ := nat_of f1
  obtain ⟨S, rfl⟩ := nat_of f3
  obtain ⟨C, rfl⟩ := nat_of f5
  obtain ⟨U, rfl⟩ := nat_of g5
  have e1 := rdN_at (pre := pre) (post := encN S ++ (encN C ++ (encN U ++ (encN ops.length ++ (ops.flatMap bytesO ++ post))))) (n := R) (limit := 65535) (by omega) (by omega)
  have e2 := rdN_at (pre := pre ++ encN R) (post := encN C ++ (encN U ++ (encN ops.length ++ (ops.flatMap bytesO ++ post)))) (n := S) (limit := 268435456) (by omega) (by omega)
  have e3 := rdN_at (pre := pre ++ (encN R ++ encN S)) (post := encN U ++ (encN ops.length ++ (ops.flatMap bytesO ++ post))) (n := C) (limit := 1099511627776) (by omega) (by omega)
  have e4 := rdN_at (pre := pre ++ (encN R ++ (encN S ++ encN C))) (post := encN ops.length ++ (ops.flatMap bytesO ++ post)) (n := U) (limit := 7) (by omega) (by omega)
  have e5 := rdN_at (pre := pre ++ (encN R ++ (encN S ++ (encN C ++ encN U)))) (post := ops.flatMap bytesO ++ post) (n := ops.length) (limit := 16) (by omega) (by omega)
  have e6 := rdOs_at ops (pre ++ (encN R ++ (encN S ++ (encN C ++ (encN U ++ encN ops.length))))) post f9 (fun o ho => (hO o ho).1)
  have hb : bytesT ⟨(R : Int), (S : Int), (C : Int), (U : Int), ops⟩ = encN R ++ (encN S ++ (encN C ++ (encN U ++ (encN ops.length ++ ops.flatMap bytesO)))) := by unfold bytesT; simp
  rw [hb]
  simp only [List.append_assoc, List.length_append, Nat.add_assoc] at e1 e2 e3 e4 e5 e6 ⊢
  unfold readTx
  simp only
  rw [e1]
  simp only
  rw [e2]
  simp only [Nat.add_assoc]
  rw [e3]
  simp only [Nat.add_assoc]
  rw [e4]
  simp only [Nat.add_assoc]
  rw [e5]
  simp only [Nat.add_assoc]
  rw [e6]
  simp [Nat.add_assoc]
/-- What stands in the frame. -/
def readBody (bs : List UInt8) : Em × Int :=
  let n := rdN bs 0 0 65536
  let d := rdDs bs n.1 n.2.1 n.2.2
  let t := readTx bs d.2.1 d.2.2
  if t.2.2 ≠ 0 then (e0, (t.2.2 : Int)) else if t.2.1 < bs.length then (e0, 15) else if fitE ⟨d.1, t.1⟩ ≠ 0 then (e0, fitE ⟨d.1, t.1⟩) else (⟨d.1, t.1⟩, 0)
theorem readBody_eq (bs : List UInt8) {n : Nat × Nat × Nat} {d : List Vec.En × Nat × Nat} {t : Tm × Nat × Nat} (hn : rdN bs 0 0 65536 = n) (hd : rdDs bs n.1 n.2.1 n.2.2 = d) (ht : readTx bs d.2.1 d.2.2 = t) : readBody bs = (if t.2.2 ≠ 0 then (e0, (t.2.2 : Int)) else if t.2.1 < bs.length then (e0, 15) else if fitE ⟨d.1, t.1⟩ ≠ 0 then (e0, fitE ⟨d.1, t.1⟩) else (⟨d.1, t.1⟩, 0)) := by
  subst hn hd ht
  rfl
theorem readTx_err {bs : List UInt8} {q e : Nat} (h : e ≠ 0) : readTx bs q e = (t0, q, e) := by
  unfold readTx
  rw [rdN_err h]
  simp only
  rw [rdN_err h]
  simp only
  rw [rdN_err h]
  simp only
  rw [rdN_err h]
  simp only
  rw [rdN_err h]
  simp only
  rw [rdOs_err _ _ _ _ h]
  simp only
  rw [if_neg h]
theorem readT_short (bs : List UInt8) (limit : Nat) : (readT bs limit).1.length ≤ limit := by
  have hf := read_fair bs limit
  unfold Fair at hf
  unfold readT
  split
  · simp
  · split
    · simp
    · simp only [List.length_take]; omega
theorem rdT_short (bs : List UInt8) (q e limit : Nat) : (rdT bs q e limit).1.length ≤ limit := by
  unfold rdT
  split
  · exact readT_short _ _
  · simp
theorem readB_short (bs : List UInt8) (k : Nat) (t : Nat × Nat × Nat) (q e : Nat) : (readB bs k t q e).1.text.length ≤ 64 := by
  have := rdT_short bs q e 64
  unfold readB
  split
  · split
    · exact this
    · simp [o0]
  · split
    · split
      · simp
      · simp [o0]
    · split
      · simp
      · simp [o0]
theorem readO_short (bs : List UInt8) (q e : Nat) : (readO bs q e).1.text.length ≤ 64 := by
  unfold readO
  split
  · exact readB_short _ _ _ _ _
  · exact readB_short _ _ _ _ _
theorem rdOs_short (bs : List UInt8) : ∀ (n q e : Nat), ∀ o ∈ (rdOs bs n q e).1, o.text.length ≤ 64 := by
  intro n
  induction n with
  | zero => intro q e o ho; cases ho
  | succ n ih =>
    intro q e o ho
    rw [rdOs] at ho
    split at ho
    · rcases List.mem_cons.1 ho with rfl | ho
      · exact readO_short _ _ _
      · exact ih _ _ o ho
    · cases ho
theorem readTx_short (bs : List UInt8) (q e : Nat) : ∀ o ∈ (readTx bs q e).1.ops, o.text.length ≤ 64 := by
  rw [readTx_ch]
  split
  · exact rdOs_short _ _ _ _
  · intro o ho; cases ho
/-- The four bytes' number. -/
def num4 (bs : List UInt8) : Nat := (bs.getD 3 0).toNat * 16777216 + (bs.getD 4 0).toNat * 65536 + (bs.getD 5 0).toNat * 256 + (bs.getD 6 0).toNat
def frameOk (bs : List UInt8) : Prop := (bs.getD 0 0).toNat = 67 ∧ (bs.getD 1 0).toNat = 80 ∧ (bs.getD 2 0).toNat = 1 ∧ num4 bs = bs.length
/-- The envelope that bytes are, and an error. -/
def readE (bs : List UInt8) : Em × Int :=
  if bs.length < 11 then (e0, 14) else if 1048576 < bs.length then (e0, 15)
  else if (bs.getD 0 0).toNat ≠ 67 ∨ (bs.getD 1 0).toNat ≠ 80 ∨ (bs.getD 2 0).toNat ≠ 1 ∨ num4 bs ≠ bs.length then (e0, 30)
  else if openL bs = false then (e0, 31) else readBody ((bs.take (bs.length - 4)).drop 7)
theorem readBody_all {e : Em} (hd : Vec.Fits e.deps) (hl : e.deps.length ≤ 65536) (ht : FitTm e.txn) (h0 : fitE e = 0) : readBody (bodyE e) = (e, 0) := by
  obtain ⟨h1, h2, h3⟩ := fitE_ok h0
  obtain ⟨g1, g2, g3, g4, g5, g6, g7, g8, g9⟩ := fitT_ok h3
  have a := rdN_at (pre := []) (post := bytesD e.deps ++ bytesT e.txn) (n := e.deps.length) (limit := 65536) (by omega) hl
  have b := rdDs_at e.deps (encN e.deps.length) (bytesT e.txn) hd (fun x hx => (right_mem h1 x hx).2)
  have c := readTx_atp (pre := encN e.deps.length ++ bytesD e.deps) (post := []) ht h3
  have hb : bodyE e = encN e.deps.length ++ (bytesD e.deps ++ bytesT e.txn) := rfl
  rw [List.append_nil] at c
  simp only [List.nil_append, List.length_nil, Nat.zero_add, List.append_assoc, List.length_append] at a b c
  unfold readBody
  simp only
  rw [hb, a]
  simp only
  rw [b]
  simp only
  rw [c]
  simp only
  rw [if_neg (by simp), if_neg (by simp [List.length_append]; omega)]
  have he : (⟨e.deps, e.txn⟩ : Em) = e := rfl
  rw [he, h0]
  simp
end Go.Proofs.YtceanfpcddcfoaaGreat
/-
  What the laws' own copyistmade.Spans hands back. No conditions beyond what each theorem states.
-/
namespace Go.Proofs.YtceanfpcddcfoaaGreat
open Go.ChangeShapes Go.WideShapes Go.ChangeAt Go.RowKit Go.Lib
set_option linter.unusedVariables false
set_option linter.unusedSimpArgs false

set_option maxHeartbeats 1600000 in
theorem mspans_any (l : List Sp) (p : Option Addr) (c : Nat) (w : World) (hR : GRow layS w p l) (hl : l.length ≤ 8796093021952) :
    Calls Tryz.prog 83 #[.slice p l.length c] w (Made layS 136 w l) := by
  obtain ⟨i0, hi, hz0, hz1, hz2⟩ := info_parts infoRS
  have HR := Lib.hid hR
  clear hR
  go_enter Tryz.func83, Tryz.ntmps83
  go_wp2
  go_loopg [3, 8] l.length (fun g v i wr => ∃ k : Nat, k ≤ l.length ∧ l.length - k ≤ g ∧ i = .int .i64 (k : Int) ∧ Hold layS w 136 v (l.take k) wr)
  case atStart => exact ⟨0, Nat.zero_le _, by omega, rfl, Hold.nil _ _ _⟩
  case round =>
    obtain ⟨k, hk, hg, rfl, hO⟩ := hrel
    have HO := Lib.hid hO
    clear hO
    by_cases hlt : k < l.length
    · obtain ⟨b, o, rfl, c0', c1', c2'⟩ := srow_at HR.out hlt
      have c0 := cellU c0' HO.out.2
      have c1 := cellU c1' HO.out.2
      have c2 := cellU c2' HO.out.2
      clear c0' c1' c2'
      have HNX := Lib.hid (take_getD s0 hlt)
      generalize l.getD k s0 = s at c0 c1 c2 HNX
      obtain ⟨r, n, m⟩ := s
      simp only at c0 c1 c2
      have hkl : (l.take k).length = k := by rw [List.length_take]; omega
      have HW : Hid (∀ o o', ((wr.alloc o).alloc o').ownsRow w.heap.size 136 3 u3 k (layS.flat (l.take k))) := fun o o' => by
        have := ((HO.out.alloc o).alloc o').1
        rw [hkl] at this; exact this
      go_wp2_with (first
        | (at_builtin; refine wpList_append_own _ rfl (.tmp 12) (.tmp 18) 69 rfl w.heap.size 136 i0 (.agg #[.int .u16 0, .int .u32 0, .int .i64 0]) 3 16 Tryz.underlying69 hi hz0 hz1 hz2 rfl (by decide) _ k (layS.flat (l.take k)) rfl (HW.out _ _) ⟨wr.heap.size + 1, 0, none⟩ 1 1 [.int .u16 r, .int .u32 n, .int .i64 m] rfl rfl (by have := cells_new (W := wr.alloc (.cells #[.int .u16 r, .int .u32 n, .int .i64 m] 160)) (cs := [.int .u16 r, .int .u32 n, .int .i64 m]) (t := 136); simpa using this) (layS.one (r, n, m)) (by unfold maxLen; omega) (by omega) (by have := HO.out.2.size; simp; omega) ?_))
      intro v' w1 hown' hgrow _
      have HO2 : Hid (Hold layS w 136 v' (l.take (k + 1)) w1) := by
        rw [HNX.out]
        exact ((HO.out.alloc _).alloc _).onto rfl (by rw [hkl]; rfl) hown' hgrow
      clear hown' hgrow hkl
      go_wp2
      go_roundg (l.length - (k + 1))
      case measure => omega
      case rel => exact ⟨k + 1, by omega, Nat.le_refl _, by go_num, HO2.out⟩
    · have : k = l.length := by omega
      subst this
      rw [List.take_length] at HO
      go_wp2
      go_ret
      exact ⟨_, rfl, HO.out⟩


end Go.Proofs.YtceanfpcddcfoaaGreat
/-
  A region that draws its order, whose first operations only read (their callees may lay blocks), and whose last ones wait for all ahead of them, each for the one before: one walk in the order of the text serves every order. Of no program. No conditions beyond what each theorem states.
-/
namespace Go.Proofs.YtceanfpcddcfoaaGreat
open Go Go.Sort Go.RowKit
set_option linter.unusedVariables false
set_option linter.unusedSimpArgs false

/-- The last operations come up one by one. -/
def tailB (md : Region.Mode) (ops : Array Oper) : Nat → Nat → Array Bool → Bool
  | 0, _, listed => (Region.ready md ops listed).isEmpty
  | f + 1, k, listed => (Region.ready md ops listed == [k]) && tailB md ops f (k + 1) (listed.setIfInBounds k true)
/-- All of the last operations wait for number i. -/
def waitsB (md : Region.Mode) (ops : Array Oper) (k0 i : Nat) : Bool :=
  (List.range ops.size).all fun j => decide (j < k0) || match ops[j]? with
    | some oj => oj.after.any (fun e => Region.binds md e && e.on == i)
    | none => true
def lexT (md : Region.Mode) (ops : Array Oper) (k0 f : Nat) : Nat → Nat → Array Bool → Bool
  | 0, _, listed => (Region.ready md ops listed).all (fun j => decide (k0 ≤ j)) && tailB md ops f k0 listed
  | n + 1, k, listed => (Region.ready md ops listed).contains k && Region.free md ops listed k && (decide (k < k0) && waitsB md ops k0 k) && lexT md ops k0 f n (k + 1) (listed.setIfInBounds k true)

/-- Whatever order is picked from here on, of m operations of the first k0. -/
def anyT (P : Program) (md : Region.Mode) (ops : Array Oper) (C : World → Prop) (k0 f : Nat) (Q : Act → Prop) : Nat → Array Bool → Act → Prop
  | 0, listed, a => (∀ j ∈ Region.ready md ops listed, k0 ≤ j) ∧ tailB md ops f k0 listed = true ∧ Q a
  | m + 1, listed, a => Region.ready md ops listed ≠ [] ∧ ∀ i ∈ Region.ready md ops listed, i < k0 ∧ qOp P ops C i (anyT P md ops C k0 f Q m (listed.setIfInBounds i true)) a

theorem any_of_list {P : Program} {ops : Array Oper} {md : Region.Mode} {Q' : Exit → Act → World → Prop} : ∀ (t : List Oper) (k : Nat) (listed : Array Bool) (a : Act) (w : World), (∀ j, t[j]? = ops[k + j]?) → tailB md ops t.length k listed = true →
    wpList P ops Q' t a w → wpAny P md ops Q' t.length listed a w
  | [], _, _, _, _, _, hB, h => ⟨by simpa [tailB] using hB, h⟩
  | o :: t, k, listed, a, w, ht, hB, h => by
    have h0 : ops[k]? = some o := by simpa using (ht 0).symm
    simp only [List.length_cons, tailB, Bool.and_eq_true, beq_iff_eq] at hB
    obtain ⟨hr, hB'⟩ := hB
    have next : ∀ a w, wpList P ops Q' t a w → wpAny P md ops Q' t.length (listed.setIfInBounds k true) a w := fun a w hh =>
      any_of_list t (k + 1) _ a w (fun j => by have := ht (j + 1); simpa [Nat.add_assoc, Nat.add_comm 1 j] using this) hB' hh
    refine ⟨fun e => (by rw [hr] at e; cases e), fun i hi => ?_⟩
    rw [hr, List.mem_singleton] at hi
    subst hi
    refine wpOp_mono next ?_
    unfold wpOp
    simp only [h0]
    exact h

theorem any_of_anyT {P : Program} {ops : Array Oper} {md : Region.Mode} {C : World → Prop} {Q' : Exit → Act → World → Prop} {k0 f : Nat} {Q : Act → Prop} (hR : ∀ listed a w, C w → tailB md ops f k0 listed = true → Q a → wpAny P md ops Q' f listed a w) :
    ∀ (m : Nat) (listed : Array Bool) (a : Act) (w : World), C w → anyT P md ops C k0 f Q m listed a → wpAny P md ops Q' (m + f) listed a w
  | 0, listed, a, w, hw, h => by rw [Nat.zero_add]; exact hR _ _ _ hw h.2.1 h.2.2
  | m + 1, listed, a, w, hw, h => by
    rw [Nat.add_right_comm]
    exact ⟨fun h0 => absurd h0 h.1, fun i hi => wpOp_of_qOp hw (fun a' w' hw' h' => any_of_anyT hR m _ a' w' hw' h') (h.2 i hi).2⟩

theorem not_waits {ops : Array Oper} {md : Region.Mode} {listed : Array Bool} {i j : Nat} (hi : i ∈ Region.ready md ops listed) (hj : j ∈ Region.ready md ops listed) {oj : Oper} (hoj : ops[j]? = some oj) : ∀ e ∈ oj.after, Region.binds md e = true → e.on ≠ i := fun e he hb heq => by
  obtain ⟨-, o, ho, hall⟩ := mem_ready.1 hj
  rw [hoj] at ho
  cases ho
  have h1 := hall e he hb
  have h0 := (mem_ready.1 hi).1
  rw [heq] at h1
  rcases Nat.lt_or_ge i listed.size with h' | h'
  · simp [h'] at h0 h1; rw [h0] at h1; cases h1
  · simp [Array.getElem?_eq_none h'] at h1

theorem waits_spec {ops : Array Oper} {md : Region.Mode} {k0 i : Nat} (h : waitsB md ops k0 i = true) {j : Nat} {oj : Oper} (hoj : ops[j]? = some oj) (hk : k0 ≤ j) : ∃ e ∈ oj.after, Region.binds md e = true ∧ e.on = i := by
  simp only [waitsB, List.all_eq_true, List.mem_range] at h
  have h1 := h j (Array.getElem?_eq_some_iff.1 hoj).1
  have hk' : ¬ j < k0 := by omega
  simp only [hoj, Bool.or_eq_true, decide_eq_true_eq, hk', false_or] at h1
  obtain ⟨e, he, hb⟩ := Array.any_eq_true'.1 h1
  simp only [Bool.and_eq_true, beq_iff_eq] at hb
  exact ⟨e, he, hb.1, hb.2⟩

theorem anyT_first {P : Program} {ops : Array Oper} {md : Region.Mode} {C : World → Prop} {k0 f : Nat} {Q : Act → Prop} {i : Nat} {oi : Oper} {v : Value} (hi : ops[i]? = some oi) (hik : i < k0) (hw : waitsB md ops k0 i = true)
    (hsel : ∀ (j : Nat) (o : Oper) cs b, ops[j]? = some o → o.op ≠ .select cs b) :
    ∀ (m : Nat) (listed : Array Bool) (a : Act),
      (∀ j oj, ops[j]? = some oj → j ≠ i → listed.getD j true = false → (∀ e ∈ oj.after, Region.binds md e = true → e.on ≠ i) → oi.apart ops oj = true) →
      i ∈ Region.ready md ops listed → YieldsIn P ops C oi v a →
      anyT P md ops C k0 f Q m (listed.setIfInBounds i true) (a.put oi.dst v) → anyT P md ops C k0 f Q (m + 1) listed a := by
  have small : ∀ (listed : Array Bool) j, i ∈ Region.ready md ops listed → j ∈ Region.ready md ops listed → j < k0 := fun listed j hr hj => by
    obtain ⟨-, oj, hoj, -⟩ := mem_ready.1 hj
    rcases Nat.lt_or_ge j k0 with h | h
    · exact h
    · obtain ⟨e, he, hb, hon⟩ := waits_spec hw hoj h
      exact absurd hon (not_waits hr hj hoj e he hb)
  intro m
  induction m with
  | zero =>
    intro listed a _ hr hy H
    refine ⟨fun h => (by rw [h] at hr; cases hr), fun j hj => ?_⟩
    by_cases hji : j = i
    · subst hji; exact ⟨hik, hy.qOp hi H⟩
    · have h1 := H.1 j (ready_mono hj hji)
      have h2 := small listed j hr hj
      omega
  | succ m ih =>
    intro listed a hfree hr hy H
    refine ⟨fun h => (by rw [h] at hr; cases hr), fun j hj => ⟨small listed j hr hj, ?_⟩⟩
    by_cases hji : j = i
    · subst hji; exact hy.qOp hi H
    · have h1 := (H.2 j (ready_mono hj hji)).2
      obtain ⟨hjun, oj, hoj, hall⟩ := mem_ready.1 hj
      have hnot := not_waits hr hj hoj
      have h2 := qOp_put hoj (hfree j oj hoj hji hjun hnot) (fun cs b => hsel i oi cs b hi) (fun cs b => hsel j oj cs b hoj) hy h1
      have hfree' : ∀ k ok, ops[k]? = some ok → k ≠ i → (listed.setIfInBounds j true).getD k true = false →
          (∀ e ∈ ok.after, Region.binds md e = true → e.on ≠ i) → oi.apart ops ok = true := fun k ok hk hki hun hno => by
        refine hfree k ok hk hki ?_ hno
        by_cases hjk : j = k
        · subst hjk; exact hjun
        · rw [getD_set_ne true hjk] at hun; exact hun
      refine qOp_mono (fun a' h3 => ih (listed.setIfInBounds j true) a' hfree' (ready_mono hr (Ne.symm hji)) h3.1 ?_) h2
      rw [Array.setIfInBounds_comm _ _ hji]
      exact h3.2

theorem anyT_lex {P : Program} {ops : Array Oper} {md : Region.Mode} {C : World → Prop} {k0 f : Nat} {Q : Act → Prop} (hs : Region.noSelect ops = true) : ∀ (l : List Oper) (k : Nat) (listed : Array Bool) (a : Act), (∀ j, j < l.length → l[j]? = ops[k + j]?) →
    lexT md ops k0 f l.length k listed = true → wpQuiet P ops C Q l a → anyT P md ops C k0 f Q l.length listed a
  | [], _, _, _, _, hB, h => by
    simp only [List.length_nil, lexT, Bool.and_eq_true, List.all_eq_true, decide_eq_true_eq] at hB
    exact ⟨hB.1, hB.2, h⟩
  | o :: l, k, listed, a, hl, hB, h => by
    have h0 : ops[k]? = some o := by simpa using (hl 0 (by simp)).symm
    simp only [List.length_cons, lexT, Bool.and_eq_true, decide_eq_true_eq] at hB
    obtain ⟨⟨⟨hr, hf⟩, hk, hw⟩, hB'⟩ := hB
    have hst : qOp P ops C k (wpQuiet P ops C Q l) a := by unfold qOp; simp only [h0]; exact h
    obtain ⟨v, hy, hK⟩ := yieldsIn_of_qOp h0 hst
    exact anyT_first h0 hk hw (Region.noSelect_spec hs) l.length listed a (Region.free_spec h0 hf) (by simpa using hr) hy
      (anyT_lex hs l (k + 1) _ _ (fun j hj => by have := hl (j + 1) (by simp; omega); simpa [Nat.add_assoc, Nat.add_comm 1 j] using this) hB' hK)

/-- The check over a region's operations, n of which come ahead of the last ones. -/
def Region.tailOk (n : Nat) (ops : List Oper) : Bool := decide (n ≤ ops.length) && Region.noSelect ops.toArray && lexT .any ops.toArray n (ops.length - n) n 0 (Array.replicate ops.length false)

theorem wp_region_tail {P : Program} {C : World → Prop} {id : Nat} {Q : Exit → Act → World → Prop} {a : Act} {w : World} {ops : List Oper} (n : Nat) (hm : P.follows .mixedOrders = true) (hB : Region.tailOk n ops = true) (hC : C { w with drawn := w.drawn + 1 })
    (h : wpQuiet P ops.toArray C (fun a' => ∀ w', C w' → wpList P ops.toArray Q (ops.drop n) a' w') (ops.take n) a) : (Code.region id ops.toArray true).wp P Q a w := by
  simp only [Region.tailOk, Bool.and_eq_true, decide_eq_true_eq] at hB
  obtain ⟨⟨hn, hs⟩, hl⟩ := hB
  have hlen : (ops.take n).length = n := by rw [List.length_take]; omega
  have hlen2 : (ops.drop n).length = ops.length - n := List.length_drop
  have e : ops.toArray.size = (ops.take n).length + (ops.drop n).length := by rw [hlen, hlen2]; simp; omega
  refine wp_region_any hm ?_
  rw [e]
  refine any_of_anyT (k0 := n) (Q := fun a' => ∀ w', C w' → wpList P ops.toArray Q (ops.drop n) a' w') (fun listed a' w' hw' ht hq => ?_) _ _ _ _ hC ?_
  · exact any_of_list (ops.drop n) n listed a' w' (fun j => by simp) ht (hq w' hw')
  · rw [← e, hlen2]
    refine anyT_lex hs (ops.take n) 0 _ a (fun j hj => ?_) ?_ h
    · rw [hlen] at hj
      simp [List.getElem?_take, hj]
    · rw [hlen]
      simpa using hl

/-- The same, whose callees' contracts end in Below. -/
theorem wp_region_tail_below {P : Program} {id : Nat} {Q : Exit → Act → World → Prop} {a : Act} {w : World} {ops : List Oper} (n : Nat) (hm : P.follows .mixedOrders = true) (hB : Region.tailOk n ops = true)
    (h : wpQuiet P ops.toArray (fun w' => ∃ p : Regrown, w' = grow (redrawn w p.d) p.os) (fun a' => ∀ w', (∃ p : Regrown, w' = grow (redrawn w p.d) p.os) → wpList P ops.toArray Q (ops.drop n) a' w') (ops.take n) a) : (Code.region id ops.toArray true).wp P Q a w :=
  wp_region_tail n hm hB ⟨⟨w.drawn + 1, #[]⟩, by rw [grow_empty]; rfl⟩ h

end Go.Proofs.YtceanfpcddcfoaaGreat
/-
  A region that draws its order: operations that only read, and may be taken first; others that come up one by one and leave what was there as it was; and the last ones, which wait for all that were taken first. One walk serves every order. Of no program. No conditions beyond what each theorem states.
-/
namespace Go.Proofs.YtceanfpcddcfoaaGreat
open Go Go.Sort Go.RowKit
set_option linter.unusedVariables false
set_option linter.unusedSimpArgs false

/-- An operation that yields a value, or halts. -/
def pureB (o : Oper) : Bool := match o.op with
  | .move _ | .assign _ | .pick .. | .build .. | .load .. | .binOp .. | .unOp .. | .convert .. | .slice .. | .fieldAddr .. | .field .. | .indexAddr .. | .index .. | .extract .. => true
  | .call c => match c.callee with
    | .builtin .len => true
    | _ => false
  | _ => false
def Valued (r : Result Next) : Prop := (∃ v w, r = .ok (.value v) w) ∨ ∃ h w, r = .halt h w
theorem valued_bind {α : Type} {P : Program} {w : World} (s : Sem α) (g : α → Value) : Valued ((s >>= fun x => (pure (Next.value (g x)) : Sem Next)).run P w) := by
  rw [Sem.run_bind]
  cases h : s.run P w with
  | ok x w' => exact .inl ⟨g x, w', rfl⟩
  | halt e w' => exact .inr ⟨e, w', rfl⟩
theorem valued_of_pure {P : Program} {w : World} {ρ : Operand → Value} {o : Oper} (h : pureB o = true) : Valued ((execOp ρ o).run P w) := by
  unfold pureB at h
  unfold execOp
  split at h
  all_goals (rename_i e)
  case h_15 c =>
    split at h
    · rename_i hc
      simp only [e]
      unfold resolve invoke
      simp only [hc, Sem.run_bind, Sem.run_pure, Result.andThen_ok]
      exact valued_bind (Builtin.len_ _ _ _) id
    · cases h
  case h_16 => cases h
  all_goals
    simp only [e]
    first
      | exact .inl ⟨_, _, rfl⟩
      | exact valued_bind _ id
      | exact valued_bind _ _

theorem run_of_quiet {P : Program} {C : World → Prop} {w : World} {a : Act} {o : Oper} {v : Value} (h : pureB o = true) (hq : o.quietAt P a C w v) : (execOp a.eval o).run P w = .ok (.value v) w := by
  unfold Oper.quietAt at hq
  rcases valued_of_pure (P := P) (w := w) (ρ := a.eval) h with ⟨u, w', e⟩ | ⟨x, w', e⟩
  · rw [e] at hq ⊢
    obtain ⟨rfl, rfl⟩ := hq
    rfl
  · rw [e] at hq
    exact hq.elim

/-- All operations that are marked wait for number i. -/
def waitsT (md : Region.Mode) (ops : Array Oper) (T : Nat → Bool) (i : Nat) : Bool :=
  (List.range ops.size).all fun j => !T j || match ops[j]? with
    | some oj => oj.after.any (fun e => Region.binds md e && e.on == i)
    | none => true
theorem waitsT_spec {ops : Array Oper} {md : Region.Mode} {T : Nat → Bool} {i : Nat} (h : waitsT md ops T i = true) {j : Nat} {oj : Oper} (hoj : ops[j]? = some oj) (hk : T j = true) : ∃ e ∈ oj.after, Region.binds md e = true ∧ e.on = i := by
  simp only [waitsT, List.all_eq_true, List.mem_range] at h
  have h1 := h j (Array.getElem?_eq_some_iff.1 hoj).1
  simp only [hoj, hk, Bool.not_true, Bool.false_or] at h1
  obtain ⟨e, he, hb⟩ := Array.any_eq_true'.1 h1
  simp only [Bool.and_eq_true, beq_iff_eq] at hb
  exact ⟨e, he, hb.1, hb.2⟩

/-- Whatever order is picked from here on, of m operations that are not marked; behind each the world is of the class. -/
def anyM (P : Program) (md : Region.Mode) (ops : Array Oper) (C : World → Prop) (T : Nat → Bool) (Q : Exit → Act → World → Prop) (f : Nat) : Nat → Array Bool → Act → World → Prop
  | 0, listed, a, w => (∀ j ∈ Region.ready md ops listed, T j = true) ∧ wpAny P md ops Q f listed a w
  | m + 1, listed, a, w => Region.ready md ops listed ≠ [] ∧ ∀ i ∈ Region.ready md ops listed, T i = false ∧ wpOp P ops Q i (fun a' w' => C w' ∧ anyM P md ops C T Q f m (listed.setIfInBounds i true) a' w') a w

theorem any_of_anyM {P : Program} {md : Region.Mode} {ops : Array Oper} {C : World → Prop} {T : Nat → Bool} {Q : Exit → Act → World → Prop} {f : Nat} :
    ∀ (m : Nat) (listed : Array Bool) (a : Act) (w : World), anyM P md ops C T Q f m listed a w → wpAny P md ops Q (m + f) listed a w
  | 0, listed, a, w, h => by rw [Nat.zero_add]; exact h.2
  | m + 1, listed, a, w, h => by
    rw [Nat.add_right_comm]
    exact ⟨fun h0 => absurd h0 h.1, fun i hi => wpOp_mono (fun a' w' h' => any_of_anyM m _ a' w' h'.2) (h.2 i hi).2⟩

theorem anyM_first {P : Program} {md : Region.Mode} {ops : Array Oper} {C : World → Prop} {T : Nat → Bool} {Q : Exit → Act → World → Prop} {f : Nat} {i : Nat} {oi : Oper} {v : Value} (hi : ops[i]? = some oi) (hT : T i = false) (hw : waitsT md ops T i = true)
    (hsel : ∀ (j : Nat) (o : Oper) cs b, ops[j]? = some o → o.op ≠ .select cs b) (hQ : ∀ c a w, Q (.panic c) (a.put oi.dst v) w → Q (.panic c) a w) :
    ∀ (m : Nat) (listed : Array Bool) (a : Act) (w : World),
      (∀ j oj, ops[j]? = some oj → j ≠ i → listed.getD j true = false → (∀ e ∈ oj.after, Region.binds md e = true → e.on ≠ i) → oi.apart ops oj = true) →
      i ∈ Region.ready md ops listed → YieldsIf P ops C oi v a → C w →
      anyM P md ops C T Q f m (listed.setIfInBounds i true) (a.put oi.dst v) w → anyM P md ops C T Q f (m + 1) listed a w := by
  have small : ∀ (listed : Array Bool) j, i ∈ Region.ready md ops listed → j ∈ Region.ready md ops listed → T j = false := fun listed j hr hj => by
    obtain ⟨-, oj, hoj, -⟩ := mem_ready.1 hj
    cases h : T j with
    | false => rfl
    | true =>
      obtain ⟨e, he, hb, hon⟩ := waitsT_spec hw hoj h
      exact absurd hon (not_waits hr hj hoj e he hb)
  intro m
  induction m with
  | zero =>
    intro listed a w _ hr hy hC H
    refine ⟨fun h => (by rw [h] at hr; cases hr), fun j hj => ?_⟩
    by_cases hji : j = i
    · subst hji; exact ⟨hT, hy.wpOp hi hC ⟨hC, H⟩⟩
    · have h1 := H.1 j (ready_mono hj hji)
      rw [small listed j hr hj] at h1
      cases h1
  | succ m ih =>
    intro listed a w hfree hr hy hC H
    refine ⟨fun h => (by rw [h] at hr; cases hr), fun j hj => ⟨small listed j hr hj, ?_⟩⟩
    by_cases hji : j = i
    · subst hji; exact hy.wpOp hi hC ⟨hC, H⟩
    · have h1 := (H.2 j (ready_mono hj hji)).2
      obtain ⟨hjun, oj, hoj, hall⟩ := mem_ready.1 hj
      have hnot := not_waits hr hj hoj
      have h2 := wpOp_putIf hoj (hfree j oj hoj hji hjun hnot) (fun cs b => hsel i oi cs b hi) (fun cs b => hsel j oj cs b hoj) hQ hy h1
      have hfree' : ∀ k ok, ops[k]? = some ok → k ≠ i → (listed.setIfInBounds j true).getD k true = false →
          (∀ e ∈ ok.after, Region.binds md e = true → e.on ≠ i) → oi.apart ops ok = true := fun k ok hk hki hun hno => by
        refine hfree k ok hk hki ?_ hno
        by_cases hjk : j = k
        · subst hjk; exact hjun
        · rw [getD_set_ne true hjk] at hun; exact hun
      refine wpOp_mono (fun a' w' h3 => ⟨h3.2.1, ih (listed.setIfInBounds j true) a' w' hfree' (ready_mono hr (Ne.symm hji)) h3.1 h3.2.1 ?_⟩) h2
      rw [Array.setIfInBounds_comm _ _ hji]
      exact h3.2.2

/-- Those that come up one by one, ahead of the last ones. -/
def seqM (P : Program) (ops : Array Oper) (Q : Exit → Act → World → Prop) (C : World → Prop) (t : List Oper) : List Oper → Act → World → Prop
  | [], a, w => wpList P ops Q t a w
  | o :: rest, a, w => ∀ K : Act → World → Prop, (∀ a' w', C w' → seqM P ops Q C t rest a' w' → K a' w') → wpList P ops (Exit.then K Q) [o] a w
theorem seqM_nil {P : Program} {ops : Array Oper} {Q : Exit → Act → World → Prop} {C : World → Prop} {t : List Oper} {a : Act} {w : World} (h : wpList P ops Q t a w) : seqM P ops Q C t [] a w := h
theorem seqM_step {P : Program} {ops : Array Oper} {Q : Exit → Act → World → Prop} {C : World → Prop} {t rest : List Oper} {o : Oper} {a : Act} {w : World}
    (h : ∀ K : Act → World → Prop, (∀ a' w', C w' → seqM P ops Q C t rest a' w' → K a' w') → wpList P ops (Exit.then K Q) [o] a w) : seqM P ops Q C t (o :: rest) a w := h

theorem upon_then {P : Program} {o : Oper} {a : Act} {K : Act → World → Prop} {Q : Exit → Act → World → Prop} {r : Result Next} (h : o.upon P a (fun a w => Exit.then K Q .normal a w) (Exit.then K Q) r) : o.upon P a K Q r := by
  cases r with
  | ok n w' =>
    cases n <;> simp only [Oper.upon] at h ⊢ <;> exact h
  | halt x w' => cases x <;> simp only [Oper.upon] at h ⊢ <;> exact h
theorem wpOp_of_one {P : Program} {ops : Array Oper} {Q : Exit → Act → World → Prop} {K : Act → World → Prop} {i : Nat} {o : Oper} {a : Act} {w : World} (ho : ops[i]? = some o) (h : wpList P ops (Exit.then K Q) [o] a w) : wpOp P ops Q i K a w := by
  unfold wpOp
  simp only [ho]
  unfold wpList at h
  split at h
  · rename_i hw
    rw [if_pos hw]
    rcases h with h | ⟨h1, a, w, h2⟩
    · exact .inl (upon_then h)
    · exact .inr ⟨h1, a, w, h2⟩
  · rename_i hw
    rw [if_neg hw]
    exact h

def pickOps (ops : List Oper) (is : List Nat) : List Oper := is.filterMap (ops[·]?)
def seqB (md : Region.Mode) (ops : Array Oper) : List Nat → Array Bool → Bool
  | [], listed => (Region.ready md ops listed).isEmpty
  | j :: js, listed => (Region.ready md ops listed == [j]) && decide (j < ops.size) && seqB md ops js (listed.setIfInBounds j true)
def midB (md : Region.Mode) (ops : Array Oper) (T : Nat → Bool) (tail : List Nat) : List Nat → Array Bool → Bool
  | [], listed => (Region.ready md ops listed).all T && seqB md ops tail listed
  | j :: js, listed => (Region.ready md ops listed == [j]) && decide (j < ops.size) && !T j && midB md ops T tail js (listed.setIfInBounds j true)
def mixB (md : Region.Mode) (ops : Array Oper) (T : Nat → Bool) (mid tail : List Nat) : List Nat → Array Bool → Bool
  | [], listed => midB md ops T tail mid listed
  | i :: is, listed => (Region.ready md ops listed).contains i && Region.free md ops listed i && !T i && waitsT md ops T i && (match ops[i]? with | some o => pureB o | none => false) && mixB md ops T mid tail is (listed.setIfInBounds i true)

theorem pick_cons {ops : List Oper} {j : Nat} {js : List Nat} {o : Oper} (h : ops[j]? = some o) : pickOps ops (j :: js) = o :: pickOps ops js := by
  unfold pickOps
  rw [List.filterMap_cons_some h]

theorem any_of_seq {P : Program} {ops : List Oper} {md : Region.Mode} {Q : Exit → Act → World → Prop} : ∀ (js : List Nat) (listed : Array Bool) (a : Act) (w : World), seqB md ops.toArray js listed = true →
    wpList P ops.toArray Q (pickOps ops js) a w → wpAny P md ops.toArray Q js.length listed a w
  | [], _, _, _, hB, h => ⟨by simpa [seqB] using hB, h⟩
  | j :: js, listed, a, w, hB, h => by
    simp only [seqB, Bool.and_eq_true, beq_iff_eq, decide_eq_true_eq] at hB
    obtain ⟨⟨hr, hj⟩, hB'⟩ := hB
    have hj' : j < ops.length := by simpa using hj
    have h0 : ops[j]? = some ops[j] := List.getElem?_eq_getElem hj'
    have h0' : ops.toArray[j]? = some ops[j] := by simp [hj']
    rw [pick_cons h0] at h
    refine ⟨fun e => (by rw [hr] at e; cases e), fun i hi => ?_⟩
    rw [hr, List.mem_singleton] at hi
    subst hi
    refine wpOp_mono (fun a w hh => any_of_seq js _ a w hB' hh) ?_
    unfold wpOp
    simp only [h0']
    exact h

theorem anyM_mid {P : Program} {ops : List Oper} {md : Region.Mode} {C : World → Prop} {T : Nat → Bool} {Q : Exit → Act → World → Prop} {tail : List Nat} : ∀ (js : List Nat) (listed : Array Bool) (a : Act) (w : World), midB md ops.toArray T tail js listed = true →
    seqM P ops.toArray Q C (pickOps ops tail) (pickOps ops js) a w → anyM P md ops.toArray C T Q tail.length js.length listed a w
  | [], listed, a, w, hB, h => by
    simp only [midB, Bool.and_eq_true, List.all_eq_true] at hB
    exact ⟨hB.1, any_of_seq tail listed a w hB.2 h⟩
  | j :: js, listed, a, w, hB, h => by
    simp only [midB, Bool.and_eq_true, beq_iff_eq, decide_eq_true_eq, Bool.not_eq_true'] at hB
    obtain ⟨⟨⟨hr, hj⟩, hT⟩, hB'⟩ := hB
    have hj' : j < ops.length := by simpa using hj
    have h0 : ops[j]? = some ops[j] := List.getElem?_eq_getElem hj'
    have h0' : ops.toArray[j]? = some ops[j] := by simp [hj']
    rw [pick_cons h0] at h
    refine ⟨fun e => (by rw [hr] at e; cases e), fun i hi => ?_⟩
    rw [hr, List.mem_singleton] at hi
    subst hi
    exact ⟨hT, wpOp_of_one h0' (h _ fun a' w' hC hs => ⟨hC, anyM_mid js _ a' w' hB' hs⟩)⟩

theorem anyM_mix {P : Program} {ops : List Oper} {md : Region.Mode} {C : World → Prop} {T : Nat → Bool} {Q : Exit → Act → World → Prop} {mid tail : List Nat} {w : World} (hs : Region.noSelect ops.toArray = true) (hQ : ∀ c (a : Act) d v w, Q (.panic c) (a.put d v) w → Q (.panic c) a w) (hC : C w) : ∀ (is : List Nat) (listed : Array Bool) (a : Act), mixB md ops.toArray T mid tail is listed = true →
    wpQuiet P ops.toArray C (fun a' => seqM P ops.toArray Q C (pickOps ops tail) (pickOps ops mid) a' w) (pickOps ops is) a → anyM P md ops.toArray C T Q tail.length (is.length + mid.length) listed a w
  | [], listed, a, hB, h => by
    rw [List.length_nil, Nat.zero_add]
    exact anyM_mid mid listed a w hB h
  | i :: is, listed, a, hB, h => by
    simp only [mixB, Bool.and_eq_true, Bool.not_eq_true'] at hB
    obtain ⟨⟨⟨⟨⟨hr, hf⟩, hT⟩, hw⟩, hp⟩, hB'⟩ := hB
    cases h0 : ops.toArray[i]? with
    | none => rw [h0] at hp; cases hp
    | some o =>
      rw [h0] at hp
      simp only at hp
      rw [pick_cons (by simpa using h0)] at h
      have hst : qOp P ops.toArray C i (wpQuiet P ops.toArray C (fun a' => seqM P ops.toArray Q C (pickOps ops tail) (pickOps ops mid) a' w) (pickOps ops is)) a := by unfold qOp; simp only [h0]; exact h
      obtain ⟨v, hy, hK⟩ := yieldsIn_of_qOp h0 hst
      have hy' : YieldsIf P ops.toArray C o v a := hy.imp (fun ⟨h1, h2⟩ => ⟨h1, fun w hw => run_of_quiet hp (h2 w hw)⟩) id
      have hl : (i :: is).length + mid.length = (is.length + mid.length) + 1 := by simp only [List.length_cons]; omega
      rw [hl]
      exact anyM_first h0 hT hw (Region.noSelect_spec hs) (fun c a w h => hQ c a _ _ w h) _ listed a w (Region.free_spec h0 hf) (by simpa using hr) hy' hC (anyM_mix hs hQ hC is _ _ hB' hK)

/-- The check over a region's operations: which are taken first, which come up one by one, and which are the last. -/
def Region.mixOk (take mid tail : List Nat) (ops : List Oper) : Bool := decide (take.length + mid.length + tail.length = ops.length) && Region.noSelect ops.toArray && mixB .any ops.toArray (fun j => tail.contains j) mid tail take (Array.replicate ops.length false)

theorem wp_region_mix {P : Program} {C : World → Prop} {id : Nat} {Q : Exit → Act → World → Prop} {a : Act} {w : World} {ops : List Oper} (take mid tail : List Nat) (hm : P.follows .mixedOrders = true) (hB : Region.mixOk take mid tail ops = true) (hQ : ∀ c (a : Act) d v w, Q (.panic c) (a.put d v) w → Q (.panic c) a w) (hC : C w.drew)
    (h : wpQuiet P ops.toArray C (fun a' => seqM P ops.toArray Q C (pickOps ops tail) (pickOps ops mid) a' w.drew) (pickOps ops take) a) : (Code.region id ops.toArray true).wp P Q a w := by
  simp only [Region.mixOk, Bool.and_eq_true, decide_eq_true_eq] at hB
  obtain ⟨⟨hn, hs⟩, hl⟩ := hB
  refine wp_region_any hm ?_
  rw [show ops.toArray.size = take.length + mid.length + tail.length by rw [hn]; simp]
  refine any_of_anyM (C := C) (T := fun j => tail.contains j) _ _ _ _ ?_
  rw [hn]
  exact anyM_mix hs hQ hC take _ a hl h

theorem below_of_drew {w w' : World} (h : Below w.drew.heap.size w.drew w') : Below w.heap.size w w' := ⟨h.os, h.tape, h.output, h.size, h.block⟩

/-- The same at the class of worlds in which of what was there nothing has turned. -/
theorem wp_region_mix_below {P : Program} {id : Nat} {Q : Exit → Act → World → Prop} {a : Act} {w : World} {ops : List Oper} (take mid tail : List Nat) (hm : P.follows .mixedOrders = true) (hB : Region.mixOk take mid tail ops = true) (hQ : ∀ c (a : Act) d v w, Q (.panic c) (a.put d v) w → Q (.panic c) a w)
    (h : wpQuiet P ops.toArray (fun w' => ∃ p : Regrown, w' = grow (redrawn w p.d) p.os) (fun a' => seqM P ops.toArray Q (fun w' => ∃ p : Regrown, w' = grow (redrawn w p.d) p.os) (pickOps ops tail) (pickOps ops mid) a' w.drew) (pickOps ops take) a) : (Code.region id ops.toArray true).wp P Q a w :=
  wp_region_mix take mid tail hm hB hQ ⟨⟨w.drawn + 1, #[]⟩, by rw [grow_empty]; rfl⟩ h

end Go.Proofs.YtceanfpcddcfoaaGreat
