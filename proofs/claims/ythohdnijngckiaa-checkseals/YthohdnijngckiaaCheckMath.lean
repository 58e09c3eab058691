
/-
  The cyclic sum as a register of 32 bits: it is linear, a step can be taken back, and so turned bits within 32 are found. Of no program; no conditions beyond what each theorem states.
-/
import Derived.Test.YthohdnijngckiaaRows
namespace Go.Proofs.Ythohdnijngckiaa
set_option linter.unusedVariables false
set_option linter.unusedSimpArgs false

abbrev R32 := BitVec 32
def poly : R32 := 0x1edc6f41#32
def topR : R32 := 0x80000000#32
/-- A step with a bit of 0. -/
def stepT (s : R32) : R32 := (s <<< 1) ^^^ (if s.msb then poly else 0#32)
/-- A step with any bit. -/
def stepB (s : R32) (b : Bool) : R32 := (s <<< 1) ^^^ (if s.msb != b then poly else 0#32)
def topB (b : Bool) : R32 := if b then topR else 0#32

theorem xor_four (a b c d : R32) : (a ^^^ b) ^^^ (c ^^^ d) = (a ^^^ c) ^^^ (b ^^^ d) := by
  rw [BitVec.xor_assoc, BitVec.xor_assoc, ← BitVec.xor_assoc b c d, BitVec.xor_comm b c, BitVec.xor_assoc c b d]
theorem ite_xor (x y : Bool) : (if (x ^^ y) then poly else 0#32) = (if x then poly else 0#32) ^^^ (if y then poly else 0#32) := by
  cases x <;> cases y <;> simp
theorem stepT_xor (a b : R32) : stepT (a ^^^ b) = stepT a ^^^ stepT b := by
  unfold stepT
  rw [BitVec.shiftLeft_xor_distrib, BitVec.msb_xor, ite_xor, xor_four]
theorem stepT_zero : stepT 0#32 = 0#32 := by decide
theorem stepB_eq (s : R32) (b : Bool) : stepB s b = stepT (s ^^^ topB b) := by
  cases b with
  | false =>
    unfold stepB stepT topB
    simp
  | true =>
    rw [stepT_xor]
    have h : stepT (topB true) = poly := by decide
    rw [h]
    unfold stepB stepT
    cases s.msb <;> simp [BitVec.xor_assoc]
theorem stepB_xor (s d : R32) (b : Bool) : stepB (s ^^^ d) b = stepB s b ^^^ stepT d := by
  rw [stepB_eq, stepB_eq, BitVec.xor_assoc, BitVec.xor_comm d, ← BitVec.xor_assoc, stepT_xor]
theorem stepB_not (s : R32) (b : Bool) : stepB s (!b) = stepB s b ^^^ stepT topR := by
  have h : topB (!b) = topB b ^^^ topR := by cases b <;> decide
  rw [stepB_eq, stepB_eq, h, ← BitVec.xor_assoc, stepT_xor]
/-- A step loses nothing. -/
theorem stepT_none {a : R32} (h : stepT a = 0#32) : a = 0#32 := by
  unfold stepT at h
  cases hm : a.msb with
  | true =>
    rw [hm, if_pos rfl] at h
    have := congrArg (fun x : R32 => x.getLsbD 0) h
    simp [poly] at this
  | false =>
    rw [hm, if_neg (by simp), BitVec.xor_zero] at h
    apply BitVec.eq_of_getLsbD_eq
    intro i hi
    by_cases h31 : i = 31
    · subst h31
      rw [BitVec.msb_eq_getLsbD_last] at hm
      simpa using hm
    · have := congrArg (fun x : R32 => x.getLsbD (i + 1)) h
      simp at this
      rw [this (by omega)]
      simp
def runT : Nat → R32 → R32
  | 0, s => s
  | n + 1, s => runT n (stepT s)
theorem runT_xor (n : Nat) : ∀ a b, runT n (a ^^^ b) = runT n a ^^^ runT n b := by
  induction n with
  | zero => intro a b; rfl
  | succ n ih => intro a b; rw [runT, stepT_xor, ih]; rfl
theorem runT_none (n : Nat) : ∀ a, runT n a = 0#32 → a = 0#32 := by
  induction n with
  | zero => intro a h; exact h
  | succ n ih => intro a h; exact stepT_none (ih _ h)
theorem runT_add (n m : Nat) : ∀ a, runT (n + m) a = runT m (runT n a) := by
  induction n with
  | zero => intro a; rw [Nat.zero_add]; rfl
  | succ n ih => intro a; rw [Nat.succ_add, runT, ih]; rfl
theorem runT_inj {n : Nat} {a b : R32} (h : runT n a = runT n b) : a = b := by
  have : runT n (a ^^^ b) = 0#32 := by rw [runT_xor, h, BitVec.xor_self]
  have h2 := runT_none n _ this
  have h3 : a ^^^ b ^^^ b = 0#32 ^^^ b := by rw [h2]
  rwa [BitVec.xor_assoc, BitVec.xor_self, BitVec.xor_zero, BitVec.zero_xor] at h3

/-- All bits, one by one. -/
def runB (s : R32) (l : List Bool) : R32 := l.foldl stepB s
theorem runB_cons (s : R32) (b : Bool) (l : List Bool) : runB s (b :: l) = runB (stepB s b) l := rfl
theorem runB_append (s : R32) (l m : List Bool) : runB s (l ++ m) = runB (runB s l) m := by simp [runB]
theorem runB_xor (l : List Bool) : ∀ s d, runB (s ^^^ d) l = runB s l ^^^ runT l.length d := by
  induction l with
  | nil => intro s d; rfl
  | cons b l ih => intro s d; rw [runB_cons, stepB_xor, ih]; rfl
/-- A turned bit. -/
theorem runB_turn (l m : List Bool) (b : Bool) (s : R32) : runB s (l ++ (!b) :: m) = runB s (l ++ b :: m) ^^^ runT (m.length + 1) topR := by
  rw [runB_append, runB_append, runB_cons, runB_cons, stepB_not, runB_xor]
  rfl

/-- Bits as a word, the first one the highest. -/
def wordB : List Bool → R32
  | [] => 0#32
  | b :: l => topB b ^^^ (wordB l >>> 1)
theorem topB_bit (b : Bool) (j : Nat) : (topB b).getLsbD j = (b && decide (j = 31)) := by
  cases b with
  | false => simp [topB]
  | true =>
    by_cases hj : j < 32
    · have : ∀ j, j < 32 → (topB true).getLsbD j = (true && decide (j = 31)) := by decide
      exact this j hj
    · rw [BitVec.getLsbD_of_ge _ _ (by omega)]
      simp; omega
theorem wordB_bit (l : List Bool) : ∀ j, j < 32 → (wordB l).getLsbD j = l.getD (31 - j) false := by
  induction l with
  | nil => intro j hj; simp [wordB]
  | cons b l ih =>
    intro j hj
    rw [wordB, BitVec.getLsbD_xor, topB_bit, BitVec.getLsbD_ushiftRight]
    by_cases h : j = 31
    · subst h
      rw [BitVec.getLsbD_of_ge _ _ (by omega)]
      simp
    · rw [Nat.add_comm 1 j, ih (j + 1) (by omega)]
      rw [show 31 - j = (31 - (j + 1)) + 1 by omega, List.getD_cons_succ]
      simp [h]
theorem stepT_back {x : R32} (h : x.getLsbD 0 = false) : stepT (x >>> 1) = x := by
  unfold stepT
  have hm : (x >>> 1).msb = false := by rw [BitVec.msb_eq_getLsbD_last]; simp
  rw [hm, if_neg (by simp), BitVec.xor_zero]
  apply BitVec.eq_of_getLsbD_eq
  intro i hi
  cases i with
  | zero => rw [h]; simp
  | succ i =>
    rw [BitVec.getLsbD_shiftLeft]
    simp [hi, Nat.add_comm 1 i]
/-- Up to 32 bits at once. -/
theorem runB_word (l : List Bool) : l.length ≤ 32 → ∀ s, runB s l = runT l.length (s ^^^ wordB l) := by
  induction l with
  | nil => intro _ s; show s = s ^^^ 0#32; rw [BitVec.xor_zero]
  | cons b l ih =>
    intro hl s
    have hl' : l.length + 1 ≤ 32 := by simpa using hl
    rw [runB_cons, ih (by omega), List.length_cons, runT, wordB]
    congr 1
    rw [stepB_eq, ← BitVec.xor_assoc, stepT_xor (s ^^^ topB b), stepT_back]
    rw [wordB_bit _ 0 (by omega), List.getD_eq_getElem?_getD, List.getElem?_eq_none (by omega)]
    rfl
/-- A turned bit, seen from 32 bits ahead. -/
theorem top_back {j : Nat} (h : j < 31) : stepT (topR >>> (j + 1)) = topR >>> j := by
  have : ∀ j, j < 31 → stepT (topR >>> (j + 1)) = topR >>> j := by decide
  exact this j h
theorem runT_top : ∀ j, j ≤ 31 → ∀ m, j ≤ m → runT (m - j) topR = runT m (topR >>> j) := by
  intro j
  induction j with
  | zero => intro _ m _; simp
  | succ j ih =>
    intro h1 m h2
    obtain ⟨n, rfl⟩ : ∃ n, m = n + 1 := ⟨m - 1, by omega⟩
    rw [runT, top_back (by omega), ← ih (by omega) n (by omega), show n + 1 - (j + 1) = n - j by omega]

/-- The turned bits of a number, the lowest first. -/
def turnW (f : Nat) : Nat → R32
  | 0 => 0#32
  | i + 1 => turnW f i ^^^ (if f.testBit i then topR >>> i else 0#32)
theorem top_bit {i j : Nat} (hi : i < 32) (hj : j < 32) : (topR >>> i).getLsbD j = decide (i + j = 31) := by
  have : ∀ i, i < 32 → ∀ j, j < 32 → (topR >>> i).getLsbD j = decide (i + j = 31) := by decide
  exact this i hi j hj
theorem turnW_bit (f : Nat) : ∀ n, n ≤ 32 → ∀ j, j < 32 → (turnW f n).getLsbD j = (decide (31 - j < n) && f.testBit (31 - j)) := by
  intro n
  induction n with
  | zero => intro _ j hj; simp [turnW]
  | succ n ih =>
    intro hn j hj
    rw [turnW, BitVec.getLsbD_xor, ih (by omega) j hj]
    by_cases hf : f.testBit n = true
    · rw [if_pos hf, top_bit (by omega) hj]
      by_cases e : n + j = 31
      · have : 31 - j = n := by omega
        rw [this]; simp [e, hf]
      · have h2 : decide (31 - j < n + 1) = decide (31 - j < n) := by apply decide_eq_decide.2; omega
        rw [h2]; simp [e]
    · rw [if_neg hf]
      by_cases e : 31 - j = n
      · rw [e]; simp [hf]
      · have h2 : decide (31 - j < n + 1) = decide (31 - j < n) := by apply decide_eq_decide.2; omega
        rw [h2]; simp
/-- Some bits are turned, if the number isn't 0. -/
theorem turnW_some {f : Nat} (hf : f < 4294967296) (h : turnW f 32 = 0#32) : f = 0 := by
  apply Nat.eq_of_testBit_eq
  intro i
  rw [Nat.zero_testBit]
  by_cases hi : i < 32
  · have := turnW_bit f 32 (Nat.le_refl _) (31 - i) (by omega)
    rw [h, show 31 - (31 - i) = i by omega] at this
    simpa [hi] using this.symm
  · exact Nat.testBit_lt_two_pow (Nat.lt_of_lt_of_le hf (show 4294967296 ≤ 2 ^ i from Nat.le_trans (by decide : 4294967296 ≤ 2 ^ 32) (Nat.pow_le_pow_right (by omega) (by omega))))

end Go.Proofs.Ythohdnijngckiaa
