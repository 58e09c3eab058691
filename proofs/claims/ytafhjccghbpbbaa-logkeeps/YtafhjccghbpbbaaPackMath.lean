
/-
  A number's bytes, seven bits each, and what is read of bytes. Of no program; no conditions beyond what each theorem states.
-/
import Derived.Test.YtafhjccghbpbbaaRows
namespace Go.Proofs.Ytafhjccghbpbbaa
set_option linter.unusedVariables false
set_option linter.unusedSimpArgs false

/-- A number's bytes: seven bits a byte, the lowest first; all but the last are 128 more. -/
def encN (n : Nat) : List UInt8 := if h : n < 128 then [UInt8.ofNat n] else UInt8.ofNat (n % 128 + 128) :: encN (n / 128)
theorem encN_small {n : Nat} (h : n < 128) : encN n = [UInt8.ofNat n] := by rw [encN, dif_pos h]
theorem encN_big {n : Nat} (h : ¬ n < 128) : encN n = UInt8.ofNat (n % 128 + 128) :: encN (n / 128) := by rw [encN, dif_neg h]
theorem encN_pos (n : Nat) : 1 ≤ (encN n).length := by
  by_cases h : n < 128
  · rw [encN_small h]; simp
  · rw [encN_big h]; simp
theorem encN_le (f : Nat) : ∀ n, n < 128 ^ (f + 1) → (encN n).length ≤ f + 1 := by
  induction f with
  | zero => intro n h; rw [encN_small (by simpa using h)]; simp
  | succ f ih =>
    intro n h
    by_cases hs : n < 128
    · rw [encN_small hs]; simp
    · rw [encN_big hs]
      have := ih (n / 128) (by rw [Nat.pow_succ] at h; exact (Nat.div_lt_iff_lt_mul (by omega)).2 h)
      simp; omega
theorem encN_len {n : Nat} (h : n < 9223372036854775808) : (encN n).length ≤ 9 := encN_le 8 n (by simpa using h)
theorem u8_nat {n : Nat} (h : n < 256) : (UInt8.ofNat n).toNat = n := by simp [Nat.mod_eq_of_lt h]

/-- What is read of bytes as a number: the number, how many bytes it has, the error. -/
def scanN (limit : Nat) : Nat → List UInt8 → Nat → Nat → Nat × Nat × Nat
  | 0, _, _, _ => (0, 0, 11)
  | _ + 1, [], _, _ => (0, 0, 14)
  | f + 1, b :: r, k, n =>
    if 128 ≤ b.toNat then scanN limit f r (k + 1) (n + b.toNat % 128 * 128 ^ k)
    else if b.toNat = 0 ∧ 0 < k then (0, 0, 11)
    else if limit < n + b.toNat % 128 * 128 ^ k then (0, 0, 10)
    else (n + b.toNat % 128 * 128 ^ k, k + 1, 0)
def readN (bs : List UInt8) (limit : Nat) : Nat × Nat × Nat := scanN limit 9 bs 0 0

/-- What a reading may be. -/
def Fair (limit len : Nat) (r : Nat × Nat × Nat) : Prop := (r.2.2 = 0 ∧ 1 ≤ r.2.1 ∧ r.2.1 ≤ len ∧ r.1 ≤ limit) ∨ (r.1 = 0 ∧ r.2.1 = 0 ∧ (r.2.2 = 10 ∨ r.2.2 = 11 ∨ r.2.2 = 14))
theorem scan_fair (limit : Nat) : ∀ f (bs : List UInt8) k n, Fair limit (k + bs.length) (scanN limit f bs k n) := by
  intro f
  induction f with
  | zero => intro bs k n; exact Or.inr ⟨rfl, rfl, by simp [scanN]⟩
  | succ f ih =>
    intro bs k n
    cases bs with
    | nil => exact Or.inr ⟨rfl, rfl, by simp [scanN]⟩
    | cons b r =>
      rw [scanN]
      split
      · have := ih r (k + 1) (n + b.toNat % 128 * 128 ^ k)
        rw [show k + (b :: r).length = k + 1 + r.length by simp; omega]; exact this
      · split
        · exact Or.inr ⟨rfl, rfl, by simp⟩
        · split
          · exact Or.inr ⟨rfl, rfl, by simp⟩
          · rename_i h
            exact Or.inl ⟨rfl, by simp, by simp, Nat.not_lt.1 h⟩
theorem read_fair (bs : List UInt8) (limit : Nat) : Fair limit bs.length (readN bs limit) := by
  have := scan_fair limit 9 bs 0 0
  rwa [Nat.zero_add] at this

theorem mod_div_pow (m k : Nat) : m % 128 * 128 ^ k + m / 128 * 128 ^ (k + 1) = m * 128 ^ k := by
  rw [Nat.pow_succ, Nat.mul_comm (128 ^ k) 128, ← Nat.mul_assoc, ← Nat.add_mul]
  congr 1; omega

/-- A number that was written is read again. -/
theorem scan_enc (limit : Nat) (rest : List UInt8) : ∀ f m k n, m < 128 ^ (f + 1) → (0 < m ∨ k = 0) → n + m * 128 ^ k ≤ limit →
    scanN limit (f + 1) (encN m ++ rest) k n = (n + m * 128 ^ k, k + (encN m).length, 0) := by
  intro f
  induction f with
  | zero =>
    intro m k n h hp hl
    have h' : m < 128 := by simpa using h
    rw [encN_small h', List.cons_append, scanN, u8_nat (by omega), if_neg (by omega), if_neg (by omega), Nat.mod_eq_of_lt h', if_neg (by omega)]
    rfl
  | succ f ih =>
    intro m k n h hp hl
    by_cases hs : m < 128
    · rw [encN_small hs, List.cons_append, scanN, u8_nat (by omega), if_neg (by omega), if_neg (by omega), Nat.mod_eq_of_lt hs, if_neg (by omega)]
      rfl
    · have e := mod_div_pow m k
      rw [encN_big hs, List.cons_append, scanN, u8_nat (by omega), if_pos (by omega), show (m % 128 + 128) % 128 = m % 128 by omega,
        ih (m / 128) (k + 1) _ (by rw [Nat.pow_succ] at h; exact (Nat.div_lt_iff_lt_mul (by omega)).2 h) (Or.inl (by omega)) (by omega)]
      rw [List.length_cons]
      have e1 : n + m % 128 * 128 ^ k + m / 128 * 128 ^ (k + 1) = n + m * 128 ^ k := by omega
      rw [e1, show k + 1 + (encN (m / 128)).length = k + ((encN (m / 128)).length + 1) by omega]
theorem read_enc {m limit : Nat} (h : m < 9223372036854775808) (hl : m ≤ limit) (rest : List UInt8) : readN (encN m ++ rest) limit = (m, (encN m).length, 0) := by
  have := scan_enc limit rest 8 m 0 0 (by simpa using h) (Or.inr rfl) (by simpa using hl)
  simpa [readN] using this

/-- Of a number that is cut off ErrShort is told. -/
theorem scan_cut (limit : Nat) : ∀ f m c k n, m < 128 ^ (f + 1) → c < (encN m).length → scanN limit (f + 1) ((encN m).take c) k n = (0, 0, 14) := by
  intro f
  induction f with
  | zero =>
    intro m c k n h hc
    rw [encN_small (by simpa using h)] at hc ⊢
    have : c = 0 := by simpa using hc
    subst this
    simp [scanN]
  | succ f ih =>
    intro m c k n h hc
    cases c with
    | zero => simp [scanN]
    | succ c =>
      by_cases hs : m < 128
      · rw [encN_small hs] at hc; simp at hc
      · rw [encN_big hs] at hc ⊢
        rw [List.take_succ_cons, scanN, u8_nat (by omega), if_pos (by omega)]
        exact ih _ c _ _ (by rw [Nat.pow_succ] at h; exact (Nat.div_lt_iff_lt_mul (by omega)).2 h) (by simpa using hc)
theorem read_cut {m limit c : Nat} (h : m < 9223372036854775808) (hc : c < (encN m).length) : readN ((encN m).take c) limit = (0, 0, 14) :=
  scan_cut limit 8 m c 0 0 (by simpa using h) hc

/-- What is read of bytes as a text. -/
def readT (bs : List UInt8) (limit : Nat) : List UInt8 × Nat × Nat :=
  if (readN bs limit).2.2 ≠ 0 then ([], 0, (readN bs limit).2.2)
  else if bs.length - (readN bs limit).2.1 < (readN bs limit).1 then ([], 0, 14)
  else ((bs.drop (readN bs limit).2.1).take (readN bs limit).1, (readN bs limit).2.1 + (readN bs limit).1, 0)
def encT (s : List UInt8) : List UInt8 := encN s.length ++ s
theorem readT_enc {s : List UInt8} {limit : Nat} (h : s.length < 9223372036854775808) (hl : s.length ≤ limit) (rest : List UInt8) : readT (encT s ++ rest) limit = (s, (encT s).length, 0) := by
  have e : readN (encT s ++ rest) limit = (s.length, (encN s.length).length, 0) := by rw [encT, List.append_assoc]; exact read_enc h hl _
  unfold readT
  rw [e]
  simp only [ne_eq, not_true_eq_false, if_false]
  rw [if_neg (by simp [encT])]
  simp [encT]
theorem readT_cut {s : List UInt8} {limit c : Nat} (h : s.length < 9223372036854775808) (hl : s.length ≤ limit) (hc : c < (encT s).length) : readT ((encT s).take c) limit = ([], 0, 14) := by
  unfold readT
  by_cases h1 : c < (encN s.length).length
  · have e : (encT s).take c = (encN s.length).take c := by rw [encT, List.take_append_of_le_length (by omega)]
    rw [e, read_cut h h1]; simp
  · have e : (encT s).take c = encN s.length ++ s.take (c - (encN s.length).length) := by
      rw [encT, List.take_append, List.take_of_length_le (by omega)]
    rw [e, read_enc h hl]
    simp only [ne_eq, not_true_eq_false, if_false]
    have : c < (encN s.length).length + s.length := by simpa [encT] using hc
    rw [if_pos (by simp; omega)]
theorem readT_fair (bs : List UInt8) (limit : Nat) : ((readT bs limit).2.2 = 0 ∧ (readT bs limit).2.1 ≤ bs.length ∧ (readT bs limit).1.length ≤ bs.length) ∨ ((readT bs limit).1 = [] ∧ (readT bs limit).2.1 = 0 ∧ (readT bs limit).2.2 ≠ 0) := by
  have hf := read_fair bs limit
  unfold readT
  split
  · rename_i h; exact Or.inr ⟨rfl, rfl, h⟩
  · rename_i h
    split
    · exact Or.inr ⟨rfl, rfl, by simp⟩
    · rename_i h2
      rcases hf with ⟨h0, h1, h3, h4⟩ | ⟨_, _, h3⟩
      · exact Or.inl ⟨rfl, by simp; omega, by simp; omega⟩
      · omega

end Go.Proofs.Ytafhjccghbpbbaa
