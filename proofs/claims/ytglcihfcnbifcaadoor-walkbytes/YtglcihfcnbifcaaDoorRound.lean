
/-
  A floating-point number of 64 bits made whole (towards nought, or down), and the quotient of two whole numbers made whole downwards: exact for whole numbers of less than 2^27 and divisors from 1 to 2^26. Of no program. No conditions beyond what each theorem states.
-/
import Derived.Test.YtglcihfcnbifcaaDoorWhole
import Derived.Laws.Externs
namespace Go.Proofs.YtglcihfcnbifcaaDoor
open Go
set_option linter.unusedVariables false
set_option linter.unusedSimpArgs false

/-- The word of a number made whole towards nought. -/
def truncW (s : Bool) (m : Nat) (i : Int) : Nat := Ieee.double.write ((Ieee.Datum.number s m i).integral .zero)
/-- The word of a number made whole downwards. -/
def floorW (s : Bool) (m : Nat) (i : Int) : Nat := Ieee.double.write ((Ieee.Datum.number s m i).integral .down)

theorem truncW_wh (s : Bool) (m : Nat) (i : Int) (h : (cutTo s m i).natAbs < 9007199254740992) : Wh (truncW s m i) (cutTo s m i) := by
  unfold truncW
  refine wh_write (K := 0) (by simp) ?_ h
  have := toInt_cut s m i
  unfold Ieee.Datum.toInt Ieee.Datum.integral at this
  simp only [Option.some.injEq] at this
  simp only [Ieee.Datum.integral, Int.pow_zero, Int.mul_one]
  exact this

/-- What a word holds lies between two whole numbers that follow each other. -/
def FlAt (x : Nat) (k : Int) : Prop := ∃ s m i, Ieee.double.read x = .number s m i ∧ ∀ K : Nat, 0 ≤ i + K → k * 2 ^ K ≤ Ieee.signed s m (i + K).toNat ∧ Ieee.signed s m (i + K).toNat < (k + 1) * 2 ^ K

theorem mod_cut (n d : Nat) : (n % (1 <<< min d (n.log2 + 2)) = 0) ↔ (n % 2 ^ d = 0) := by
  rw [Nat.shiftLeft_eq, Nat.one_mul]
  rcases Nat.le_total d (n.log2 + 2) with h | h
  · rw [Nat.min_eq_left h]
  · rw [Nat.min_eq_right h]
    by_cases hn : n = 0
    · subst hn; simp
    · have hl := (log_bounds hn).2
      have h1 : n < 2 ^ (n.log2 + 2) := Nat.lt_of_lt_of_le hl (Nat.pow_le_pow_right (by omega) (by omega))
      have h2 : n < 2 ^ d := Nat.lt_of_lt_of_le h1 (Nat.pow_le_pow_right (by omega) h)
      rw [Nat.mod_eq_of_lt h1, Nat.mod_eq_of_lt h2]

theorem cut_down (s : Bool) (n d : Nat) : Ieee.Toward.down.cut s n d = n / 2 ^ d + (s && decide (n % 2 ^ d ≠ 0)).toNat := by
  have h2 : (n % (1 <<< min d (n.log2 + 2)) != 0) = decide (n % 2 ^ d ≠ 0) := by
    have := mod_cut n d
    by_cases h : n % 2 ^ d = 0
    · rw [this.2 h]; simp [h]
    · have : n % (1 <<< min d (n.log2 + 2)) ≠ 0 := fun e => h (this.1 e)
      simp [h, this]
  unfold Ieee.Toward.cut
  simp only [div_cut, h2]

theorem floorW_wh {x : Nat} {k : Int} {s : Bool} {m : Nat} {i : Int} (hr : ∀ K : Nat, 0 ≤ i + K → k * 2 ^ K ≤ Ieee.signed s m (i + K).toNat ∧ Ieee.signed s m (i + K).toNat < (k + 1) * 2 ^ K) (h : k.natAbs < 9007199254740992) : Wh (floorW s m i) k := by
  unfold floorW
  refine wh_write (K := 0) (by simp) ?_ h
  simp only [Int.pow_zero, Int.mul_one]
  show Ieee.signed s (Ieee.Toward.down.cut s (m <<< i.toNat) (-i).toNat) 0 = k
  obtain ⟨h1, h2⟩ := hr (-i).toNat (by omega)
  rw [show (i + ((-i).toNat : Int)).toNat = i.toNat by omega] at h1 h2
  rw [cut_down]
  obtain ⟨d, hd⟩ : ∃ d, (-i).toNat = d := ⟨_, rfl⟩
  rw [hd] at h1 h2 ⊢
  unfold Ieee.signed at h1 h2 ⊢
  obtain ⟨n, hn⟩ : ∃ n, m <<< i.toNat = n := ⟨_, rfl⟩
  rw [hn] at h1 h2 ⊢
  rw [Nat.shiftLeft_zero]
  have hp := Nat.two_pow_pos d
  have hc : ((2 ^ d : Nat) : Int) = 2 ^ d := by rw [Int.natCast_pow]; rfl
  rw [← hc] at h1 h2
  obtain ⟨D, hD⟩ : ∃ D, 2 ^ d = D := ⟨_, rfl⟩
  rw [hD] at h1 h2 hp ⊢
  have hdm := Nat.div_add_mod n D
  have hlt := Nat.mod_lt n hp
  cases s with
  | false =>
    simp only [Bool.false_eq_true, if_false, Bool.false_and, Bool.toNat_false, Nat.add_zero] at h1 h2 ⊢
    have e : k = (n : Int) / (D : Int) := by
      have a := Int.le_ediv_of_mul_le (show (0 : Int) < D by omega) h1
      have b := Int.ediv_lt_of_lt_mul (show (0 : Int) < D by omega) h2
      omega
    rw [e]; rfl
  | true =>
    simp only [if_true, Bool.true_and] at h1 h2 ⊢
    have e : k = (-(n : Int)) / (D : Int) := by
      have a := Int.le_ediv_of_mul_le (show (0 : Int) < D by omega) h1
      have b := Int.ediv_lt_of_lt_mul (show (0 : Int) < D by omega) h2
      omega
    rw [e]
    obtain ⟨q, hq⟩ : ∃ q, n / D = q := ⟨_, rfl⟩
    obtain ⟨r, hr2⟩ : ∃ r, n % D = r := ⟨_, rfl⟩
    rw [hq, hr2] at hdm
    rw [hr2] at hlt
    rw [hq, hr2]
    have hn2 : (n : Int) = D * q + r := by rw [← hdm]; simp
    by_cases h0 : r = 0
    · subst h0
      have : (-(n : Int)) / (D : Int) = -(q : Int) := by
        rw [hn2, show -((D : Int) * q + ((0 : Nat) : Int)) = (D : Int) * (-(q : Int)) by rw [Int.mul_neg]; simp]
        exact Int.mul_ediv_cancel_left _ (by omega)
      rw [this]; simp
    · have : (-(n : Int)) / (D : Int) = -(q : Int) - 1 := by
        rw [hn2, show -((D : Int) * q + (r : Int)) = ((D : Int) - r) + (D : Int) * (-(q : Int) - 1) by rw [Int.mul_sub, Int.mul_neg, Int.mul_one]; omega]
        rw [Int.add_mul_ediv_left _ _ (by omega), Int.ediv_eq_zero_of_lt (by omega) (by omega)]
        omega
      rw [this]; simp [h0]; omega

end Go.Proofs.YtglcihfcnbifcaaDoor
