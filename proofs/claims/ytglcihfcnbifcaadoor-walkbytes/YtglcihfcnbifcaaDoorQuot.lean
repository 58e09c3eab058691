
/-
  The quotient of two whole numbers in floating point of 64 bits lies between the same whole numbers as the quotient itself. Of no program. The conditions: the first is of less than 2^27, the second from 1 to 2^26.
-/
import Derived.Test.YtglcihfcnbifcaaDoorRound
namespace Go.Proofs.YtglcihfcnbifcaaDoor
open Go
set_option linter.unusedVariables false
set_option linter.unusedSimpArgs false

theorem read_gen (neg : Bool) (E k : Nat) (he : E ≤ 2045) (h1 : 4503599627370496 ≤ k) (h2 : k < 9007199254740992) :
    Ieee.double.read (Ieee.double.word neg (E * 4503599627370496 + k)) = .number neg k ((E : Int) - 1074) := by
  have hr : E * 4503599627370496 + k < 9223372036854775808 := by omega
  rw [read_word neg _ hr, dbl_binade, dbl_inf, if_neg (by omega), if_pos (by omega), dbl_least]
  have a : (E * 4503599627370496 + k) % 4503599627370496 = k - 4503599627370496 := by omega
  have b : (E * 4503599627370496 + k) / 4503599627370496 = E + 1 := by omega
  rw [a, b, show 4503599627370496 + (k - 4503599627370496) = k by omega, show (-1074 : Int) + ((E + 1 - 1 : Nat) : Int) = (E : Int) - 1074 by omega]

theorem cut_near (neg : Bool) (A d : Nat) (h : d ≤ A.log2 + 2) :
    2 * (Ieee.Toward.even.cut neg A d * 2 ^ d) ≤ 2 * A + 2 ^ d ∧ 2 * A ≤ 2 * (Ieee.Toward.even.cut neg A d * 2 ^ d) + 2 ^ d ∧ A / 2 ^ d ≤ Ieee.Toward.even.cut neg A d ∧ Ieee.Toward.even.cut neg A d ≤ A / 2 ^ d + 1 := by
  have hg : (1 : Nat) <<< min d (A.log2 + 2) = 2 ^ d := by rw [Nat.min_eq_left h, Nat.shiftLeft_eq, Nat.one_mul]
  have hp := Nat.two_pow_pos d
  unfold Ieee.Toward.cut
  simp only [hg]
  obtain ⟨D, hD⟩ : ∃ D, 2 ^ d = D := ⟨_, rfl⟩
  rw [hD] at hp ⊢
  have hdm := Nat.div_add_mod A D
  have hlt := Nat.mod_lt A hp
  obtain ⟨q, hq⟩ : ∃ q, A / D = q := ⟨_, rfl⟩
  obtain ⟨r, hr⟩ : ∃ r, A % D = r := ⟨_, rfl⟩
  rw [hq, hr] at hdm
  rw [hr] at hlt
  rw [hq, hr]
  have hc : D * q = q * D := Nat.mul_comm _ _
  have h1 : (q + 1) * D = q * D + D := Nat.succ_mul _ _
  have h0 : (q + 0) * D = q * D := by rw [Nat.add_zero]
  by_cases hb : (decide (D < 2 * r) || D == 2 * r && q % 2 == 1) = true
  · have hge : D ≤ 2 * r := by
      simp only [Bool.or_eq_true, decide_eq_true_eq, Bool.and_eq_true, beq_iff_eq] at hb
      omega
    rw [hb]
    simp only [Bool.toNat_true]
    omega
  · have hle : 2 * r ≤ D := by
      simp only [Bool.or_eq_true, decide_eq_true_eq, Bool.and_eq_true, beq_iff_eq] at hb
      omega
    rw [Bool.not_eq_true] at hb
    rw [hb]
    simp only [Bool.toNat_false]
    omega

/-- Two multiples that are nearer than a unit and a half to one number. -/
theorem mult_le {U k c A : Nat} (h : 2 * (k * U) ≤ 2 * A + U) (hA : A ≤ c * U) : k * U ≤ c * U := by
  rcases Nat.lt_or_ge c k with hk | hk
  · have h1 : (c + 1) * U ≤ k * U := Nat.mul_le_mul_right _ hk
    rw [Nat.succ_mul] at h1
    rcases Nat.eq_zero_or_pos U with h0 | h0
    · subst h0; simp
    · omega
  · exact Nat.mul_le_mul_right _ hk
theorem mult_ge {U k c A : Nat} (h : 2 * A ≤ 2 * (k * U) + U) (hA : c * U ≤ A) : c * U ≤ k * U := by
  rcases Nat.lt_or_ge k c with hk | hk
  · have h1 : (k + 1) * U ≤ c * U := Nat.mul_le_mul_right _ hk
    rw [Nat.succ_mul] at h1
    rcases Nat.eq_zero_or_pos U with h0 | h0
    · subst h0; simp
    · omega
  · exact Nat.mul_le_mul_right _ hk

theorem margin {X Y D Z n : Nat} (h2 : X * 67108864 + Y ≤ 2 * D * 67108864) (h : 2 * D ≤ Z + n) : X * 67108864 + Y ≤ 67108864 * Z + n * 67108864 := by omega

theorem core (neg : Bool) (m n I J K P Q more : Nat) (hm : m ≠ 0) (hn : n ≠ 0) (e1 : m * 2 ^ I = P * 2 ^ K) (e2 : n * 2 ^ J = Q * 2 ^ K) (hP0 : 0 < P) (hP : P < 134217728) (hQ0 : 0 < Q) (hQ : Q ≤ 67108864) (hmore : more = 54 + n.log2 - m.log2) :
    ∃ L d k, J + more + 1 = I + L ∧ (2 * (m * 2 ^ more / n) + (m * 2 ^ more % n != 0).toNat).log2 = d + 52 ∧ d + 26 ≤ L ∧ L ≤ d + 79 ∧
      Ieee.Toward.even.cut neg (2 * (m * 2 ^ more / n) + (m * 2 ^ more % n != 0).toNat) d = k ∧ 4503599627370496 ≤ k ∧ k ≤ 9007199254740992 ∧
      (∀ c, P ≤ c * Q → k * 2 ^ d ≤ c * 2 ^ L) ∧ (∀ c, c * Q ≤ P → c * 2 ^ L ≤ k * 2 ^ d) ∧ (∀ c, P < c * Q → k * 2 ^ d < c * 2 ^ L) ∧ (∀ c, c * Q < P → c * 2 ^ L < k * 2 ^ d) := by
  obtain ⟨D, hD⟩ : ∃ D, m * 2 ^ more = D := ⟨_, rfl⟩
  rw [hD]
  obtain ⟨ml, mu⟩ := log_bounds hm
  obtain ⟨nl, nu⟩ := log_bounds hn
  have hI := Nat.two_pow_pos I
  obtain ⟨W, hW⟩ : ∃ W, 2 ^ K * 2 ^ (more + 1) = W := ⟨_, rfl⟩
  have hW0 : 0 < W := by rw [← hW]; exact Nat.mul_pos (Nat.two_pow_pos _) (Nat.two_pow_pos _)
  -- the dividend has at least 54 digits more than the divisor
  have hDn : n * 9007199254740992 ≤ D := by
    have h1 : 2 ^ (54 + n.log2) ≤ D := by
      rw [← hD]
      refine Nat.le_trans (Nat.pow_le_pow_right (by omega) (show 54 + n.log2 ≤ m.log2 + more by omega)) ?_
      rw [Nat.pow_add]; exact Nat.mul_le_mul_right _ ml
    have h2 : n * 9007199254740992 ≤ 2 ^ (n.log2 + 1) * 2 ^ 53 := Nat.mul_le_mul (Nat.le_of_lt nu) (by decide)
    rw [← Nat.pow_add, show n.log2 + 1 + 53 = 54 + n.log2 by omega] at h2
    omega
  have x1 : 2 * D * 2 ^ I = P * W := by
    rw [← hD, ← hW, Nat.pow_succ, show 2 * (m * 2 ^ more) * 2 ^ I = (m * 2 ^ I) * (2 ^ more * 2) by ac_rfl, e1, Nat.mul_assoc]
  have hIJ : I ≤ J + more + 1 := by
    rcases Nat.lt_or_ge (J + more + 1) I with h | h
    · exfalso
      have h1 : 2 ^ (J + more + 1) ≤ 2 ^ I := Nat.pow_le_pow_right (by omega) (by omega)
      have h2 : 2 * (n * 9007199254740992) * 2 ^ (J + more + 1) ≤ 2 * D * 2 ^ I := Nat.mul_le_mul (by omega) h1
      have h3 : 2 * (n * 9007199254740992) * 2 ^ (J + more + 1) = 18014398509481984 * (Q * W) := by
        rw [← hW, show J + more + 1 = J + (more + 1) by omega, Nat.pow_add, show 2 * (n * 9007199254740992) * (2 ^ J * 2 ^ (more + 1)) = 2 * 9007199254740992 * ((n * 2 ^ J) * 2 ^ (more + 1)) by ac_rfl, e2, Nat.mul_assoc Q]
      have h4 : W ≤ Q * W := Nat.le_mul_of_pos_left _ hQ0
      have h5 : P * W < 134217728 * W := Nat.mul_lt_mul_of_pos_right hP hW0
      omega
    · exact h
  obtain ⟨L, hL⟩ : ∃ L, J + more + 1 = I + L := ⟨J + more + 1 - I, by omega⟩
  have x2 : n * 2 ^ L * 2 ^ I = Q * W := by
    rw [← hW, show n * 2 ^ L * 2 ^ I = n * (2 ^ I * 2 ^ L) by ac_rfl, ← Nat.pow_add, ← hL, show J + more + 1 = J + (more + 1) by omega, Nat.pow_add, ← Nat.mul_assoc, e2, Nat.mul_assoc]
  have hn0 : 0 < n := by omega
  have hdm := Nat.div_add_mod D n
  have hlt := Nat.mod_lt D hn0
  obtain ⟨q, hq⟩ : ∃ q, D / n = q := ⟨_, rfl⟩
  obtain ⟨r, hr⟩ : ∃ r, D % n = r := ⟨_, rfl⟩
  have hq53 : 9007199254740992 ≤ q := by rw [← hq]; exact (Nat.le_div_iff_mul_le hn0).2 (by rw [Nat.mul_comm]; exact hDn)
  rw [hq, hr] at hdm
  rw [hr] at hlt
  rw [hq, hr]
  obtain ⟨b, hb⟩ : ∃ b : Nat, (r != 0).toNat = b := ⟨_, rfl⟩
  have hb1 : b ≤ 1 := by rw [← hb]; exact Bool.toNat_le _
  have hbr : b = 0 ↔ r = 0 := by
    rw [← hb]
    by_cases h : r = 0
    · simp [h]
    · simp [h]
  rw [hb]
  obtain ⟨A, hA⟩ : ∃ A, 2 * q + b = A := ⟨_, rfl⟩
  rw [hA]
  -- what stands to the quotient stands so to A
  have hAn1 : A * n ≤ 2 * D + n := by
    have : A * n = 2 * (n * q) + b * n := by rw [← hA, Nat.add_mul]; ac_rfl
    have h2 : b * n ≤ 1 * n := Nat.mul_le_mul_right _ hb1
    omega
  have hAn2 : 2 * D ≤ A * n + n := by
    have h1 : A * n = 2 * (n * q) + b * n := by rw [← hA, Nat.add_mul]; ac_rfl
    by_cases h0 : r = 0
    · omega
    · have : b = 1 := by omega
      rw [this] at h1
      omega
  have cle : ∀ c, P ≤ c * Q → A ≤ c * 2 ^ L := by
    intro c hc
    have h1 : 2 * D * 2 ^ I ≤ c * (n * 2 ^ L) * 2 ^ I := by
      rw [x1, Nat.mul_assoc c, x2, ← Nat.mul_assoc]; exact Nat.mul_le_mul_right _ hc
    have h2 := Nat.le_of_mul_le_mul_right h1 hI
    rw [show c * (n * 2 ^ L) = n * (c * 2 ^ L) by ac_rfl] at h2
    by_cases h0 : r = 0
    · have hbb : b = 0 := hbr.2 h0
      have : n * A ≤ n * (c * 2 ^ L) := by
        rw [← hA, hbb, Nat.add_zero, show n * (2 * q) = 2 * (n * q) by ac_rfl]; omega
      exact Nat.le_of_mul_le_mul_left this hn0
    · have : n * (2 * q) < n * (c * 2 ^ L) := by
        rw [show n * (2 * q) = 2 * (n * q) by ac_rfl]; omega
      have := Nat.lt_of_mul_lt_mul_left this
      omega
  have cge : ∀ c, c * Q ≤ P → 1 ≤ L → c * 2 ^ L ≤ A := by
    intro c hc hL1
    have h1 : c * (n * 2 ^ L) * 2 ^ I ≤ 2 * D * 2 ^ I := by
      rw [x1, Nat.mul_assoc c, x2, ← Nat.mul_assoc]; exact Nat.mul_le_mul_right _ hc
    have h2 := Nat.le_of_mul_le_mul_right h1 hI
    obtain ⟨l, rfl⟩ : ∃ l, L = l + 1 := ⟨L - 1, by omega⟩
    rw [Nat.pow_succ, show c * (n * (2 ^ l * 2)) = 2 * (n * (c * 2 ^ l)) by ac_rfl] at h2
    rw [Nat.pow_succ, show c * (2 ^ l * 2) = 2 * (c * 2 ^ l) by ac_rfl]
    have h3 : n * (c * 2 ^ l) < n * (q + 1) := by rw [Nat.mul_succ]; omega
    have := Nat.lt_of_mul_lt_mul_left h3
    omega
  have hA54 : 18014398509481984 ≤ A := by omega
  have hA0 : A ≠ 0 := by omega
  obtain ⟨al, au⟩ := log_bounds hA0
  have hlogA : 54 ≤ A.log2 := (Nat.le_log2 hA0).2 (Nat.le_trans (by decide) hA54)
  obtain ⟨d, hd⟩ : ∃ d, A.log2 = d + 52 := ⟨A.log2 - 52, by omega⟩
  have hdL : d + 26 ≤ L := by
    have h1 := cle 134217727 (by have : 134217727 * 1 ≤ 134217727 * Q := Nat.mul_le_mul_left _ hQ0; omega)
    have hp := Nat.two_pow_pos L
    have h2 : A < 2 ^ (L + 27) := by rw [Nat.pow_add, Nat.mul_comm]; have : (2 : Nat) ^ 27 = 134217728 := by decide
                                     rw [this]; omega
    have h3 : 2 ^ A.log2 < 2 ^ (L + 27) := Nat.lt_of_le_of_lt al h2
    have h4 := (Nat.pow_lt_pow_iff_right (by omega : 1 < 2)).1 h3
    omega
  have hLd : L ≤ d + 79 := by
    have h1 : n * 2 ^ L * 2 ^ I ≤ 67108864 * (2 * D) * 2 ^ I := by
      rw [x2, Nat.mul_assoc 67108864, x1, ← Nat.mul_assoc]
      refine Nat.mul_le_mul_right _ ?_
      have : 67108864 * 1 ≤ 67108864 * P := Nat.mul_le_mul_left _ hP0
      omega
    have h2 := Nat.le_of_mul_le_mul_right h1 hI
    have h3 : n * 2 ^ L ≤ n * (67108864 * (A + 1)) := by
      refine Nat.le_trans h2 ?_
      rw [show n * (67108864 * (A + 1)) = 67108864 * (A * n + n) by rw [Nat.mul_add, Nat.mul_add, Nat.mul_one, Nat.mul_add]; ac_rfl]
      exact Nat.mul_le_mul_left _ hAn2
    have h4 := Nat.le_of_mul_le_mul_left h3 hn0
    have h5 : A + 1 ≤ 2 ^ (d + 53) := by rw [hd] at au; exact au
    have h6 : 2 ^ L ≤ 2 ^ (d + 53 + 26) := by
      rw [Nat.pow_add 2 (d + 53) 26]
      refine Nat.le_trans h4 ?_
      rw [Nat.mul_comm]; exact Nat.mul_le_mul h5 (by decide)
    have := (Nat.pow_le_pow_iff_right (by omega : 1 < 2)).1 h6
    omega
  obtain ⟨k1, k2, k3, k4⟩ := cut_near neg A d (by omega)
  obtain ⟨k, hk⟩ : ∃ k, Ieee.Toward.even.cut neg A d = k := ⟨_, rfl⟩
  rw [hk] at k1 k2 k3 k4
  have hU := Nat.two_pow_pos d
  rw [hd] at al au
  have hlo : 4503599627370496 ≤ A / 2 ^ d := (Nat.le_div_iff_mul_le hU).2 (by rw [Nat.mul_comm, show (4503599627370496 : Nat) = 2 ^ 52 by decide, ← Nat.pow_add]; exact al)
  have hhi : A / 2 ^ d < 9007199254740992 := (Nat.div_lt_iff_lt_mul hU).2 (by rw [Nat.mul_comm, show (9007199254740992 : Nat) = 2 ^ 53 by decide, ← Nat.pow_add]; exact au)
  obtain ⟨z, hz⟩ : ∃ z, L = z + d := ⟨L - d, by omega⟩
  have hC : ∀ c, c * 2 ^ L = c * 2 ^ z * 2 ^ d := fun c => by rw [hz, Nat.pow_add, Nat.mul_assoc]
  -- the margin
  have hMul : 4 * 2 ^ d ≤ 4 * 2 ^ d := Nat.le_refl _
  have hL26 : 2 ^ d * 67108864 ≤ 2 ^ L := by
    have : 2 ^ (d + 26) ≤ 2 ^ L := Nat.pow_le_pow_right (by omega) hdL
    rw [Nat.pow_add] at this; exact this
  have hd2 : 4 ≤ 2 ^ d := by
    have : 2 ^ 2 ≤ 2 ^ d := Nat.pow_le_pow_right (by omega) (by omega)
    exact this
  have hQW : n * 2 ^ L * 2 ^ I ≤ 67108864 * W := by rw [x2]; exact Nat.mul_le_mul_right _ hQ
  have clt : ∀ c, P < c * Q → A + 2 ^ d ≤ c * 2 ^ L + 1 := by
    intro c hc
    have h1 : (2 * D * 67108864 + n * 2 ^ L) * 2 ^ I ≤ c * (n * 2 ^ L) * 67108864 * 2 ^ I := by
      have a1 : (P + 1) * W ≤ c * Q * W := Nat.mul_le_mul_right _ hc
      rw [Nat.succ_mul, Nat.mul_assoc c Q W] at a1
      rw [Nat.add_mul, show 2 * D * 67108864 * 2 ^ I = 67108864 * (2 * D * 2 ^ I) by ac_rfl, x1, show c * (n * 2 ^ L) * 67108864 * 2 ^ I = 67108864 * (c * (n * 2 ^ L * 2 ^ I)) by ac_rfl]
      rw [x2] at hQW ⊢
      omega
    have h2 := Nat.le_of_mul_le_mul_right h1 hI
    have h3 : n * (67108864 * A + 2 ^ L) ≤ n * (67108864 * (c * 2 ^ L) + 67108864) := by
      rw [Nat.mul_add, Nat.mul_add, show n * (67108864 * A) = 67108864 * (A * n) by ac_rfl, show n * (67108864 * (c * 2 ^ L)) = c * (n * 2 ^ L) * 67108864 by ac_rfl]
      omega
    have h4 := Nat.le_of_mul_le_mul_left h3 hn0
    omega
  have cgt : ∀ c, c * Q < P → c * 2 ^ L + 2 ^ d ≤ A + 1 := by
    intro c hc
    have h1 : (c * (n * 2 ^ L) * 67108864 + n * 2 ^ L) * 2 ^ I ≤ 2 * D * 67108864 * 2 ^ I := by
      have a1 : (c * Q + 1) * W ≤ P * W := Nat.mul_le_mul_right _ hc
      rw [Nat.succ_mul, Nat.mul_assoc c Q W] at a1
      rw [Nat.add_mul, show 2 * D * 67108864 * 2 ^ I = 67108864 * (2 * D * 2 ^ I) by ac_rfl, x1, show c * (n * 2 ^ L) * 67108864 * 2 ^ I = 67108864 * (c * (n * 2 ^ L * 2 ^ I)) by ac_rfl]
      rw [x2] at hQW ⊢
      omega
    have h2 := Nat.le_of_mul_le_mul_right h1 hI
    have h3 : n * (67108864 * (c * 2 ^ L) + 2 ^ L) ≤ n * (67108864 * A + 67108864) := by
      rw [Nat.mul_add, Nat.mul_add, show n * (67108864 * A) = 67108864 * (A * n) by ac_rfl, show n * (67108864 * (c * 2 ^ L)) = c * (n * 2 ^ L) * 67108864 by ac_rfl]
      exact margin h2 hAn2
    have h4 := Nat.le_of_mul_le_mul_left h3 hn0
    omega
  refine ⟨L, d, k, hL, hd, hdL, hLd, hk, by omega, by omega, fun c hc => ?_, fun c hc => ?_, fun c hc => ?_, fun c hc => ?_⟩
  · have := cle c hc
    rw [hC] at this ⊢
    exact mult_le k1 this
  · have := cge c hc (by omega)
    rw [hC] at this ⊢
    exact mult_ge k2 this
  · have := clt c hc; omega
  · have := cgt c hc; omega

theorem signed_cast (s : Bool) (m u : Nat) : Ieee.signed s m u = if s then -((m * 2 ^ u : Nat) : Int) else ((m * 2 ^ u : Nat) : Int) := by unfold Ieee.signed; rw [Nat.shiftLeft_eq]

/-- What was rounded, read again. -/
theorem read_rounded (neg : Bool) (A : Nat) (L d k : Nat) (hA : A ≠ 0) (hlog : A.log2 = d + 52) (h1 : d + 26 ≤ L) (h2 : L ≤ d + 79) (hk : Ieee.Toward.even.cut neg A d = k) (k1 : 4503599627370496 ≤ k) (k2 : k ≤ 9007199254740992) :
    ∃ M e, Ieee.double.read (Ieee.double.nearest neg A (-(L : Int))) = .number neg M e ∧ ∀ K : Nat, 0 ≤ e + K → M * 2 ^ (e + K).toNat * 2 ^ L = k * 2 ^ d * 2 ^ K := by
  obtain ⟨Z, hZ⟩ : ∃ Z : Nat, Z = 1074 := ⟨_, rfl⟩
  have hlast : max (-(L : Int) + (A.log2 : Int) - (Ieee.double.fractionBits : Int)) Ieee.double.leastPlace = (d : Int) - L := by
    rw [hlog, dbl_frac, dbl_least]; omega
  have hkept : Ieee.Toward.even.cut neg (A <<< (-(L : Int) - ((d : Int) - L)).toNat) (((d : Int) - L) - -(L : Int)).toNat = k := by
    rw [show (-(L : Int) - ((d : Int) - L)).toNat = 0 by omega, show (((d : Int) - L) - -(L : Int)).toNat = d by omega, Nat.shiftLeft_zero]; exact hk
  obtain ⟨E, hE⟩ : ∃ E : Nat, (E : Int) = (d : Int) - L + 1074 := ⟨((d : Int) - L + 1074).toNat, by omega⟩
  have hw : Ieee.double.nearest neg A (-(L : Int)) = Ieee.double.word neg (E * 4503599627370496 + k) := by
    unfold Ieee.Format.nearest
    rw [if_neg hA]
    simp only [dbl_binade, dbl_inf, dbl_least]
    rw [dbl_least] at hlast
    rw [hlast, hkept, show ((d : Int) - L - -1074).toNat = E by omega, Nat.min_eq_left (by omega)]
  rw [hw]
  have fin : ∀ (M : Nat) (e : Int), (∃ u : Nat, e + Z = u ∧ M * 2 ^ u = k * 2 ^ E) → ∀ K : Nat, 0 ≤ e + K → M * 2 ^ (e + K).toNat * 2 ^ L = k * 2 ^ d * 2 ^ K := by
    intro M e hu K hK
    obtain ⟨u, hu1, hu2⟩ := hu
    apply Nat.eq_of_mul_eq_mul_right (Nat.two_pow_pos Z)
    have a1 : (e + K).toNat + Z = u + K := by omega
    have a2 : E + L = d + Z := by omega
    rw [show M * 2 ^ (e + K).toNat * 2 ^ L * 2 ^ Z = M * (2 ^ (e + K).toNat * 2 ^ Z) * 2 ^ L by ac_rfl, ← Nat.pow_add, a1, Nat.pow_add, show M * (2 ^ u * 2 ^ K) * 2 ^ L = (M * 2 ^ u) * 2 ^ K * 2 ^ L by ac_rfl, hu2, show k * 2 ^ E * 2 ^ K * 2 ^ L = k * (2 ^ E * 2 ^ L) * 2 ^ K by ac_rfl, ← Nat.pow_add, a2, Nat.pow_add]
    ac_rfl
  by_cases h53 : k = 9007199254740992
  · have hpw : 4503599627370496 * 2 ^ (E + 1) = k * 2 ^ E := by
      obtain ⟨X, hX⟩ : ∃ X, 2 ^ E = X := ⟨_, rfl⟩
      rw [Nat.pow_succ, hX, h53]; omega
    refine ⟨4503599627370496, ((E + 1 : Nat) : Int) - 1074, ?_, fin _ _ ⟨E + 1, by omega, hpw⟩⟩
    rw [h53, show E * 4503599627370496 + 9007199254740992 = (E + 1) * 4503599627370496 + 4503599627370496 by omega]
    exact read_gen neg (E + 1) 4503599627370496 (by omega) (by omega) (by omega)
  · exact ⟨k, (E : Int) - 1074, read_gen neg E k (by omega) k1 (by omega), fin _ _ ⟨E, by omega, rfl⟩⟩

theorem wh_div {x y : Nat} {p q : Int} (hx : Wh x p) (hy : Wh y q) (hp : p.natAbs < 134217728) (hq1 : 1 ≤ q) (hq2 : q ≤ 67108864) : ∃ r, floatBits .quo .f64 x y = some r ∧ FlAt r (p / q) := by
  obtain ⟨s, m, i, h1, h2⟩ := hx
  obtain ⟨t, n, j, h3, h4⟩ := hy
  obtain ⟨K, hi, hj⟩ := scale_both i j
  have v1 := h2 K hi
  have v2 := h4 K hj
  have a1 : m * 2 ^ (i + K).toNat = p.natAbs * 2 ^ K := by rw [← signed_abs s, v1, Int.natAbs_mul, Int.natAbs_pow]; rfl
  have a2 : n * 2 ^ (j + K).toNat = q.natAbs * 2 ^ K := by rw [← signed_abs t, v2, Int.natAbs_mul, Int.natAbs_pow]; rfl
  have hK := two_pos K
  have hKn := Nat.two_pow_pos K
  have hn : n ≠ 0 := by
    intro e; subst e
    have : 0 < q.natAbs * 2 ^ K := Nat.mul_pos (by omega) hKn
    omega
  have ht : t = false := by
    cases t with
    | false => rfl
    | true =>
      rw [signed_cast] at v2
      have : 0 < q * 2 ^ K := Int.mul_pos (by omega) hK
      simp only [if_true] at v2
      omega
  subst ht
  refine ⟨_, by show Ieee.double.div x y = _; rw [Ieee.Format.div, h1, h3]; simp only [Ieee.Datum.quotient, hn, if_false]; rfl, ?_⟩
  show FlAt (Ieee.double.nearest _ _ _) _
  rw [Bool.xor_false]
  by_cases hz : p = 0
  · subst hz
    have hm : m = 0 := by
      rcases Nat.mul_eq_zero.1 (show m * 2 ^ (i + K).toNat = 0 by rw [a1]; simp) with h | h
      · exact h
      · have := Nat.two_pow_pos (i + K).toNat; omega
    subst hm
    refine ⟨s, 0, -1074, ?_, fun K' _ => ?_⟩
    · have e0 : 2 * (0 <<< (Ieee.double.fractionBits + 2 + n.log2 - Nat.log2 0) / n) + (0 <<< (Ieee.double.fractionBits + 2 + n.log2 - Nat.log2 0) % n != 0).toNat = 0 := by rw [Nat.zero_shiftLeft]; simp
      rw [e0]
      unfold Ieee.Format.nearest
      rw [if_pos rfl, read_word s 0 (by omega), if_pos (by rw [dbl_binade]; omega), dbl_least]
    · have := two_pos K'
      rw [signed_cast]
      cases s <;> simp <;> omega
  · have hm : m ≠ 0 := by
      intro e; subst e
      have : 0 < p.natAbs * 2 ^ K := Nat.mul_pos (by omega) hKn
      omega
    obtain ⟨I, hI⟩ : ∃ I, (i + K).toNat = I := ⟨_, rfl⟩
    obtain ⟨J, hJ⟩ : ∃ J, (j + K).toNat = J := ⟨_, rfl⟩
    obtain ⟨more, hmore⟩ : ∃ more, more = 54 + n.log2 - m.log2 := ⟨_, rfl⟩
    rw [hI] at a1
    rw [hJ] at a2
    obtain ⟨L, d, k, c1, c2, c3, c4, c5, c6, c7, c8, c9, c10, c11⟩ := core s m n I J K p.natAbs q.natAbs more hm hn a1 a2 (by omega) hp (by omega) (by omega) hmore
    rw [dbl_frac, show 52 + 2 + n.log2 - m.log2 = more by omega, Nat.shiftLeft_eq, show (i - j - (more : Int) - 1 : Int) = -(L : Int) by omega]
    obtain ⟨M, e, hr, hM⟩ := read_rounded s _ L d k (by intro e0; rw [e0] at c2; simp at c2) c2 c3 c4 c5 c6 c7
    refine ⟨s, M, e, hr, fun K' hK' => ?_⟩
    have hM' := hM K' hK'
    obtain ⟨N, hN⟩ : ∃ N, M * 2 ^ (e + K').toNat = N := ⟨_, rfl⟩
    rw [signed_cast, hN]
    rw [hN] at hM'
    have hL0 := Nat.two_pow_pos L
    have hk'c : ((2 ^ K' : Nat) : Int) = 2 ^ K' := by rw [Int.natCast_pow]; rfl
    have up : ∀ c, k * 2 ^ d ≤ c * 2 ^ L → N ≤ c * 2 ^ K' := fun c h => by
      apply Nat.le_of_mul_le_mul_right _ hL0
      rw [hM', show c * 2 ^ K' * 2 ^ L = c * 2 ^ L * 2 ^ K' by ac_rfl]; exact Nat.mul_le_mul_right _ h
    have dn : ∀ c, c * 2 ^ L ≤ k * 2 ^ d → c * 2 ^ K' ≤ N := fun c h => by
      apply Nat.le_of_mul_le_mul_right _ hL0
      rw [hM', show c * 2 ^ K' * 2 ^ L = c * 2 ^ L * 2 ^ K' by ac_rfl]; exact Nat.mul_le_mul_right _ h
    have ups : ∀ c, k * 2 ^ d < c * 2 ^ L → N < c * 2 ^ K' := fun c h => by
      apply Nat.lt_of_mul_lt_mul_right (a := 2 ^ L)
      rw [hM', show c * 2 ^ K' * 2 ^ L = c * 2 ^ L * 2 ^ K' by ac_rfl]; exact Nat.mul_lt_mul_of_pos_right h (Nat.two_pow_pos _)
    have dns : ∀ c, c * 2 ^ L < k * 2 ^ d → c * 2 ^ K' < N := fun c h => by
      apply Nat.lt_of_mul_lt_mul_right (a := 2 ^ L)
      rw [hM', show c * 2 ^ K' * 2 ^ L = c * 2 ^ L * 2 ^ K' by ac_rfl]; exact Nat.mul_lt_mul_of_pos_right h (Nat.two_pow_pos _)
    have hq0 : (0 : Int) < q := by omega
    have f1 := Int.mul_ediv_self_le (x := p) (k := q) (by omega)
    have f2 := Int.lt_mul_ediv_self_add (x := p) (k := q) hq0
    obtain ⟨z, hz2⟩ : ∃ z, p / q = z := ⟨_, rfl⟩
    rw [hz2] at f1 f2 ⊢
    have hqn : (q.natAbs : Int) = q := by omega
    have hKi : (0 : Int) < ((2 ^ K' : Nat) : Int) := by have := Nat.two_pow_pos K'; omega
    rw [← hk'c]
    have hs : s = decide (p < 0) := by
      rw [signed_cast, hI] at v1
      cases s with
      | false =>
        have : 0 ≤ p * 2 ^ K := by rw [← v1]; simp only [Bool.false_eq_true, if_false]; omega
        have : ¬ p < 0 := fun h => by
          have := Int.mul_neg_of_neg_of_pos h hK; omega
        simp [this]
      | true =>
        simp only [if_true] at v1
        have h0 : p * 2 ^ K ≤ 0 := by omega
        have : p < 0 := by
          rcases Int.lt_or_le p 0 with h | h
          · exact h
          · have := Int.mul_pos (show 0 < p by omega) hK; omega
        simp [this]
    by_cases hneg : p < 0
    · have hst : s = true := by rw [hs]; simp [hneg]
      subst hst
      simp only [if_true]
      have hz0 : z < 0 := by
        rcases Int.lt_or_le z 0 with h | h
        · exact h
        · have := Int.mul_nonneg (Int.le_of_lt hq0) h; omega
      obtain ⟨c, rfl⟩ : ∃ c : Nat, z = -((c : Int) + 1) := ⟨(-z - 1).toNat, by omega⟩
      have g1 : p.natAbs ≤ (c + 1) * q.natAbs := by
        have : ((p.natAbs : Nat) : Int) ≤ (((c + 1) * q.natAbs : Nat) : Int) := by
          rw [Int.natCast_mul, hqn, Int.mul_comm]
          have e1 : (p.natAbs : Int) = -p := by omega
          have e2 : q * (((c + 1 : Nat)) : Int) = -(q * -((c : Int) + 1)) := by rw [Int.mul_neg]; simp
          omega
        omega
      have g2 : c * q.natAbs < p.natAbs := by
        have : ((c * q.natAbs : Nat) : Int) < ((p.natAbs : Nat) : Int) := by
          rw [Int.natCast_mul, hqn, Int.mul_comm]
          have e1 : (p.natAbs : Int) = -p := by omega
          have e2 : q * -((c : Int) + 1) = -(q * (c : Int)) - q := by rw [Int.mul_neg, Int.mul_add, Int.mul_one]; omega
          omega
        omega
      have b1 := up _ (c8 _ g1)
      have b2 := dns _ (c11 _ g2)
      have b1' : (N : Int) ≤ ((c : Int) + 1) * ((2 ^ K' : Nat) : Int) := by
        have : (N : Int) ≤ (((c + 1) * 2 ^ K' : Nat) : Int) := by omega
        rwa [Int.natCast_mul, Int.natCast_add] at this
      have b2' : (c : Int) * ((2 ^ K' : Nat) : Int) < N := by
        have : ((c * 2 ^ K' : Nat) : Int) < (N : Int) := by omega
        rwa [Int.natCast_mul] at this
      have e3 : -((c : Int) + 1) * ((2 ^ K' : Nat) : Int) = -(((c : Int) + 1) * ((2 ^ K' : Nat) : Int)) := Int.neg_mul _ _
      have e4 : (-((c : Int) + 1) + 1) * ((2 ^ K' : Nat) : Int) = -((c : Int) * ((2 ^ K' : Nat) : Int)) := by rw [show -((c : Int) + 1) + 1 = -(c : Int) by omega]; exact Int.neg_mul _ _
      omega
    · have hst : s = false := by rw [hs]; simp [hneg]
      subst hst
      simp only [Bool.false_eq_true, if_false]
      have hz0 : 0 ≤ z := by rw [← hz2]; exact Int.ediv_nonneg (by omega) (by omega)
      obtain ⟨c, rfl⟩ : ∃ c : Nat, z = (c : Int) := ⟨z.toNat, by omega⟩
      have g1 : c * q.natAbs ≤ p.natAbs := by
        have : ((c * q.natAbs : Nat) : Int) ≤ ((p.natAbs : Nat) : Int) := by
          rw [Int.natCast_mul, hqn, Int.mul_comm]; omega
        omega
      have g2 : p.natAbs < (c + 1) * q.natAbs := by
        have : ((p.natAbs : Nat) : Int) < (((c + 1) * q.natAbs : Nat) : Int) := by
          rw [Int.natCast_mul, hqn, Int.mul_comm]
          have e2 : q * (((c + 1 : Nat)) : Int) = q * (c : Int) + q := by rw [Int.natCast_add, Int.mul_add]; simp
          omega
        omega
      have b1 := dn _ (c9 _ g1)
      have b2 := ups _ (c10 _ g2)
      have b1' : (c : Int) * ((2 ^ K' : Nat) : Int) ≤ N := by
        have : ((c * 2 ^ K' : Nat) : Int) ≤ (N : Int) := by omega
        rwa [Int.natCast_mul] at this
      have b2' : (N : Int) < ((c : Int) + 1) * ((2 ^ K' : Nat) : Int) := by
        have : (N : Int) < (((c + 1) * 2 ^ K' : Nat) : Int) := by omega
        rwa [Int.natCast_mul, Int.natCast_add] at this
      exact ⟨b1', b2'⟩

/-- The quotient, made whole downwards. -/
theorem wh_divfloor {x y : Nat} {p q : Int} (hx : Wh x p) (hy : Wh y q) (hp : p.natAbs < 134217728) (hq1 : 1 ≤ q) (hq2 : q ≤ 67108864) :
    ∃ r s m i, floatBits .quo .f64 x y = some r ∧ Ieee.double.read r = .number s m i ∧ Wh (floorW s m i) (p / q) := by
  obtain ⟨r, h1, s, m, i, h2, h3⟩ := wh_div hx hy hp hq1 hq2
  refine ⟨r, s, m, i, h1, h2, floorW_wh (x := r) h3 ?_⟩
  have hq0 : (0 : Int) < q := by omega
  have a := Int.ediv_lt_of_lt_mul hq0 (show p < 134217728 * q by omega)
  have b := Int.le_ediv_of_mul_le hq0 (show -134217728 * q ≤ p by omega)
  omega

end Go.Proofs.YtglcihfcnbifcaaDoor
