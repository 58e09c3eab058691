
/-
  Floating-point numbers of 64 bits that hold whole numbers: sums, differences, products, comparisons and conversions of whole numbers of less than 2^53 are exact. Of no program. No conditions beyond what each theorem states.
-/
import Derived.Laws.FloatArith
import Derived.Laws.ComplexArith
namespace Go.Proofs.YtglcihfcnbifcaaDoor
open Go
set_option linter.unusedVariables false
set_option linter.unusedSimpArgs false

theorem dbl_frac : Ieee.double.fractionBits = 52 := rfl
theorem dbl_least : Ieee.double.leastPlace = -1074 := by decide
theorem dbl_binade : Ieee.double.binade = 4503599627370496 := by decide
theorem dbl_inf : Ieee.double.infRung = 2047 * 4503599627370496 := by decide
theorem dbl_sign : Ieee.double.signWeight = 9223372036854775808 := by decide

/-- Reading a word that was put together. -/
theorem read_word (neg : Bool) (rung : Nat) (h : rung < 9223372036854775808) : Ieee.double.read (Ieee.double.word neg rung) =
    (if rung < Ieee.double.binade then .number neg rung Ieee.double.leastPlace
     else if rung < Ieee.double.infRung then .number neg (Ieee.double.binade + rung % Ieee.double.binade) (Ieee.double.leastPlace + (rung / Ieee.double.binade - 1 : Nat))
     else if rung = Ieee.double.infRung then .infinity neg
     else .nan neg (rung - Ieee.double.infRung)) := by
  cases neg with
  | false =>
    have h1 : rung / 9223372036854775808 % 2 = 0 := by omega
    have h2 : rung % 9223372036854775808 = rung := by omega
    simp only [Ieee.Format.word, Ieee.Format.read, dbl_sign, h1, h2, Bool.false_eq_true, if_false]
    rfl
  | true =>
    have h1 : (9223372036854775808 + rung) / 9223372036854775808 % 2 = 1 := by omega
    have h2 : (9223372036854775808 + rung) % 9223372036854775808 = rung := by omega
    simp only [Ieee.Format.word, Ieee.Format.read, dbl_sign, h1, h2, if_true]
    rfl

/-- A normal number, put together and read again: the significand k (from 2^52 on) at the place e - 52. -/
theorem read_normal (neg : Bool) (e k : Nat) (he : e ≤ 1023) (h1 : 4503599627370496 ≤ k) (h2 : k < 9007199254740992) :
    Ieee.double.read (Ieee.double.word neg ((e + 1022) * 4503599627370496 + k)) = .number neg k ((e : Int) - 52) := by
  have hr : (e + 1022) * 4503599627370496 + k < 9223372036854775808 := by omega
  rw [read_word neg _ hr, dbl_binade, dbl_inf, if_neg (by omega), if_pos (by omega), dbl_least]
  have a : ((e + 1022) * 4503599627370496 + k) % 4503599627370496 = k - 4503599627370496 := by omega
  have b : ((e + 1022) * 4503599627370496 + k) / 4503599627370496 = e + 1023 := by omega
  rw [a, b, show 4503599627370496 + (k - 4503599627370496) = k by omega, show (-1074 : Int) + ((e + 1023 - 1 : Nat) : Int) = (e : Int) - 52 by omega]

/-- What the cut leaves where nothing is dropped, or only noughts. -/
theorem cut_exact (neg : Bool) (q d : Nat) (hq : 0 < q) : Ieee.Toward.even.cut neg (q * 2 ^ d) d = q := by
  have hlog : d ≤ (q * 2 ^ d).log2 + 2 := by
    have h1 : 2 ^ d ≤ q * 2 ^ d := Nat.le_mul_of_pos_left _ hq
    have h2 : q * 2 ^ d ≠ 0 := Nat.ne_of_gt (Nat.mul_pos hq (Nat.two_pow_pos d))
    have := (Nat.le_log2 h2).2 h1
    omega
  have hg : (1 : Nat) <<< min d ((q * 2 ^ d).log2 + 2) = 2 ^ d := by rw [Nat.min_eq_left hlog, Nat.shiftLeft_eq, Nat.one_mul]
  have hp := Nat.two_pow_pos d
  unfold Ieee.Toward.cut
  simp only [hg, Nat.mul_mod_left, Nat.mul_div_cancel _ hp]
  have e1 : (decide (2 ^ d < 2 * 0) || (2 ^ d == 2 * 0 && q % 2 == 1)) = false := by
    have : (2 ^ d == 0) = false := by simp
    simp [this]
  simp [e1]

theorem log_bounds {n : Nat} (h : n ≠ 0) : 2 ^ n.log2 ≤ n ∧ n < 2 ^ (n.log2 + 1) := ⟨(Nat.le_log2 h).1 (Nat.le_refl _), (Nat.log2_lt h).1 (Nat.lt_succ_self _)⟩
theorem log_unique {x a b : Nat} (h1 : 2 ^ a ≤ x) (h2 : x < 2 ^ (a + 1)) (h3 : 2 ^ b ≤ x) (h4 : x < 2 ^ (b + 1)) : a = b := by
  have e1 : 2 ^ a < 2 ^ (b + 1) := Nat.lt_of_le_of_lt h1 h4
  have e2 : 2 ^ b < 2 ^ (a + 1) := Nat.lt_of_le_of_lt h3 h2
  have f1 := (Nat.pow_lt_pow_iff_right (by omega : 1 < 2)).1 e1
  have f2 := (Nat.pow_lt_pow_iff_right (by omega : 1 < 2)).1 e2
  omega

/-- A whole number that is not 0 and of at most 53 binary digits is written exactly. -/
theorem nearest_exact (neg : Bool) (mag : Nat) (place : Int) (K N : Nat) (h0 : 0 ≤ place + K) (hv : mag * 2 ^ (place + K).toNat = N * 2 ^ K) (hN : 0 < N) (hN2 : N < 9007199254740992) :
    ∃ e : Nat, e ≤ 52 ∧ Ieee.double.read (Ieee.double.nearest neg mag place) = .number neg (N * 2 ^ (52 - e)) ((e : Int) - 52) := by
  have hm : mag ≠ 0 := by
    intro h; subst h
    have : 0 < N * 2 ^ K := Nat.mul_pos hN (Nat.two_pow_pos K)
    omega
  obtain ⟨P, hP⟩ : ∃ P : Nat, (place + K).toNat = P := ⟨_, rfl⟩
  have hplace : place = (P : Int) - K := by omega
  rw [hP] at hv
  obtain ⟨l1, l2⟩ := log_bounds hm
  obtain ⟨n1, n2⟩ := log_bounds (show N ≠ 0 by omega)
  obtain ⟨L, hL⟩ : ∃ L, mag.log2 = L := ⟨_, rfl⟩
  obtain ⟨e, he⟩ : ∃ e, N.log2 = e := ⟨_, rfl⟩
  rw [hL] at l1 l2
  rw [he] at n1 n2
  have hLe : L + P = e + K := by
    refine log_unique (x := mag * 2 ^ P) ?_ ?_ ?_ ?_
    · rw [Nat.pow_add]; exact Nat.mul_le_mul_right _ l1
    · rw [show L + P + 1 = (L + 1) + P by omega, Nat.pow_add]; exact Nat.mul_lt_mul_of_pos_right l2 (Nat.two_pow_pos P)
    · rw [hv, Nat.pow_add]; exact Nat.mul_le_mul_right _ n1
    · rw [hv, show e + K + 1 = (e + 1) + K by omega, Nat.pow_add]; exact Nat.mul_lt_mul_of_pos_right n2 (Nat.two_pow_pos K)
  have he52 : e ≤ 52 := by
    have : 2 ^ e < 2 ^ 53 := Nat.lt_of_le_of_lt n1 hN2
    have := (Nat.pow_lt_pow_iff_right (by omega : 1 < 2)).1 this
    omega
  have hpp : (2 : Nat) ^ e * 2 ^ (52 - e) = 4503599627370496 := by rw [← Nat.pow_add, show e + (52 - e) = 52 by omega]
  have k1 : 4503599627370496 ≤ N * 2 ^ (52 - e) := by rw [← hpp]; exact Nat.mul_le_mul_right _ n1
  have k2 : N * 2 ^ (52 - e) < 9007199254740992 := by
    have : N * 2 ^ (52 - e) < 2 ^ (e + 1) * 2 ^ (52 - e) := Nat.mul_lt_mul_of_pos_right n2 (Nat.two_pow_pos _)
    rw [← Nat.pow_add, show e + 1 + (52 - e) = 53 by omega] at this
    exact this
  have hP0 := Nat.two_pow_pos P
  have hkept : Ieee.Toward.even.cut neg (mag <<< (place - ((e : Int) - 52)).toNat) (((e : Int) - 52) - place).toNat = N * 2 ^ (52 - e) := by
    rcases Nat.lt_or_ge 52 L with h52 | h52
    · have a1 : (place - ((e : Int) - 52)).toNat = 0 := by omega
      have a2 : (((e : Int) - 52) - place).toNat = L - 52 := by omega
      have a3 : mag = N * 2 ^ (52 - e) * 2 ^ (L - 52) := by
        apply Nat.eq_of_mul_eq_mul_right hP0
        rw [hv, Nat.mul_assoc, Nat.mul_assoc, ← Nat.pow_add, ← Nat.pow_add, show 52 - e + (L - 52 + P) = K by omega]
      rw [a1, a2, Nat.shiftLeft_zero]
      conv => lhs; rw [a3]
      exact cut_exact neg _ _ (by omega)
    · have a1 : (place - ((e : Int) - 52)).toNat = 52 - L := by omega
      have a2 : (((e : Int) - 52) - place).toNat = 0 := by omega
      have a3 : mag * 2 ^ (52 - L) = N * 2 ^ (52 - e) := by
        apply Nat.eq_of_mul_eq_mul_right hP0
        rw [Nat.mul_assoc, Nat.mul_comm (2 ^ (52 - L)), ← Nat.mul_assoc, hv, Nat.mul_assoc, Nat.mul_assoc, ← Nat.pow_add, ← Nat.pow_add, show K + (52 - L) = 52 - e + P by omega]
      rw [a1, a2, Nat.shiftLeft_eq, a3]
      have := cut_exact neg (N * 2 ^ (52 - e)) 0 (by omega)
      rwa [Nat.pow_zero, Nat.mul_one] at this
  refine ⟨e, he52, ?_⟩
  have hlast : max (place + (mag.log2 : Int) - (Ieee.double.fractionBits : Int)) Ieee.double.leastPlace = (e : Int) - 52 := by
    rw [hL, dbl_frac, dbl_least]
    omega
  unfold Ieee.Format.nearest
  rw [if_neg hm]
  simp only [dbl_binade, dbl_inf, dbl_least]
  rw [dbl_least] at hlast
  rw [hlast, hkept, show ((e : Int) - 52 - -1074).toNat = e + 1022 by omega, Nat.min_eq_left (by omega)]
  exact read_normal neg e _ (by omega) k1 k2

/-- The word holds the whole number n. -/
def Wh (b : Nat) (n : Int) : Prop := ∃ s m i, Ieee.double.read b = .number s m i ∧ ∀ K : Nat, 0 ≤ i + K → Ieee.signed s m (i + K).toNat = n * 2 ^ K

theorem signed_abs (s : Bool) (m u : Nat) : (Ieee.signed s m u).natAbs = m * 2 ^ u := by
  unfold Ieee.signed
  rw [Nat.shiftLeft_eq]
  cases s
  · rw [if_neg (by simp)]; exact Int.natAbs_natCast _
  · rw [if_pos rfl, Int.natAbs_neg]; exact Int.natAbs_natCast _
theorem signed_mul (s : Bool) (m u v : Nat) : Ieee.signed s m (u + v) = Ieee.signed s m u * 2 ^ v := by
  unfold Ieee.signed
  rw [Nat.shiftLeft_eq, Nat.shiftLeft_eq, Nat.pow_add, ← Nat.mul_assoc]
  cases s
  · simp
  · simp [Int.neg_mul]
theorem two_pos (v : Nat) : (0 : Int) < 2 ^ v := Int.pow_pos (by omega)
theorem two_ne (v : Nat) : (2 : Int) ^ v ≠ 0 := Int.ne_of_gt (two_pos v)

/-- What is said at one scale is said at each. -/
theorem all_scales {s : Bool} {m : Nat} {i n : Int} {K0 : Nat} (h0 : 0 ≤ i + K0) (h : Ieee.signed s m (i + K0).toNat = n * 2 ^ K0) : ∀ K : Nat, 0 ≤ i + K → Ieee.signed s m (i + K).toNat = n * 2 ^ K := by
  intro K hK
  rcases Nat.le_total K0 K with hle | hle
  · obtain ⟨d, rfl⟩ := Nat.exists_eq_add_of_le hle
    rw [show (i + ((K0 + d : Nat) : Int)).toNat = (i + K0).toNat + d by omega, signed_mul, h, Int.pow_add, Int.mul_assoc]
  · obtain ⟨d, rfl⟩ := Nat.exists_eq_add_of_le hle
    rw [show (i + ((K + d : Nat) : Int)).toNat = (i + K).toNat + d by omega, signed_mul, Int.pow_add, ← Int.mul_assoc] at h
    exact Int.eq_of_mul_eq_mul_right (two_ne d) h

/-- What is written of a whole number is that number. -/
theorem wh_nearest (neg : Bool) (mag : Nat) (place : Int) (K : Nat) (n : Int) (h0 : 0 ≤ place + K) (hv : Ieee.signed neg mag (place + K).toNat = n * 2 ^ K) (hn : n.natAbs < 9007199254740992) :
    Wh (Ieee.double.nearest neg mag place) n := by
  have habs : mag * 2 ^ (place + K).toNat = n.natAbs * 2 ^ K := by
    rw [← signed_abs neg, hv, Int.natAbs_mul, Int.natAbs_pow]; rfl
  by_cases hz : n = 0
  · subst hz
    have hm : mag = 0 := by
      have hp := Nat.two_pow_pos (place + K).toNat
      rw [show (0 : Int).natAbs = 0 from rfl, Nat.zero_mul] at habs
      rcases Nat.mul_eq_zero.1 habs with h | h
      · exact h
      · omega
    subst hm
    refine ⟨neg, 0, -1074, ?_, fun K _ => by cases neg <;> simp [Ieee.signed]⟩
    unfold Ieee.Format.nearest
    rw [if_pos rfl, read_word neg 0 (by omega), if_pos (by rw [dbl_binade]; omega), dbl_least]
  · obtain ⟨e, he, hr⟩ := nearest_exact neg mag place K n.natAbs h0 habs (by omega) hn
    refine ⟨neg, _, _, hr, all_scales (K0 := 52) (by omega) ?_⟩
    have hsg : neg = decide (n < 0) := by
      have hpos : 0 < mag * 2 ^ (place + K).toNat := by rw [habs]; exact Nat.mul_pos (by omega) (Nat.two_pow_pos K)
      have hKi := two_pos K
      unfold Ieee.signed at hv
      rw [Nat.shiftLeft_eq] at hv
      cases neg with
      | false =>
        simp only [Bool.false_eq_true, if_false] at hv
        have h1 : 0 < n * 2 ^ K := by omega
        have : ¬ n < 0 := fun h => by
          have := Int.mul_nonneg (show 0 ≤ -n by omega) (Int.le_of_lt hKi)
          rw [Int.neg_mul] at this; omega
        simp [this]
      | true =>
        simp only [if_true] at hv
        have h1 : n * 2 ^ K < 0 := by omega
        have : n < 0 := by
          rcases Int.lt_or_le n 0 with h | h
          · exact h
          · have := Int.mul_nonneg h (Int.le_of_lt hKi); omega
        simp [this]
    rw [show ((e : Int) - 52 + ((52 : Nat) : Int)).toNat = e by omega]
    unfold Ieee.signed
    rw [Nat.shiftLeft_eq, Nat.mul_assoc, ← Nat.pow_add, show 52 - e + e = 52 by omega, hsg]
    have hc : ((n.natAbs * 2 ^ 52 : Nat) : Int) = (n.natAbs : Int) * 2 ^ 52 := by rw [Int.natCast_mul, Int.natCast_pow]; rfl
    rw [hc]
    by_cases hneg : n < 0
    · simp only [hneg, decide_true, if_true]
      rw [show (n.natAbs : Int) = -n by omega, Int.neg_mul, Int.neg_neg]
    · simp only [hneg, decide_false, Bool.false_eq_true, if_false]
      rw [show (n.natAbs : Int) = n by omega]

theorem signed_neg (s : Bool) (m u : Nat) : Ieee.signed (!s) m u = -Ieee.signed s m u := by
  unfold Ieee.signed
  cases s <;> simp
/-- A whole number that is told exactly at one scale, written. -/
theorem wh_write {neg : Bool} {mag : Nat} {place : Int} {K : Nat} {n : Int} (h0 : 0 ≤ place + K) (hv : Ieee.signed neg mag (place + K).toNat = n * 2 ^ K) (hn : n.natAbs < 9007199254740992) : Wh (Ieee.double.write (.number neg mag place)) n := wh_nearest neg mag place K n h0 hv hn

/-- A total with its own sign. -/
theorem signed_total (t : Int) (b : Bool) (u : Nat) : Ieee.signed (if t = 0 then b else decide (t < 0)) t.natAbs u = t * 2 ^ u := by
  have hc : ((t.natAbs * 2 ^ u : Nat) : Int) = (t.natAbs : Int) * 2 ^ u := by rw [Int.natCast_mul, Int.natCast_pow]; rfl
  unfold Ieee.signed
  rw [Nat.shiftLeft_eq, hc]
  by_cases h0 : t = 0
  · subst h0; simp
  · rw [if_neg h0]
    by_cases hn : t < 0
    · simp only [hn, decide_true, if_true]
      rw [show (t.natAbs : Int) = -t by omega, Int.neg_mul, Int.neg_neg]
    · simp only [hn, decide_false, Bool.false_eq_true, if_false]
      rw [show (t.natAbs : Int) = t by omega]

theorem wh_sum {s t : Bool} {m n : Nat} {i j a b : Int} (ha : ∀ K : Nat, 0 ≤ i + K → Ieee.signed s m (i + K).toNat = a * 2 ^ K) (hb : ∀ K : Nat, 0 ≤ j + K → Ieee.signed t n (j + K).toNat = b * 2 ^ K) (hn : (a + b).natAbs < 9007199254740992) :
    ∃ d, (Ieee.Datum.number s m i).sum (.number t n j) = some d ∧ Wh (Ieee.double.write d) (a + b) := by
  refine ⟨_, rfl, ?_⟩
  obtain ⟨K, hK⟩ : ∃ K : Nat, 0 ≤ min i j + (K : Int) := ⟨(-(min i j)).toNat, by omega⟩
  refine wh_write (K := K) hK ?_ hn
  rw [signed_total, Int.add_mul, ← signed_mul, ← signed_mul, show (i - min i j).toNat + (min i j + (K : Int)).toNat = (i + K).toNat by omega, show (j - min i j).toNat + (min i j + (K : Int)).toNat = (j + K).toNat by omega, ha K (by omega), hb K (by omega), Int.add_mul]

theorem wh_add {x y : Nat} {a b : Int} (hx : Wh x a) (hy : Wh y b) (hn : (a + b).natAbs < 9007199254740992) : ∃ r, floatBits .add .f64 x y = some r ∧ Wh r (a + b) := by
  obtain ⟨s, m, i, h1, h2⟩ := hx
  obtain ⟨t, n, j, h3, h4⟩ := hy
  obtain ⟨d, hd, hw⟩ := wh_sum h2 h4 hn
  refine ⟨_, ?_, hw⟩
  show Ieee.double.add x y = _
  rw [Ieee.Format.add, h1, h3, hd]; rfl

theorem wh_sub {x y : Nat} {a b : Int} (hx : Wh x a) (hy : Wh y b) (hn : (a - b).natAbs < 9007199254740992) : ∃ r, floatBits .sub .f64 x y = some r ∧ Wh r (a - b) := by
  obtain ⟨s, m, i, h1, h2⟩ := hx
  obtain ⟨t, n, j, h3, h4⟩ := hy
  have h5 : ∀ K : Nat, 0 ≤ j + K → Ieee.signed (!t) n (j + K).toNat = (-b) * 2 ^ K := fun K hK => by rw [signed_neg, h4 K hK, Int.neg_mul]
  obtain ⟨d, hd, hw⟩ := wh_sum h2 h5 (by rw [← Int.sub_eq_add_neg]; exact hn)
  rw [← Int.sub_eq_add_neg] at hw
  refine ⟨_, ?_, hw⟩
  show Ieee.double.sub x y = _
  rw [Ieee.Format.sub, h1, h3]
  show ((Ieee.Datum.number s m i).sum (.number (!t) n j)).map _ = _
  rw [hd]; rfl

theorem signed_prod (s t : Bool) (m n u v : Nat) : Ieee.signed (s ^^ t) (m * n) (u + v) = Ieee.signed s m u * Ieee.signed t n v := by
  unfold Ieee.signed
  rw [Nat.shiftLeft_eq, Nat.shiftLeft_eq, Nat.shiftLeft_eq]
  have e : ((m * n * 2 ^ (u + v) : Nat) : Int) = ((m * 2 ^ u : Nat) : Int) * ((n * 2 ^ v : Nat) : Int) := by
    rw [← Int.natCast_mul, Nat.pow_add]
    congr 1
    rw [Nat.mul_assoc, Nat.mul_assoc, Nat.mul_left_comm n]
  rw [e]
  cases s <;> cases t <;> simp [Int.neg_mul, Int.mul_neg]

theorem wh_mul {x y : Nat} {a b : Int} (hx : Wh x a) (hy : Wh y b) (hn : (a * b).natAbs < 9007199254740992) : ∃ r, floatBits .mul .f64 x y = some r ∧ Wh r (a * b) := by
  obtain ⟨s, m, i, h1, h2⟩ := hx
  obtain ⟨t, n, j, h3, h4⟩ := hy
  refine ⟨_, by show Ieee.double.mul x y = _; rw [Ieee.Format.mul, h1, h3]; rfl, ?_⟩
  obtain ⟨K, hK⟩ : ∃ K : Nat, 0 ≤ i + (K : Int) := ⟨(-i).toNat, by omega⟩
  obtain ⟨L, hL⟩ : ∃ L : Nat, 0 ≤ j + (L : Int) := ⟨(-j).toNat, by omega⟩
  refine wh_write (K := K + L) (by omega) ?_ hn
  rw [show (i + j + ((K + L : Nat) : Int)).toNat = (i + K).toNat + (j + L).toNat by omega, signed_prod, h2 K hK, h4 L hL, Int.pow_add]
  rw [Int.mul_assoc, Int.mul_assoc, Int.mul_left_comm (2 ^ K)]

theorem lt_scale {x y a b p q : Int} (hp : 0 < p) (hq : 0 < q) (hx : x * p = a * q) (hy : y * p = b * q) : x < y ↔ a < b := by
  constructor
  · intro h
    have h1 := Int.mul_lt_mul_of_pos_right h hp
    rw [hx, hy] at h1
    exact Int.lt_of_mul_lt_mul_right h1 (Int.le_of_lt hq)
  · intro h
    have h1 := Int.mul_lt_mul_of_pos_right h hq
    rw [← hx, ← hy] at h1
    exact Int.lt_of_mul_lt_mul_right h1 (Int.le_of_lt hp)
theorem compare_int (x y : Int) : compare x y = if x < y then .lt else if y < x then .gt else .eq := by
  rcases Int.lt_trichotomy x y with h | h | h
  · rw [if_pos h]; exact Int.compare_eq_lt.2 h
  · subst h; rw [if_neg (by omega), if_neg (by omega)]; exact Int.compare_eq_eq.2 rfl
  · rw [if_neg (by omega), if_pos h]; exact Int.compare_eq_gt.2 h
theorem compare_scale {x y a b p q : Int} (hp : 0 < p) (hq : 0 < q) (hx : x * p = a * q) (hy : y * p = b * q) : compare x y = compare a b := by
  rw [compare_int, compare_int]
  have h1 := lt_scale hp hq hx hy
  have h2 := lt_scale hp hq hy hx
  by_cases c1 : x < y
  · rw [if_pos c1, if_pos (h1.1 c1)]
  · rw [if_neg c1, if_neg (fun h => c1 (h1.2 h))]
    by_cases c2 : y < x
    · rw [if_pos c2, if_pos (h2.1 c2)]
    · rw [if_neg c2, if_neg (fun h => c2 (h2.2 h))]

/-- How two finite numbers stand to each other, told at one scale. -/
theorem order_at {x y : Nat} {s t : Bool} {m n : Nat} {i j : Int} (hx : Ieee.double.read x = .number s m i) (hy : Ieee.double.read y = .number t n j) {K : Nat} (hi : 0 ≤ i + K) (hj : 0 ≤ j + K) :
    Ieee.double.order x y = some (compare (Ieee.signed s m (i + K).toNat) (Ieee.signed t n (j + K).toNat)) := by
  rw [Ieee.Format.order, hx, hy]
  show some (compare (Ieee.signed s m (i - min i j).toNat) (Ieee.signed t n (j - min i j).toNat)) = _
  congr 1
  refine compare_scale (p := 2 ^ (min i j + K).toNat) (q := 1) (two_pos _) (by omega) ?_ ?_
  · rw [← signed_mul, Int.mul_one, show (i - min i j).toNat + (min i j + (K : Int)).toNat = (i + K).toNat by omega]
  · rw [← signed_mul, Int.mul_one, show (j - min i j).toNat + (min i j + (K : Int)).toNat = (j + K).toNat by omega]

theorem scale_both (i j : Int) : ∃ K : Nat, 0 ≤ i + K ∧ 0 ≤ j + K := ⟨(-(min i j)).toNat, by omega, by omega⟩

/-- Whole numbers stand to each other as they do. -/
theorem wh_order {x y : Nat} {a b : Int} (hx : Wh x a) (hy : Wh y b) : Ieee.double.order x y = some (compare a b) := by
  obtain ⟨s, m, i, h1, h2⟩ := hx
  obtain ⟨t, n, j, h3, h4⟩ := hy
  obtain ⟨K, hi, hj⟩ := scale_both i j
  rw [order_at h1 h3 hi hj, h2 K hi, h4 K hj]
  congr 1
  exact compare_scale (p := 1) (q := 2 ^ K) (by omega) (two_pos K) (Int.mul_one _) (Int.mul_one _)

/-- float64(n). -/
theorem wh_ofInt (n : Int) (hn : n.natAbs < 9007199254740992) : Wh (floatOfInt .f64 n) n := by
  refine wh_nearest (n < 0) n.natAbs 0 0 n (by omega) ?_ hn
  have := signed_total n false 0
  by_cases h : n = 0
  · subst h; decide
  · rw [if_neg h] at this; exact this

theorem div_cut (n d : Nat) : n / (1 <<< min d (n.log2 + 2)) = n / 2 ^ d := by
  rw [Nat.shiftLeft_eq, Nat.one_mul]
  rcases Nat.le_total d (n.log2 + 2) with h | h
  · rw [Nat.min_eq_left h]
  · rw [Nat.min_eq_right h]
    by_cases h0 : n = 0
    · subst h0; simp
    · have h1 := (log_bounds h0).2
      have h2 : n < 2 ^ (n.log2 + 2) := Nat.lt_of_lt_of_le h1 (Nat.pow_le_pow_right (by omega) (by omega))
      have h3 : n < 2 ^ d := Nat.lt_of_lt_of_le h2 (Nat.pow_le_pow_right (by omega) h)
      rw [Nat.div_eq_of_lt h2, Nat.div_eq_of_lt h3]

/-- A finite number, cut towards 0. -/
def cutTo (s : Bool) (m : Nat) (i : Int) : Int := Ieee.signed s (m * 2 ^ i.toNat / 2 ^ (-i).toNat) 0
theorem toInt_cut (s : Bool) (m : Nat) (i : Int) : (Ieee.Datum.number s m i).toInt .zero = some (cutTo s m i) := by
  unfold Ieee.Datum.toInt Ieee.Datum.integral cutTo
  simp only [Ieee.Toward.cut, Nat.shiftLeft_eq m, div_cut]
  simp

/-- Of a whole number nothing is cut. -/
theorem cut_whole {s : Bool} {m : Nat} {i a : Int} (h : ∀ K : Nat, 0 ≤ i + K → Ieee.signed s m (i + K).toNat = a * 2 ^ K) : cutTo s m i = a := by
  have h1 := h (-i).toNat (by omega)
  have h2 : m * 2 ^ i.toNat = a.natAbs * 2 ^ (-i).toNat := by
    rw [show (i + ((-i).toNat : Int)).toNat = i.toNat by omega] at h1
    have := congrArg Int.natAbs h1
    rw [signed_abs, Int.natAbs_mul, Int.natAbs_pow] at this
    exact this
  unfold cutTo
  rw [h2, Nat.mul_div_cancel _ (Nat.two_pow_pos _)]
  have h3 : Ieee.signed s (a.natAbs * 2 ^ (-i).toNat) 0 = a * 2 ^ (-i).toNat := by
    rw [← h2, ← h1, show (i + ((-i).toNat : Int)).toNat = i.toNat by omega]
    unfold Ieee.signed
    rw [Nat.shiftLeft_eq, Nat.shiftLeft_eq, Nat.pow_zero, Nat.mul_one]
  have h4 : Ieee.signed s a.natAbs 0 * 2 ^ (-i).toNat = Ieee.signed s (a.natAbs * 2 ^ (-i).toNat) 0 := by
    rw [← signed_mul]
    unfold Ieee.signed
    rw [Nat.shiftLeft_eq, Nat.shiftLeft_eq, Nat.pow_zero, Nat.mul_one, Nat.zero_add]
  exact Int.eq_of_mul_eq_mul_right (two_ne (-i).toNat) (by rw [h4, h3])

/-- int(x), of a whole one. -/
theorem wh_toInt {x : Nat} {a : Int} (hx : Wh x a) (h1 : -9223372036854775808 ≤ a) (h2 : a ≤ 9223372036854775807) : floatToIntVal .f64 x .i64 = some a := by
  obtain ⟨s, m, i, hr, hv⟩ := hx
  unfold floatToIntVal
  have e : (FloatKind.f64.decode x).toInt .zero = some a := by
    show (Ieee.double.read x).toInt .zero = some a
    rw [hr, toInt_cut, cut_whole hv]
  rw [e]
  simp only
  rw [if_pos ⟨h1, h2⟩]

/-- From the one bound to the other: as the tests go. -/
def inR (x cN cB : Nat) : Bool := (Ieee.double.order x cN == some .gt || Ieee.double.order x cN == some .eq) && (Ieee.double.order x cB == some .lt || Ieee.double.order x cB == some .eq)

theorem geq_iff (a b : Int) : (some (compare a b) == some Ordering.gt || some (compare a b) == some Ordering.eq) = decide (b ≤ a) := by
  rw [compare_int]
  rcases Int.lt_trichotomy a b with h | h | h
  · rw [if_pos h, decide_eq_false (by omega)]; rfl
  · subst h; rw [if_neg (by omega), if_neg (by omega), decide_eq_true (by omega)]; rfl
  · rw [if_neg (by omega), if_pos h, decide_eq_true (by omega)]; rfl
theorem leq_iff (a b : Int) : (some (compare a b) == some Ordering.lt || some (compare a b) == some Ordering.eq) = decide (a ≤ b) := by
  rw [compare_int]
  rcases Int.lt_trichotomy a b with h | h | h
  · rw [if_pos h, decide_eq_true (by omega)]; rfl
  · subst h; rw [if_neg (by omega), if_neg (by omega), decide_eq_true (by omega)]; rfl
  · rw [if_neg (by omega), if_pos h, decide_eq_false (by omega)]; rfl
theorem eql_iff (a b : Int) : (some (compare a b) == some Ordering.eq) = decide (a = b) := by
  rw [compare_int]
  rcases Int.lt_trichotomy a b with h | h | h
  · rw [if_pos h, decide_eq_false (by omega)]; rfl
  · subst h; rw [if_neg (by omega), if_neg (by omega), decide_eq_true rfl]; rfl
  · rw [if_neg (by omega), if_pos h, decide_eq_false (by omega)]; rfl

theorem inR_whole {x cN cB : Nat} {a lo hi : Int} (hx : Wh x a) (hN : Wh cN lo) (hB : Wh cB hi) : inR x cN cB = decide (lo ≤ a ∧ a ≤ hi) := by
  rw [inR, wh_order hx hN, wh_order hx hB, geq_iff, leq_iff]
  by_cases h1 : lo ≤ a <;> by_cases h2 : a ≤ hi <;> simp [h1, h2]

/-- What is cut is no greater. -/
theorem cut_le {s : Bool} {m : Nat} {i : Int} {K : Nat} (hK : 0 ≤ i + K) : (cutTo s m i).natAbs * 2 ^ K ≤ (Ieee.signed s m (i + K).toNat).natAbs := by
  rw [signed_abs]
  unfold cutTo
  rw [signed_abs, Nat.pow_zero, Nat.mul_one]
  have hd := Nat.div_mul_le_self (m * 2 ^ i.toNat) (2 ^ (-i).toNat)
  rcases Int.lt_or_le i 0 with h | h
  · obtain ⟨d, hd2⟩ : ∃ d : Nat, K = (-i).toNat + d := ⟨K - (-i).toNat, by omega⟩
    rw [show i.toNat = 0 by omega, Nat.pow_zero, Nat.mul_one] at hd ⊢
    rw [show (i + (K : Int)).toNat = d by omega, hd2, Nat.pow_add, ← Nat.mul_assoc]
    exact Nat.mul_le_mul_right _ hd
  · rw [show (-i).toNat = 0 by omega, Nat.pow_zero, Nat.div_one, Nat.mul_assoc, ← Nat.pow_add, show i.toNat + K = (i + (K : Int)).toNat by omega]
    exact Nat.le_refl _

/-- Any word: it holds a whole number within the bounds; or it is within them, and cut towards 0 it is another number; or it is not within them. -/
theorem classify (x cN cB : Nat) (hN : Wh cN (-33554432)) (hB : Wh cB 33554432) :
    (∃ a, Wh x a ∧ -33554432 ≤ a ∧ a ≤ 33554432) ∨
    (inR x cN cB = true ∧ (∀ a, ¬ Wh x a) ∧ ∃ t, floatToIntVal .f64 x .i64 = some t ∧ -33554432 ≤ t ∧ t ≤ 33554432 ∧ ∀ y, Wh y t → Ieee.double.order y x ≠ some .eq ∧ Ieee.double.order x y ≠ some .eq) ∨
    (inR x cN cB = false ∧ ∀ a, Wh x a → a < -33554432 ∨ 33554432 < a) := by
  cases hr : Ieee.double.read x with
  | nan s f =>
    refine Or.inr (Or.inr ⟨?_, fun a ⟨s', m', i', h, _⟩ => by rw [hr] at h; cases h⟩)
    unfold inR Ieee.Format.order
    rw [hr]
    rfl
  | infinity s =>
    refine Or.inr (Or.inr ⟨?_, fun a ⟨s', m', i', h, _⟩ => by rw [hr] at h; cases h⟩)
    obtain ⟨s1, m1, i1, h1, -⟩ := hN
    obtain ⟨s2, m2, i2, h2, -⟩ := hB
    unfold inR Ieee.Format.order
    rw [hr, h1, h2]
    cases s <;> rfl
  | number s m i =>
    by_cases hw : ∃ a, Wh x a
    · obtain ⟨a, ha⟩ := hw
      by_cases hab : -33554432 ≤ a ∧ a ≤ 33554432
      · exact Or.inl ⟨a, ha, hab.1, hab.2⟩
      · refine Or.inr (Or.inr ⟨by rw [inR_whole ha hN hB]; exact decide_eq_false hab, fun b hb => ?_⟩)
        have e : a = b := by
          obtain ⟨s1, m1, i1, h1, h2⟩ := ha
          obtain ⟨s2, m2, i2, h3, h4⟩ := hb
          rw [h1] at h3
          cases h3
          rw [← cut_whole h2, cut_whole h4]
        subst e
        omega
    · have hnw : ∀ a, ¬ Wh x a := fun a ha => hw ⟨a, ha⟩
      obtain ⟨s1, m1, i1, h1, v1⟩ := hN
      obtain ⟨s2, m2, i2, h2, v2⟩ := hB
      obtain ⟨K, k0, k1, k2⟩ : ∃ K : Nat, 0 ≤ i + K ∧ 0 ≤ i1 + K ∧ 0 ≤ i2 + K := ⟨(-(min i (min i1 i2))).toNat, by omega, by omega, by omega⟩
      have hin : inR x cN cB = (decide (-33554432 * 2 ^ K ≤ Ieee.signed s m (i + K).toNat) && decide (Ieee.signed s m (i + K).toNat ≤ 33554432 * 2 ^ K)) := by
        rw [inR, order_at hr h1 k0 k1, order_at hr h2 k0 k2, v1 K k1, v2 K k2, geq_iff, leq_iff]
      by_cases hb : -33554432 * 2 ^ K ≤ Ieee.signed s m (i + K).toNat ∧ Ieee.signed s m (i + K).toNat ≤ 33554432 * 2 ^ K
      · refine Or.inr (Or.inl ⟨by rw [hin, decide_eq_true hb.1, decide_eq_true hb.2]; rfl, hnw, cutTo s m i, ?_⟩)
        have hc := cut_le (s := s) (m := m) k0
        have hp := two_pos K
        have habs : (Ieee.signed s m (i + K).toNat).natAbs ≤ 33554432 * 2 ^ K := by
          have e : ((33554432 * 2 ^ K : Nat) : Int) = 33554432 * 2 ^ K := by rw [Int.natCast_mul, Int.natCast_pow]; rfl
          have h3 : -((33554432 * 2 ^ K : Nat) : Int) ≤ Ieee.signed s m (i + K).toNat := by rw [e, ← Int.neg_mul]; exact hb.1
          have h4 : Ieee.signed s m (i + K).toNat ≤ ((33554432 * 2 ^ K : Nat) : Int) := by rw [e]; exact hb.2
          omega
        have hq : (cutTo s m i).natAbs ≤ 33554432 := Nat.le_of_mul_le_mul_right (Nat.le_trans hc habs) (Nat.two_pow_pos K)
        have t1 : -33554432 ≤ cutTo s m i := by omega
        have t2 : cutTo s m i ≤ 33554432 := by omega
        refine ⟨?_, t1, t2, fun y hy => ?_⟩
        · unfold floatToIntVal
          have e : (FloatKind.f64.decode x).toInt .zero = some (cutTo s m i) := by
            show (Ieee.double.read x).toInt .zero = _
            rw [hr, toInt_cut]
          rw [e]
          simp only
          rw [if_pos ⟨by show (-9223372036854775808 : Int) ≤ _; omega, by show _ ≤ (9223372036854775807 : Int); omega⟩]
        · obtain ⟨s3, m3, i3, h3, v3⟩ := hy
          obtain ⟨L, l0, l1⟩ := scale_both i i3
          have key : Ieee.signed s m (i + L).toNat ≠ cutTo s m i * 2 ^ L := fun e => hnw _ ⟨s, m, i, hr, all_scales l0 e⟩
          rw [order_at h3 hr l1 l0, order_at hr h3 l0 l1, v3 L l1]
          constructor
          · intro e
            exact key (Int.compare_eq_eq.1 (Option.some.inj e)).symm
          · intro e
            exact key (Int.compare_eq_eq.1 (Option.some.inj e))
      · refine Or.inr (Or.inr ⟨?_, fun a ha => absurd ha (hnw a)⟩)
        rw [hin]
        by_cases h3 : -33554432 * 2 ^ K ≤ Ieee.signed s m (i + K).toNat
        · rw [decide_eq_false (fun h4 => hb ⟨h3, h4⟩), Bool.and_false]
        · rw [decide_eq_false h3, Bool.false_and]

/-- A word written out, read by reckoning. -/
theorem wh_lit {x : Nat} {n : Int} (s : Bool) (m : Nat) (i : Int) (K : Nat) (hr : Ieee.double.read x = .number s m i) (hK : 0 ≤ i + K) (hv : Ieee.signed s m (i + K).toNat = n * 2 ^ K) : Wh x n := ⟨s, m, i, hr, all_scales hK hv⟩
theorem wh_zero : Wh 0 0 := ⟨false, 0, -1074, by decide, fun K _ => by simp [Ieee.signed]⟩
theorem wh_one : Wh 4607182418800017408 1 := wh_lit false 4503599627370496 (-52) 52 (by decide) (by omega) (by decide)
theorem wh_two : Wh 4611686018427387904 2 := wh_lit false 4503599627370496 (-51) 51 (by decide) (by omega) (by decide)
theorem wh_bound : Wh 4719772409484279808 33554432 := wh_lit false 4503599627370496 (-27) 27 (by decide) (by omega) (by decide)
theorem wh_nbound : Wh 13943144446339055616 (-33554432) := wh_lit true 4503599627370496 (-27) 27 (by decide) (by omega) (by decide)

/-- One word holds one whole number. -/
theorem wh_inj {x : Nat} {a b : Int} (ha : Wh x a) (hb : Wh x b) : a = b := by
  obtain ⟨s1, m1, i1, h1, h2⟩ := ha
  obtain ⟨s2, m2, i2, h3, h4⟩ := hb
  rw [h1] at h3
  cases h3
  rw [← cut_whole h2, cut_whole h4]

theorem read_neg (b : Nat) : Ieee.double.read (Op.negFloat .f64 b) = (Ieee.double.read b).opposite := by
  have hx : Op.negFloat .f64 b = b ^^^ 2 ^ 63 := rfl
  have h1 : (b ^^^ 2 ^ 63) % 9223372036854775808 = b % 9223372036854775808 := by
    have := Nat.xor_mod_two_pow (a := b) (b := 2 ^ 63) (n := 63)
    rw [Nat.mod_self, Nat.xor_zero] at this
    exact this
  have h2 : (b ^^^ 2 ^ 63) / 9223372036854775808 = (b / 9223372036854775808) ^^^ 1 := by
    have := Nat.shiftRight_xor_distrib (a := b) (b := 2 ^ 63) (i := 63)
    rw [Nat.shiftRight_eq_div_pow, Nat.shiftRight_eq_div_pow, Nat.shiftRight_eq_div_pow, Nat.div_self (Nat.two_pow_pos 63)] at this
    exact this
  have h3 : (b / 9223372036854775808 ^^^ 1) % 2 = 1 - b / 9223372036854775808 % 2 := by
    have := Nat.xor_mod_two_pow (a := b / 9223372036854775808) (b := 1) (n := 1)
    rw [Nat.pow_one] at this
    rw [this]
    rcases Nat.mod_two_eq_zero_or_one (b / 9223372036854775808) with h | h <;> rw [h] <;> rfl
  have h4 : ((1 - b / 9223372036854775808 % 2) == 1) = !(b / 9223372036854775808 % 2 == 1) := by
    rcases Nat.mod_two_eq_zero_or_one (b / 9223372036854775808) with h | h <;> rw [h] <;> rfl
  unfold Ieee.Format.read
  simp only [dbl_sign, hx, h1, h2, h3, h4]
  split
  · rfl
  · split
    · rfl
    · split <;> rfl
/-- The other sign. -/
theorem wh_neg {x : Nat} {a : Int} (hx : Wh x a) : Wh (Op.negFloat .f64 x) (-a) := by
  obtain ⟨s, m, i, h1, h2⟩ := hx
  refine ⟨!s, m, i, by rw [read_neg, h1]; rfl, fun K hK => by rw [signed_neg, h2 K hK, Int.neg_mul]⟩

/-- A sum of two complex numbers whose parts are whole. -/
theorem wh_csum {a b c d : Nat} {x y u v : Int} (ha : Wh a x) (hb : Wh b y) (hc : Wh c u) (hd : Wh d v) (h1 : (x + u).natAbs < 9007199254740992) (h2 : (y + v).natAbs < 9007199254740992) :
    ∃ re im, cSumBits .add .f64 a b c d = some (re, im) ∧ Wh re (x + u) ∧ Wh im (y + v) := by
  obtain ⟨re, r1, r2⟩ := wh_add ha hc h1
  obtain ⟨im, i1, i2⟩ := wh_add hb hd h2
  exact ⟨re, im, by rw [cSumBits, r1, i1]; rfl, r2, i2⟩
theorem wh_cdiff {a b c d : Nat} {x y u v : Int} (ha : Wh a x) (hb : Wh b y) (hc : Wh c u) (hd : Wh d v) (h1 : (x - u).natAbs < 9007199254740992) (h2 : (y - v).natAbs < 9007199254740992) :
    ∃ re im, cSumBits .sub .f64 a b c d = some (re, im) ∧ Wh re (x - u) ∧ Wh im (y - v) := by
  obtain ⟨re, r1, r2⟩ := wh_sub ha hc h1
  obtain ⟨im, i1, i2⟩ := wh_sub hb hd h2
  exact ⟨re, im, by rw [cSumBits, r1, i1]; rfl, r2, i2⟩
theorem wh_cmul {a b c d : Nat} {x y u v : Int} (ha : Wh a x) (hb : Wh b y) (hc : Wh c u) (hd : Wh d v) (h1 : (x * u).natAbs < 9007199254740992) (h2 : (y * v).natAbs < 9007199254740992) (h3 : (x * v).natAbs < 9007199254740992) (h4 : (y * u).natAbs < 9007199254740992) (h5 : (x * u - y * v).natAbs < 9007199254740992) (h6 : (x * v + y * u).natAbs < 9007199254740992) :
    ∃ re im, cMulBits a b c d = some (re, im) ∧ Wh re (x * u - y * v) ∧ Wh im (x * v + y * u) := by
  obtain ⟨p1, e1, w1⟩ := wh_mul ha hc h1
  obtain ⟨p2, e2, w2⟩ := wh_mul hb hd h2
  obtain ⟨p3, e3, w3⟩ := wh_mul ha hd h3
  obtain ⟨p4, e4, w4⟩ := wh_mul hb hc h4
  obtain ⟨re, e5, w5⟩ := wh_sub w1 w2 h5
  obtain ⟨im, e6, w6⟩ := wh_add w3 w4 h6
  exact ⟨re, im, by simp only [cMulBits, e1, e2, e3, e4, e5, e6, Option.bind_some], w5, w6⟩
/-- Equality of two complex numbers whose parts are whole. -/
theorem wh_ceq {a b c d : Nat} {x y u v : Int} (ha : Wh a x) (hb : Wh b y) (hc : Wh c u) (hd : Wh d v) : ((Ieee.double.order a c == some .eq) && (Ieee.double.order b d == some .eq)) = decide (x = u ∧ y = v) := by
  rw [wh_order ha hc, wh_order hb hd, eql_iff, eql_iff]
  by_cases h1 : x = u <;> by_cases h2 : y = v <;> simp [h1, h2]

end Go.Proofs.YtglcihfcnbifcaaDoor
