
/-
  Whole complex numbers as pairs of integers: products, norms, divisors, the quotient that is nearest, and what two numbers have in common. Of no program. No conditions beyond what each theorem states.
-/
import Derived.Laws.FloatArith
namespace Go.Proofs.YtglcihfcnbifcaaDoor
set_option linter.unusedVariables false
set_option linter.unusedSimpArgs false

abbrev Gi := Int × Int
def gmul (a b : Gi) : Gi := (a.1 * b.1 - a.2 * b.2, a.1 * b.2 + a.2 * b.1)
def gsub (a b : Gi) : Gi := (a.1 - b.1, a.2 - b.2)
def gconj (a : Gi) : Gi := (a.1, -a.2)
def gnorm (a : Gi) : Int := a.1 * a.1 + a.2 * a.2

theorem gmul_comm (a b : Gi) : gmul a b = gmul b a := by
  refine Prod.ext ?_ ?_
  · show a.1 * b.1 - a.2 * b.2 = b.1 * a.1 - b.2 * a.2
    rw [Int.mul_comm a.1, Int.mul_comm a.2]
  · show a.1 * b.2 + a.2 * b.1 = b.1 * a.2 + b.2 * a.1
    rw [Int.mul_comm a.1, Int.mul_comm a.2]; omega
theorem gmul_assoc (a b c : Gi) : gmul (gmul a b) c = gmul a (gmul b c) := by
  obtain ⟨a1, a2⟩ := a
  obtain ⟨b1, b2⟩ := b
  obtain ⟨c1, c2⟩ := c
  refine Prod.ext ?_ ?_
  · simp only [gmul, Int.sub_mul, Int.add_mul, Int.mul_sub, Int.mul_add, Int.mul_assoc]; omega
  · simp only [gmul, Int.sub_mul, Int.add_mul, Int.mul_sub, Int.mul_add, Int.mul_assoc]; omega
theorem gnorm_mul (a b : Gi) : gnorm (gmul a b) = gnorm a * gnorm b := by
  obtain ⟨a1, a2⟩ := a
  obtain ⟨b1, b2⟩ := b
  simp only [gnorm, gmul, Int.sub_mul, Int.add_mul, Int.mul_sub, Int.mul_add, Int.mul_assoc, Int.mul_comm, Int.mul_left_comm]
  omega
theorem gnorm_conj (a : Gi) : gnorm (gconj a) = gnorm a := by
  simp [gnorm, gconj, Int.neg_mul_neg]
theorem sq_nonneg (x : Int) : 0 ≤ x * x := by
  rcases Int.le_total 0 x with h | h
  · exact Int.mul_nonneg h h
  · have := Int.mul_nonneg (show 0 ≤ -x by omega) (show 0 ≤ -x by omega)
    rw [Int.neg_mul_neg] at this; exact this
theorem gnorm_nonneg (a : Gi) : 0 ≤ gnorm a := by have := sq_nonneg a.1; have := sq_nonneg a.2; unfold gnorm; omega
theorem sq_zero {x : Int} (h : x * x = 0) : x = 0 := by rcases Int.mul_eq_zero.1 h with h | h <;> exact h
theorem gnorm_zero {a : Gi} : gnorm a = 0 ↔ a = (0, 0) := by
  constructor
  · intro h
    have h1 := sq_nonneg a.1
    have h2 := sq_nonneg a.2
    unfold gnorm at h
    exact Prod.ext (sq_zero (by omega)) (sq_zero (by omega))
  · intro h; subst h; rfl
theorem gmul_conj (d : Gi) : gmul d (gconj d) = (gnorm d, 0) := by
  refine Prod.ext ?_ ?_
  · show d.1 * d.1 - d.2 * -d.2 = d.1 * d.1 + d.2 * d.2
    rw [Int.mul_neg]; omega
  · show d.1 * -d.2 + d.2 * d.1 = 0
    rw [Int.mul_neg, Int.mul_comm d.2]; omega
theorem gmul_real (a : Gi) (n : Int) : gmul a (n, 0) = (a.1 * n, a.2 * n) := by simp [gmul]

def GDvd (d a : Gi) : Prop := ∃ c, a = gmul d c
/-- The test of the document's reference. -/
def refDivs (d a : Gi) : Bool := if gnorm d = 0 then decide (gnorm a = 0) else decide ((gmul a (gconj d)).1.tmod (gnorm d) = 0) && decide ((gmul a (gconj d)).2.tmod (gnorm d) = 0)

theorem tmod_zero {a n : Int} : a.tmod n = 0 ↔ n ∣ a := Int.dvd_iff_tmod_eq_zero.symm
theorem refDivs_iff (d a : Gi) : refDivs d a = true ↔ GDvd d a := by
  unfold refDivs
  by_cases h0 : gnorm d = 0
  · rw [if_pos h0, decide_eq_true_eq, gnorm_zero]
    have hd := gnorm_zero.1 h0
    subst hd
    constructor
    · intro h; subst h; exact ⟨(0, 0), rfl⟩
    · rintro ⟨c, rfl⟩; simp [gmul]
  · rw [if_neg h0, Bool.and_eq_true, decide_eq_true_eq, decide_eq_true_eq, tmod_zero, tmod_zero]
    constructor
    · rintro ⟨⟨x, hx⟩, ⟨y, hy⟩⟩
      refine ⟨(x, y), ?_⟩
      have h1 : gmul (gmul a (gconj d)) d = gmul (gmul d (x, y)) (gnorm d, 0) := by
        rw [show gmul a (gconj d) = gmul (x, y) (gnorm d, 0) from Prod.ext (by rw [hx, gmul_real, Int.mul_comm]) (by rw [hy, gmul_real, Int.mul_comm]), gmul_assoc, gmul_comm (gnorm d, 0) d, ← gmul_assoc, gmul_comm (x, y) d]
      rw [gmul_assoc, gmul_comm (gconj d) d, gmul_conj, gmul_real, gmul_real] at h1
      have e1 := congrArg Prod.fst h1
      have e2 := congrArg Prod.snd h1
      exact Prod.ext (Int.eq_of_mul_eq_mul_right h0 e1) (Int.eq_of_mul_eq_mul_right h0 e2)
    · rintro ⟨c, rfl⟩
      have h1 : gmul (gmul d c) (gconj d) = gmul c (gnorm d, 0) := by rw [gmul_comm d c, gmul_assoc, gmul_conj]
      rw [h1, gmul_real]
      exact ⟨⟨c.1, Int.mul_comm _ _⟩, ⟨c.2, Int.mul_comm _ _⟩⟩

theorem GDvd.refl (a : Gi) : GDvd a a := ⟨(1, 0), by simp [gmul]⟩
theorem GDvd.zero (a : Gi) : GDvd a (0, 0) := ⟨(0, 0), by simp [gmul]⟩
theorem GDvd.trans {a b c : Gi} (h : GDvd a b) (k : GDvd b c) : GDvd a c := by
  obtain ⟨x, rfl⟩ := h
  obtain ⟨y, rfl⟩ := k
  exact ⟨gmul x y, gmul_assoc a x y⟩
theorem GDvd.sub_mul {d a b : Gi} (h : GDvd d a) (k : GDvd d b) (q : Gi) : GDvd d (gsub a (gmul q b)) := by
  obtain ⟨x, rfl⟩ := h
  obtain ⟨y, rfl⟩ := k
  refine ⟨gsub x (gmul q y), ?_⟩
  have e : gmul q (gmul d y) = gmul d (gmul q y) := by rw [← gmul_assoc, gmul_comm q d, gmul_assoc]
  rw [e]
  refine Prod.ext ?_ ?_
  · simp only [gsub, gmul, Int.mul_sub, Int.mul_add]; omega
  · simp only [gsub, gmul, Int.mul_sub, Int.mul_add]; omega
theorem GDvd.of_sub {d a b q : Gi} (h : GDvd d (gsub a (gmul q b))) (k : GDvd d b) : GDvd d a := by
  have h1 := GDvd.sub_mul h k (-q.1, -q.2)
  have e : gsub (gsub a (gmul q b)) (gmul (-q.1, -q.2) b) = a := by
    refine Prod.ext ?_ ?_
    · simp only [gsub, gmul, Int.neg_mul]; omega
    · simp only [gsub, gmul, Int.neg_mul]; omega
  rwa [e] at h1

/-- The quotient that is nearest leaves at most half of the norm. -/
theorem half_norm (q a b : Gi) (hb : gnorm b ≠ 0)
    (h1 : 2 * ((gmul a (gconj b)).1 - q.1 * gnorm b) < gnorm b) (h2 : -gnorm b ≤ 2 * ((gmul a (gconj b)).1 - q.1 * gnorm b))
    (h3 : 2 * ((gmul a (gconj b)).2 - q.2 * gnorm b) < gnorm b) (h4 : -gnorm b ≤ 2 * ((gmul a (gconj b)).2 - q.2 * gnorm b)) :
    2 * gnorm (gsub a (gmul q b)) ≤ gnorm b := by
  have hpos : 0 < gnorm b := by have := gnorm_nonneg b; omega
  have hr : gmul (gsub a (gmul q b)) (gconj b) = ((gmul a (gconj b)).1 - q.1 * gnorm b, (gmul a (gconj b)).2 - q.2 * gnorm b) := by
    have e : gmul (gmul q b) (gconj b) = (q.1 * gnorm b, q.2 * gnorm b) := by rw [gmul_assoc, gmul_conj, gmul_real]
    have e1 := congrArg Prod.fst e
    have e2 := congrArg Prod.snd e
    refine Prod.ext ?_ ?_
    · show (a.1 - (gmul q b).1) * (gconj b).1 - (a.2 - (gmul q b).2) * (gconj b).2 = _
      have e3 : (gmul q b).1 * (gconj b).1 - (gmul q b).2 * (gconj b).2 = q.1 * gnorm b := e1
      show _ = a.1 * (gconj b).1 - a.2 * (gconj b).2 - q.1 * gnorm b
      rw [Int.sub_mul, Int.sub_mul]; omega
    · show (a.1 - (gmul q b).1) * (gconj b).2 + (a.2 - (gmul q b).2) * (gconj b).1 = _
      have e3 : (gmul q b).1 * (gconj b).2 + (gmul q b).2 * (gconj b).1 = q.2 * gnorm b := e2
      show _ = a.1 * (gconj b).2 + a.2 * (gconj b).1 - q.2 * gnorm b
      rw [Int.sub_mul, Int.sub_mul]; omega
  generalize (gmul a (gconj b)).1 - q.1 * gnorm b = x at h1 h2 hr
  generalize (gmul a (gconj b)).2 - q.2 * gnorm b = y at h3 h4 hr
  have hn := gnorm_mul (gsub a (gmul q b)) (gconj b)
  rw [hr, gnorm_conj] at hn
  generalize gnorm (gsub a (gmul q b)) = R at hn ⊢
  generalize gnorm b = n at h1 h2 h3 h4 hn hpos ⊢
  have sq : ∀ z : Int, -n ≤ 2 * z → 2 * z < n → 4 * (z * z) ≤ n * n := by
    intro z z1 z2
    have := Int.mul_nonneg (show 0 ≤ n - 2 * z by omega) (show 0 ≤ n + 2 * z by omega)
    have e : (n - 2 * z) * (n + 2 * z) = n * n - 4 * (z * z) := by
      rw [Int.sub_mul, Int.mul_add, Int.mul_add, Int.mul_assoc 2 z n, Int.mul_assoc 2 z (2 * z), Int.mul_left_comm z 2 z, Int.mul_left_comm n 2 z, Int.mul_comm n z]; omega
    omega
  have s1 := sq x h2 h1
  have s2 := sq y h4 h3
  have e : gnorm (x, y) = x * x + y * y := rfl
  rw [e] at hn
  have h6 : 2 * R * n ≤ n * n := by rw [Int.mul_assoc]; omega
  exact Int.le_of_mul_le_mul_right h6 hpos

/-- The whole number that is nearest to a / n, of two the greater one. -/
theorem near_iff (q a n : Int) (hn : 0 < n) : (2 * (a - q * n) < n ∧ -n ≤ 2 * (a - q * n)) ↔ q = (2 * a + n) / (2 * n) := by
  have h2 : (0 : Int) < 2 * n := by omega
  have e : 2 * (q * n) = q * (2 * n) := Int.mul_left_comm _ _ _
  constructor
  · rintro ⟨h1, h3⟩
    have l1 : q ≤ (2 * a + n) / (2 * n) := (Int.le_ediv_iff_mul_le h2).2 (by omega)
    have l2 : (2 * a + n) / (2 * n) < q + 1 := (Int.ediv_lt_iff_lt_mul h2).2 (by rw [Int.add_mul]; omega)
    omega
  · intro h
    have l1 : q * (2 * n) ≤ 2 * a + n := (Int.le_ediv_iff_mul_le h2).1 (by omega)
    have l2 : 2 * a + n < (q + 1) * (2 * n) := (Int.ediv_lt_iff_lt_mul h2).1 (by omega)
    rw [Int.add_mul] at l2
    constructor <;> omega

/-- What divides both divides both again, one step on. -/
theorem step_common {d a b q : Gi} : (GDvd d a ∧ GDvd d b) ↔ (GDvd d b ∧ GDvd d (gsub a (gmul q b))) :=
  ⟨fun ⟨h1, h2⟩ => ⟨h2, h1.sub_mul h2 q⟩, fun ⟨h1, h2⟩ => ⟨h2.of_sub h1, h1⟩⟩

/-- A turned number has the same divisors, and divides the same. -/
theorem turn_dvd {d a u : Gi} (hu : gnorm u = 1) : GDvd d (gmul u a) ↔ GDvd d a := by
  constructor
  · rintro ⟨c, h⟩
    refine ⟨gmul (gconj u) c, ?_⟩
    have h1 : gmul (gconj u) (gmul u a) = gmul (gconj u) (gmul d c) := by rw [h]
    rw [← gmul_assoc, gmul_comm (gconj u) u, gmul_conj, hu, gmul_comm, gmul_real, Int.mul_one, Int.mul_one] at h1
    rw [← gmul_assoc, gmul_comm d, gmul_assoc]
    exact h1
  · rintro ⟨c, h⟩
    exact ⟨gmul u c, by rw [h, ← gmul_assoc, gmul_comm u d, gmul_assoc]⟩
theorem dvd_turn {d a u : Gi} (hu : gnorm u = 1) : GDvd (gmul u d) a ↔ GDvd d a := by
  constructor
  · rintro ⟨c, h⟩
    exact ⟨gmul u c, by rw [h, gmul_comm u d, gmul_assoc]⟩
  · rintro ⟨c, h⟩
    refine ⟨gmul (gconj u) c, ?_⟩
    rw [gmul_comm u d, gmul_assoc, ← gmul_assoc u, gmul_conj, hu, gmul_comm (1, 0), gmul_real, Int.mul_one, Int.mul_one]
    exact h

end Go.Proofs.YtglcihfcnbifcaaDoor
