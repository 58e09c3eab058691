/-
  Texts and numbers: the decimal digits of a number are read as that number, a text that shows a number is that number's digits, and an ID's text is parted at its colon. No program stands here.
-/
import Derived.Test.YthkkbfkbgpkbmaaDoorRefRead
import Derived.Test.YthkkbfkbgpkbmaaDoorRead
namespace Go.Proofs.YthkkbfkbgpkbmaaDoor
set_option linter.unusedVariables false
set_option linter.unusedSimpArgs false

theorem ofNat_toNat (k : Nat) (h : k < 10) : (UInt8.ofNat (48 + k)).toNat = 48 + k := by
  rw [UInt8.toNat_ofNat']; omega

theorem dig_isD (k : Nat) (h : k < 10) : isD (UInt8.ofNat (48 + k)) = true := by
  simp only [isD, decide_eq_true_eq, ofNat_toNat k h]; omega

theorem dec_all (u : Nat) : ∀ c ∈ Lib.decDigits u, isD c = true := by
  induction u using Nat.strongRecOn with
  | ind u ih =>
    intro c hc
    rw [Lib.decDigits] at hc
    split at hc
    · rename_i h
      simp at hc
      rw [hc]
      have := dig_isD u h
      simpa using this
    · rename_i h
      rw [List.mem_append] at hc
      rcases hc with hc | hc
      · exact ih (u / 10) (by omega) c hc
      · have hc' : c = UInt8.ofNat (48 + u % 10) := by simpa using hc
        rw [hc']
        exact dig_isD _ (by omega)

theorem dec_val (u : Nat) : val (Lib.decDigits u) = u := by
  induction u using Nat.strongRecOn with
  | ind u ih =>
    rw [Lib.decDigits]
    split
    · rename_i h
      show 10 * 0 + ((UInt8.ofNat (48 + u)).toNat - 48) = u
      rw [ofNat_toNat u h]; omega
    · rename_i h
      rw [val_snoc, ih (u / 10) (by omega), ofNat_toNat _ (by omega)]
      omega

theorem dec_ne (u : Nat) : Lib.decDigits u ≠ [] := by
  rw [Lib.decDigits]
  split <;> simp

theorem headD_append {a b : List UInt8} (h : a ≠ []) : (a ++ b).headD 0 = a.headD 0 := by
  cases a with
  | nil => exact absurd rfl h
  | cons x a => rfl

theorem dec_head (u : Nat) (h0 : 1 ≤ u) : (Lib.decDigits u).headD 0 ≠ 48 := by
  induction u using Nat.strongRecOn with
  | ind u ih =>
    rw [Lib.decDigits]
    split
    · rename_i h
      intro e
      have e2 : (UInt8.ofNat (48 + u)).toNat = 48 := by
        have e' : UInt8.ofNat (48 + u) = 48 := e
        rw [e']; rfl
      rw [ofNat_toNat u h] at e2
      omega
    · rename_i h
      rw [headD_append (dec_ne _)]
      exact ih (u / 10) (by omega) (by omega)

theorem dec_len (u : Nat) (h : u ≤ 4294967295) : (Lib.decDigits u).length ≤ 15 := by
  rw [Lib.decDigits_length]
  by_cases h1 : u < 10
  · rw [Lib.nDigits_small h1]; omega
  have step : ∀ v, ¬ v < 10 → Lib.nDigits v = Lib.nDigits (v / 10) + 1 := fun v hv => Lib.nDigits_big hv
  have gen : ∀ (k v : Nat), v < 10 ^ (k + 1) → Lib.nDigits v ≤ k + 1 := by
    intro k
    induction k with
    | zero => intro v hv; rw [Lib.nDigits_small (by simpa using hv)]; omega
    | succ k ih =>
      intro v hv
      by_cases h9 : v < 10
      · rw [Lib.nDigits_small h9]; omega
      · rw [step v h9]
        have := ih (v / 10) (by rw [Nat.pow_succ] at hv; omega)
        omega
  have h2 := gen 9 u (by have : (10 : Nat) ^ (9 + 1) = 10000000000 := by decide
                         omega)
  omega

theorem dec_numB (u : Nat) (h : u ≤ 4294967295) : numB (Lib.decDigits u) = true := by
  have h1 : 1 ≤ (Lib.decDigits u).length := List.length_pos_iff.2 (dec_ne u)
  have h2 := dec_len u h
  have h3 : (decide (1 < (Lib.decDigits u).length) && ((Lib.decDigits u).headD 0 == 48)) = false := by
    by_cases h9 : u < 10
    · have : (Lib.decDigits u).length = 1 := by rw [Lib.decDigits_length, Lib.nDigits_small h9]
      simp [this]
    · have := dec_head u (by omega)
      rw [beq_eq_false_iff_ne.2 this, Bool.and_false]
  have h4 : (Lib.decDigits u).all isD = true := List.all_eq_true.2 (dec_all u)
  simp only [numB, h3, h4]
  simp [h1, h2]

theorem dec_numV (u : Nat) (h : u ≤ 4294967295) : numV (Lib.decDigits u) = u := by
  rw [numV, if_pos (dec_numB u h), dec_val]

theorem val_pos (l : List UInt8) (hd : ∀ c ∈ l, isD c = true) (hn : l ≠ []) (h0 : l.headD 0 ≠ 48) : 1 ≤ val l := by
  cases l with
  | nil => exact absurd rfl hn
  | cons c l =>
    have hc := hd c (by simp)
    simp only [isD, decide_eq_true_eq] at hc
    have hc0 : c ≠ 48 := h0
    have hc1 : c.toNat ≠ 48 := fun e => hc0 (by apply UInt8.toNat_inj.1; rw [e]; rfl)
    have mono : ∀ (m : List UInt8) (a : Nat), a ≤ m.foldl (fun a c => 10 * a + (c.toNat - 48)) a := by
      intro m
      induction m with
      | nil => intro a; exact Nat.le_refl _
      | cons x m ih => intro a; exact Nat.le_trans (by omega) (ih (10 * a + (x.toNat - 48)))
    have : 10 * 0 + (c.toNat - 48) ≤ val (c :: l) := mono l _
    omega

theorem canon (l : List UInt8) : ∀ (n : Nat), l.length = n → l ≠ [] → (∀ c ∈ l, isD c = true) → (1 < l.length → l.headD 0 ≠ 48) → Lib.decDigits (val l) = l := by
  intro n
  induction n generalizing l with
  | zero => intro h hn; exact absurd (List.length_eq_zero_iff.1 h) hn
  | succ n ih =>
    intro h hn hd hh
    obtain ⟨m, c, rfl⟩ : ∃ m c, l = m ++ [c] := ⟨l.dropLast, l.getLast hn, (List.dropLast_concat_getLast hn).symm⟩
    have hc := hd c (by simp)
    simp only [isD, decide_eq_true_eq] at hc
    have hcc : UInt8.ofNat (48 + (c.toNat - 48)) = c := by
      apply UInt8.toNat_inj.1
      rw [ofNat_toNat _ (by omega)]
      omega
    rw [val_snoc]
    by_cases hm : m = []
    · subst hm
      rw [show 10 * val [] + (c.toNat - 48) = c.toNat - 48 by simp [val], Lib.decDigits_one (by omega), hcc]
      rfl
    · have hlen : 1 < (m ++ [c]).length := by
        have : 0 < m.length := List.length_pos_iff.2 hm
        simp; omega
      have hh' := hh hlen
      rw [headD_append hm] at hh'
      have hdm : ∀ x ∈ m, isD x = true := fun x hx => hd x (by simp [hx])
      have hp := val_pos m hdm hm hh'
      have e := ih m (by simpa using h) hm hdm (fun _ => hh')
      rw [Lib.decDigits, dif_neg (by omega)]
      rw [show (10 * val m + (c.toNat - 48)) / 10 = val m by omega, show (10 * val m + (c.toNat - 48)) % 10 = c.toNat - 48 by omega, e, hcc]

theorem numB_dec (l : List UInt8) (h : numB l = true) : Lib.decDigits (numV l) = l := by
  have h' := h
  simp only [numB, Bool.and_eq_true, decide_eq_true_eq, List.all_eq_true] at h
  obtain ⟨⟨⟨h1, h2⟩, h3⟩, h4⟩ := h
  rw [numV, if_pos h']
  refine canon l _ rfl (List.length_pos_iff.1 (by omega)) h4 ?_
  intro hl e
  rw [e] at h3
  simp [hl] at h3

theorem no_colon {a : List UInt8} (h : ∀ c ∈ a, isD c = true) : ∀ c ∈ a, c ≠ 58 := by
  intro c hc e
  have := h c hc
  rw [e] at this
  exact absurd this (by decide)

theorem refB_show (r n : Nat) (hr : r ≤ 65535) (hn : n ≤ 4294967295) : refB (showL r n) = true := by
  obtain ⟨h1, h2, h3⟩ := parts (Lib.decDigits r) (Lib.decDigits n) (no_colon (dec_all r))
  have e : showL r n = Lib.decDigits r ++ 58 :: Lib.decDigits n := rfl
  rw [refB, e, h1, h2, h3, dec_numB r (by omega), dec_numB n hn, dec_numV r (by omega), dec_numV n hn]
  simp [hr, hn]

theorem has_parts (l : List UInt8) (h : has l = true) : l = pre l ++ 58 :: post l := by
  induction l with
  | nil => simp [has] at h
  | cons c l ih =>
    by_cases hc : c = 58
    · subst hc
      simp [pre, post]
    · have hb : (c != 58) = true := by simpa using hc
      have hl : has l = true := by
        simp only [has, List.any_cons] at h ⊢
        simpa [hc] using h
      have := ih hl
      simp only [pre, post, List.takeWhile_cons, List.dropWhile_cons, hb, if_true, List.cons_append]
      exact congrArg _ this

theorem refB_is (l : List UInt8) (h : refB l = true) : numV (pre l) ≤ 65535 ∧ numV (post l) ≤ 4294967295 ∧ showL (numV (pre l)) (numV (post l)) = l := by
  simp only [refB, Bool.and_eq_true, decide_eq_true_eq] at h
  obtain ⟨h1, ⟨h2, h3⟩, h4, h5⟩ := h
  refine ⟨h3, h5, ?_⟩
  rw [showL, numB_dec _ h2, numB_dec _ h4]
  exact (has_parts l h1).symm

theorem index_colon (a b : List UInt8) (h : ∀ c ∈ a, c ≠ 58) : Lib.index (a ++ 58 :: b) [58] = a.length := by
  induction a with
  | nil => simp [Lib.index]
  | cons c a ih =>
    have hc : c ≠ 58 := h c (by simp)
    have e := ih (fun x hx => h x (by simp [hx]))
    have hn : ¬ ((a.length : Int) = -1) := by omega
    simp only [List.cons_append, Lib.index, e]
    simp [List.isPrefixOf, Ne.symm hc, hn]

theorem fst_show (r n : Nat) : fst (showL r n) = Lib.decDigits r := by
  have e := index_colon (Lib.decDigits r) (Lib.decDigits n) (no_colon (dec_all r))
  show (Lib.cut (Lib.decDigits r ++ 58 :: Lib.decDigits n) [58]).1 = _
  rw [Lib.cut, e, if_pos (by omega)]
  simp
theorem snd_show (r n : Nat) : snd (showL r n) = Lib.decDigits n := by
  have e := index_colon (Lib.decDigits r) (Lib.decDigits n) (no_colon (dec_all r))
  show (Lib.cut (Lib.decDigits r ++ 58 :: Lib.decDigits n) [58]).2.1 = _
  rw [Lib.cut, e, if_pos (by omega)]
  simp

theorem parseM (M : Nat) (hM : M < 1844674407370955162) (l : List UInt8) (acc : Nat) (hd : ∀ c ∈ l, isD c = true) (h : l.foldl (fun a c => 10 * a + (c.toNat - 48)) acc ≤ M) :
    Lib.parseUintM M acc l = .ok (l.foldl (fun a c => 10 * a + (c.toNat - 48)) acc) := by
  induction l generalizing acc with
  | nil => rfl
  | cons c l ih =>
    have mono : ∀ (m : List UInt8) (a : Nat), a ≤ m.foldl (fun a c => 10 * a + (c.toNat - 48)) a := by
      intro m
      induction m with
      | nil => intro a; exact Nat.le_refl _
      | cons x m ih => intro a; exact Nat.le_trans (by omega) (ih (10 * a + (x.toNat - 48)))
    have hc := hd c (by simp)
    simp only [isD, decide_eq_true_eq] at hc
    simp only [List.foldl_cons] at h ⊢
    have h1 := mono l (10 * acc + (c.toNat - 48))
    rw [Lib.parseUintM, if_pos hc, if_neg (by omega), if_neg (by omega), Nat.mul_comm acc 10]
    exact ih _ (fun x hx => hd x (by simp [hx])) h

theorem parse_dec (B u : Nat) (hM : 2 ^ B - 1 < 1844674407370955162) (h : u ≤ 2 ^ B - 1) : Lib.parseUintB B (Lib.decDigits u) = .ok u := by
  rw [Lib.parseUintB, if_neg (dec_ne u)]
  have := parseM (2 ^ B - 1) hM (Lib.decDigits u) 0 (dec_all u) (by rw [show (Lib.decDigits u).foldl (fun a c => 10 * a + (c.toNat - 48)) 0 = u from dec_val u]; exact h)
  rw [this]
  exact congrArg _ (dec_val u)

end Go.Proofs.YthkkbfkbgpkbmaaDoor
