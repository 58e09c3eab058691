
/-
  Spans of names have just these names; no name is there twice just if no two spans meet; what is left of spans without others. Of no program; no conditions beyond what each theorem states.
-/
import Derived.Test.YtedlmngfkkpmgaaSpanOf
namespace Go.Proofs.Ytedlmngfkkpmgaa
open Go.ChangeShapes Go.WideShapes Go.ChangeAt Go.RowKit Go.Lib
set_option linter.unusedVariables false
set_option linter.unusedSimpArgs false

theorem idsS_one (x : Nm) : idsS (x.1, x.2, 1) = [x] := by simp [idsS, idsN]
theorem idsS_more {s : Sp} (h : 1 ≤ s.2.2) : idsS (s.1, s.2.1, s.2.2 + 1) = idsS s ++ [(s.1, s.2.1 + s.2.2)] := by
  unfold idsS
  simp only
  rw [show (s.2.2 + 1).toNat = s.2.2.toNat + 1 by omega]
  have : idsN (s.1, s.2.1, s.2.2 + 1) (s.2.2.toNat + 1) = idsN s (s.2.2.toNat + 1) := rfl
  rw [this, idsN_succ]
  congr 2
  apply Prod.ext
  · rfl
  · simp; omega
/-- Behind so many names: they are the spans' names; the last span ends with the last name; each number may be. -/
def OfInv (ids : List Nm) (k : Nat) : Prop := idsL (ofL (ids.take k)) = ids.take k ∧ (∀ s ∈ ofL (ids.take k), 1 ≤ s.2.1 ∧ 1 ≤ s.2.2 ∧ s.2.2 ≤ 1024 ∧ s.2.1 + s.2.2 - 1 ≤ 268435456) ∧ (∀ D s, ofL (ids.take k) = D ++ [s] → (s.1, s.2.1 + s.2.2 - 1) = ids.getD (k - 1) n0)
theorem of_inv {ids : List Nm} (hr : RightN ids) : ∀ k, k ≤ ids.length → OfInv ids k := by
  intro k
  induction k with
  | zero => exact fun _ => ⟨rfl, (by intro s hs; simp [ofL, ofA] at hs), by intro D s h; simp [ofL, ofA] at h⟩
  | succ k ih =>
    intro h
    have hx := rightN_iff.1 (hr.at (i := k) (by omega))
    by_cases h0 : k = 0
    · subst h0
      unfold OfInv
      rw [ofL_first (by omega)]
      refine ⟨?_, ?_, ?_⟩
      · rw [idsL_one, idsS_one, take_getD n0 (by omega)]; rfl
      · intro s hs
        rw [List.mem_singleton] at hs
        subst hs
        simp only
        omega
      · intro D s e
        have : D = [] ∧ s = ((ids.getD 0 n0).1, (ids.getD 0 n0).2, 1) := by
          have hl := congrArg List.length e
          simp at hl
          subst hl
          simpa using e.symm
        obtain ⟨-, rfl⟩ := this
        simp
    · obtain ⟨i1, i2, i3⟩ := ih (by omega)
      obtain ⟨D, s, e1, e2⟩ := ofL_next (ids := ids) (k := k) (by omega) (by omega)
      have hs := i2 s (by rw [e1]; simp)
      have hl := i3 D s e1
      rw [e1] at i1 i2
      unfold OfInv
      rw [e2]
      by_cases hc : follows (ids.getD (k - 1) n0) (ids.getD k n0) = true ∧ s.2.2 < 1024
      · rw [if_pos hc]
        have hf := of_decide_eq_true hc.1
        rw [← hl] at hf
        simp only at hf
        have hxx : (s.1, s.2.1 + s.2.2) = ids.getD k n0 := Prod.ext hf.1 (by simp only; omega)
        refine ⟨?_, ?_, ?_⟩
        · rw [idsL_append, idsL_one, idsS_more (by omega), take_getD n0 (by omega), ← i1, idsL_append, idsL_one, List.append_assoc, hxx]
        · intro t ht
          rw [List.mem_append, List.mem_singleton] at ht
          rcases ht with ht | rfl
          · exact i2 t (by simp [ht])
          · have : (ids.getD k n0).2 = s.2.1 + s.2.2 := by rw [← hxx]
            simp only
            omega
        · intro D' t e
          have := List.append_inj' e rfl
          obtain ⟨-, e3⟩ := this
          simp only [List.cons.injEq, and_true] at e3
          subst e3
          rw [Nat.add_sub_cancel, ← hxx]
          apply Prod.ext
          · rfl
          · simp only; omega
      · rw [if_neg hc]
        refine ⟨?_, ?_, ?_⟩
        · rw [idsL_append, i1, idsL_one, take_getD n0 (by omega)]
          congr 1
          exact idsS_one _
        · intro t ht
          rw [List.mem_append, List.mem_singleton] at ht
          rcases ht with ht | rfl
          · exact i2 t ht
          · simp only; omega
        · intro D' t e
          have := List.append_inj' e rfl
          obtain ⟨-, e3⟩ := this
          simp only [List.cons.injEq, and_true] at e3
          subst e3
          rw [Nat.add_sub_cancel]
          apply Prod.ext
          · rfl
          · simp only; omega
theorem ids_of {ids : List Nm} (hr : RightN ids) : idsL (ofL ids) = ids := by
  have := (of_inv hr ids.length (Nat.le_refl _)).1
  rwa [List.take_length] at this
theorem right_of {ids : List Nm} (hr : RightN ids) : RightS (ofL ids) := by
  have := (of_inv hr ids.length (Nat.le_refl _)).2.1
  rw [List.take_length] at this
  intro s hs
  have := this s hs
  rw [rightS_iff]; omega
theorem total_of {ids : List Nm} (hr : RightN ids) : totalL (ofL ids) = ids.length := by unfold totalL; rw [ids_of hr]
theorem of_len (ids : List Nm) : (ofL ids).length ≤ ids.length := by
  have := ofL_len_le ids ids.length (Nat.le_refl _)
  rwa [List.take_length] at this
/-- A right span's first name is one of its names. -/
theorem first_mem {s : Sp} (h : 1 ≤ s.2.2) : (s.1, s.2.1) ∈ idsS s := mem_idsS.2 ⟨rfl, Int.le_refl _, by simp only; omega⟩
theorem fit_of_ids {l : List Sp} (hr : RightS l) (hf : FitNs (idsL l)) : FitSs l := by
  intro s hs
  have h := rightS_iff.1 (hr s hs)
  have hm : (s.1, s.2.1) ∈ idsL l := mem_idsL.2 ⟨s, hs, first_mem h.2.1⟩
  have := hf _ hm
  unfold FitN at this
  unfold FitS
  simp only at this
  omega
theorem fit_of_of {ids : List Nm} (hr : RightN ids) (hf : FitNs ids) : FitSs (ofL ids) := fit_of_ids (right_of hr) (by rw [ids_of hr]; exact hf)

theorem meet_iff {s t : Sp} (hs : rightS s = true) (ht : rightS t = true) : meetS s t = true ↔ ∃ a, a ∈ idsS s ∧ a ∈ idsS t := by
  have h1 := rightS_iff.1 hs
  have h2 := rightS_iff.1 ht
  unfold meetS
  rw [decide_eq_true_iff]
  constructor
  · rintro ⟨e, h3, h4⟩
    by_cases hle : s.2.1 ≤ t.2.1
    · exact ⟨(s.1, t.2.1), mem_idsS.2 ⟨rfl, hle, by simp only; omega⟩, mem_idsS.2 ⟨e, Int.le_refl _, by simp only; omega⟩⟩
    · exact ⟨(s.1, s.2.1), mem_idsS.2 ⟨rfl, Int.le_refl _, by simp only; omega⟩, mem_idsS.2 ⟨e, by simp only; omega, by simp only; omega⟩⟩
  · rintro ⟨a, ha, hb⟩
    obtain ⟨e1, a1, a2⟩ := mem_idsS.1 ha
    obtain ⟨e2, b1, b2⟩ := mem_idsS.1 hb
    exact ⟨by rw [← e1, e2], by omega, by omega⟩
theorem idsS_nodup (s : Sp) : (idsS s).Nodup := by
  unfold idsS idsN
  rw [List.nodup_iff_pairwise_ne, List.pairwise_map]
  refine List.Pairwise.imp ?_ (List.nodup_range (n := s.2.2.toNat))
  intro a b h e
  have := (Prod.mk.inj e).2
  omega
/-- No two of them meet. -/
theorem apart_pairs {l : List Sp} : Apart l ↔ l.Pairwise fun a b => meetS b a = false := by
  rw [List.pairwise_iff_getElem]
  constructor
  · intro h i j hi hj hij
    have := h j hj i hij
    simpa [hi, hj] using this
  · intro h i hi k hk
    have := h k i (by omega) hi hk
    simpa [hi, show k < l.length by omega] using this
theorem pairs_nodup {l : List Sp} (hr : RightS l) : l.Pairwise (fun a b => meetS b a = false) ↔ (idsL l).Nodup := by
  induction l with
  | nil => simp [idsL]
  | cons a l ih =>
    have hra : rightS a = true := hr a (by simp)
    have hrl : RightS l := fun x hx => hr x (by simp [hx])
    rw [List.pairwise_cons, idsL_cons, List.nodup_append, ih hrl]
    constructor
    · rintro ⟨h1, h2⟩
      refine ⟨idsS_nodup a, h2, ?_⟩
      intro x hx y hy e
      subst e
      obtain ⟨t, ht, hm⟩ := mem_idsL.1 hy
      have := (meet_iff (hrl t ht) hra).2 ⟨x, hm, hx⟩
      rw [h1 t ht] at this
      cases this
    · rintro ⟨-, h2, h3⟩
      refine ⟨?_, h2⟩
      intro t ht
      cases hm : meetS t a with
      | false => rfl
      | true =>
        obtain ⟨x, hx, hy⟩ := (meet_iff (hrl t ht) hra).1 hm
        exact absurd rfl (h3 x hy x (mem_idsL.2 ⟨t, ht, hx⟩))
theorem apart_nodup {l : List Sp} (hr : RightS l) : apartB l = true ↔ (idsL l).Nodup := by rw [apartB_iff, apart_pairs, pairs_nodup hr]

theorem ids_less {l wo : List Sp} (hr : RightS l) : idsL (lessL l wo) = lessN l wo := ids_of fun a ha => rightN_ids hr a (List.mem_filter.1 ha).1
theorem right_less {l wo : List Sp} (hr : RightS l) : RightS (lessL l wo) := right_of fun a ha => rightN_ids hr a (List.mem_filter.1 ha).1
theorem lessN_total (l wo : List Sp) : (lessN l wo).length ≤ totalL l := List.length_filter_le _ _
theorem total_less {l wo : List Sp} (hr : RightS l) : totalL (lessL l wo) ≤ totalL l := by unfold totalL; rw [ids_less hr]; exact lessN_total l wo
theorem len_less {l wo : List Sp} (hr : RightS l) : (lessL l wo).length ≤ totalL l := Nat.le_trans (of_len _) (lessN_total l wo)
theorem mem_lessN {l wo : List Sp} {a : Nm} : a ∈ lessN l wo ↔ a ∈ idsL l ∧ a ∉ idsL wo := by unfold lessN; rw [List.mem_filter]; simp
theorem fit_less {l wo : List Sp} (hr : RightS l) (hf : FitSs l) : FitSs (lessL l wo) := fit_of_ids (right_less hr) (by rw [ids_less hr]; intro a ha; exact fitN_ids hr hf a (mem_lessN.1 ha).1)
theorem less_self (l : List Sp) : lessL l l = [] := by
  have : lessN l l = [] := List.filter_eq_nil_iff.2 fun a ha => by simp [ha]
  unfold lessL; rw [this]; rfl
theorem less_nil (l : List Sp) : lessL l [] = ofL (idsL l) := by
  have : lessN l [] = idsL l := List.filter_eq_self.2 fun a ha => by simp [idsL]
  unfold lessL; rw [this]
/-- What is in others is not left without them. -/
theorem less_in {l wo : List Sp} (hr : RightS l) : lessL (lessL l (lessL l wo)) wo = [] := by
  have : lessN (lessL l (lessL l wo)) wo = [] := List.filter_eq_nil_iff.2 fun a ha => by
    rw [ids_less hr, mem_lessN, ids_less hr, mem_lessN] at ha
    have : a ∈ idsL wo := by
      by_cases h : a ∈ idsL wo
      · exact h
      · exact absurd ⟨ha.1, h⟩ ha.2
    simp [this]
  unfold lessL at this ⊢; rw [this]; rfl
theorem filter_parts {α : Type} (f : α → Bool) (l : List α) : l.length = (l.filter f).length + (l.filter fun a => !f a).length := by
  induction l with
  | nil => rfl
  | cons a l ih =>
    cases h : f a <;> simp [h] <;> omega
/-- What isn't in others and what is are all, together, and no name twice. -/
theorem less_both {l wo : List Sp} (hr : RightS l) (hd : (idsL l).Nodup) : totalL (lessL l wo ++ lessL l (lessL l wo)) = (idsL l).length ∧ (idsL (lessL l wo ++ lessL l (lessL l wo))).Nodup := by
  have e1 : idsL (lessL l wo) = (idsL l).filter fun a => decide (a ∉ idsL wo) := ids_less hr
  have e2 : idsL (lessL l (lessL l wo)) = (idsL l).filter fun a => !decide (a ∉ idsL wo) := by
    rw [ids_less hr]
    unfold lessN
    apply List.filter_congr
    intro a ha
    have hm : a ∈ idsL (lessL l wo) ↔ a ∉ idsL wo := by
      rw [e1, List.mem_filter]
      simp [ha]
    by_cases h : a ∈ idsL wo
    · have : a ∉ idsL (lessL l wo) := fun k => (hm.1 k) h
      simp [h, this]
    · have := hm.2 h
      simp [h, this]
  constructor
  · unfold totalL
    rw [idsL_append, List.length_append, e1, e2]
    exact (filter_parts _ _).symm
  · rw [idsL_append, e1, e2, List.nodup_append]
    refine ⟨hd.filter _, hd.filter _, ?_⟩
    intro a ha b hb e
    subst e
    have h1 := (List.mem_filter.1 ha).2
    have h2 := (List.mem_filter.1 hb).2
    rw [h1] at h2
    cases h2

end Go.Proofs.Ytedlmngfkkpmgaa
