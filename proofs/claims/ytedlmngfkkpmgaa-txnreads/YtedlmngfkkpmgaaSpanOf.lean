
/-
  Spans of names, one name more at a time; what the document's Of of layer 7 hands back. No conditions beyond what each theorem states.
-/
import Derived.Test.YtedlmngfkkpmgaaSpanRef2
namespace Go.Proofs.Ytedlmngfkkpmgaa
open Go.ChangeShapes Go.WideShapes Go.ChangeAt Go.RowKit Go.Lib
set_option linter.unusedVariables false
set_option linter.unusedSimpArgs false

theorem ofA_snoc (xs : List Nm) : ∀ out prev x, ofA out prev (xs ++ [x]) = pushOf (ofA out prev xs) (if xs = [] then prev else xs.getLast?) x := by
  induction xs with
  | nil => intro out prev x; rfl
  | cons y ys ih =>
    intro out prev x
    rw [List.cons_append, ofA, ih, ofA]
    congr 1
    cases ys with
    | nil => simp
    | cons z zs => simp [List.getLast?_cons_cons]
theorem pushOf_ne (out : List Sp) (prev : Option Nm) (x : Nm) : pushOf out prev x ≠ [] := by
  unfold pushOf
  split
  · split <;> simp
  · simp
theorem ofA_ne (xs : List Nm) : ∀ out prev, (out ≠ [] ∨ xs ≠ []) → ofA out prev xs ≠ [] := by
  induction xs with
  | nil => intro out prev h; rcases h with h | h; exact h; exact absurd rfl h
  | cons y ys ih => intro out prev _; exact ih _ _ (Or.inl (pushOf_ne _ _ _))
theorem ofL_first {ids : List Nm} (h : 0 < ids.length) : ofL (ids.take 1) = [((ids.getD 0 n0).1, (ids.getD 0 n0).2, 1)] := by
  cases ids with
  | nil => simp at h
  | cons x xs => rfl
/-- Behind one name more: it is in the last span, or in one of its own. -/
theorem ofL_next {ids : List Nm} {k : Nat} (h0 : 0 < k) (h : k < ids.length) : ∃ D s, ofL (ids.take k) = D ++ [s] ∧
    ofL (ids.take (k + 1)) = if follows (ids.getD (k - 1) n0) (ids.getD k n0) = true ∧ s.2.2 < 1024 then D ++ [(s.1, s.2.1, s.2.2 + 1)] else (D ++ [s]) ++ [((ids.getD k n0).1, (ids.getD k n0).2, 1)] := by
  have hne : ids.take k ≠ [] := by
    intro e
    have := congrArg List.length e
    rw [List.length_take, List.length_nil] at this; omega
  have hl : (ids.take k).getLast? = some (ids.getD (k - 1) n0) := by
    rw [List.getLast?_eq_getElem?, List.length_take, Nat.min_eq_left (by omega), List.getElem?_take, if_pos (by omega), List.getElem?_eq_getElem (by omega), List.getD_eq_getElem?_getD, List.getElem?_eq_getElem (by omega)]
    rfl
  have hne2 : ofL (ids.take k) ≠ [] := ofA_ne _ _ _ (Or.inr hne)
  refine ⟨(ofL (ids.take k)).dropLast, (ofL (ids.take k)).getLast hne2, (List.dropLast_concat_getLast hne2).symm, ?_⟩
  rw [take_getD n0 h]
  unfold ofL at hne2 ⊢
  rw [ofA_snoc, if_neg hne, hl]
  unfold pushOf
  rw [List.getLast?_eq_some_getLast hne2, List.dropLast_concat_getLast hne2]
theorem ofL_len_le (ids : List Nm) : ∀ k, k ≤ ids.length → (ofL (ids.take k)).length ≤ k := by
  intro k
  induction k with
  | zero => intro _; simp [ofL, ofA]
  | succ k ih =>
    intro h
    have ih := ih (by omega)
    cases k with
    | zero => rw [ofL_first (by omega)]; simp
    | succ k =>
      obtain ⟨D, s, e1, e2⟩ := ofL_next (ids := ids) (k := k + 1) (by omega) (by omega)
      rw [e1] at ih
      rw [e2]
      rw [List.length_append] at ih
      split <;> simp at ih ⊢ <;> omega
/-- All have from 1 to 1024 names. -/
theorem ofL_lens (ids : List Nm) : ∀ k, k ≤ ids.length → ∀ s ∈ ofL (ids.take k), 1 ≤ s.2.2 ∧ s.2.2 ≤ 1024 := by
  intro k
  induction k with
  | zero => intro _ s hs; simp [ofL, ofA] at hs
  | succ k ih =>
    intro h
    have ih := ih (by omega)
    cases k with
    | zero => rw [ofL_first (by omega)]; intro s hs; simp at hs; subst hs; simp
    | succ k =>
      obtain ⟨D, t, e1, e2⟩ := ofL_next (ids := ids) (k := k + 1) (by omega) (by omega)
      rw [e1] at ih
      rw [e2]
      have ht := ih t (by simp)
      intro s hs
      split at hs
      · rename_i hc
        simp only [List.mem_append, List.mem_singleton] at hs
        rcases hs with hs | rfl
        · exact ih s (by simp [hs])
        · simp only; omega
      · simp only [List.mem_append, List.mem_singleton] at hs
        rcases hs with (hs | rfl) | rfl
        · exact ih s (by simp [hs])
        · exact ht
        · simp

theorem owns_head {w : World} {B n size : Nat} {e : TypeId} {v : Value} {xs : List Value} (h : w.ownsRow B e size v n xs) (hn : 0 < n) : ∃ g cap, v = .slice (some ⟨g, 0, none⟩) n cap ∧ B ≤ g ∧ ∀ o, w.frozen? ⟨g, o, none⟩ = false := by
  rcases h.2 with ⟨_, h0⟩ | ⟨g, cap, cur, rfl, hb, hg, _⟩
  · omega
  · exact ⟨g, cap, rfl, hb, fun o => frozen_of_block hg⟩

end Go.Proofs.Ytedlmngfkkpmgaa
