
/-
  Stretches: spans by rising first names, those that have names in common made one. Of no program; no conditions beyond what each theorem states.
-/
import Derived.Test.YtoadifbbmfaakaaSpanProg9
namespace Go.Proofs.Ytoadifbbmfaakaa
open Go.ChangeShapes Go.WideShapes Go.ChangeAt Go.RowKit Go.Lib
open Go.Sort
set_option linter.unusedVariables false
set_option linter.unusedSimpArgs false

/-- A stretch that may be. -/
def okZ (z : Sp) : Prop := 0 ≤ z.1 ∧ z.1 ≤ 65535 ∧ 1 ≤ z.2.1 ∧ 1 ≤ z.2.2 ∧ z.2.1 + z.2.2 - 1 ≤ 268435456
theorem okZ.fit {z : Sp} (h : okZ z) : FitS z := by unfold okZ at h; unfold FitS; omega
def moreZ (z s : Sp) : Sp := (z.1, z.2.1, max z.2.2 (s.2.1 - z.2.1 + s.2.2))
/-- One span more. -/
def stepZ (A : List Sp) (s : Sp) : List Sp :=
  match A.getLast? with
  | none => A ++ [s]
  | some z => if firstOf s ∈ idsS z then A.dropLast ++ [moreZ z s] else A ++ [s]
theorem stepZ_nil (s : Sp) : stepZ [] s = [] ++ [s] := rfl
theorem stepZ_snoc (D : List Sp) (z s : Sp) : stepZ (D ++ [z]) s = if firstOf s ∈ idsS z then D ++ [moreZ z s] else (D ++ [z]) ++ [s] := by
  unfold stepZ
  rw [List.getLast?_concat, List.dropLast_concat]
def stretL (ys : List Sp) : List Sp := ys.foldl stepZ []
theorem stretL_take {ys : List Sp} {k : Nat} (h : k < ys.length) : stretL (ys.take (k + 1)) = stepZ (stretL (ys.take k)) (ys.getD k s0) := by
  unfold stretL
  rw [take_getD s0 h, List.foldl_append]
  rfl
structure Good (zs : List Sp) : Prop where
  ok : ∀ z ∈ zs, okZ z
  apart : zs.Pairwise Ahead
structure StInv (ys : List Sp) (k : Nat) (A : List Sp) : Prop where
  good : Good A
  same : ∀ a, a ∈ idsL A ↔ a ∈ idsL (ys.take k)
  first : ∀ D z, A = D ++ [z] → ∃ j, j < k ∧ firstOf z = firstOf (ys.getD j s0)
  len : A.length ≤ k
theorem mem_moreZ {z s : Sp} (hz : okZ z) (hs : okZ s) (h : firstOf s ∈ idsS z) (a : Nm) : a ∈ idsS (moreZ z s) ↔ a ∈ idsS z ∨ a ∈ idsS s := by
  rw [mem_idsS] at h
  rw [mem_idsS, mem_idsS, mem_idsS]
  unfold firstOf at h
  unfold moreZ
  unfold okZ at hz hs
  simp only at h ⊢
  have hm : max z.2.2 (s.2.1 - z.2.1 + s.2.2) = if z.2.2 ≤ s.2.1 - z.2.1 + s.2.2 then s.2.1 - z.2.1 + s.2.2 else z.2.2 := by omega
  rw [hm]
  split <;> omega
theorem okZ_moreZ {z s : Sp} (hz : okZ z) (hs : okZ s) (h : firstOf s ∈ idsS z) : okZ (moreZ z s) := by
  rw [mem_idsS] at h
  unfold firstOf at h
  unfold moreZ okZ at *
  simp only at h ⊢
  have hm : max z.2.2 (s.2.1 - z.2.1 + s.2.2) = if z.2.2 ≤ s.2.1 - z.2.1 + s.2.2 then s.2.1 - z.2.1 + s.2.2 else z.2.2 := by omega
  rw [hm]
  split <;> omega
theorem good_one {s : Sp} (h : okZ s) : Good [s] := ⟨fun z hz => by rw [List.mem_singleton] at hz; rw [hz]; exact h, List.pairwise_singleton _ _⟩
theorem ahead_z {z b : Sp} (hz : okZ z) (hr : ¬ (b.1 < z.1 ∨ b.1 = z.1 ∧ b.2.1 < z.2.1)) (hn : firstOf b ∉ idsS z) : Ahead z b := by
  rw [mem_idsS] at hn
  unfold firstOf at hn
  unfold okZ at hz
  unfold Ahead
  simp only at hn
  omega
theorem okZ_of {s : Sp} (hr : rightS s = true) (hf : FitS s) : okZ s := by
  have := rightS_iff.1 hr
  unfold FitS at hf
  unfold okZ
  omega
theorem st_inv {ys : List Sp} (hr : RightS ys) (hf : FitSs ys) (hs : Rising ys) : ∀ k, k ≤ ys.length → StInv ys k (stretL (ys.take k)) := by
  intro k
  induction k with
  | zero => intro _; exact ⟨⟨fun z hz => by simp [stretL] at hz, List.Pairwise.nil⟩, fun a => Iff.rfl, fun D z h => by simp [stretL] at h, by simp [stretL]⟩
  | succ k ih =>
    intro hk
    have I := ih (by omega)
    have hlt : k < ys.length := by omega
    rw [stretL_take hlt]
    have hsk : okZ (ys.getD k s0) := okZ_of (hr.at hlt) (hf.at hlt)
    have hids : idsL (ys.take (k + 1)) = idsL (ys.take k) ++ idsS (ys.getD k s0) := idsL_take hlt
    generalize stretL (ys.take k) = A at I
    by_cases h0 : A = []
    · subst h0
      rw [stepZ_nil]
      refine ⟨good_one hsk, fun a => ?_, fun D z h => ?_, by simp⟩
      · rw [hids, List.mem_append, ← I.same a, List.nil_append, idsL_one]
        simp [idsL]
      · have : z = ys.getD k s0 := by
          cases D with
          | nil => simpa using h.symm
          | cons d D => simp at h
        exact ⟨k, by omega, by rw [this]⟩
    · obtain ⟨D, z, rfl⟩ : ∃ D z, A = D ++ [z] := ⟨_, _, (List.dropLast_concat_getLast h0).symm⟩
      obtain ⟨j, hj, hfz⟩ := I.first D z rfl
      have hz : okZ z := I.good.ok z (by simp)
      have hris := hs j k hj hlt
      rw [lt_cmpS] at hris
      have hris := of_decide_eq_false hris
      have e1 : (firstOf z).1 = (firstOf (ys.getD j s0)).1 := congrArg Prod.fst hfz
      have e2 : (firstOf z).2 = (firstOf (ys.getD j s0)).2 := congrArg Prod.snd hfz
      unfold firstOf at e1 e2
      simp only at e1 e2
      rw [← e1, ← e2] at hris
      have hap := List.pairwise_append.1 I.good.apart
      rw [stepZ_snoc]
      generalize hsd : ys.getD k s0 = s at hsk hids hris
      by_cases hm : firstOf s ∈ idsS z
      · rw [if_pos hm]
        refine ⟨⟨fun x hx => ?_, ?_⟩, fun a => ?_, fun D' z' h => ?_, ?_⟩
        · rcases List.mem_append.1 hx with hx | hx
          · exact I.good.ok x (by simp [hx])
          · rw [List.mem_singleton] at hx; rw [hx]; exact okZ_moreZ hz hsk hm
        · refine List.pairwise_append.2 ⟨hap.1, List.pairwise_singleton _ _, fun x hx y hy => ?_⟩
          rw [List.mem_singleton] at hy
          have := hap.2.2 x hx z (by simp)
          rw [hy]; exact this
        · rw [hids, List.mem_append, ← I.same a, idsL_append, idsL_append, List.mem_append, List.mem_append, idsL_one, idsL_one, mem_moreZ hz hsk hm, or_assoc]
        · have := (List.append_inj' h rfl).2
          simp at this
          exact ⟨j, by omega, by rw [← this]; exact hfz⟩
        · have := I.len; simp at this ⊢; omega
      · rw [if_neg hm]
        have haz := ahead_z hz hris hm
        refine ⟨⟨fun x hx => ?_, ?_⟩, fun a => ?_, fun D' z' h => ?_, ?_⟩
        · rcases List.mem_append.1 hx with hx | hx
          · exact I.good.ok x hx
          · rw [List.mem_singleton] at hx; rw [hx]; exact hsk
        · refine List.pairwise_append.2 ⟨I.good.apart, List.pairwise_singleton _ _, fun x hx y hy => ?_⟩
          rw [List.mem_singleton] at hy
          rw [hy]
          rcases List.mem_append.1 hx with hx | hx
          · have := hap.2.2 x hx z (by simp)
            exact Ahead.trans hz.2.2.2.1 this haz
          · rw [List.mem_singleton] at hx; rw [hx]; exact haz
        · rw [hids, List.mem_append, ← I.same a, idsL_append, List.mem_append, idsL_one]
        · have := (List.append_inj' h rfl).2
          simp at this
          exact ⟨k, by omega, by rw [hsd, this]⟩
        · have := I.len; simp at this ⊢; omega
end Go.Proofs.Ytoadifbbmfaakaa
