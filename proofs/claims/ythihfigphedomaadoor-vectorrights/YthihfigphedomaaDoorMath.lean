/-
  What it is to join vectors, in plain terms, with no program: the list is the one that has of each replica the greatest entry; the document's reference and the program's way both come to it. No conditions beyond what each theorem states.
-/
import Derived.Test.YthihfigphedomaaDoorJoin
import Derived.Test.YthihfigphedomaaDoorShow
namespace Go.Proofs.YthihfigphedomaaDoor
open Go.ChangeShapes Go.WideShapes Go.ChangeAt Go.RowKit Go.Lib
open Go.Sort
set_option linter.unusedVariables false
set_option linter.unusedSimpArgs false

def SP (xs : List En) : Prop := xs.Pairwise fun a b => a.1 < b.1
theorem srt_of_sp {xs : List En} (h : SP xs) : Srt xs := fun i j hij hj => by
  have := List.pairwise_iff_getElem.1 h i j (by omega) hj hij
  simpa [atL, show i < xs.length by omega, hj] using this
theorem sp_of_srt {xs : List En} (h : Srt xs) : SP xs := List.pairwise_iff_getElem.2 fun i j hi hj hij => by
  have := h i j hij hj
  simpa [atL, hi, hj] using this
theorem srt_of_right {xs : List En} (h : RightP xs) : Srt xs := by
  intro i j hij hj
  induction j with
  | zero => omega
  | succ j ih =>
    have h1 := (h (j + 1) hj).2.2 (by omega)
    simp only [Nat.add_sub_cancel] at h1
    rcases Nat.lt_or_ge i j with h2 | h2
    · have := ih h2 (by omega); omega
    · have : i = j := by omega
      subst this; exact h1
theorem right_iff (xs : List En) : RightP xs ↔ Srt xs ∧ ∀ x ∈ xs, 1 ≤ x.2 ∧ x.2 ≤ 268435456 := by
  constructor
  · intro h
    refine ⟨srt_of_right h, fun x hx => ?_⟩
    obtain ⟨i, hi, rfl⟩ := mem_atL hx
    exact ⟨(h i hi).1, (h i hi).2.1⟩
  · rintro ⟨h1, h2⟩ i hi
    exact ⟨(h2 _ (atL_mem hi)).1, (h2 _ (atL_mem hi)).2, fun h0 => h1 _ _ (by omega) hi⟩
theorem sp_inj {xs : List En} (h : SP xs) : ∀ {x y : En}, x ∈ xs → y ∈ xs → x.1 = y.1 → x = y := by
  intro x y hx hy e
  obtain ⟨i, hi, rfl⟩ := mem_atL hx
  obtain ⟨j, hj, rfl⟩ := mem_atL hy
  rcases Nat.lt_trichotomy i j with h1 | h1 | h1
  · have := srt_of_sp h i j h1 hj; omega
  · rw [h1]
  · have := srt_of_sp h j i h1 hi; omega
theorem sp_ext : ∀ {xs ys : List En}, SP xs → SP ys → (∀ x, x ∈ xs ↔ x ∈ ys) → xs = ys
  | [], [], _, _, _ => rfl
  | [], y :: ys, _, _, h => by have := (h y).2 (by simp); cases this
  | x :: xs, [], _, _, h => by have := (h x).1 (by simp); cases this
  | x :: xs, y :: ys, hx, hy, h => by
    have h1 := List.pairwise_cons.1 hx
    have h2 := List.pairwise_cons.1 hy
    have e : x = y := by
      rcases List.mem_cons.1 ((h x).1 (by simp)) with e | e
      · exact e
      · rcases List.mem_cons.1 ((h y).2 (by simp)) with e2 | e2
        · exact e2.symm
        · have a := h2.1 x e; have b := h1.1 y e2; omega
    subst e
    rw [sp_ext h1.2 h2.2 (fun z => by
      constructor
      · intro hz
        rcases List.mem_cons.1 ((h z).1 (by simp [hz])) with e | e
        · have := h1.1 z hz; rw [e] at this; omega
        · exact e
      · intro hz
        rcases List.mem_cons.1 ((h z).2 (by simp [hz])) with e | e
        · have := h2.1 z hz; rw [e] at this; omega
        · exact e)]

/-- Each one's entry is known by another list, or more. -/
def Dom (a b : List En) : Prop := ∀ x ∈ a, ∃ y ∈ b, y.1 = x.1 ∧ x.2 ≤ y.2
theorem Dom.of_sub {a b : List En} (h : ∀ x ∈ a, x ∈ b) : Dom a b := fun x hx => ⟨x, h x hx, rfl, Int.le_refl _⟩
theorem Dom.trans {a b c : List En} (h : Dom a b) (k : Dom b c) : Dom a c := fun x hx => by
  obtain ⟨y, hy, e, l⟩ := h x hx
  obtain ⟨z, hz, e2, l2⟩ := k y hy
  exact ⟨z, hz, by omega, by omega⟩
theorem Dom.app {a b c : List En} (h : Dom a c) (k : Dom b c) : Dom (a ++ b) c := fun x hx => by
  rcases List.mem_append.1 hx with hx | hx
  · exact h x hx
  · exact k x hx
theorem Dom.left {a b c : List En} (h : Dom a b) : Dom a (b ++ c) := h.trans (Dom.of_sub fun x hx => by simp [hx])
theorem Dom.right {a b c : List En} (h : Dom a c) : Dom a (b ++ c) := h.trans (Dom.of_sub fun x hx => by simp [hx])
theorem Dom.refl (a : List En) : Dom a a := Dom.of_sub fun _ h => h

/-- The list that has of each replica the greatest entry. -/
structure IsJoin (l z : List En) : Prop where
  sp : SP z
  sub : ∀ x ∈ z, x ∈ l
  dom : Dom l z
theorem IsJoin.back {l z : List En} (h : IsJoin l z) : Dom z l := Dom.of_sub h.sub
theorem IsJoin.congr {l m z : List En} (h : IsJoin l z) (a : Dom l m) (b : Dom m l) : IsJoin m z := by
  refine ⟨h.sp, fun x hx => ?_, b.trans h.dom⟩
  obtain ⟨y, hy, e, le⟩ := a x (h.sub x hx)
  obtain ⟨y', hy', e', le'⟩ := (b.trans h.dom) y hy
  have := sp_inj h.sp hy' hx (by omega)
  subst this
  have : y = y' := Prod.ext (by omega) (by omega)
  subst this; exact hy
theorem IsJoin.unique {l z z' : List En} (h : IsJoin l z) (h' : IsJoin l z') : z = z' := by
  have key : ∀ {z z' : List En}, IsJoin l z → IsJoin l z' → ∀ x, x ∈ z → x ∈ z' := by
    intro z z' h h' x hx
    exact ((h'.congr (h.dom) h.back).sub) |> fun _ => by
      obtain ⟨y, hy, e, le⟩ := h'.dom x (h.sub x hx)
      obtain ⟨y2, hy2, e2, le2⟩ := h.dom y (h'.sub y hy)
      have := sp_inj h.sp hy2 hx (by omega)
      subst this
      have : y = y2 := Prod.ext (by omega) (by omega)
      subst this; exact hy
  exact sp_ext h.sp h'.sp fun x => ⟨key h h' x, key h' h x⟩
theorem IsJoin.self {z : List En} (h : SP z) : IsJoin z z := ⟨h, fun _ hx => hx, Dom.refl z⟩

theorem getL_mem {xs : List En} (h : SP xs) {x : En} (hx : x ∈ xs) : getL xs x.1 = x.2 := by
  obtain ⟨i, hi, rfl⟩ := mem_atL hx
  exact getL_at hi (fun j hj e => by have := srt_of_sp h j i hj hi; omega) rfl
theorem getL_zero {xs : List En} {r : Int} (h : ∀ x ∈ xs, x.1 ≠ r) : getL xs r = 0 := getL_none fun i hi => h _ (atL_mem hi)

theorem IsJoin.step {l v : List En} (h : IsJoin l v) {y : En} (hy : 1 ≤ y.2) : IsJoin (l ++ [y]) (joinStep v y) := by
  unfold joinStep
  by_cases hg : getL v y.1 < y.2
  · rw [if_pos hg]
    have hm : mid y.1 y.2 = [y] := by rw [mid, if_pos (by omega)]
    refine ⟨?_, ?_, ?_⟩
    · rw [withL, hm]
      refine List.pairwise_append.2 ⟨List.pairwise_append.2 ⟨h.sp.filter _, by simp, ?_⟩, h.sp.filter _, ?_⟩
      · intro a ha b hb
        simp only [lo, List.mem_filter, decide_eq_true_eq] at ha
        simp only [List.mem_singleton] at hb
        subst hb; exact ha.2
      · intro a ha b hb
        simp only [hi, List.mem_filter, decide_eq_true_eq] at hb
        rcases List.mem_append.1 ha with ha | ha
        · simp only [lo, List.mem_filter, decide_eq_true_eq] at ha; omega
        · simp only [List.mem_singleton] at ha; subst ha; exact hb.2
    · intro x hx
      rw [withL, hm] at hx
      simp only [List.mem_append, lo, hi, List.mem_filter, List.mem_singleton] at hx ⊢
      rcases hx with (hx | hx) | hx
      · exact Or.inl (h.sub x hx.1)
      · exact Or.inr hx
      · exact Or.inl (h.sub x hx.1)
    · refine Dom.app (fun x hx => ?_) (Dom.of_sub fun x hx => by rw [withL, hm]; simp only [List.mem_append]; exact Or.inl (Or.inr hx))
      obtain ⟨z, hz, e, le⟩ := h.dom x hx
      rw [withL, hm]
      rcases Int.lt_trichotomy z.1 y.1 with h1 | h1 | h1
      · exact ⟨z, by simp [lo, hz, h1], e, le⟩
      · have := getL_mem h.sp hz
        rw [h1] at this
        exact ⟨y, by simp, by omega, by omega⟩
      · exact ⟨z, by simp [hi, hz, h1], e, le⟩
  · rw [if_neg hg]
    refine ⟨h.sp, fun x hx => by simp [h.sub x hx], Dom.app h.dom fun x hx => ?_⟩
    simp only [List.mem_singleton] at hx
    subst hx
    by_cases hex : ∃ z ∈ v, z.1 = x.1
    · obtain ⟨z, hz, e⟩ := hex
      have := getL_mem h.sp hz
      rw [e] at this
      exact ⟨z, hz, e, by omega⟩
    · have : getL v x.1 = 0 := getL_zero fun z hz e => hex ⟨z, hz, e⟩
      omega
theorem IsJoin.fold {ys : List En} (hy : ∀ y ∈ ys, 1 ≤ y.2) : ∀ {l v : List En}, IsJoin l v → IsJoin (l ++ ys) (joinL v ys) := by
  induction ys with
  | nil => intro l v h; simpa [joinL] using h
  | cons y ys ih =>
    intro l v h
    have := ih (fun z hz => hy z (by simp [hz])) (h.step (hy y (by simp)))
    simpa [joinL] using this

/-- What the sort and the compacting leave is the list that has of each replica the greatest. -/
theorem comp_inv {ys : List En} (hs : ∀ i j, i < j → j < ys.length → (atL ys i).1 < (atL ys j).1 ∨ (atL ys i).1 = (atL ys j).1 ∧ (atL ys j).2 ≤ (atL ys i).2) : ∀ m, m ≤ ys.length →
    SP (compTo ys m) ∧ (∀ x ∈ compTo ys m, x ∈ ys ∧ (0 < m → x.1 ≤ (atL ys (m - 1)).1)) ∧ (∀ i, i < m → ∃ y ∈ compTo ys m, y.1 = (atL ys i).1 ∧ (atL ys i).2 ≤ y.2)
  | 0, _ => ⟨by simp [compTo, SP], by simp [compTo], fun i hi => by omega⟩
  | m + 1, hm => by
    obtain ⟨h1, h2, h3⟩ := comp_inv hs m (by omega)
    rw [compTo]
    by_cases hk : keepsL ys m = true
    · rw [if_pos hk]
      have hlt : ∀ x ∈ compTo ys m, x.1 < (atL ys m).1 := fun x hx => by
        cases m with
        | zero => simp [compTo] at hx
        | succ m =>
          have a := (h2 x hx).2 (by omega)
          simp only [keepsL, decide_eq_true_eq] at hk
          have b := hs m (m + 1) (by omega) (by omega)
          simp only [Nat.add_sub_cancel] at a hk
          omega
      refine ⟨List.pairwise_append.2 ⟨h1, by simp, fun a ha b hb => by simp only [List.mem_singleton] at hb; subst hb; exact hlt a ha⟩, fun x hx => ?_, fun i hi => ?_⟩
      · rcases List.mem_append.1 hx with hx | hx
        · exact ⟨(h2 x hx).1, fun _ => by have := hlt x hx; simp only [Nat.add_sub_cancel]; omega⟩
        · simp only [List.mem_singleton] at hx
          subst hx
          exact ⟨atL_mem (by omega), fun _ => by simp⟩
      · by_cases e : i = m
        · subst e; exact ⟨_, by simp, rfl, Int.le_refl _⟩
        · obtain ⟨y, hy, e1, e2⟩ := h3 i (by omega)
          exact ⟨y, by simp [hy], e1, e2⟩
    · rw [if_neg hk]
      have hm0 : 0 < m := by
        rcases Nat.eq_zero_or_pos m with e | e
        · subst e; exact absurd (keeps_zero ys) hk
        · exact e
      have he : (atL ys m).1 = (atL ys (m - 1)).1 := by
        simp only [keepsL, decide_eq_true_eq, not_or, Decidable.not_not] at hk
        exact hk.2
      refine ⟨h1, fun x hx => ⟨(h2 x hx).1, fun _ => by have := (h2 x hx).2 hm0; simp only [Nat.add_sub_cancel]; omega⟩, fun i hi => ?_⟩
      by_cases e : i = m
      · subst e
        obtain ⟨y, hy, e1, e2⟩ := h3 (i - 1) (by omega)
        have := hs (i - 1) i (by omega) (by omega)
        exact ⟨y, hy, by omega, by omega⟩
      · exact h3 i (by omega)

theorem isJoin_comp {l ys : List En} (hp : ys.Perm l) (hs : ∀ i j, i < j → j < ys.length → ltOf most (atL ys j) (atL ys i) = false) : IsJoin l (compL ys) := by
  have hs' : ∀ i j, i < j → j < ys.length → (atL ys i).1 < (atL ys j).1 ∨ (atL ys i).1 = (atL ys j).1 ∧ (atL ys j).2 ≤ (atL ys i).2 := fun i j hij hj => by
    have := hs i j hij hj
    rw [lt_most] at this
    simp only [decide_eq_false_iff_not] at this
    omega
  obtain ⟨h1, h2, h3⟩ := comp_inv hs' ys.length (Nat.le_refl _)
  refine ⟨h1, fun x hx => hp.mem_iff.1 (h2 x hx).1, fun x hx => ?_⟩
  obtain ⟨i, hi, rfl⟩ := mem_atL (hp.mem_iff.2 hx)
  exact h3 i hi

/-- Join, where it is known what the joined list is. -/
theorem join_to (xs : List En) (ms : List Mo) (Z : List En) (hZ : IsJoin (xs ++ flatM ms) Z) (p q : Option Addr) (c d : Nat) (w : World) (hR : Row w p xs) (hM : MoreRow w q ms) (hl : xs.length + (flatM ms).length ≤ 4000) (hml : ms.length ≤ 4000) :
    Calls Tryd.prog 17 #[.slice p xs.length c, .slice q ms.length d] w (GaveV w Z) :=
  (join_any xs ms p q c d w hR hM hl hml).mono fun e w' ⟨ys, hp, hs, hg⟩ => by
    rw [hZ.unique (isJoin_comp hp hs)]; exact hg

theorem covers_of_dom {l z : List En} (h : IsJoin l z) {u : List En} (hu : Dom u l) : coversL z u = true := decide_eq_true fun y hy => by
  obtain ⟨x, hx, e, le⟩ := (hu.trans h.dom) y hy
  have := getL_mem h.sp hx
  rw [e] at this; omega
theorem covers_join {u v z : List En} (h : IsJoin (u ++ v) z) (w : List En) : coversL w z = (coversL w u && coversL w v) := by
  rw [Bool.eq_iff_iff, Bool.and_eq_true]
  simp only [coversL, decide_eq_true_eq]
  constructor
  · intro hh
    refine ⟨fun y hy => ?_, fun y hy => ?_⟩
    · obtain ⟨x, hx, e, le⟩ := h.dom y (by simp [hy])
      have := hh x hx; rw [e] at this; omega
    · obtain ⟨x, hx, e, le⟩ := h.dom y (by simp [hy])
      have := hh x hx; rw [e] at this; omega
  · rintro ⟨h1, h2⟩ y hy
    rcases List.mem_append.1 (h.sub y hy) with h3 | h3
    · exact h1 y h3
    · exact h2 y h3

end Go.Proofs.YthihfigphedomaaDoor
