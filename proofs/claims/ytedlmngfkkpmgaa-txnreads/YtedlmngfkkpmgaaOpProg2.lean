
/-
  What the program's hasMore of layer 8 hands back. No conditions beyond what each theorem states.
-/
import Derived.Test.YtedlmngfkkpmgaaOpProg1
namespace Go.Proofs.Ytedlmngfkkpmgaa
open Go.ChangeShapes Go.WideShapes Go.ChangeAt Go.RowKit Go.Lib
set_option linter.unusedVariables false
set_option linter.unusedSimpArgs false

/-- Has it what its kind has not? -/
def moreO (o : Om) : Bool :=
  if o.kind = 1 then decide (0 < o.spans.length ∨ o.seq ≠ 0)
  else if o.kind = 2 then decide (placelessO o = false ∨ o.text ≠ [] ∨ o.seq ≠ 0)
  else if o.kind = 3 then decide (o.text ≠ [] ∨ o.seq ≠ 0)
  else decide (placelessO o = false ∨ o.text ≠ [] ∨ 0 < o.spans.length)
theorem bne_no {a b : Int} (h : ¬ a = b) : (a != b) = true := by simpa using h
theorem bytes_bne {a b : List UInt8} (h : (a == b) = false) : (a != b) = true := by unfold bne; rw [h]; rfl

set_option maxHeartbeats 3200000 in
theorem more1 (o : Om) (p : Option Addr) (c : Nat) (w : World) (hk : o.kind = 1) : Calls Try.prog 69 #[ov o p c] w fun e w' => e = .returned (.bool (moreO o)) ∧ Below w.heap.size w w' := by
  have HF : Hid (moreO o = decide (0 < o.spans.length ∨ o.seq ≠ 0)) := by show _ = _; unfold moreO; rw [if_pos hk]
  have HM := Lib.hid (makes_yes o.kind (Or.inl hk))
  have HN := Lib.hid (names_no o.kind (by omega) (by omega))
  have HT := Lib.hid (turns_no o.kind (Or.inl hk))
  obtain ⟨kind, r, n, num, text, spans, seq⟩ := o
  unfold ov
  simp only at hk HF HM HN HT ⊢
  subst hk
  generalize moreO ⟨1, r, n, num, text, spans, seq⟩ = MO at HF ⊢
  generalize (⟨text.toArray⟩ : ByteArray) = bt
  by_cases h1 : 0 < spans.length
  · have h1' : (0 : Int) < (spans.length : Int) := by omega
    have HE : Hid (MO = true) := by show _ = _; rw [HF.out]; exact decide_eq_true (Or.inl h1)
    clear HF
    go_enter Try.func69, Try.ntmps69
    go_wp2_with (first | (go_at_call 53; refine (HM.out _).mono ?_; rintro e w1 ⟨rfl, he⟩; obtain rfl := Eq.symm he) | (go_at_call 55; refine (HN.out _).mono ?_; rintro e w2 ⟨rfl, he⟩; obtain rfl := Eq.symm he))
    go_ret
    exact ⟨by rw [HE.out]; rfl, below_alloc (Below.refl _ _) _⟩
  · have h1' : ¬ (0 : Int) < (spans.length : Int) := by omega
    by_cases h2 : seq = 0
    · subst h2
      have HE : Hid (MO = false) := by show _ = _; rw [HF.out]; exact decide_eq_false (by rintro (a | a); exact h1 a; exact a rfl)
      clear HF
      go_enter Try.func69, Try.ntmps69
      go_wp2_with (first | (go_at_call 53; refine (HM.out _).mono ?_; rintro e w1 ⟨rfl, he⟩; obtain rfl := Eq.symm he) | (go_at_call 55; refine (HN.out _).mono ?_; rintro e w2 ⟨rfl, he⟩; obtain rfl := Eq.symm he) | (go_at_call 57; refine (HT.out _).mono ?_; rintro e w3 ⟨rfl, he⟩; obtain rfl := Eq.symm he))
      go_ret
      exact ⟨by rw [HE.out]; rfl, below_alloc (Below.refl _ _) _⟩
    · have h2' := beq_no h2
      have h2'' := bne_no h2
      have HE : Hid (MO = true) := by show _ = _; rw [HF.out]; exact decide_eq_true (Or.inr h2)
      clear HF
      go_enter Try.func69, Try.ntmps69
      go_wp2_with (first | (go_at_call 53; refine (HM.out _).mono ?_; rintro e w1 ⟨rfl, he⟩; obtain rfl := Eq.symm he) | (go_at_call 55; refine (HN.out _).mono ?_; rintro e w2 ⟨rfl, he⟩; obtain rfl := Eq.symm he) | (go_at_call 57; refine (HT.out _).mono ?_; rintro e w3 ⟨rfl, he⟩; obtain rfl := Eq.symm he))
      go_ret
      exact ⟨by rw [HE.out]; rfl, below_alloc (Below.refl _ _) _⟩
set_option maxHeartbeats 3200000 in
theorem more3 (o : Om) (p : Option Addr) (c : Nat) (w : World) (hk : o.kind = 3) : Calls Try.prog 69 #[ov o p c] w fun e w' => e = .returned (.bool (moreO o)) ∧ Below w.heap.size w w' := by
  have HF : Hid (moreO o = decide (o.text ≠ [] ∨ o.seq ≠ 0)) := by show _ = _; unfold moreO; rw [if_neg (by omega), if_neg (by omega), if_pos hk]
  have HM := Lib.hid (makes_yes o.kind (Or.inr hk))
  have HN := Lib.hid (names_yes o.kind (Or.inr hk))
  have HT := Lib.hid (turns_no o.kind (Or.inr (Or.inr hk)))
  obtain ⟨kind, r, n, num, text, spans, seq⟩ := o
  unfold ov
  simp only at hk HF HM HN HT ⊢
  subst hk
  generalize moreO ⟨3, r, n, num, text, spans, seq⟩ = MO at HF ⊢
  by_cases h1 : text = []
  · subst h1
    by_cases h2 : seq = 0
    · subst h2
      have HE : Hid (MO = false) := by show _ = _; rw [HF.out]; exact decide_eq_false (by rintro (a | a); exact a rfl; exact a rfl)
      clear HF
      go_enter Try.func69, Try.ntmps69
      go_wp2_with (first | (go_at_call 53; refine (HM.out _).mono ?_; rintro e w1 ⟨rfl, he⟩; obtain rfl := Eq.symm he) | (go_at_call 55; refine (HN.out _).mono ?_; rintro e w2 ⟨rfl, he⟩; obtain rfl := Eq.symm he) | (go_at_call 57; refine (HT.out _).mono ?_; rintro e w3 ⟨rfl, he⟩; obtain rfl := Eq.symm he))
      go_ret
      exact ⟨by rw [HE.out]; rfl, below_alloc (Below.refl _ _) _⟩
    · have h2' := beq_no h2
      have h2'' := bne_no h2
      have HE : Hid (MO = true) := by show _ = _; rw [HF.out]; exact decide_eq_true (Or.inr h2)
      clear HF
      go_enter Try.func69, Try.ntmps69
      go_wp2_with (first | (go_at_call 53; refine (HM.out _).mono ?_; rintro e w1 ⟨rfl, he⟩; obtain rfl := Eq.symm he) | (go_at_call 55; refine (HN.out _).mono ?_; rintro e w2 ⟨rfl, he⟩; obtain rfl := Eq.symm he) | (go_at_call 57; refine (HT.out _).mono ?_; rintro e w3 ⟨rfl, he⟩; obtain rfl := Eq.symm he))
      go_ret
      exact ⟨by rw [HE.out]; rfl, below_alloc (Below.refl _ _) _⟩
  · obtain ⟨h3a, h3b, h3c, h3d⟩ := text_no h1
    have h3e := bytes_bne h3a
    have h3f := bytes_bne h3b
    generalize (⟨text.toArray⟩ : ByteArray) = bt at h3a h3b h3c h3d h3e h3f ⊢
    have HE : Hid (MO = true) := by show _ = _; rw [HF.out]; exact decide_eq_true (Or.inl h1)
    clear HF
    go_enter Try.func69, Try.ntmps69
    go_wp2_with (first | (go_at_call 53; refine (HM.out _).mono ?_; rintro e w1 ⟨rfl, he⟩; obtain rfl := Eq.symm he) | (go_at_call 55; refine (HN.out _).mono ?_; rintro e w2 ⟨rfl, he⟩; obtain rfl := Eq.symm he))
    go_ret
    exact ⟨by rw [HE.out]; rfl, below_alloc (Below.refl _ _) _⟩
set_option maxHeartbeats 3200000 in
theorem more2 (o : Om) (p : Option Addr) (c : Nat) (w : World) (hk : o.kind = 2) : Calls Try.prog 69 #[ov o p c] w fun e w' => e = .returned (.bool (moreO o)) ∧ Below w.heap.size w w' := by
  have HF : Hid (moreO o = decide (placelessO o = false ∨ o.text ≠ [] ∨ o.seq ≠ 0)) := by show _ = _; unfold moreO; rw [if_neg (by omega), if_pos hk]
  have HM := Lib.hid (makes_no o.kind (by omega) (by omega))
  have HN := Lib.hid (names_yes o.kind (Or.inl hk))
  have HT := Lib.hid (turns_no o.kind (Or.inr (Or.inl hk)))
  have HL : Hid (placelessO o = decide (o.r = 0 ∧ o.n = 0 ∧ o.num = 0)) := rfl
  obtain ⟨kind, r, n, num, text, spans, seq⟩ := o
  unfold ov
  simp only at hk HF HM HN HT HL ⊢
  subst hk
  generalize moreO ⟨2, r, n, num, text, spans, seq⟩ = MO at HF ⊢
  generalize placelessO ⟨2, r, n, num, text, spans, seq⟩ = PL at HF HL
  by_cases hr : r = 0 ∧ n = 0
  · obtain ⟨rfl, rfl⟩ := hr
    have HR := Lib.hid idroot_yes
    by_cases hm : num = 0
    · subst hm
      have HPL : Hid (PL = true) := by show _ = _; rw [HL.out]; rfl
      clear HL
      by_cases h1 : text = []
      · subst h1
        by_cases h2 : seq = 0
        · subst h2
          have HE : Hid (MO = false) := by show _ = _; rw [HF.out]; exact decide_eq_false (by rintro (a | a | a); rw [HPL.out] at a; cases a; exact a rfl; exact a rfl)
          clear HF
          go_enter Try.func69, Try.ntmps69
          go_wp2_with (first | (go_at_call 53; refine (HM.out _).mono ?_; rintro e w1 ⟨rfl, he⟩; obtain rfl := Eq.symm he) | (go_at_call 74; refine (HR.out _).mono ?_; rintro e w4 ⟨rfl, hb4⟩; obtain ⟨d0, d1, d2, d3, d4, d5, d6⟩ := seven_cells (kept_box (heap_alloc_new w _) hb4)) | (go_at_call 55; refine (HN.out _).mono ?_; rintro e w2 ⟨rfl, he⟩; obtain rfl := Eq.symm he) | (go_at_call 57; refine (HT.out _).mono ?_; rintro e w3 ⟨rfl, he⟩; obtain rfl := Eq.symm he))
          go_ret
          exact ⟨by rw [HE.out]; rfl, below_step (below_alloc (Below.refl _ _) _) hb4⟩
        · have h2' := beq_no h2
          have h2'' := bne_no h2
          have HE : Hid (MO = true) := by show _ = _; rw [HF.out]; exact decide_eq_true (Or.inr (Or.inr h2))
          clear HF
          go_enter Try.func69, Try.ntmps69
          go_wp2_with (first | (go_at_call 53; refine (HM.out _).mono ?_; rintro e w1 ⟨rfl, he⟩; obtain rfl := Eq.symm he) | (go_at_call 74; refine (HR.out _).mono ?_; rintro e w4 ⟨rfl, hb4⟩; obtain ⟨d0, d1, d2, d3, d4, d5, d6⟩ := seven_cells (kept_box (heap_alloc_new w _) hb4)) | (go_at_call 55; refine (HN.out _).mono ?_; rintro e w2 ⟨rfl, he⟩; obtain rfl := Eq.symm he) | (go_at_call 57; refine (HT.out _).mono ?_; rintro e w3 ⟨rfl, he⟩; obtain rfl := Eq.symm he))
          go_ret
          exact ⟨by rw [HE.out]; rfl, below_step (below_alloc (Below.refl _ _) _) hb4⟩
      · obtain ⟨h3a, h3b, h3c, h3d⟩ := text_no h1
        have h3e := bytes_bne h3a
        have h3f := bytes_bne h3b
        generalize (⟨text.toArray⟩ : ByteArray) = bt at h3a h3b h3c h3d h3e h3f ⊢
        have HE : Hid (MO = true) := by show _ = _; rw [HF.out]; exact decide_eq_true (Or.inr (Or.inl h1))
        clear HF
        go_enter Try.func69, Try.ntmps69
        go_wp2_with (first | (go_at_call 53; refine (HM.out _).mono ?_; rintro e w1 ⟨rfl, he⟩; obtain rfl := Eq.symm he) | (go_at_call 74; refine (HR.out _).mono ?_; rintro e w4 ⟨rfl, hb4⟩; obtain ⟨d0, d1, d2, d3, d4, d5, d6⟩ := seven_cells (kept_box (heap_alloc_new w _) hb4)))
        go_ret
        exact ⟨by rw [HE.out]; rfl, below_step (below_alloc (Below.refl _ _) _) hb4⟩
    · have hm' := beq_no hm
      have hm'' := bne_no hm
      have HPL : Hid (PL = false) := by show _ = _; rw [HL.out]; exact decide_eq_false fun h => hm h.2.2
      clear HL
      generalize (⟨text.toArray⟩ : ByteArray) = bt
      have HE : Hid (MO = true) := by show _ = _; rw [HF.out]; exact decide_eq_true (Or.inl HPL.out)
      clear HF
      go_enter Try.func69, Try.ntmps69
      go_wp2_with (first | (go_at_call 53; refine (HM.out _).mono ?_; rintro e w1 ⟨rfl, he⟩; obtain rfl := Eq.symm he) | (go_at_call 74; refine (HR.out _).mono ?_; rintro e w4 ⟨rfl, hb4⟩; obtain ⟨d0, d1, d2, d3, d4, d5, d6⟩ := seven_cells (kept_box (heap_alloc_new w _) hb4)))
      go_ret
      exact ⟨by rw [HE.out]; rfl, below_step (below_alloc (Below.refl _ _) _) hb4⟩
  · have HR := Lib.hid (idroot_no r n hr)
    have HPL : Hid (PL = false) := by show _ = _; rw [HL.out]; exact decide_eq_false fun h => hr ⟨h.1, h.2.1⟩
    clear HL
    generalize (⟨text.toArray⟩ : ByteArray) = bt
    have HE : Hid (MO = true) := by show _ = _; rw [HF.out]; exact decide_eq_true (Or.inl HPL.out)
    clear HF
    go_enter Try.func69, Try.ntmps69
    go_wp2_with (first | (go_at_call 53; refine (HM.out _).mono ?_; rintro e w1 ⟨rfl, he⟩; obtain rfl := Eq.symm he) | (go_at_call 74; refine (HR.out _).mono ?_; rintro e w4 ⟨rfl, hb4⟩; obtain ⟨d0, d1, d2, d3, d4, d5, d6⟩ := seven_cells (kept_box (heap_alloc_new w _) hb4)))
    go_ret
    exact ⟨by rw [HE.out]; rfl, below_step (below_alloc (Below.refl _ _) _) hb4⟩
set_option maxHeartbeats 3200000 in
theorem more4 (o : Om) (p : Option Addr) (c : Nat) (w : World) (k1 : ¬ o.kind = 1) (k2 : ¬ o.kind = 2) (k3 : ¬ o.kind = 3) : Calls Try.prog 69 #[ov o p c] w fun e w' => e = .returned (.bool (moreO o)) ∧ Below w.heap.size w w' := by
  have HF : Hid (moreO o = decide (placelessO o = false ∨ o.text ≠ [] ∨ 0 < o.spans.length)) := by show _ = _; unfold moreO; rw [if_neg k1, if_neg k2, if_neg k3]
  have HM := Lib.hid (makes_no o.kind k1 k3)
  have HN := Lib.hid (names_no o.kind k2 k3)
  have HT := Lib.hid (turns_yes o.kind k1 k2 k3)
  have HL : Hid (placelessO o = decide (o.r = 0 ∧ o.n = 0 ∧ o.num = 0)) := rfl
  obtain ⟨kind, r, n, num, text, spans, seq⟩ := o
  unfold ov
  simp only at k1 k2 k3 HF HM HN HT HL ⊢
  have k1a := beq_no k1
  have k1b := bne_no k1
  generalize moreO ⟨kind, r, n, num, text, spans, seq⟩ = MO at HF ⊢
  generalize placelessO ⟨kind, r, n, num, text, spans, seq⟩ = PL at HF HL
  by_cases hr : r = 0 ∧ n = 0
  · obtain ⟨rfl, rfl⟩ := hr
    have HR := Lib.hid idroot_yes
    by_cases hm : num = 0
    · subst hm
      have HPL : Hid (PL = true) := by show _ = _; rw [HL.out]; rfl
      clear HL
      by_cases h1 : text = []
      · subst h1
        by_cases h2 : 0 < spans.length
        · have h2' : (0 : Int) < (spans.length : Int) := by omega
          have HE : Hid (MO = true) := by show _ = _; rw [HF.out]; exact decide_eq_true (Or.inr (Or.inr h2))
          clear HF
          go_enter Try.func69, Try.ntmps69
          go_wp2_with (first | (go_at_call 53; refine (HM.out _).mono ?_; rintro e w1 ⟨rfl, he⟩; obtain rfl := Eq.symm he) | (go_at_call 74; refine (HR.out _).mono ?_; rintro e w4 ⟨rfl, hb4⟩; obtain ⟨d0, d1, d2, d3, d4, d5, d6⟩ := seven_cells (kept_box (heap_alloc_new w _) hb4)) | (go_at_call 55; refine (HN.out _).mono ?_; rintro e w2 ⟨rfl, he⟩; obtain rfl := Eq.symm he) | (go_at_call 57; refine (HT.out _).mono ?_; rintro e w3 ⟨rfl, he⟩; obtain rfl := Eq.symm he))
          go_ret
          exact ⟨by rw [HE.out]; rfl, below_step (below_alloc (Below.refl _ _) _) hb4⟩
        · have h2' : ¬ (0 : Int) < (spans.length : Int) := by omega
          have HE : Hid (MO = false) := by show _ = _; rw [HF.out]; exact decide_eq_false (by rintro (a | a | a); rw [HPL.out] at a; cases a; exact a rfl; exact h2 a)
          clear HF
          go_enter Try.func69, Try.ntmps69
          go_wp2_with (first | (go_at_call 53; refine (HM.out _).mono ?_; rintro e w1 ⟨rfl, he⟩; obtain rfl := Eq.symm he) | (go_at_call 74; refine (HR.out _).mono ?_; rintro e w4 ⟨rfl, hb4⟩; obtain ⟨d0, d1, d2, d3, d4, d5, d6⟩ := seven_cells (kept_box (heap_alloc_new w _) hb4)) | (go_at_call 55; refine (HN.out _).mono ?_; rintro e w2 ⟨rfl, he⟩; obtain rfl := Eq.symm he) | (go_at_call 57; refine (HT.out _).mono ?_; rintro e w3 ⟨rfl, he⟩; obtain rfl := Eq.symm he))
          go_ret
          exact ⟨by rw [HE.out]; rfl, below_step (below_alloc (Below.refl _ _) _) hb4⟩
      · obtain ⟨h3a, h3b, h3c, h3d⟩ := text_no h1
        have h3e := bytes_bne h3a
        have h3f := bytes_bne h3b
        generalize (⟨text.toArray⟩ : ByteArray) = bt at h3a h3b h3c h3d h3e h3f ⊢
        have HE : Hid (MO = true) := by show _ = _; rw [HF.out]; exact decide_eq_true (Or.inr (Or.inl h1))
        clear HF
        go_enter Try.func69, Try.ntmps69
        go_wp2_with (first | (go_at_call 53; refine (HM.out _).mono ?_; rintro e w1 ⟨rfl, he⟩; obtain rfl := Eq.symm he) | (go_at_call 74; refine (HR.out _).mono ?_; rintro e w4 ⟨rfl, hb4⟩; obtain ⟨d0, d1, d2, d3, d4, d5, d6⟩ := seven_cells (kept_box (heap_alloc_new w _) hb4)))
        go_ret
        exact ⟨by rw [HE.out]; rfl, below_step (below_alloc (Below.refl _ _) _) hb4⟩
    · have hm' := beq_no hm
      have hm'' := bne_no hm
      have HPL : Hid (PL = false) := by show _ = _; rw [HL.out]; exact decide_eq_false fun h => hm h.2.2
      clear HL
      generalize (⟨text.toArray⟩ : ByteArray) = bt
      have HE : Hid (MO = true) := by show _ = _; rw [HF.out]; exact decide_eq_true (Or.inl HPL.out)
      clear HF
      go_enter Try.func69, Try.ntmps69
      go_wp2_with (first | (go_at_call 53; refine (HM.out _).mono ?_; rintro e w1 ⟨rfl, he⟩; obtain rfl := Eq.symm he) | (go_at_call 74; refine (HR.out _).mono ?_; rintro e w4 ⟨rfl, hb4⟩; obtain ⟨d0, d1, d2, d3, d4, d5, d6⟩ := seven_cells (kept_box (heap_alloc_new w _) hb4)))
      go_ret
      exact ⟨by rw [HE.out]; rfl, below_step (below_alloc (Below.refl _ _) _) hb4⟩
  · have HR := Lib.hid (idroot_no r n hr)
    have HPL : Hid (PL = false) := by show _ = _; rw [HL.out]; exact decide_eq_false fun h => hr ⟨h.1, h.2.1⟩
    clear HL
    generalize (⟨text.toArray⟩ : ByteArray) = bt
    have HE : Hid (MO = true) := by show _ = _; rw [HF.out]; exact decide_eq_true (Or.inl HPL.out)
    clear HF
    go_enter Try.func69, Try.ntmps69
    go_wp2_with (first | (go_at_call 53; refine (HM.out _).mono ?_; rintro e w1 ⟨rfl, he⟩; obtain rfl := Eq.symm he) | (go_at_call 74; refine (HR.out _).mono ?_; rintro e w4 ⟨rfl, hb4⟩; obtain ⟨d0, d1, d2, d3, d4, d5, d6⟩ := seven_cells (kept_box (heap_alloc_new w _) hb4)))
    go_ret
    exact ⟨by rw [HE.out]; rfl, below_step (below_alloc (Below.refl _ _) _) hb4⟩
theorem more_any (o : Om) (p : Option Addr) (c : Nat) (w : World) : Calls Try.prog 69 #[ov o p c] w fun e w' => e = .returned (.bool (moreO o)) ∧ Below w.heap.size w w' := by
  by_cases k1 : o.kind = 1
  · exact more1 o p c w k1
  · by_cases k2 : o.kind = 2
    · exact more2 o p c w k2
    · by_cases k3 : o.kind = 3
      · exact more3 o p c w k3
      · exact more4 o p c w k1 k2 k3
end Go.Proofs.Ytedlmngfkkpmgaa
