/-
  Several texts of one proof, joined: each part says at its head what it proves. No conditions beyond what each theorem states.
-/
import Derived.Lib.QuietBelow
import Derived.Lib.OwnKind
import Derived.Test.YtceanfpcddcfoaaGreatZ04
import Derived.Test.YtceanfpcddcfoaaGreatZ02
/-
  What the document's Fit of layer 8 hands back. No conditions beyond what each theorem states.
-/
namespace Go.Proofs.YtceanfpcddcfoaaGreat
open Go.ChangeShapes Go.WideShapes Go.ChangeAt Go.RowKit Go.Lib
set_option linter.unusedVariables false
set_option linter.unusedSimpArgs false

theorem text_no {s : List UInt8} (h : s ≠ []) : ((⟨s.toArray⟩ : ByteArray).toList == (⟨#[]⟩ : ByteArray).toList) = false ∧ ((⟨s.toArray⟩ : ByteArray).toList == ([] : List UInt8)) = false ∧ ¬ (⟨s.toArray⟩ : ByteArray).toList = [] ∧ (⟨s.toArray⟩ : ByteArray).toList.isEmpty = false := by
  have e : (⟨s.toArray⟩ : ByteArray).toList = s := by rw [ByteArray.toList_eq]
  have e0 : (⟨#[]⟩ : ByteArray).toList = [] := by rw [ByteArray.toList_eq]
  rw [e, e0]
  exact ⟨by rw [beq_eq_false_iff_ne]; exact h, by rw [beq_eq_false_iff_ne]; exact h, h, by simpa using h⟩
/-- What the document's Fit leans on, at this operation. -/
structure FitHyp (o : Om) (p : Option Addr) (c : Nat) (w : World) : Prop where
  fit : FitOm o
  row : GRow layS w p o.spans
  len : o.spans.length ≤ 100000
  text : o.text.length ≤ 1000000
theorem counts_not {o : Om} (h : o.kind ≠ 3) : Counts o := fun e => absurd e h
theorem counts_fit {o : Om} (h : fitL o.spans = 0) : Counts o := fun _ => ⟨(fitL_ok h).1, by have := (fitL_ok h).2.1; omega⟩

set_option maxHeartbeats 6400000 in
theorem reffit1 (o : Om) (p : Option Addr) (c : Nat) (w : World) (hk : o.kind = 1) (H : FitHyp o p c w) :
    Calls Tryz.prog 61 #[ov o p c] w fun e w' => e = .returned (.int .i64 (fitO o)) ∧ Below w.heap.size w w' := by
  have HN : Hid (∀ B, Calls Tryz.prog 85 #[ov o p c] (w.alloc B) fun e w' => e = .returned (.bool (numberedO o)) ∧ Below (w.alloc B).heap.size (w.alloc B) w') := fun B => refnumbered_any o p c _ H.fit (H.row.alloc B) (counts_not (by omega)) H.len H.text
  have HP := Lib.hid (fun W => refplain_any o.text H.text W)
  have HF : Hid (fitO o = if 0 < o.spans.length ∨ o.seq ≠ 0 ∨ o.text = [] ∨ plainB o.text = false then 11 else if 64 < o.text.length then 15 else if numberedO o = false then 11 else 0) := by show _ = _; unfold fitO; rw [if_pos hk]
  have hsz : (⟨o.text.toArray⟩ : ByteArray).size = o.text.length := rfl
  obtain ⟨kind, r, n, num, text, spans, seq⟩ := o
  simp only at hk
  subst hk
  generalize hFO : fitO ⟨1, r, n, num, text, spans, seq⟩ = FO at HF ⊢
  generalize numberedO ⟨1, r, n, num, text, spans, seq⟩ = NU at HN HF
  unfold ov at HN ⊢
  simp only at HN HP HF hsz ⊢
  clear H hFO
  by_cases h1 : 0 < spans.length
  · have h1' : (0 : Int) < (spans.length : Int) := by omega
    have HE : Hid (FO = 11) := by show _ = _; rw [HF.out, if_pos (Or.inl h1)]
    clear HN HP HF
    go_enter Tryz.func61, Tryz.ntmps61
    go_wp2
    go_ret
    exact ⟨by rw [HE.out]; rfl, below_alloc (Below.refl _ _) _⟩
  · have h1' : ¬ (0 : Int) < (spans.length : Int) := by omega
    by_cases h2 : seq = 0
    · subst h2
      by_cases h3 : text = []
      · subst h3
        have HE : Hid (FO = 11) := by show _ = _; rw [HF.out, if_pos (Or.inr (Or.inr (Or.inl rfl)))]
        clear HN HP HF hsz
        go_enter Tryz.func61, Tryz.ntmps61
        go_wp2
        go_ret
        exact ⟨by rw [HE.out]; rfl, below_alloc (Below.refl _ _) _⟩
      · obtain ⟨h3a, h3b, h3c, h3d⟩ := text_no h3
        generalize (⟨text.toArray⟩ : ByteArray) = bt at HN HP hsz h3a h3b h3c h3d ⊢
        cases h4 : plainB text with
        | false =>
          rw [h4] at HP
          have HE : Hid (FO = 11) := by show _ = _; rw [HF.out, if_pos (Or.inr (Or.inr (Or.inr h4)))]
          clear HN HF
          go_enter Tryz.func61, Tryz.ntmps61
          go_wp2_with (first | (go_at_call 84; refine (HP.out _).mono ?_; rintro e w1 ⟨rfl, he⟩; obtain rfl := Eq.symm he))
          go_ret
          exact ⟨by rw [HE.out]; rfl, below_alloc (Below.refl _ _) _⟩
        | true =>
          rw [h4] at HP
          have hno : ¬ (0 < spans.length ∨ (0 : Int) ≠ 0 ∨ text = [] ∨ plainB text = false) := by rw [h4]; rintro (a | a | a | a); exact h1 a; exact a rfl; exact h3 a; cases a
          by_cases h5 : 64 < text.length
          · have HE : Hid (FO = 15) := by show _ = _; rw [HF.out, if_neg hno, if_pos h5]
            have h5' : (64 : Int) < (bt.size : Int) := by omega
            clear HN HF hno
            go_enter Tryz.func61, Tryz.ntmps61
            go_wp2_with (first | (go_at_call 84; refine (HP.out _).mono ?_; rintro e w1 ⟨rfl, he⟩; obtain rfl := Eq.symm he))
            go_ret
            exact ⟨by rw [HE.out]; rfl, below_alloc (Below.refl _ _) _⟩
          · have h5' : ¬ (64 : Int) < (bt.size : Int) := by omega
            have HE : Hid (FO = if NU = false then 11 else 0) := by show _ = _; rw [HF.out, if_neg hno, if_neg h5]
            clear HF hno
            cases NU
            all_goals
              go_enter Tryz.func61, Tryz.ntmps61
              go_wp2_with (first | (go_at_call 84; refine (HP.out _).mono ?_; rintro e w1 ⟨rfl, he⟩; obtain rfl := Eq.symm he) | (go_at_call 85; refine (HN.out _).mono ?_; rintro e w2 ⟨rfl, hb2⟩))
              go_ret
              exact ⟨by rw [HE.out]; rfl, below_step (below_alloc (Below.refl _ _) _) hb2⟩
    · have h2' : (seq == 0) = false := beq_no h2
      have HE : Hid (FO = 11) := by show _ = _; rw [HF.out, if_pos (Or.inr (Or.inl h2))]
      clear HN HP HF
      go_enter Tryz.func61, Tryz.ntmps61
      go_wp2
      go_ret
      exact ⟨by rw [HE.out]; rfl, below_alloc (Below.refl _ _) _⟩
set_option maxHeartbeats 6400000 in
theorem reffit2 (o : Om) (p : Option Addr) (c : Nat) (w : World) (hk : o.kind = 2) (H : FitHyp o p c w) :
    Calls Tryz.prog 61 #[ov o p c] w fun e w' => e = .returned (.int .i64 (fitO o)) ∧ Below w.heap.size w w' := by
  have HL := Lib.hid (fun W => refplaceless_any o p c W)
  have HS : Hid (∀ W, Below w.heap.size w W → Calls Tryz.prog 87 #[.slice p o.spans.length c] W fun e w' => e = .returned (.int .i64 (fitL o.spans)) ∧ Below W.heap.size W w') := fun W hb => reffit_any o.spans p c W (H.row.below hb) H.fit.2.2.2.2.2.2.2.2.1 H.len
  have HF : Hid (fitO o = if o.text ≠ [] ∨ o.seq ≠ 0 ∨ placelessO o = false then 11 else fitL o.spans) := by show _ = _; unfold fitO; rw [if_neg (by omega), if_pos hk]
  obtain ⟨kind, r, n, num, text, spans, seq⟩ := o
  simp only at hk
  subst hk
  generalize fitO ⟨2, r, n, num, text, spans, seq⟩ = FO at HF ⊢
  generalize placelessO ⟨2, r, n, num, text, spans, seq⟩ = PL at HL HF
  unfold ov at HL ⊢
  simp only at HL HS HF ⊢
  clear H
  by_cases h3 : text = []
  · subst h3
    by_cases h2 : seq = 0
    · subst h2
      cases PL with
      | false =>
        have HE : Hid (FO = 11) := by show _ = _; rw [HF.out, if_pos (Or.inr (Or.inr rfl))]
        clear HS HF
        go_enter Tryz.func61, Tryz.ntmps61
        go_wp2_with (first | (go_at_call 86; refine (HL.out _).mono ?_; rintro e w1 ⟨rfl, hb1⟩))
        go_ret
        exact ⟨by rw [HE.out]; rfl, below_step (below_alloc (Below.refl _ _) _) hb1⟩
      | true =>
        have HE : Hid (FO = fitL spans) := by show _ = _; rw [HF.out, if_neg (by simp)]
        clear HF
        generalize fitL spans = fl at HS HE
        go_enter Tryz.func61, Tryz.ntmps61
        go_wp2_with fail
        refine (HL.out _).mono ?_
        rintro e w1 ⟨rfl, hb1⟩
        have HB1 : Hid (Below w.heap.size w w1) := below_step (below_alloc (Below.refl _ _) _) hb1
        obtain ⟨s0, s1, s2, s3, s4, s5, s6⟩ := seven_cells (kept_box (heap_alloc_new w _) hb1)
        clear hb1 HL
        go_wp2_with fail
        refine (HS.out _ HB1.out).mono ?_
        rintro e w2 ⟨rfl, hb2⟩
        have HB2 : Hid (Below w.heap.size w w2) := below_step HB1.out hb2
        clear hb2 HS
        go_wp2
        go_ret
        exact ⟨by rw [HE.out]; rfl, HB2.out⟩
    · have h2' : (seq == 0) = false := beq_no h2
      have HE : Hid (FO = 11) := by show _ = _; rw [HF.out, if_pos (Or.inr (Or.inl h2))]
      clear HL HS HF
      go_enter Tryz.func61, Tryz.ntmps61
      go_wp2
      go_ret
      exact ⟨by rw [HE.out]; rfl, below_alloc (Below.refl _ _) _⟩
  · obtain ⟨h3a, h3b, h3c, h3d⟩ := text_no h3
    generalize (⟨text.toArray⟩ : ByteArray) = bt at HL h3a h3b h3c h3d ⊢
    have HE : Hid (FO = 11) := by show _ = _; rw [HF.out, if_pos (Or.inl h3)]
    clear HL HS HF
    go_enter Tryz.func61, Tryz.ntmps61
    go_wp2
    go_ret
    exact ⟨by rw [HE.out]; rfl, below_alloc (Below.refl _ _) _⟩
set_option maxHeartbeats 6400000 in
theorem reffit3 (o : Om) (p : Option Addr) (c : Nat) (w : World) (hk : o.kind = 3) (H : FitHyp o p c w) :
    Calls Tryz.prog 61 #[ov o p c] w fun e w' => e = .returned (.int .i64 (fitO o)) ∧ Below w.heap.size w w' := by
  have HN : Hid (fitL o.spans = 0 → ∀ W, Below w.heap.size w W → Calls Tryz.prog 85 #[ov o p c] W fun e w' => e = .returned (.bool (numberedO o)) ∧ Below W.heap.size W w') := fun h W hb => refnumbered_any o p c _ H.fit (H.row.below hb) (counts_fit h) H.len H.text
  have HS : Hid (∀ W, Below w.heap.size w W → Calls Tryz.prog 87 #[.slice p o.spans.length c] W fun e w' => e = .returned (.int .i64 (fitL o.spans)) ∧ Below W.heap.size W w') := fun W hb => reffit_any o.spans p c W (H.row.below hb) H.fit.2.2.2.2.2.2.2.2.1 H.len
  have HF : Hid (fitO o = if o.text ≠ [] ∨ o.seq ≠ 0 then 11 else if fitL o.spans ≠ 0 then fitL o.spans else if numberedO o = false then 11 else 0) := by show _ = _; unfold fitO; rw [if_neg (by omega), if_neg (by omega), if_pos hk]
  obtain ⟨kind, r, n, num, text, spans, seq⟩ := o
  simp only at hk
  subst hk
  generalize fitO ⟨3, r, n, num, text, spans, seq⟩ = FO at HF ⊢
  generalize numberedO ⟨3, r, n, num, text, spans, seq⟩ = NU at HN HF
  unfold ov at HN ⊢
  simp only at HN HS HF ⊢
  clear H
  by_cases h3 : text = []
  · subst h3
    by_cases h2 : seq = 0
    · subst h2
      generalize fitL spans = fl at HS HF HN
      by_cases h4 : fl = 0
      · subst h4
        have HE : Hid (FO = if NU = false then 11 else 0) := by show _ = _; rw [HF.out, if_neg (by simp), if_neg (by simp)]
        have HN2 : Hid (∀ W, Below w.heap.size w W → Calls Tryz.prog 85 #[.agg #[.int .i64 3, .int .u16 r, .int .u32 n, .int .u32 num, .string ⟨#[]⟩, .slice p spans.length c, .int .u32 0]] W fun e w' => e = .returned (.bool NU) ∧ Below W.heap.size W w') := HN.out rfl
        clear HF HN
        cases NU
        all_goals
          go_enter Tryz.func61, Tryz.ntmps61
          go_wp2_with fail
          refine (HS.out _ (below_alloc (Below.refl _ _) _)).mono ?_
          rintro e w1 ⟨rfl, hb1⟩
          have HB1 : Hid (Below w.heap.size w w1) := below_step (below_alloc (Below.refl _ _) _) hb1
          obtain ⟨s0, s1, s2, s3, s4, s5, s6⟩ := seven_cells (kept_box (heap_alloc_new w _) hb1)
          clear hb1 HS
          go_wp2_with fail
          refine (HN2.out _ HB1.out).mono ?_
          rintro e w2 ⟨rfl, hb2⟩
          have HB2 : Hid (Below w.heap.size w w2) := below_step HB1.out hb2
          clear hb2 HN2
          go_wp2
          go_ret
          exact ⟨by rw [HE.out]; rfl, HB2.out⟩
      · have h4' : (fl == 0) = false := beq_no h4
        have HE : Hid (FO = fl) := by show _ = _; rw [HF.out, if_neg (by simp), if_pos h4]
        clear HF HN
        go_enter Tryz.func61, Tryz.ntmps61
        go_wp2_with fail
        refine (HS.out _ (below_alloc (Below.refl _ _) _)).mono ?_
        rintro e w1 ⟨rfl, hb1⟩
        have HB1 : Hid (Below w.heap.size w w1) := below_step (below_alloc (Below.refl _ _) _) hb1
        clear hb1 HS
        go_wp2
        go_ret
        exact ⟨by rw [HE.out]; rfl, HB1.out⟩
    · have h2' : (seq == 0) = false := beq_no h2
      have HE : Hid (FO = 11) := by show _ = _; rw [HF.out, if_pos (Or.inr h2)]
      clear HN HS HF
      go_enter Tryz.func61, Tryz.ntmps61
      go_wp2
      go_ret
      exact ⟨by rw [HE.out]; rfl, below_alloc (Below.refl _ _) _⟩
  · obtain ⟨h3a, h3b, h3c, h3d⟩ := text_no h3
    generalize (⟨text.toArray⟩ : ByteArray) = bt at HN h3a h3b h3c h3d ⊢
    have HE : Hid (FO = 11) := by show _ = _; rw [HF.out, if_pos (Or.inl h3)]
    clear HN HS HF
    go_enter Tryz.func61, Tryz.ntmps61
    go_wp2
    go_ret
    exact ⟨by rw [HE.out]; rfl, below_alloc (Below.refl _ _) _⟩
set_option maxHeartbeats 6400000 in
theorem reffit4 (o : Om) (p : Option Addr) (c : Nat) (w : World) (hk : o.kind = 4 ∨ o.kind = 5) (H : FitHyp o p c w) :
    Calls Tryz.prog 61 #[ov o p c] w fun e w' => e = .returned (.int .i64 (fitO o)) ∧ Below w.heap.size w w' := by
  have HL := Lib.hid (fun W => refplaceless_any o p c W)
  have HF : Hid (fitO o = if o.text ≠ [] ∨ 0 < o.spans.length ∨ placelessO o = false ∨ o.seq < 1 ∨ 268435456 < o.seq then 11 else 0) := by show _ = _; unfold fitO; rw [if_neg (by omega), if_neg (by omega), if_neg (by omega), if_pos hk]
  obtain ⟨kind, r, n, num, text, spans, seq⟩ := o
  simp only at hk
  generalize fitO ⟨kind, r, n, num, text, spans, seq⟩ = FO at HF ⊢
  generalize placelessO ⟨kind, r, n, num, text, spans, seq⟩ = PL at HL HF
  unfold ov at HL ⊢
  simp only at HL HF ⊢
  clear H
  by_cases h3 : text = []
  · subst h3
    by_cases h1 : 0 < spans.length
    · have h1' : (0 : Int) < (spans.length : Int) := by omega
      have HE : Hid (FO = 11) := by show _ = _; rw [HF.out, if_pos (Or.inr (Or.inl h1))]
      clear HF HL
      rcases hk with rfl | rfl
      all_goals
        go_enter Tryz.func61, Tryz.ntmps61
        go_wp2
        go_ret
        exact ⟨by rw [HE.out]; rfl, below_alloc (Below.refl _ _) _⟩
    · have h1' : ¬ (0 : Int) < (spans.length : Int) := by omega
      cases PL with
      | false =>
        have HE : Hid (FO = 11) := by show _ = _; rw [HF.out, if_pos (Or.inr (Or.inr (Or.inl rfl)))]
        clear HF
        rcases hk with rfl | rfl
        all_goals
          go_enter Tryz.func61, Tryz.ntmps61
          go_wp2_with (first | (go_at_call 86; refine (HL.out _).mono ?_; rintro e w1 ⟨rfl, hb1⟩))
          go_ret
          exact ⟨by rw [HE.out]; rfl, below_step (below_alloc (Below.refl _ _) _) hb1⟩
      | true =>
        have HE : Hid (FO = if seq < 1 ∨ 268435456 < seq then 11 else 0) := by
          show _ = _
          rw [HF.out]
          by_cases h : seq < 1 ∨ 268435456 < seq
          · rw [if_pos h, if_pos (Or.inr (Or.inr (Or.inr h)))]
          · rw [if_neg h, if_neg (by rintro (a | a | a | a); exact a rfl; exact h1 a; cases a; exact h a)]
        clear HF
        by_cases q1 : seq < 1
        · have HE : Hid (FO = 11) := by show _ = _; rw [HE.out, if_pos (Or.inl q1)]
          rcases hk with rfl | rfl
          all_goals
            go_enter Tryz.func61, Tryz.ntmps61
            go_wp2_with (first | (go_at_call 86; refine (HL.out _).mono ?_; rintro e w1 ⟨rfl, hb1⟩; obtain ⟨s0, s1, s2, s3, s4, s5, s6⟩ := seven_cells (kept_box (heap_alloc_new w _) hb1)))
            go_ret
            exact ⟨by rw [HE.out]; rfl, below_step (below_alloc (Below.refl _ _) _) hb1⟩
        · by_cases q2 : 268435456 < seq
          · have HE : Hid (FO = 11) := by show _ = _; rw [HE.out, if_pos (Or.inr q2)]
            rcases hk with rfl | rfl
            all_goals
              go_enter Tryz.func61, Tryz.ntmps61
              go_wp2_with (first | (go_at_call 86; refine (HL.out _).mono ?_; rintro e w1 ⟨rfl, hb1⟩; obtain ⟨s0, s1, s2, s3, s4, s5, s6⟩ := seven_cells (kept_box (heap_alloc_new w _) hb1)))
              go_ret
              exact ⟨by rw [HE.out]; rfl, below_step (below_alloc (Below.refl _ _) _) hb1⟩
          · have HE : Hid (FO = 0) := by show _ = _; rw [HE.out, if_neg (by omega)]
            rcases hk with rfl | rfl
            all_goals
              go_enter Tryz.func61, Tryz.ntmps61
              go_wp2_with (first | (go_at_call 86; refine (HL.out _).mono ?_; rintro e w1 ⟨rfl, hb1⟩; obtain ⟨s0, s1, s2, s3, s4, s5, s6⟩ := seven_cells (kept_box (heap_alloc_new w _) hb1)))
              go_ret
              exact ⟨by rw [HE.out]; rfl, below_step (below_alloc (Below.refl _ _) _) hb1⟩
  · obtain ⟨h3a, h3b, h3c, h3d⟩ := text_no h3
    generalize (⟨text.toArray⟩ : ByteArray) = bt at HL h3a h3b h3c h3d ⊢
    have HE : Hid (FO = 11) := by show _ = _; rw [HF.out, if_pos (Or.inl h3)]
    clear HL HF
    rcases hk with rfl | rfl
    all_goals
      go_enter Tryz.func61, Tryz.ntmps61
      go_wp2
      go_ret
      exact ⟨by rw [HE.out]; rfl, below_alloc (Below.refl _ _) _⟩
set_option maxHeartbeats 1600000 in
theorem reffitE (o : Om) (p : Option Addr) (c : Nat) (w : World) (h1 : o.kind ≠ 1) (h2 : o.kind ≠ 2) (h3 : o.kind ≠ 3) (h4 : ¬ (o.kind = 4 ∨ o.kind = 5)) :
    Calls Tryz.prog 61 #[ov o p c] w fun e w' => e = .returned (.int .i64 (fitO o)) ∧ Below w.heap.size w w' := by
  have HE : Hid (fitO o = 11) := by show _ = _; unfold fitO; rw [if_neg h1, if_neg h2, if_neg h3, if_neg h4]
  obtain ⟨kind, r, n, num, text, spans, seq⟩ := o
  simp only at h1 h2 h3 h4
  have k1 : (kind == 1) = false := beq_no h1
  have k2 : (kind == 2) = false := beq_no h2
  have k3 : (kind == 3) = false := beq_no h3
  have k4 : (kind == 4) = false := beq_no fun h => h4 (Or.inl h)
  have k5 : (kind == 5) = false := beq_no fun h => h4 (Or.inr h)
  unfold ov
  simp only
  clear h1 h2 h3 h4
  go_enter Tryz.func61, Tryz.ntmps61
  go_wp2
  go_ret
  exact ⟨by rw [HE.out]; rfl, below_alloc (Below.refl _ _) _⟩
/-- The document's Fit, of any operation. -/
theorem reffit8_any (o : Om) (p : Option Addr) (c : Nat) (w : World) (H : FitHyp o p c w) :
    Calls Tryz.prog 61 #[ov o p c] w fun e w' => e = .returned (.int .i64 (fitO o)) ∧ Below w.heap.size w w' := by
  by_cases h1 : o.kind = 1
  · exact reffit1 o p c w h1 H
  · by_cases h2 : o.kind = 2
    · exact reffit2 o p c w h2 H
    · by_cases h3 : o.kind = 3
      · exact reffit3 o p c w h3 H
      · by_cases h4 : o.kind = 4 ∨ o.kind = 5
        · exact reffit4 o p c w h4 H
        · exact reffitE o p c w h1 h2 h3 h4
end Go.Proofs.YtceanfpcddcfoaaGreat
/-
  What the program's join and Of of layer 7 hand back. No conditions beyond what each theorem states.
-/
namespace Go.Proofs.YtceanfpcddcfoaaGreat
open Go.ChangeShapes Go.WideShapes Go.ChangeAt Go.RowKit Go.Lib
set_option linter.unusedVariables false
set_option linter.unusedSimpArgs false

/-- One name more behind spans. -/
def joinL (A : List Sp) (a : Nm) : List Sp :=
  match A.getLast? with
  | none => A ++ [(a.1, a.2, 1)]
  | some s => if s.2.2 < 1024 ∧ s.1 = a.1 ∧ s.2.1 + s.2.2 = a.2 then A.dropLast ++ [(s.1, s.2.1, s.2.2 + 1)] else A ++ [(a.1, a.2, 1)]
theorem joinL_nil (a : Nm) : joinL [] a = [] ++ [(a.1, a.2, 1)] := rfl
theorem joinL_snoc (D : List Sp) (s : Sp) (a : Nm) : joinL (D ++ [s]) a = if s.2.2 < 1024 ∧ s.1 = a.1 ∧ s.2.1 + s.2.2 = a.2 then D ++ [(s.1, s.2.1, s.2.2 + 1)] else (D ++ [s]) ++ [(a.1, a.2, 1)] := by
  unfold joinL
  rw [List.getLast?_concat, List.dropLast_concat]
theorem ofL_join {xs : List Nm} (hr : RightN xs) (a : Nm) : ofL (xs ++ [a]) = joinL (ofL xs) a := by
  by_cases h0 : xs = []
  · subst h0; rfl
  · have hp : 0 < xs.length := List.length_pos_iff.2 h0
    obtain ⟨D, s, e1, e2⟩ := ofL_next (ids := xs ++ [a]) (k := xs.length) hp (by simp)
    have hT : (xs ++ [a]).take xs.length = xs := by simp
    have hT1 : (xs ++ [a]).take (xs.length + 1) = xs ++ [a] := by rw [List.take_of_length_le (by simp)]
    have hG : (xs ++ [a]).getD xs.length n0 = a := by simp
    have hI := of_inv hr xs.length (Nat.le_refl _)
    unfold OfInv at hI
    rw [List.take_length] at hI
    rw [hT] at e1
    rw [hT1, hG] at e2
    have hL := hI.2.2 D s e1
    have hG1 : (xs ++ [a]).getD (xs.length - 1) n0 = xs.getD (xs.length - 1) n0 := by
      rw [List.getD_eq_getElem?_getD, List.getD_eq_getElem?_getD, List.getElem?_append_left (by omega)]
    rw [e2, e1, joinL_snoc, hG1, ← hL]
    unfold follows
    simp only
    congr 1
    apply propext
    rw [decide_eq_true_eq]
    constructor
    · rintro ⟨⟨h1, h2⟩, h3⟩; exact ⟨h3, h1, by omega⟩
    · rintro ⟨h1, h2, h3⟩; exact ⟨⟨h2, by omega⟩, h1⟩

/-- Where append puts a row of the call's own: where it was, or in a new block. -/
theorem append_where {P : Program} {w : World} (base : Nat) (t ty e : TypeId) (i : TypeInfo) (z : Value) (size bytes : Nat) (ht : P.underlying t = some (.slice e)) (hi : P.info? e = some i) (hz : i.zero = some z)
    (hsize : i.size = size) (hby : i.bytes = bytes) (hzs : z.cells.size = size) (hsz : 0 < size)
    (v : Value) (n : Nat) (xs : List Value) (hown : w.ownsRow base e size v n xs)
    (a : Addr) (m c : Nat) (news : List Value) (hl : news.length = m * size) (hnews : ∀ j u, news[j]? = some u → w.cell? (a.add j) = some u) (h1 : ∀ u ∈ news, u.oneCell' = true)
    (h63 : n + m ≤ maxLen) (hbytes : (n + m) * bytes ≤ 140737488355328) (hm : 0 < m) {v' : Value} {w' : World}
    (hrun : (Builtin.append_ #[t, t] ty #[v, .slice (some a) m c]).run P w = .ok v' w') : ∀ j, v'.ownBlock = some j → v.ownBlock = some j ∨ w.heap.size ≤ j := by
  subst hsize
  subst hby
  have hsmall : n + m ≤ 9223372036854775807 := by simp only [maxLen] at h63; omega
  intro j hj
  rcases hown.2 with ⟨rfl, rfl⟩ | ⟨g, cap, cur, rfl, hbg, hg, hnc, hcm, hcs, htake⟩
  · have hr := run_append_nil (P := P) w t ty e i z ht hi hz a m c news hl hnews (by omega) (by omega) (by have hb := hbytes; simp only [Nat.zero_add] at hb; omega)
    rw [hr] at hrun
    cases hrun
    simp [Value.ownBlock] at hj
    exact Or.inr (by omega)
  · by_cases hroom : n + m ≤ cap
    · have hfit : n * i.size + news.length ≤ cur.size := by rw [hl, hcs, ← Nat.add_mul]; exact Nat.mul_le_mul_right _ hroom
      have hr := run_append_room (P := P) w t ty e i ht hi g n cap cur hg a m c news hl hnews h1 hroom hfit
      rw [hr] at hrun
      cases hrun
      simp [Value.ownBlock] at hj
      exact Or.inl (by simp [Value.ownBlock, hj])
    · have holds : ∀ j u, xs[j]? = some u → w.cell? ((⟨g, 0, none⟩ : Addr).add j) = some u := hown.cells (g := g) rfl
      have hr := run_append_grow (P := P) w t ty e i z ht hi hz ⟨g, 0, none⟩ n cap xs hown.1 holds a m c news hl hnews (by omega) (by omega) (growslice_fits (by omega) hbytes)
      rw [hr] at hrun
      cases hrun
      simp [Value.ownBlock] at hj
      exact Or.inr (by omega)
theorem wpList_append_where {P : Program} (w : World) {ops : Array Oper} {rest : List Oper} {o : Oper} {a : Act} {Q : Exit → Act → World → Prop} (hgd : o.guard = none) (s x : Operand) (t : TypeId)
    (ho : o.op = .call { callee := .builtin .append, args := #[s, x], argTypes := #[t, t] })
    (base : Nat) (e : TypeId) (i : TypeInfo) (z : Value) (size bytes : Nat) (ht : P.underlying t = some (.slice e)) (hi : P.info? e = some i) (hz : i.zero = some z)
    (hsize : i.size = size) (hby : i.bytes = bytes) (hzs : z.cells.size = size) (hsz : 0 < size)
    (v : Value) (n : Nat) (xs : List Value) (hs : a.eval s = v) (hown : w.ownsRow base e size v n xs)
    (ad : Addr) (m c : Nat) (news : List Value) (hx : a.eval x = .slice (some ad) m c) (hl : news.length = m * size) (hnews : ∀ j u, news[j]? = some u → w.cell? (ad.add j) = some u) (h1 : ∀ u ∈ news, u.oneCell' = true)
    (h63 : n + m ≤ maxLen) (hbytes : (n + m) * bytes ≤ 140737488355328) (hbase : base ≤ w.heap.size) (hm : 0 < m)
    (h : ∀ v' w', w'.ownsRow base e size v' (n + m) (xs ++ news) → w.grownBy w' v.ownBlock → (∀ j, v'.ownBlock = some j → v.ownBlock = some j ∨ w.heap.size ≤ j) → wpList P ops Q rest (a.put o.dst v') w') : wpList P ops Q (o :: rest) a w :=
  wpList_plain hgd fun _ hK => by
    obtain ⟨v', w', hr, h2, h3, h4⟩ := run_append_own (P := P) w base t o.type e i z size bytes ht hi hz hsize hby hzs hsz v n xs hown ad m c news hl hnews h1 h63 hbytes hbase
    have h5 := append_where base t o.type e i z size bytes ht hi hz hsize hby hzs hsz v n xs hown ad m c news hl hnews h1 h63 hbytes hm hr
    unfold Oper.wp execOp
    simp only [ho, resolve, invoke, builtin, Sem.run_bind, Sem.run_pure, Result.andThen_ok, List.map_toArray, List.map_cons, List.map_nil, hs, hx, hr]
    exact hK _ _ (h v' w' h2 h3 h5)

end Go.Proofs.YtceanfpcddcfoaaGreat
/-
  What the program's join of layer 7 hands back. No conditions beyond what each theorem states.
-/
namespace Go.Proofs.YtceanfpcddcfoaaGreat
open Go.ChangeShapes Go.WideShapes Go.ChangeAt Go.RowKit Go.Lib
set_option linter.unusedVariables false
set_option linter.unusedSimpArgs false

/-- What join leaves: the row with one name more, all else as it was. -/
def Joined (w0 : World) (v : Value) (A : List Sp) (a : Nm) (w : World) (e : Ending) (w' : World) : Prop :=
  ∃ v', e = .returned v' ∧ Hold layS w0 160 v' (joinL A a) w' ∧ Kept (fun i => v.ownBlock = some i) w w' ∧ (∀ j, v'.ownBlock = some j → v.ownBlock = some j ∨ w.heap.size ≤ j)
theorem kept_grown {w w' : World} {v : Value} (h : w.grownBy w' v.ownBlock) : Kept (fun i => v.ownBlock = some i) w w' := ⟨h.os, h.tape, h.output, h.size, fun k hk hn => h.block k hk (fun e => hn e.symm)⟩

theorem joined_append {w0 w W w1 : World} {v v' : Value} {A : List Sp} {x y : Int} (hO : Hold layS w0 160 v A W) (hb : Below w.heap.size w W) (hown : w1.ownsRow w0.heap.size 160 3 v' (A.length + 1) (layS.flat A ++ [.int .u16 x, .int .u32 y, .int .i64 1])) (hg : W.grownBy w1 v.ownBlock) (hw : ∀ j, v'.ownBlock = some j → v.ownBlock = some j ∨ W.heap.size ≤ j) (hj : joinL A (x, y) = A ++ [(x, y, 1)]) : Joined w0 v A (x, y) w (.returned v') w1 := by
  refine ⟨v', rfl, ?_, ?_, ?_⟩
  · rw [hj]; exact hO.onto (ys := [(x, y, 1)]) (by rw [layS.flat_one]; rfl) rfl hown hg
  · exact (Kept.ofBelow (S := fun i => v.ownBlock = some i) hb).trans (T := fun i => v.ownBlock = some i) (kept_grown hg) (fun i _ e => e)
  · intro j hj
    rcases hw j hj with h | h
    · exact Or.inl h
    · have := hb.size; exact Or.inr (by omega)
end Go.Proofs.YtceanfpcddcfoaaGreat
/-
  What the program's Of, Total and IDs of layer 7 hand back. No conditions beyond what each theorem states.
-/
namespace Go.Proofs.YtceanfpcddcfoaaGreat
open Go.ChangeShapes Go.WideShapes Go.ChangeAt Go.RowKit Go.Lib
set_option linter.unusedVariables false
set_option linter.unusedSimpArgs false

theorem RightN.take {xs : List Nm} (h : RightN xs) (n : Nat) : RightN (xs.take n) := fun x hx => h x (List.mem_of_mem_take hx)
set_option maxHeartbeats 1600000 in
set_option maxRecDepth 20000 in
theorem total_spec : TotalSpec := by
  intro l p c w hR hr hf hl ht hc hp
  have HR := Lib.hid hR
  have HRT := Lib.hid hr
  have HF := Lib.hid hf
  have HT := Lib.hid ht
  clear hR hr hf hp hc ht
  go_enter Tryz.func107, Tryz.ntmps107
  go_wp2
  go_loopg [3, 8] l.length (fun g v i wr => ∃ k : Nat, k ≤ l.length ∧ l.length - k ≤ g ∧ i = .int .i64 (k : Int) ∧ v = .int .i64 (totalL (l.take k) : Int) ∧ Below w.heap.size w wr)
  case atStart => exact ⟨0, Nat.zero_le _, by omega, rfl, rfl, Below.refl _ _⟩
  case round =>
    obtain ⟨k, hk, hg, rfl, rfl, hB⟩ := hrel
    have HB := Lib.hid hB
    clear hB
    by_cases hlt : k < l.length
    · obtain ⟨b, o, rfl, c0', c1', c2'⟩ := srow_at HR.out hlt
      have c0 := cellU c0' HB.out
      have c1 := cellU c1' HB.out
      have c2 := cellU c2' HB.out
      have HS := Lib.hid (fun (W : World) => size_any (l.getD k s0) W (HRT.out.at hlt) (HF.out.at hlt))
      have hr2 := rightS_iff.1 (HRT.out.at hlt)
      have hTK : totalL (l.take (k + 1)) = totalL (l.take k) + (l.getD k s0).2.2.toNat := totalL_take hlt
      have hTL : totalL (l.take (k + 1)) ≤ 3000 := Nat.le_trans (totalL_take_le _ _) HT.out
      unfold sv at HS
      generalize (l.getD k s0) = s at c0 c1 c2 hTK HS hr2
      obtain ⟨r, n, m⟩ := s
      simp only at c0 c1 c2 HS hTK hr2
      generalize hT' : totalL (l.take (k + 1)) = T' at hTK hTL
      generalize totalL (l.take k) = T at hTK
      have hsum : (T : Int) + m = (T' : Int) := by omega
      have hz : IntKind.i64.wrap ((T : Int) + m) = (T' : Int) := by rw [hsum, IntKind.wrap_i64]; omega
      clear c0' c1' c2'
      go_wp2_with fail
      refine (HS.out _).mono ?_
      rintro e w1 ⟨rfl, hb⟩
      have HB2 : Hid (Below w.heap.size w w1) := below_step (below_alloc HB.out _) hb
      clear hb HS
      go_wp2
      go_roundg (l.length - (k + 1))
      case measure => omega
      case rel => exact ⟨k + 1, by omega, Nat.le_refl _, by go_num, by rw [hT']; go_num, HB2.out⟩
    · have : k = l.length := by omega
      subst this
      rw [List.take_length]
      go_wp2
      go_ret
      exact ⟨rfl, HB.out⟩
theorem box_grown {w w' : World} {B base size n : Nat} {cs : Array Value} {t e : TypeId} {v : Value} {xs : List Value} (hne : t ≠ e) (h : w.heap[B]? = some (.cells cs t (0, 0))) (hown : w.ownsRow base e size v n xs) (hg : w.grownBy w' v.ownBlock) : w'.heap[B]? = some (.cells cs t (0, 0)) := by
  rw [hg.block B (lt_of_block h) (fun ee => ?_)]
  · exact h
  · obtain ⟨c, fz, hc⟩ := Lib.ownsRow_kind hown B ee.symm
    rw [h] at hc
    injection hc with hc
    injection hc with h1 h2 h3
    exact hne h2
end Go.Proofs.YtceanfpcddcfoaaGreat
/-
  What the document's Bytes and Read of layer 7 hand back. No conditions beyond what each theorem states.
-/
namespace Go.Proofs.YtceanfpcddcfoaaGreat
open Go.ChangeShapes Go.WideShapes Go.ChangeAt Go.RowKit Go.Lib
set_option linter.unusedVariables false
set_option linter.unusedSimpArgs false

/-- Bytes that the call has made so far. -/
def OB (w : World) (v : Value) (bs : List UInt8) (wr : World) : Prop := wr.ownsRow w.heap.size 5 1 v bs.length (byteCells bs) ∧ Below w.heap.size w wr
theorem OB.below {w wr w1 : World} {v : Value} {bs : List UInt8} (h : OB w v bs wr) (hb : Below wr.heap.size wr w1) : OB w v bs w1 :=
  ⟨h.1.kept (row := none) ⟨hb.os, hb.tape, hb.output, hb.size, fun k hk _ => hb.block k hk⟩ (by cases v.ownBlock <;> simp), below_step h.2 hb⟩
theorem OB.onto {w wr w1 : World} {v v' : Value} {bs cs : List UInt8} (h : OB w v bs wr) (hown : w1.ownsRow w.heap.size 5 1 v' (bs.length + cs.length) (byteCells bs ++ byteCells cs)) (hg : wr.grownBy w1 v.ownBlock) : OB w v' (bs ++ cs) w1 :=
  ⟨by rw [byteCells_append, List.length_append]; exact hown, h.2.grown hg h.2.size (fun j hj => (h.1.lt j hj).1)⟩
theorem flatB_take {l : List Sp} {k : Nat} (h : k < l.length) : (l.take (k + 1)).flatMap bytesS = (l.take k).flatMap bytesS ++ bytesS (l.getD k s0) := by
  rw [take_getD s0 h, List.flatMap_append]; simp
theorem num_fresh (n : Nat) (hn : n < 9223372036854775808) (w : World) : Calls Tryz.prog 44 #[.int .u64 (n : Int)] w (Fresh (encN n) w) := by
  have := refnum_any n (by omega) w
  rwa [Nat.mod_eq_of_lt hn] at this

set_option maxHeartbeats 6400000 in
set_option maxRecDepth 20000 in
theorem refbytes_any (l : List Sp) (p : Option Addr) (c : Nat) (w : World) (hR : GRow layS w p l) (hr : RightS l) (hf : FitSs l) (hl : l.length ≤ 1024) :
    Calls Tryz.prog 105 #[.slice p l.length c] w (Fresh (bytesL l) w) := by
  obtain ⟨i0, hi, hz0, hz1, hz2⟩ := info_parts infoB
  have HR := Lib.hid hR
  have HRT := Lib.hid hr
  have HFT := Lib.hid hf
  have H0 := Lib.hid (num_fresh l.length (by omega) w)
  have HBL : Hid (bytesL l = encN l.length ++ l.flatMap bytesS) := rfl
  have HLN : Hid (∀ k, k ≤ l.length → (encN l.length ++ (l.take k).flatMap bytesS).length ≤ 9 + 27 * k) := fun k hk => by
    have h1 := encN_len (n := l.length) (by omega)
    have h2 : ((l.take k).flatMap bytesS).length ≤ 27 * (l.take k).length := by
      have : ∀ l : List Sp, FitSs l → (l.flatMap bytesS).length ≤ 27 * l.length := by
        intro l
        induction l with
        | nil => intro _; simp
        | cons s l ih =>
          intro hf
          have := ih (fun x hx => hf x (by simp [hx]))
          have := bytesS_len (hf s (by simp))
          rw [List.flatMap_cons, List.length_append, List.length_cons]; omega
      exact this _ (fun x hx => HFT.out x (List.mem_of_mem_take hx))
    rw [List.length_append]
    rw [List.length_take] at h2
    omega
  clear hR hr hf
  go_enter Tryz.func105, Tryz.ntmps105
  go_wp2_with fail
  refine H0.out.mono ?_
  rintro e w1 ⟨v1, rfl, ho1, hb1⟩
  have HO1 : Hid (OB w v1 (encN l.length ++ (l.take 0).flatMap bytesS) w1) := by
    show OB w v1 (encN l.length ++ []) w1
    rw [List.append_nil]; exact ⟨ho1, hb1⟩
  clear ho1 hb1 H0
  go_wp2_with fail
  go_loopg [3, 4] l.length (fun g v i wr => ∃ k : Nat, k ≤ l.length ∧ l.length - k ≤ g ∧ i = .int .i64 (k : Int) ∧ OB w v (encN l.length ++ (l.take k).flatMap bytesS) wr)
  case atStart => exact ⟨0, Nat.zero_le _, by omega, rfl, HO1.out⟩
  case round =>
    clear HO1
    obtain ⟨k, hk, hg, rfl, hO⟩ := hrel
    have HO := Lib.hid hO
    clear hO
    by_cases hlt : k < l.length
    · obtain ⟨b, o, rfl, c0', c1', c2'⟩ := srow_at HR.out hlt
      have hfs := HFT.out.at hlt
      have hrs := rightS_iff.1 (HRT.out.at hlt)
      have hln := HLN.out k hk
      have HNX : Hid (encN l.length ++ (l.take (k + 1)).flatMap bytesS = (encN l.length ++ (l.take k).flatMap bytesS) ++ bytesS (l.getD k s0)) := by
        show _ = _
        rw [flatB_take hlt, List.append_assoc]
      generalize encN l.length ++ (l.take k).flatMap bytesS = O0 at HO HNX hln
      generalize l.getD k s0 = s at *
      obtain ⟨r, n, m⟩ := s
      unfold FitS at hfs
      simp only at c0' c1' c2' hfs hrs
      obtain ⟨R, rfl⟩ : ∃ R : Nat, r = (R : Int) := ⟨r.toNat, by omega⟩
      obtain ⟨N, rfl⟩ : ∃ N : Nat, n = (N : Int) := ⟨n.toNat, by omega⟩
      obtain ⟨M, rfl⟩ : ∃ M : Nat, m = (M : Int) := ⟨m.toNat, by omega⟩
      have HBS : Hid (bytesS ((R : Int), (N : Int), (M : Int)) = encN R ++ encN N ++ encN M) := by show _ = _; unfold bytesS; simp
      have HNX : Hid (encN l.length ++ (l.take (k + 1)).flatMap bytesS = ((O0 ++ encN R) ++ encN N) ++ encN M) := by show _ = _; rw [HNX.out, HBS.out]; simp only [List.append_assoc]
      have HN := Lib.hid num_fresh
      have hR1 := encN_len (n := R) (by omega)
      have hN1 := encN_len (n := N) (by omega)
      have hM1 := encN_len (n := M) (by omega)
      have HCells : Hid (∀ W, Below w.heap.size w W → W.cell? ⟨b, o + k * 3, none⟩ = some (.int .u16 (R : Int)) ∧ W.cell? ⟨b, o + k * 3 + 1, none⟩ = some (.int .u32 (N : Int)) ∧ W.cell? ⟨b, o + k * 3 + 2, none⟩ = some (.int .i64 (M : Int))) := fun W hb => ⟨cellU c0' hb, cellU c1' hb, cellU c2' hb⟩
      clear c0' c1' c2' HBS
      -- R
      obtain ⟨c0, -, -⟩ := HCells.out _ HO.out.2
      go_wp2_with fail
      refine (HN.out R (by omega) _).mono ?_
      rintro e w2 ⟨v2, rfl, ho2, hb2⟩
      have HO2 : Hid (OB w u3 O0 w2) := HO.out.below hb2
      obtain ⟨g2, d2, rfl, hr2⟩ := owns_some ho2 (encN_pos R)
      have HR2 := Lib.hid hr2
      clear ho2 hb2 hr2 c0
      go_wp2_with (first
        | (at_builtin; refine wpList_append_own _ rfl (.tmp 15) (.tmp 23) 42 rfl w.heap.size 5 i0 (.int .u8 0) 1 1 Tryz.underlying42 hi hz0 hz1 hz2 rfl (by decide) _ O0.length (byteCells O0) rfl HO2.out.1 ⟨g2, 0, none⟩ (encN R).length d2 (byteCells (encN R)) rfl (by rw [byteCells_length, Nat.mul_one]) (brow_news HR2.out) (byteCells_one _) (by unfold maxLen; omega) (by omega) HO2.out.2.size ?_))
      intro v3 w3 hown hgrow _
      have HO3 : Hid (OB w v3 (O0 ++ encN R) w3) := HO2.out.onto hown hgrow
      have hl3 : (O0 ++ encN R).length ≤ 9 + 27 * k + 9 := by rw [List.length_append]; omega
      clear hown hgrow HO2 HR2
      -- N
      obtain ⟨-, c1, -⟩ := HCells.out _ HO3.out.2
      go_wp2_with fail
      refine (HN.out N (by omega) _).mono ?_
      rintro e w4 ⟨v4, rfl, ho4, hb4⟩
      have HO4 : Hid (OB w v3 (O0 ++ encN R) w4) := HO3.out.below hb4
      obtain ⟨g4, d4, rfl, hr4⟩ := owns_some ho4 (encN_pos N)
      have HR4 := Lib.hid hr4
      clear ho4 hb4 hr4 c1 HO3
      generalize O0 ++ encN R = O1 at *
      go_wp2_with (first
        | (at_builtin; refine wpList_append_own _ rfl (.tmp 25) (.tmp 33) 42 rfl w.heap.size 5 i0 (.int .u8 0) 1 1 Tryz.underlying42 hi hz0 hz1 hz2 rfl (by decide) _ O1.length (byteCells O1) rfl HO4.out.1 ⟨g4, 0, none⟩ (encN N).length d4 (byteCells (encN N)) rfl (by rw [byteCells_length, Nat.mul_one]) (brow_news HR4.out) (byteCells_one _) (by unfold maxLen; omega) (by omega) HO4.out.2.size ?_))
      intro v5 w5 hown hgrow _
      have HO5 : Hid (OB w v5 (O1 ++ encN N) w5) := HO4.out.onto hown hgrow
      have hl5 : (O1 ++ encN N).length ≤ 9 + 27 * k + 18 := by rw [List.length_append]; omega
      clear hown hgrow HO4 HR4
      -- Len
      obtain ⟨-, -, c2⟩ := HCells.out _ HO5.out.2
      go_wp2_with fail
      refine (HN.out M (by omega) _).mono ?_
      rintro e w6 ⟨v6, rfl, ho6, hb6⟩
      have HO6 : Hid (OB w v5 (O1 ++ encN N) w6) := HO5.out.below hb6
      obtain ⟨g6, d6, rfl, hr6⟩ := owns_some ho6 (encN_pos M)
      have HR6 := Lib.hid hr6
      clear ho6 hb6 hr6 c2 HO5
      generalize O1 ++ encN N = O2 at *
      go_wp2_with (first
        | (at_builtin; refine wpList_append_own _ rfl (.tmp 35) (.tmp 42) 42 rfl w.heap.size 5 i0 (.int .u8 0) 1 1 Tryz.underlying42 hi hz0 hz1 hz2 rfl (by decide) _ O2.length (byteCells O2) rfl HO6.out.1 ⟨g6, 0, none⟩ (encN M).length d6 (byteCells (encN M)) rfl (by rw [byteCells_length, Nat.mul_one]) (brow_news HR6.out) (byteCells_one _) (by unfold maxLen; omega) (by omega) HO6.out.2.size ?_))
      intro v7 w7 hown hgrow _
      have HO7 : Hid (OB w v7 (O2 ++ encN M) w7) := HO6.out.onto hown hgrow
      clear hown hgrow HO6 HR6
      go_wp2
      go_roundg (l.length - (k + 1))
      case measure => omega
      case rel => exact ⟨k + 1, by omega, Nat.le_refl _, by go_num, by rw [HNX.out]; exact HO7.out⟩
    · have : k = l.length := by omega
      subst this
      rw [List.take_length] at HO
      go_wp2
      go_ret
      exact ⟨_, rfl, HO.out.1, HO.out.2⟩

end Go.Proofs.YtceanfpcddcfoaaGreat
/-
  What the document's Read of layer 7 hands back. No conditions beyond what each theorem states.
-/
namespace Go.Proofs.YtceanfpcddcfoaaGreat
open Go.ChangeShapes Go.WideShapes Go.ChangeAt Go.RowKit Go.Lib
set_option linter.unusedVariables false
set_option linter.unusedSimpArgs false

theorem readnum_any (bs : List UInt8) (q limit : Nat) (p : Option Addr) (c : Nat) (hlim : limit < 18446744073709551616) (hq : q ≤ bs.length) (hl : bs.length ≤ 1000000) (w : World) (hR : BRow w p bs) :
    Calls Tryz.prog 80 #[.slice p bs.length c, .int .i64 (q : Int), .int .u64 (limit : Int)] w fun r w' => r = .returned (.tuple #[.int .u64 ((rdN bs q 0 limit).1 : Int), .int .i64 ((rdN bs q 0 limit).2.1 : Int), .int .i64 ((rdN bs q 0 limit).2.2 : Int)]) ∧ w' = w := by
  rw [rdN_read]
  exact refreadnum_any bs q limit p c hlim hq hl w hR
/-- Three cells of a block of its own. -/
def B3 (t : TypeId) (V : Nat) (a b c : Int) (w : World) : Prop := w.heap[V]? = some (.cells #[.int .u64 a, .int .u64 b, .int .u64 c] t (0, 0))
theorem B3.new (w : World) (t : TypeId) (a b c : Int) : B3 t w.heap.size a b c (w.alloc (.cells #[.int .u64 a, .int .u64 b, .int .u64 c] t)) := heap_alloc_new w _
theorem B3.alloc {t : TypeId} {V : Nat} {a b c : Int} {w : World} (h : B3 t V a b c w) (o : Obj) : B3 t V a b c (w.alloc o) := by
  have := (below_alloc (Below.refl w.heap.size w) o).block V (lt_of_block h)
  unfold B3 at h ⊢; rw [this]; exact h
theorem B3.cells {t : TypeId} {V : Nat} {a b c : Int} {w : World} (h : B3 t V a b c w) : w.cell? ⟨V, 0, none⟩ = some (.int .u64 a) ∧ w.cell? ⟨V, 1, none⟩ = some (.int .u64 b) ∧ w.cell? ⟨V, 2, none⟩ = some (.int .u64 c) := by
  refine ⟨?_, ?_, ?_⟩ <;> rw [cell_of_block h] <;> rfl
theorem B3.frozen {t : TypeId} {V : Nat} {a b c : Int} {w : World} (h : B3 t V a b c w) (o : Nat) : w.frozen? ⟨V, o, none⟩ = false := frozen_of_block h
theorem B3.set0 {t : TypeId} {V : Nat} {a b c : Int} {w : World} (h : B3 t V a b c w) (x : Int) : B3 t V x b c (w.setCell ⟨V, 0, none⟩ (.int .u64 x)) := by
  unfold B3 at h ⊢; simp [World.setCell, Array.getElem?_modify, h]
theorem B3.set1 {t : TypeId} {V : Nat} {a b c : Int} {w : World} (h : B3 t V a b c w) (x : Int) : B3 t V a x c (w.setCell ⟨V, 1, none⟩ (.int .u64 x)) := by
  unfold B3 at h ⊢; simp [World.setCell, Array.getElem?_modify, h]
theorem B3.set2 {t : TypeId} {V : Nat} {a b c : Int} {w : World} (h : B3 t V a b c w) (x : Int) : B3 t V a b x (w.setCell ⟨V, 2, none⟩ (.int .u64 x)) := by
  unfold B3 at h ⊢; simp [World.setCell, Array.getElem?_modify, h]
theorem B3.other {t : TypeId} {V K o : Nat} {a b c : Int} {w : World} (h : B3 t V a b c w) (hne : V ≠ K) (u : Value) : B3 t V a b c (w.setCell ⟨K, o, none⟩ u) := by
  unfold B3 at h ⊢; rw [Below.heap_setCell _ _ _ _ hne]; exact h
theorem Hold.other {α : Type} {L : Lay α} {w wr : World} {e : TypeId} {v : Value} {xs : List α} (h : Hold L w e v xs wr) {V : Nat} (hv : v.ownBlock ≠ some V) (hb : w.heap.size ≤ V) (o : Nat) (u : Value) : Hold L w e v xs (wr.setCell ⟨V, o, none⟩ u) :=
  ⟨ownsRow_setCell_other h.1 hv u, h.2.setCell (p := ⟨V, o, none⟩) hb u⟩
/-- Three numbers behind so many of them. -/
def St3 (bs : List UInt8) (q0 : Nat) (i : Nat) (a b c q e : Nat) : Prop :=
  match i with
  | 0 => a = 0 ∧ b = 0 ∧ c = 0 ∧ q = q0 ∧ e = 0
  | 1 => (a, q, e) = rdN bs q0 0 65535 ∧ b = 0 ∧ c = 0
  | 2 => ∃ q1 e1, (a, q1, e1) = rdN bs q0 0 65535 ∧ (b, q, e) = rdN bs q1 e1 268435456 ∧ c = 0
  | _ => ∃ q1 e1 q2 e2, (a, q1, e1) = rdN bs q0 0 65535 ∧ (b, q2, e2) = rdN bs q1 e1 268435456 ∧ (c, q, e) = rdN bs q2 e2 1024
theorem St3.done {bs : List UInt8} {q0 i a b c q e : Nat} (h : St3 bs q0 i a b c q e) (hi : i ≤ 3) (hd : i = 3 ∨ e ≠ 0) : rd3 bs q0 0 = (((a : Int), (b : Int), (c : Int)), q, e) := by
  have : i = 0 ∨ i = 1 ∨ i = 2 ∨ i = 3 := by omega
  unfold rd3
  rcases this with rfl | rfl | rfl | rfl
  · obtain ⟨_, _, _, _, rfl⟩ := h
    rcases hd with hd | hd
    · cases hd
    · exact absurd rfl hd
  · obtain ⟨h1, rfl, rfl⟩ := h
    have he : e ≠ 0 := by rcases hd with hd | hd; cases hd; exact hd
    rw [← h1]
    simp only
    rw [rdN_err he]
    simp only
    rw [rdN_err he]
  · obtain ⟨q1, e1, h1, h2, rfl⟩ := h
    have he : e ≠ 0 := by rcases hd with hd | hd; cases hd; exact hd
    rw [← h1]
    simp only
    rw [← h2]
    simp only
    rw [rdN_err he]
  · obtain ⟨q1, e1, q2, e2, h1, h2, h3⟩ := h
    rw [← h1]
    simp only
    rw [← h2]
    simp only
    rw [← h3]
theorem St3.next0 {bs : List UInt8} {q0 a b c q : Nat} (h : St3 bs q0 0 a b c q 0) : St3 bs q0 1 (rdN bs q 0 65535).1 b c (rdN bs q 0 65535).2.1 (rdN bs q 0 65535).2.2 := by
  obtain ⟨rfl, rfl, rfl, rfl, _⟩ := h; exact ⟨rfl, rfl, rfl⟩
theorem St3.next1 {bs : List UInt8} {q0 a b c q : Nat} (h : St3 bs q0 1 a b c q 0) : St3 bs q0 2 a (rdN bs q 0 268435456).1 c (rdN bs q 0 268435456).2.1 (rdN bs q 0 268435456).2.2 := by
  obtain ⟨h1, rfl, rfl⟩ := h; exact ⟨q, 0, h1, rfl, rfl⟩
theorem St3.next2 {bs : List UInt8} {q0 a b c q : Nat} (h : St3 bs q0 2 a b c q 0) : St3 bs q0 3 a b (rdN bs q 0 1024).1 (rdN bs q 0 1024).2.1 (rdN bs q 0 1024).2.2 := by
  obtain ⟨q1, e1, h1, h2, rfl⟩ := h; exact ⟨q1, e1, q, 0, h1, h2, rfl⟩
def ReadAt (bs : List UInt8) (Q : Nat) (w : World) (r : Ending) (w' : World) : Prop := ∃ v, r = .returned (.tuple #[v, .int .i64 ((readS bs Q 0).2.1 : Int), .int .i64 ((readS bs Q 0).2.2 : Int)]) ∧ Hold layS w 136 v (readS bs Q 0).1 w'
def Read7 (bs : List UInt8) (w : World) (r : Ending) (w' : World) : Prop := ∃ v, r = .returned (.tuple #[v, .int .i64 ((readS bs 0 0).2.1 : Int), .int .i64 ((readS bs 0 0).2.2 : Int)]) ∧ Hold layS w 136 v (readS bs 0 0).1 w'

set_option maxHeartbeats 6400000 in
set_option maxRecDepth 20000 in
theorem refread_at (bs : List UInt8) (Q : Nat) (hQ : Q ≤ bs.length) (p : Option Addr) (c : Nat) (w : World) (hR : BRow w p bs) (hl : bs.length ≤ 1000000) :
    Calls Tryz.prog 115 #[.slice p bs.length c, .int .i64 (Q : Int)] w (ReadAt bs Q w) := by
  obtain ⟨i0, hi, hz0, hz1, hz2⟩ := info_parts infoRS
  have HR := Lib.hid hR
  clear hR
  have hf0 := rdN_fits (bs := bs) (q := Q) (e := 0) (limit := 1024) hQ
  have HS : Hid (readS bs Q 0 = (if (rdL bs (rdN bs Q 0 1024).1 (rdN bs Q 0 1024).2.1 (rdN bs Q 0 1024).2.2).2.2 = 0 then (rdL bs (rdN bs Q 0 1024).1 (rdN bs Q 0 1024).2.1 (rdN bs Q 0 1024).2.2).1 else [], (rdL bs (rdN bs Q 0 1024).1 (rdN bs Q 0 1024).2.1 (rdN bs Q 0 1024).2.2).2)) := rfl
  have H0 := readnum_any bs Q 1024 p c (by omega) hQ hl w HR.out
  generalize hr0 : rdN bs Q 0 1024 = r0 at *
  obtain ⟨n, q0, e0⟩ := r0
  simp only at hf0 HS H0
  have H0 := Lib.hid H0
  go_enter Tryz.func115, Tryz.ntmps115
  go_wp2_with fail
  refine H0.out.mono ?_
  rintro e w1 ⟨rfl, hw1⟩
  obtain rfl := Eq.symm hw1
  clear hw1 H0 hr0
  go_wp2_with fail
  go_loopg [1, 8, 9, 10] (n + 1) (fun g at' er v i wr => ∃ (k q e : Nat) (out : List Sp), k ≤ n ∧ n + 1 - k ≤ g ∧ i = .int .u64 (k : Int) ∧ at' = .int .i64 (q : Int) ∧ er = .int .i64 (e : Int) ∧ q ≤ bs.length ∧ e < 16 ∧ out.length = k ∧ rdL bs n q0 e0 = (out ++ (rdL bs (n - k) q e).1, (rdL bs (n - k) q e).2) ∧ Hold layS w 136 v out wr)
  case atStart => exact ⟨0, q0, e0, [], Nat.zero_le _, by omega, rfl, rfl, rfl, hf0.1, by omega, rfl, rfl, Hold.nil _ _ _⟩
  case round =>
    obtain ⟨k, q, e, out, hk, hg, rfl, rfl, rfl, hq, he, hol, hrd, hO⟩ := hrel
    have HO := Lib.hid hO
    have HRD := Lib.hid hrd
    clear hO hrd
    by_cases hlt : k < n
    · by_cases hez : e = 0
      · subst hez
        have HRr : Hid (∀ W, Below w.heap.size w W → BRow W p bs) := fun W hb => HR.out.below hb
        have HSTEP : Hid (rdL bs n q0 e0 = ((out ++ [(rd3 bs q 0).1]) ++ (rdL bs (n - (k + 1)) (rd3 bs q 0).2.1 (rd3 bs q 0).2.2).1, (rdL bs (n - (k + 1)) (rd3 bs q 0).2.1 (rd3 bs q 0).2.2).2)) := by
          show _ = _
          rw [HRD.out, show n - k = (n - (k + 1)) + 1 by omega, rdL, if_pos rfl]
          simp
        have hf3 := rd3_fits hq
        have hVN : u9.ownBlock ≠ some (wr.heap.size + 1) := fun h => by have := (HO.out.1.lt _ h).2; omega
        have hVB : w.heap.size ≤ wr.heap.size + 1 := Nat.le_succ_of_le HO.out.2.size
        have hL0 := (B3.new wr 165 65535 268435456 1024).alloc (.cells #[.int .u64 0, .int .u64 0, .int .u64 0] 165)
        have hV0 : B3 165 (wr.heap.size + 1) 0 0 0 ((wr.alloc (.cells #[.int .u64 65535, .int .u64 268435456, .int .u64 1024] 165)).alloc (.cells #[.int .u64 0, .int .u64 0, .int .u64 0] 165)) := by
          have := B3.new (wr.alloc (.cells #[.int .u64 65535, .int .u64 268435456, .int .u64 1024] 165)) 165 0 0 0
          simpa using this
        have hH0 := (HO.out.alloc (.cells #[.int .u64 65535, .int .u64 268435456, .int .u64 1024] 165)).alloc (.cells #[.int .u64 0, .int .u64 0, .int .u64 0] 165)
        go_wp2_with fail
        generalize (wr.alloc (.cells #[.int .u64 65535, .int .u64 268435456, .int .u64 1024] 165)).alloc (.cells #[.int .u64 0, .int .u64 0, .int .u64 0] 165) = W9 at hL0 hV0 hH0 ⊢
        generalize wr.heap.size = V0 at hVN hVB hL0 hV0 ⊢
        have HVN := Lib.hid hVN
        have HVB := Lib.hid hVB
        have HL0 := Lib.hid hL0
        have HV0 := Lib.hid hV0
        have HH0 := Lib.hid hH0
        clear hVN hVB hL0 hV0 hH0
        go_loopg [1, 8, 13] 4 (fun g at' er i wq => ∃ (j a b c' q1 e1 : Nat), j ≤ 3 ∧ 4 - j ≤ g ∧ i = .int .i64 (j : Int) ∧ at' = .int .i64 (q1 : Int) ∧ er = .int .i64 (e1 : Int) ∧ q1 ≤ bs.length ∧ e1 < 16 ∧ St3 bs q j a b c' q1 e1 ∧ (a ≤ 65535 ∧ b ≤ 268435456 ∧ c' ≤ 1024) ∧ B3 165 (V0 + 1) (a : Int) (b : Int) (c' : Int) wq ∧ B3 165 V0 65535 268435456 1024 wq ∧ Hold layS w 136 u9 out wq)
        case atStart => exact ⟨0, 0, 0, 0, q, 0, by omega, by omega, rfl, rfl, rfl, hq, by omega, ⟨rfl, rfl, rfl, rfl, rfl⟩, ⟨by omega, by omega, by omega⟩, HV0.out, HL0.out, HH0.out⟩
        case round =>
          clear HL0 HV0 HH0 HO
          obtain ⟨j, a, b, c', q1, e1, hj, hgj, rfl, rfl, rfl, hq1, he1, hst, ⟨ha, hb, hc⟩, hV, hL, hO2⟩ := hrel
          have HST := Lib.hid hst
          have HO2 := Lib.hid hO2
          have HV := Lib.hid hV
          have HL := Lib.hid hL
          obtain ⟨v0, v1, v2⟩ := hV.cells
          obtain ⟨l0, l1, l2⟩ := hL.cells
          clear hst hV hL hO2
          by_cases hj3 : j = 3
          · subst hj3
            have HD := Lib.hid (HST.out.done (by omega) (Or.inl rfl))
            have HSTEP2 : Hid (rdL bs n q0 e0 = ((out ++ [((a : Int), (b : Int), (c' : Int))]) ++ (rdL bs (n - (k + 1)) q1 e1).1, (rdL bs (n - (k + 1)) q1 e1).2)) := by rw [HSTEP.out, HD.out]; rfl
            clear HSTEP HD HST
            go_wp2_with (first
              | (at_builtin; refine wpList_append_own _ rfl (.tmp 51) (.tmp 63) 69 rfl w.heap.size 136 i0 (.agg #[.int .u16 0, .int .u32 0, .int .i64 0]) 3 16 Tryz.underlying69 hi hz0 hz1 hz2 rfl (by decide) _ out.length (layS.flat out) rfl (HO2.out.alloc _).1 ⟨wr.heap.size, 0, none⟩ 1 1 [.int .u16 (a : Int), .int .u32 (b : Int), .int .i64 (c' : Int)] rfl rfl (cells_new (cs := [.int .u16 (a : Int), .int .u32 (b : Int), .int .i64 (c' : Int)])) (layS.one ((a : Int), (b : Int), (c' : Int))) (by unfold maxLen; omega) (by omega) (by have := HO2.out.2.size; simp; omega) ?_))
            intro v' w4 hown hgrow _
            have HO4 : Hid (Hold layS w 136 v' (out ++ [((a : Int), (b : Int), (c' : Int))]) w4) := (HO2.out.alloc _).onto rfl (by rw [hol]; rfl) hown hgrow
            clear hown hgrow
            go_wp2
            go_roundg (n + 1 - (k + 1))
            case measure => omega
            case rel => exact ⟨k + 1, q1, e1, _, by omega, Nat.le_refl _, by go_num, rfl, rfl, hq1, he1, by rw [List.length_append, hol]; rfl, HSTEP2.out, HO4.out⟩
          · by_cases hez1 : e1 = 0
            · subst hez1
              have : j = 0 ∨ j = 1 ∨ j = 2 := by omega
              rcases this with rfl | rfl | rfl
              · have hfit := rdN_fits (bs := bs) (q := q1) (e := 0) (limit := 65535) hq1
                have HC := readnum_any bs q1 65535 p c (by omega) hq1 hl wr (HR.out.below HO2.out.2)
                have HST2 := Lib.hid (HST.out.next0)
                generalize rdN bs q1 0 65535 = r1 at HC HST2 hfit
                obtain ⟨x1, x2, x3⟩ := r1
                simp only at HC HST2 hfit
                have HC := Lib.hid HC
                have f0 := HV.out.frozen 0
                have HVV := Lib.hid (HV.out.set0 (x1 : Int))
                have HLL := Lib.hid (HL.out.other (K := V0 + 1) (o := 0) (by omega) (.int .u64 (x1 : Int)))
                have HO3 := Lib.hid (HO2.out.other HVN.out HVB.out 0 (.int .u64 (x1 : Int)))
                clear HST
                go_wp2_with fail
                refine HC.out.mono ?_
                rintro e w5 ⟨rfl, hw5⟩
                obtain rfl := Eq.symm hw5
                clear hw5 HC
                go_wp2
                go_roundg (4 - (0 + 1))
                case measure => omega
                case rel => exact ⟨0 + 1, x1, b, c', x2, x3, by omega, Nat.le_refl _, by go_num, rfl, rfl, hfit.1, by omega, HST2.out, ⟨hfit.2.1, hb, hc⟩, HVV.out, HLL.out, HO3.out⟩
              · have hfit := rdN_fits (bs := bs) (q := q1) (e := 0) (limit := 268435456) hq1
                have HC := readnum_any bs q1 268435456 p c (by omega) hq1 hl wr (HR.out.below HO2.out.2)
                have HST2 := Lib.hid (HST.out.next1)
                generalize rdN bs q1 0 268435456 = r1 at HC HST2 hfit
                obtain ⟨x1, x2, x3⟩ := r1
                simp only at HC HST2 hfit
                have HC := Lib.hid HC
                have f1 := HV.out.frozen 1
                have HVV := Lib.hid (HV.out.set1 (x1 : Int))
                have HLL := Lib.hid (HL.out.other (K := V0 + 1) (o := 1) (by omega) (.int .u64 (x1 : Int)))
                have HO3 := Lib.hid (HO2.out.other HVN.out HVB.out 1 (.int .u64 (x1 : Int)))
                clear HST
                go_wp2_with fail
                refine HC.out.mono ?_
                rintro e w5 ⟨rfl, hw5⟩
                obtain rfl := Eq.symm hw5
                clear hw5 HC
                go_wp2
                go_roundg (4 - (1 + 1))
                case measure => omega
                case rel => exact ⟨1 + 1, a, x1, c', x2, x3, by omega, Nat.le_refl _, by go_num, rfl, rfl, hfit.1, by omega, HST2.out, ⟨ha, hfit.2.1, hc⟩, HVV.out, HLL.out, HO3.out⟩
              · have hfit := rdN_fits (bs := bs) (q := q1) (e := 0) (limit := 1024) hq1
                have HC := readnum_any bs q1 1024 p c (by omega) hq1 hl wr (HR.out.below HO2.out.2)
                have HST2 := Lib.hid (HST.out.next2)
                generalize rdN bs q1 0 1024 = r1 at HC HST2 hfit
                obtain ⟨x1, x2, x3⟩ := r1
                simp only at HC HST2 hfit
                have HC := Lib.hid HC
                have f2 := HV.out.frozen 2
                have HVV := Lib.hid (HV.out.set2 (x1 : Int))
                have HLL := Lib.hid (HL.out.other (K := V0 + 1) (o := 2) (by omega) (.int .u64 (x1 : Int)))
                have HO3 := Lib.hid (HO2.out.other HVN.out HVB.out 2 (.int .u64 (x1 : Int)))
                clear HST
                go_wp2_with fail
                refine HC.out.mono ?_
                rintro e w5 ⟨rfl, hw5⟩
                obtain rfl := Eq.symm hw5
                clear hw5 HC
                go_wp2
                go_roundg (4 - (2 + 1))
                case measure => omega
                case rel => exact ⟨2 + 1, a, b, x1, x2, x3, by omega, Nat.le_refl _, by go_num, rfl, rfl, hfit.1, by omega, HST2.out, ⟨ha, hb, hfit.2.1⟩, HVV.out, HLL.out, HO3.out⟩
            · have hez' : ((e1 : Int) == 0) = false := by rw [beq_eq_false_iff_ne]; omega
              have hj3' : (j : Int) < 3 := by omega
              have HD := Lib.hid (HST.out.done (by omega) (Or.inr hez1))
              have HSTEP2 : Hid (rdL bs n q0 e0 = ((out ++ [((a : Int), (b : Int), (c' : Int))]) ++ (rdL bs (n - (k + 1)) q1 e1).1, (rdL bs (n - (k + 1)) q1 e1).2)) := by rw [HSTEP.out, HD.out]; rfl
              clear HSTEP HD HST
              go_wp2_with (first
                | (at_builtin; refine wpList_append_own _ rfl (.tmp 51) (.tmp 63) 69 rfl w.heap.size 136 i0 (.agg #[.int .u16 0, .int .u32 0, .int .i64 0]) 3 16 Tryz.underlying69 hi hz0 hz1 hz2 rfl (by decide) _ out.length (layS.flat out) rfl (HO2.out.alloc _).1 ⟨wr.heap.size, 0, none⟩ 1 1 [.int .u16 (a : Int), .int .u32 (b : Int), .int .i64 (c' : Int)] rfl rfl (cells_new (cs := [.int .u16 (a : Int), .int .u32 (b : Int), .int .i64 (c' : Int)])) (layS.one ((a : Int), (b : Int), (c' : Int))) (by unfold maxLen; omega) (by omega) (by have := HO2.out.2.size; simp; omega) ?_))
              intro v' w4 hown hgrow _
              have HO4 : Hid (Hold layS w 136 v' (out ++ [((a : Int), (b : Int), (c' : Int))]) w4) := (HO2.out.alloc _).onto rfl (by rw [hol]; rfl) hown hgrow
              clear hown hgrow
              go_wp2
              go_roundg (n + 1 - (k + 1))
              case measure => omega
              case rel => exact ⟨k + 1, q1, e1, _, by omega, Nat.le_refl _, by go_num, rfl, rfl, hq1, he1, by rw [List.length_append, hol]; rfl, HSTEP2.out, HO4.out⟩
      · have hez' : ((e : Int) == 0) = false := by rw [beq_eq_false_iff_ne]; omega
        have HE := Lib.hid (rdL_err bs (n - k) q e hez)
        have HS2 : Hid (readS bs Q 0 = ([], q, e)) := by rw [HS.out, HRD.out, HE.out]; simp only; rw [if_neg hez]; rfl
        go_wp2
        go_ret3
        exact ⟨_, by rw [HS2.out]; rfl, by rw [HS2.out]; exact (Hold.nil layS wr 136).rebase HO.out.2⟩
    · have : k = n := by omega
      subst this
      have HE : Hid (rdL bs (k - k) q e = ([], q, e)) := by rw [Nat.sub_self]; rfl
      by_cases hez : e = 0
      · subst hez
        have HS2 : Hid (readS bs Q 0 = (out, q, 0)) := by show _ = _; rw [HS.out, HRD.out, HE.out]; simp only [if_true, List.append_nil]
        go_wp2
        go_ret3
        exact ⟨_, by rw [HS2.out]; rfl, by rw [HS2.out]; exact HO.out⟩
      · have hez' : ((e : Int) == 0) = false := by rw [beq_eq_false_iff_ne]; omega
        have HS2 : Hid (readS bs Q 0 = ([], q, e)) := by rw [HS.out, HRD.out, HE.out]; simp only; rw [if_neg hez]; rfl
        go_wp2
        go_ret3
        exact ⟨_, by rw [HS2.out]; rfl, by rw [HS2.out]; exact (Hold.nil layS wr 136).rebase HO.out.2⟩

theorem refread_any (bs : List UInt8) (p : Option Addr) (c : Nat) (w : World) (hR : BRow w p bs) (hl : bs.length ≤ 1000000) :
    Calls Tryz.prog 115 #[.slice p bs.length c, .int .i64 0] w (Read7 bs w) := refread_at bs 0 (Nat.zero_le _) p c w hR hl

end Go.Proofs.YtceanfpcddcfoaaGreat
