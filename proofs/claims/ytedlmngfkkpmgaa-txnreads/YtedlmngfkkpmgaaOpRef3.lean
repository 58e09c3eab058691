
/-
  What the document's Fit of layer 8 hands back. No conditions beyond what each theorem states.
-/
import Derived.Test.YtedlmngfkkpmgaaOpRef2
import Derived.Test.YtedlmngfkkpmgaaSpanRef3
namespace Go.Proofs.Ytedlmngfkkpmgaa
open Go.ChangeShapes Go.WideShapes Go.ChangeAt Go.RowKit Go.Lib
set_option linter.unusedVariables false
set_option linter.unusedSimpArgs false

theorem text_no {s : List UInt8} (h : s ≠ []) : ((⟨s.toArray⟩ : ByteArray).toList == (⟨#[]⟩ : ByteArray).toList) = false ∧ ((⟨s.toArray⟩ : ByteArray).toList == ([] : List UInt8)) = false ∧ ¬ (⟨s.toArray⟩ : ByteArray).toList = [] ∧ (⟨s.toArray⟩ : ByteArray).toList.isEmpty = false := by
  have e : (⟨s.toArray⟩ : ByteArray).toList = s := by rw [ByteArray.toList_eq]
  have e0 : (⟨#[]⟩ : ByteArray).toList = [] := by rw [ByteArray.toList_eq]
  rw [e, e0]
  exact ⟨by rw [beq_eq_false_iff_ne]; exact h, by rw [beq_eq_false_iff_ne]; exact h, h, by simpa using h⟩
/-- What the document's Fit leans on, at this operation. -/
structure FitHyp (o : Om) (p : Option Addr) (c : Nat) (w : World) : Prop where
  fit : FitOm o
  row : GRow layS w p o.spans
  len : o.spans.length ≤ 100000
  text : o.text.length ≤ 1000000
theorem counts_not {o : Om} (h : o.kind ≠ 3) : Counts o := fun e => absurd e h
theorem counts_fit {o : Om} (h : fitL o.spans = 0) : Counts o := fun _ => ⟨(fitL_ok h).1, by have := (fitL_ok h).2.1; omega⟩

set_option maxHeartbeats 6400000 in
theorem reffit1 (o : Om) (p : Option Addr) (c : Nat) (w : World) (hk : o.kind = 1) (H : FitHyp o p c w) :
    Calls Try.prog 27 #[ov o p c] w fun e w' => e = .returned (.int .i64 (fitO o)) ∧ Below w.heap.size w w' := by
  have HN : Hid (∀ B, Calls Try.prog 46 #[ov o p c] (w.alloc B) fun e w' => e = .returned (.bool (numberedO o)) ∧ Below (w.alloc B).heap.size (w.alloc B) w') := fun B => refnumbered_any o p c _ H.fit (H.row.alloc B) (counts_not (by omega)) H.len H.text
  have HP := Lib.hid (fun W => refplain_any o.text H.text W)
  have HF : Hid (fitO o = if 0 < o.spans.length ∨ o.seq ≠ 0 ∨ o.text = [] ∨ plainB o.text = false then 11 else if 64 < o.text.length then 15 else if numberedO o = false then 11 else 0) := by show _ = _; unfold fitO; rw [if_pos hk]
  have hsz : (⟨o.text.toArray⟩ : ByteArray).size = o.text.length := rfl
  obtain ⟨kind, r, n, num, text, spans, seq⟩ := o
  simp only at hk
  subst hk
  generalize hFO : fitO ⟨1, r, n, num, text, spans, seq⟩ = FO at HF ⊢
  generalize numberedO ⟨1, r, n, num, text, spans, seq⟩ = NU at HN HF
  unfold ov at HN ⊢
  simp only at HN HP HF hsz ⊢
  clear H hFO
  by_cases h1 : 0 < spans.length
  · have h1' : (0 : Int) < (spans.length : Int) := by omega
    have HE : Hid (FO = 11) := by show _ = _; rw [HF.out, if_pos (Or.inl h1)]
    clear HN HP HF
    go_enter Try.func27, Try.ntmps27
    go_wp2
    go_ret
    exact ⟨by rw [HE.out]; rfl, below_alloc (Below.refl _ _) _⟩
  · have h1' : ¬ (0 : Int) < (spans.length : Int) := by omega
    by_cases h2 : seq = 0
    · subst h2
      by_cases h3 : text = []
      · subst h3
        have HE : Hid (FO = 11) := by show _ = _; rw [HF.out, if_pos (Or.inr (Or.inr (Or.inl rfl)))]
        clear HN HP HF hsz
        go_enter Try.func27, Try.ntmps27
        go_wp2
        go_ret
        exact ⟨by rw [HE.out]; rfl, below_alloc (Below.refl _ _) _⟩
      · obtain ⟨h3a, h3b, h3c, h3d⟩ := text_no h3
        generalize (⟨text.toArray⟩ : ByteArray) = bt at HN HP hsz h3a h3b h3c h3d ⊢
        cases h4 : plainB text with
        | false =>
          rw [h4] at HP
          have HE : Hid (FO = 11) := by show _ = _; rw [HF.out, if_pos (Or.inr (Or.inr (Or.inr h4)))]
          clear HN HF
          go_enter Try.func27, Try.ntmps27
          go_wp2_with (first | (go_at_call 45; refine (HP.out _).mono ?_; rintro e w1 ⟨rfl, he⟩; obtain rfl := Eq.symm he))
          go_ret
          exact ⟨by rw [HE.out]; rfl, below_alloc (Below.refl _ _) _⟩
        | true =>
          rw [h4] at HP
          have hno : ¬ (0 < spans.length ∨ (0 : Int) ≠ 0 ∨ text = [] ∨ plainB text = false) := by rw [h4]; rintro (a | a | a | a); exact h1 a; exact a rfl; exact h3 a; cases a
          by_cases h5 : 64 < text.length
          · have HE : Hid (FO = 15) := by show _ = _; rw [HF.out, if_neg hno, if_pos h5]
            have h5' : (64 : Int) < (bt.size : Int) := by omega
            clear HN HF hno
            go_enter Try.func27, Try.ntmps27
            go_wp2_with (first | (go_at_call 45; refine (HP.out _).mono ?_; rintro e w1 ⟨rfl, he⟩; obtain rfl := Eq.symm he))
            go_ret
            exact ⟨by rw [HE.out]; rfl, below_alloc (Below.refl _ _) _⟩
          · have h5' : ¬ (64 : Int) < (bt.size : Int) := by omega
            have HE : Hid (FO = if NU = false then 11 else 0) := by show _ = _; rw [HF.out, if_neg hno, if_neg h5]
            clear HF hno
            cases NU
            all_goals
              go_enter Try.func27, Try.ntmps27
              go_wp2_with (first | (go_at_call 45; refine (HP.out _).mono ?_; rintro e w1 ⟨rfl, he⟩; obtain rfl := Eq.symm he) | (go_at_call 46; refine (HN.out _).mono ?_; rintro e w2 ⟨rfl, hb2⟩))
              go_ret
              exact ⟨by rw [HE.out]; rfl, below_step (below_alloc (Below.refl _ _) _) hb2⟩
    · have h2' : (seq == 0) = false := beq_no h2
      have HE : Hid (FO = 11) := by show _ = _; rw [HF.out, if_pos (Or.inr (Or.inl h2))]
      clear HN HP HF
      go_enter Try.func27, Try.ntmps27
      go_wp2
      go_ret
      exact ⟨by rw [HE.out]; rfl, below_alloc (Below.refl _ _) _⟩
set_option maxHeartbeats 6400000 in
theorem reffit2 (o : Om) (p : Option Addr) (c : Nat) (w : World) (hk : o.kind = 2) (H : FitHyp o p c w) :
    Calls Try.prog 27 #[ov o p c] w fun e w' => e = .returned (.int .i64 (fitO o)) ∧ Below w.heap.size w w' := by
  have HL := Lib.hid (fun W => refplaceless_any o p c W)
  have HS : Hid (∀ W, Below w.heap.size w W → Calls Try.prog 48 #[.slice p o.spans.length c] W fun e w' => e = .returned (.int .i64 (fitL o.spans)) ∧ Below W.heap.size W w') := fun W hb => reffit_any o.spans p c W (H.row.below hb) H.fit.2.2.2.2.2.2.2.2.1 H.len
  have HF : Hid (fitO o = if o.text ≠ [] ∨ o.seq ≠ 0 ∨ placelessO o = false then 11 else fitL o.spans) := by show _ = _; unfold fitO; rw [if_neg (by omega), if_pos hk]
  obtain ⟨kind, r, n, num, text, spans, seq⟩ := o
  simp only at hk
  subst hk
  generalize fitO ⟨2, r, n, num, text, spans, seq⟩ = FO at HF ⊢
  generalize placelessO ⟨2, r, n, num, text, spans, seq⟩ = PL at HL HF
  unfold ov at HL ⊢
  simp only at HL HS HF ⊢
  clear H
  by_cases h3 : text = []
  · subst h3
    by_cases h2 : seq = 0
    · subst h2
      cases PL with
      | false =>
        have HE : Hid (FO = 11) := by show _ = _; rw [HF.out, if_pos (Or.inr (Or.inr rfl))]
        clear HS HF
        go_enter Try.func27, Try.ntmps27
        go_wp2_with (first | (go_at_call 47; refine (HL.out _).mono ?_; rintro e w1 ⟨rfl, hb1⟩))
        go_ret
        exact ⟨by rw [HE.out]; rfl, below_step (below_alloc (Below.refl _ _) _) hb1⟩
      | true =>
        have HE : Hid (FO = fitL spans) := by show _ = _; rw [HF.out, if_neg (by simp)]
        clear HF
        generalize fitL spans = fl at HS HE
        go_enter Try.func27, Try.ntmps27
        go_wp2_with fail
        refine (HL.out _).mono ?_
        rintro e w1 ⟨rfl, hb1⟩
        have HB1 : Hid (Below w.heap.size w w1) := below_step (below_alloc (Below.refl _ _) _) hb1
        obtain ⟨s0, s1, s2, s3, s4, s5, s6⟩ := seven_cells (kept_box (heap_alloc_new w _) hb1)
        clear hb1 HL
        go_wp2_with fail
        refine (HS.out _ HB1.out).mono ?_
        rintro e w2 ⟨rfl, hb2⟩
        have HB2 : Hid (Below w.heap.size w w2) := below_step HB1.out hb2
        clear hb2 HS
        go_wp2
        go_ret
        exact ⟨by rw [HE.out]; rfl, HB2.out⟩
    · have h2' : (seq == 0) = false := beq_no h2
      have HE : Hid (FO = 11) := by show _ = _; rw [HF.out, if_pos (Or.inr (Or.inl h2))]
      clear HL HS HF
      go_enter Try.func27, Try.ntmps27
      go_wp2
      go_ret
      exact ⟨by rw [HE.out]; rfl, below_alloc (Below.refl _ _) _⟩
  · obtain ⟨h3a, h3b, h3c, h3d⟩ := text_no h3
    generalize (⟨text.toArray⟩ : ByteArray) = bt at HL h3a h3b h3c h3d ⊢
    have HE : Hid (FO = 11) := by show _ = _; rw [HF.out, if_pos (Or.inl h3)]
    clear HL HS HF
    go_enter Try.func27, Try.ntmps27
    go_wp2
    go_ret
    exact ⟨by rw [HE.out]; rfl, below_alloc (Below.refl _ _) _⟩
set_option maxHeartbeats 6400000 in
theorem reffit3 (o : Om) (p : Option Addr) (c : Nat) (w : World) (hk : o.kind = 3) (H : FitHyp o p c w) :
    Calls Try.prog 27 #[ov o p c] w fun e w' => e = .returned (.int .i64 (fitO o)) ∧ Below w.heap.size w w' := by
  have HN : Hid (fitL o.spans = 0 → ∀ W, Below w.heap.size w W → Calls Try.prog 46 #[ov o p c] W fun e w' => e = .returned (.bool (numberedO o)) ∧ Below W.heap.size W w') := fun h W hb => refnumbered_any o p c _ H.fit (H.row.below hb) (counts_fit h) H.len H.text
  have HS : Hid (∀ W, Below w.heap.size w W → Calls Try.prog 48 #[.slice p o.spans.length c] W fun e w' => e = .returned (.int .i64 (fitL o.spans)) ∧ Below W.heap.size W w') := fun W hb => reffit_any o.spans p c W (H.row.below hb) H.fit.2.2.2.2.2.2.2.2.1 H.len
  have HF : Hid (fitO o = if o.text ≠ [] ∨ o.seq ≠ 0 then 11 else if fitL o.spans ≠ 0 then fitL o.spans else if numberedO o = false then 11 else 0) := by show _ = _; unfold fitO; rw [if_neg (by omega), if_neg (by omega), if_pos hk]
  obtain ⟨kind, r, n, num, text, spans, seq⟩ := o
  simp only at hk
  subst hk
  generalize fitO ⟨3, r, n, num, text, spans, seq⟩ = FO at HF ⊢
  generalize numberedO ⟨3, r, n, num, text, spans, seq⟩ = NU at HN HF
  unfold ov at HN ⊢
  simp only at HN HS HF ⊢
  clear H
  by_cases h3 : text = []
  · subst h3
    by_cases h2 : seq = 0
    · subst h2
      generalize fitL spans = fl at HS HF HN
      by_cases h4 : fl = 0
      · subst h4
        have HE : Hid (FO = if NU = false then 11 else 0) := by show _ = _; rw [HF.out, if_neg (by simp), if_neg (by simp)]
        have HN2 : Hid (∀ W, Below w.heap.size w W → Calls Try.prog 46 #[.agg #[.int .i64 3, .int .u16 r, .int .u32 n, .int .u32 num, .string ⟨#[]⟩, .slice p spans.length c, .int .u32 0]] W fun e w' => e = .returned (.bool NU) ∧ Below W.heap.size W w') := HN.out rfl
        clear HF HN
        cases NU
        all_goals
          go_enter Try.func27, Try.ntmps27
          go_wp2_with fail
          refine (HS.out _ (below_alloc (Below.refl _ _) _)).mono ?_
          rintro e w1 ⟨rfl, hb1⟩
          have HB1 : Hid (Below w.heap.size w w1) := below_step (below_alloc (Below.refl _ _) _) hb1
          obtain ⟨s0, s1, s2, s3, s4, s5, s6⟩ := seven_cells (kept_box (heap_alloc_new w _) hb1)
          clear hb1 HS
          go_wp2_with fail
          refine (HN2.out _ HB1.out).mono ?_
          rintro e w2 ⟨rfl, hb2⟩
          have HB2 : Hid (Below w.heap.size w w2) := below_step HB1.out hb2
          clear hb2 HN2
          go_wp2
          go_ret
          exact ⟨by rw [HE.out]; rfl, HB2.out⟩
      · have h4' : (fl == 0) = false := beq_no h4
        have HE : Hid (FO = fl) := by show _ = _; rw [HF.out, if_neg (by simp), if_pos h4]
        clear HF HN
        go_enter Try.func27, Try.ntmps27
        go_wp2_with fail
        refine (HS.out _ (below_alloc (Below.refl _ _) _)).mono ?_
        rintro e w1 ⟨rfl, hb1⟩
        have HB1 : Hid (Below w.heap.size w w1) := below_step (below_alloc (Below.refl _ _) _) hb1
        clear hb1 HS
        go_wp2
        go_ret
        exact ⟨by rw [HE.out]; rfl, HB1.out⟩
    · have h2' : (seq == 0) = false := beq_no h2
      have HE : Hid (FO = 11) := by show _ = _; rw [HF.out, if_pos (Or.inr h2)]
      clear HN HS HF
      go_enter Try.func27, Try.ntmps27
      go_wp2
      go_ret
      exact ⟨by rw [HE.out]; rfl, below_alloc (Below.refl _ _) _⟩
  · obtain ⟨h3a, h3b, h3c, h3d⟩ := text_no h3
    generalize (⟨text.toArray⟩ : ByteArray) = bt at HN h3a h3b h3c h3d ⊢
    have HE : Hid (FO = 11) := by show _ = _; rw [HF.out, if_pos (Or.inl h3)]
    clear HN HS HF
    go_enter Try.func27, Try.ntmps27
    go_wp2
    go_ret
    exact ⟨by rw [HE.out]; rfl, below_alloc (Below.refl _ _) _⟩
set_option maxHeartbeats 6400000 in
theorem reffit4 (o : Om) (p : Option Addr) (c : Nat) (w : World) (hk : o.kind = 4 ∨ o.kind = 5) (H : FitHyp o p c w) :
    Calls Try.prog 27 #[ov o p c] w fun e w' => e = .returned (.int .i64 (fitO o)) ∧ Below w.heap.size w w' := by
  have HL := Lib.hid (fun W => refplaceless_any o p c W)
  have HF : Hid (fitO o = if o.text ≠ [] ∨ 0 < o.spans.length ∨ placelessO o = false ∨ o.seq < 1 ∨ 268435456 < o.seq then 11 else 0) := by show _ = _; unfold fitO; rw [if_neg (by omega), if_neg (by omega), if_neg (by omega), if_pos hk]
  obtain ⟨kind, r, n, num, text, spans, seq⟩ := o
  simp only at hk
  generalize fitO ⟨kind, r, n, num, text, spans, seq⟩ = FO at HF ⊢
  generalize placelessO ⟨kind, r, n, num, text, spans, seq⟩ = PL at HL HF
  unfold ov at HL ⊢
  simp only at HL HF ⊢
  clear H
  by_cases h3 : text = []
  · subst h3
    by_cases h1 : 0 < spans.length
    · have h1' : (0 : Int) < (spans.length : Int) := by omega
      have HE : Hid (FO = 11) := by show _ = _; rw [HF.out, if_pos (Or.inr (Or.inl h1))]
      clear HF HL
      rcases hk with rfl | rfl
      all_goals
        go_enter Try.func27, Try.ntmps27
        go_wp2
        go_ret
        exact ⟨by rw [HE.out]; rfl, below_alloc (Below.refl _ _) _⟩
    · have h1' : ¬ (0 : Int) < (spans.length : Int) := by omega
      cases PL with
      | false =>
        have HE : Hid (FO = 11) := by show _ = _; rw [HF.out, if_pos (Or.inr (Or.inr (Or.inl rfl)))]
        clear HF
        rcases hk with rfl | rfl
        all_goals
          go_enter Try.func27, Try.ntmps27
          go_wp2_with (first | (go_at_call 47; refine (HL.out _).mono ?_; rintro e w1 ⟨rfl, hb1⟩))
          go_ret
          exact ⟨by rw [HE.out]; rfl, below_step (below_alloc (Below.refl _ _) _) hb1⟩
      | true =>
        have HE : Hid (FO = if seq < 1 ∨ 268435456 < seq then 11 else 0) := by
          show _ = _
          rw [HF.out]
          by_cases h : seq < 1 ∨ 268435456 < seq
          · rw [if_pos h, if_pos (Or.inr (Or.inr (Or.inr h)))]
          · rw [if_neg h, if_neg (by rintro (a | a | a | a); exact a rfl; exact h1 a; cases a; exact h a)]
        clear HF
        by_cases q1 : seq < 1
        · have HE : Hid (FO = 11) := by show _ = _; rw [HE.out, if_pos (Or.inl q1)]
          rcases hk with rfl | rfl
          all_goals
            go_enter Try.func27, Try.ntmps27
            go_wp2_with (first | (go_at_call 47; refine (HL.out _).mono ?_; rintro e w1 ⟨rfl, hb1⟩; obtain ⟨s0, s1, s2, s3, s4, s5, s6⟩ := seven_cells (kept_box (heap_alloc_new w _) hb1)))
            go_ret
            exact ⟨by rw [HE.out]; rfl, below_step (below_alloc (Below.refl _ _) _) hb1⟩
        · by_cases q2 : 268435456 < seq
          · have HE : Hid (FO = 11) := by show _ = _; rw [HE.out, if_pos (Or.inr q2)]
            rcases hk with rfl | rfl
            all_goals
              go_enter Try.func27, Try.ntmps27
              go_wp2_with (first | (go_at_call 47; refine (HL.out _).mono ?_; rintro e w1 ⟨rfl, hb1⟩; obtain ⟨s0, s1, s2, s3, s4, s5, s6⟩ := seven_cells (kept_box (heap_alloc_new w _) hb1)))
              go_ret
              exact ⟨by rw [HE.out]; rfl, below_step (below_alloc (Below.refl _ _) _) hb1⟩
          · have HE : Hid (FO = 0) := by show _ = _; rw [HE.out, if_neg (by omega)]
            rcases hk with rfl | rfl
            all_goals
              go_enter Try.func27, Try.ntmps27
              go_wp2_with (first | (go_at_call 47; refine (HL.out _).mono ?_; rintro e w1 ⟨rfl, hb1⟩; obtain ⟨s0, s1, s2, s3, s4, s5, s6⟩ := seven_cells (kept_box (heap_alloc_new w _) hb1)))
              go_ret
              exact ⟨by rw [HE.out]; rfl, below_step (below_alloc (Below.refl _ _) _) hb1⟩
  · obtain ⟨h3a, h3b, h3c, h3d⟩ := text_no h3
    generalize (⟨text.toArray⟩ : ByteArray) = bt at HL h3a h3b h3c h3d ⊢
    have HE : Hid (FO = 11) := by show _ = _; rw [HF.out, if_pos (Or.inl h3)]
    clear HL HF
    rcases hk with rfl | rfl
    all_goals
      go_enter Try.func27, Try.ntmps27
      go_wp2
      go_ret
      exact ⟨by rw [HE.out]; rfl, below_alloc (Below.refl _ _) _⟩
set_option maxHeartbeats 1600000 in
theorem reffitE (o : Om) (p : Option Addr) (c : Nat) (w : World) (h1 : o.kind ≠ 1) (h2 : o.kind ≠ 2) (h3 : o.kind ≠ 3) (h4 : ¬ (o.kind = 4 ∨ o.kind = 5)) :
    Calls Try.prog 27 #[ov o p c] w fun e w' => e = .returned (.int .i64 (fitO o)) ∧ Below w.heap.size w w' := by
  have HE : Hid (fitO o = 11) := by show _ = _; unfold fitO; rw [if_neg h1, if_neg h2, if_neg h3, if_neg h4]
  obtain ⟨kind, r, n, num, text, spans, seq⟩ := o
  simp only at h1 h2 h3 h4
  have k1 : (kind == 1) = false := beq_no h1
  have k2 : (kind == 2) = false := beq_no h2
  have k3 : (kind == 3) = false := beq_no h3
  have k4 : (kind == 4) = false := beq_no fun h => h4 (Or.inl h)
  have k5 : (kind == 5) = false := beq_no fun h => h4 (Or.inr h)
  unfold ov
  simp only
  clear h1 h2 h3 h4
  go_enter Try.func27, Try.ntmps27
  go_wp2
  go_ret
  exact ⟨by rw [HE.out]; rfl, below_alloc (Below.refl _ _) _⟩
/-- The document's Fit, of any operation. -/
theorem reffit8_any (o : Om) (p : Option Addr) (c : Nat) (w : World) (H : FitHyp o p c w) :
    Calls Try.prog 27 #[ov o p c] w fun e w' => e = .returned (.int .i64 (fitO o)) ∧ Below w.heap.size w w' := by
  by_cases h1 : o.kind = 1
  · exact reffit1 o p c w h1 H
  · by_cases h2 : o.kind = 2
    · exact reffit2 o p c w h2 H
    · by_cases h3 : o.kind = 3
      · exact reffit3 o p c w h3 H
      · by_cases h4 : o.kind = 4 ∨ o.kind = 5
        · exact reffit4 o p c w h4 H
        · exact reffitE o p c w h1 h2 h3 h4
end Go.Proofs.Ytedlmngfkkpmgaa
