
/-
  What the program's Atoms, placed, fitContent and Fit of layer 8 hand back. No conditions beyond what each theorem states.
-/
import Derived.Test.YtedlmngfkkpmgaaOpProg2
import Derived.Test.YtedlmngfkkpmgaaSpanProg5
namespace Go.Proofs.Ytedlmngfkkpmgaa
open Go.ChangeShapes Go.WideShapes Go.ChangeAt Go.RowKit Go.Lib
set_option linter.unusedVariables false
set_option linter.unusedSimpArgs false

/-- What Atoms asks for: spans that are right, where it counts them. -/
def CountsP (o : Om) : Prop := o.kind = 3 → RightS o.spans ∧ totalL o.spans ≤ 3000
set_option maxHeartbeats 1600000 in
theorem atoms_any (o : Om) (p : Option Addr) (c : Nat) (w : World) (H : InO o p c w) (hc : CountsP o) (ht : o.text.length ≤ 300) (hl : o.spans.length ≤ 60) :
    Calls Try.prog 32 #[ov o p c] w fun e w' => e = .returned (.int .i64 (atomsO o)) ∧ Below w.heap.size w w' := by
  have HI : Hid (o.kind = 3 → ∀ W, Below w.heap.size w W → Calls Try.prog 51 #[.slice p o.spans.length c] W fun e w' => e = .returned (.int .i64 (totalL o.spans : Int)) ∧ Below W.heap.size W w') := fun h W hb => total_spec o.spans p c W (H.row.below hb) (hc h).1 H.fit.2.2.2.2.2.2.2.2.1 (by omega) (hc h).2 H.cap H.nil
  have HA : Hid (atomsO o = if o.kind = 1 then (o.text.length : Int) else if o.kind = 3 then (totalL o.spans : Int) else 0) := rfl
  have hsz : (⟨o.text.toArray⟩ : ByteArray).size = o.text.length := rfl
  clear H hc
  obtain ⟨kind, r, n, num, text, spans, seq⟩ := o
  unfold ov
  simp only at *
  by_cases h1 : kind = 1
  · subst h1
    have HE : Hid (atomsO ⟨1, r, n, num, text, spans, seq⟩ = (text.length : Int)) := by show _ = _; rw [HA.out, if_pos rfl]
    generalize (⟨text.toArray⟩ : ByteArray) = bt at hsz ⊢
    go_enter Try.func32, Try.ntmps32
    go_wp2
    go_ret
    exact ⟨by rw [HE.out, ← hsz]; rfl, below_alloc (Below.refl _ _) _⟩
  · have h1' : (kind == 1) = false := beq_no h1
    by_cases h3 : kind = 3
    · subst h3
      have HE : Hid (atomsO ⟨3, r, n, num, text, spans, seq⟩ = (totalL spans : Int)) := by show _ = _; rw [HA.out, if_neg (by decide), if_pos rfl]
      have HI3 : Hid (∀ W, Below w.heap.size w W → Calls Try.prog 51 #[.slice p spans.length c] W fun e w' => e = .returned (.int .i64 (totalL spans : Int)) ∧ Below W.heap.size W w') := HI.out rfl
      clear HI
      go_enter Try.func32, Try.ntmps32
      go_wp2_with fail
      refine (HI3.out _ (below_alloc (Below.refl _ _) _)).mono ?_
      rintro e w1 ⟨rfl, hb⟩
      have HB : Hid (Below w.heap.size w w1) := below_step (below_alloc (Below.refl _ _) _) hb
      clear hb HI3
      go_wp2
      go_ret
      exact ⟨by rw [HE.out]; rfl, HB.out⟩
    · have h3' : (kind == 3) = false := beq_no h3
      have HE : Hid (atomsO ⟨kind, r, n, num, text, spans, seq⟩ = 0) := by show _ = _; rw [HA.out, if_neg h1, if_neg h3]
      go_enter Try.func32, Try.ntmps32
      go_wp2
      go_ret
      exact ⟨by rw [HE.out]; rfl, below_alloc (Below.refl _ _) _⟩
theorem atoms_spec : AtomsSpec := by
  intro o p c w H ht hl hf
  refine atoms_any o p c w H (fun hk => ?_) ht hl
  rcases fitO_cases hf with h | h | h | h
  · exact absurd (hk.symm.trans h.1) (by decide)
  · exact absurd (hk.symm.trans h.1) (by decide)
  · obtain ⟨a1, a2, a3⟩ := fitL_ok h.2.2.2.1
    exact ⟨a1, by omega⟩
  · rcases h.1 with h | h
    · exact absurd (hk.symm.trans h) (by decide)
    · exact absurd (hk.symm.trans h) (by decide)
theorem total_pos {l : List Sp} (h : fitL l = 0) : 1 ≤ totalL l := by
  obtain ⟨a1, a2, a3⟩ := fitL_ok h
  cases l with
  | nil => unfold fitL at h; rw [if_pos (show ([] : List Sp).length = 0 from rfl)] at h; cases h
  | cons s l =>
    have hr := rightS_iff.1 (a1 s (by simp))
    rw [totalL_cons]
    omega
theorem took_numbered {o : Om} (h1 : 1 ≤ atomsO o) (h0 : 0 ≤ o.num) : numberedO o = (decide (tookE o.num (atomsO o) = 0) && anchB o) := by
  unfold numberedO anchB tookE
  by_cases hm : o.num = 0
  · rw [if_pos hm, decide_eq_false (by omega), decide_eq_false (by omega)]; rfl
  · rw [if_neg hm]
    by_cases hg : 268435457 < o.num + atomsO o
    · rw [if_pos hg, decide_eq_false (by omega), decide_eq_false (by omega)]; rfl
    · rw [if_neg hg, decide_eq_true (rfl : (0 : Int) = 0), Bool.true_and]
      apply decide_eq_decide.2
      omega

set_option maxHeartbeats 3200000 in
theorem placed_any (o : Om) (p : Option Addr) (c : Nat) (w : World) (H : InO o p c w) (hc : CountsP o) (ht : o.text.length ≤ 300) (hl : o.spans.length ≤ 60) (h1 : 1 ≤ atomsO o) :
    Calls Try.prog 71 #[ov o p c] w fun e w' => e = .returned (.bool (numberedO o)) ∧ Below w.heap.size w w' := by
  have HA : Hid (∀ W, Below w.heap.size w W → Calls Try.prog 32 #[ov o p c] W fun e w' => e = .returned (.int .i64 (atomsO o)) ∧ Below W.heap.size W w') := fun W hb => atoms_any o p c W (H.below hb) hc ht hl
  have hat : atomsO o ≤ 1000000 := by
    unfold atomsO
    by_cases h1 : o.kind = 1
    · rw [if_pos h1]; omega
    · rw [if_neg h1]
      by_cases h3 : o.kind = 3
      · rw [if_pos h3]; have := (hc h3).2; omega
      · rw [if_neg h3]; omega
  have hf := H.fit
  have HF : Hid (numberedO o = (decide (tookE o.num (atomsO o) = 0) && anchB o)) := took_numbered h1 hf.2.2.2.2.2.2.1
  have HK : Hid (∀ W, Calls Try.prog 77 #[.int .u32 o.num, .int .i64 (atomsO o)] W fun e w' => e = .returned (.tuple #[.int .u32 (tookN o.num (atomsO o)), .int .i64 (tookE o.num (atomsO o))]) ∧ Below W.heap.size W w') := fun W => (idtake_any o.num (atomsO o) hf.2.2.2.2.2.2.1 hf.2.2.2.2.2.2.2.1 (by omega) (by omega) W).mono (by rintro e w' ⟨he, rfl⟩; exact ⟨he, Below.refl _ _⟩)
  have HAN : Hid (anchB o = decide (o.r = 0 ∧ o.n = 0 ∨ 1 ≤ o.n ∧ o.n ≤ 268435456)) := rfl
  obtain ⟨kind, r, n, num, text, spans, seq⟩ := o
  generalize atomsO ⟨kind, r, n, num, text, spans, seq⟩ = A at HA hat HF HK
  generalize numberedO ⟨kind, r, n, num, text, spans, seq⟩ = NU at HF ⊢
  unfold ov at HA ⊢
  simp only at HA HF HK HAN ⊢
  generalize anchB ⟨kind, r, n, num, text, spans, seq⟩ = AN at HF HAN
  generalize hTE : tookE num A = TE at HF HK
  generalize tookN num A = TN at HK
  clear H hc hf hTE
  generalize (⟨text.toArray⟩ : ByteArray) = bt at HA ⊢
  have HX : Hid ((w.alloc (.cells #[.int .i64 kind, .int .u16 r, .int .u32 n, .int .u32 num, .string bt, .slice p spans.length c, .int .u32 seq] 69)).heap[w.heap.size]? = some (.cells #[.int .i64 kind, .int .u16 r, .int .u32 n, .int .u32 num, .string bt, .slice p spans.length c, .int .u32 seq] 69 (0, 0))) := heap_alloc_new w _
  have HA2 : Hid (∀ (B : Obj) dd os, Calls Try.prog 32 #[.agg #[.int .i64 kind, .int .u16 r, .int .u32 n, .int .u32 num, .string bt, .slice p spans.length c, .int .u32 seq]] (Go.Sort.grow (redrawn (w.alloc B) dd) os) fun e w' => e = .returned (.int .i64 A) ∧ Below (Go.Sort.grow (redrawn (w.alloc B) dd) os).heap.size (Go.Sort.grow (redrawn (w.alloc B) dd) os) w') := fun B dd os => HA.out _ (below_step (below_alloc (Below.refl _ _) _) (below_regrown _ _ _))
  obtain ⟨s0, s1, s2, s3, s4, s5, s6⟩ := seven_cells HX.out
  have t0 := cell_regrown s0
  have t1 := cell_regrown s1
  have t2 := cell_regrown s2
  have t3 := cell_regrown s3
  have t4 := cell_regrown s4
  have t5 := cell_regrown s5
  have t6 := cell_regrown s6
  clear HA s0 s1 s2 s3 s4 s5 s6
  by_cases hz : TE = 0
  · subst hz
    by_cases hr : r = 0 ∧ n = 0
    · obtain ⟨rfl, rfl⟩ := hr
      have HE : Hid (NU = true) := by show _ = _; rw [HF.out, HAN.out]; rfl
      have HR := Lib.hid idroot_yes
      clear HF HAN
      go_enter Try.func71, Try.ntmps71
      go_wp2_with fail
      refine wp_region_quiet_below (by kernel_rfl) (by kernel_rfl) ?_
      repeat (go_big_quiet_step (first | (go_at_call 32; exact Calls.regrown_of (HA2.out _ _ _)) | (go_at_call 77; exact Calls.regrown_of (HK.out _))))
      refine wpQuiet_nil ?_
      intro _ hw'
      obtain ⟨⟨dq, osq⟩, hw''⟩ := hw'
      subst hw'' 
      go_wp2_with fail
      refine (HR.out _).mono ?_
      rintro e w2 ⟨rfl, hb2⟩
      have HB : Hid (Below w.heap.size w w2) := below_step (below_step (below_alloc (Below.refl _ _) _) (below_regrown _ _ _)) hb2
      clear hb2
      go_wp2
      go_ret
      exact ⟨by rw [HE.out]; rfl, HB.out⟩
    · have HE : Hid (NU = rightN (r, n)) := by
        show _ = _
        rw [HF.out, HAN.out, decide_eq_true (rfl : (0 : Int) = 0), Bool.true_and]
        apply decide_eq_decide.2
        exact ⟨fun h => h.resolve_left hr, Or.inr⟩
      have HR := Lib.hid (idroot_no r n hr)
      have HI : Hid (∀ W : World, Calls Try.prog 78 #[.agg #[.int .u16 r, .int .u32 n]] W fun e w' => e = .returned (.bool (rightN (r, n))) ∧ Below W.heap.size W w') := idright_any (r, n)
      generalize rightN (r, n) = RN at HI HE
      clear HF HAN
      go_enter Try.func71, Try.ntmps71
      go_wp2_with fail
      refine wp_region_quiet_below (by kernel_rfl) (by kernel_rfl) ?_
      repeat (go_big_quiet_step (first | (go_at_call 32; exact Calls.regrown_of (HA2.out _ _ _)) | (go_at_call 77; exact Calls.regrown_of (HK.out _))))
      refine wpQuiet_nil ?_
      intro _ hw'
      obtain ⟨⟨dq, osq⟩, hw''⟩ := hw'
      subst hw'' 
      go_wp2_with fail
      refine (HR.out _).mono ?_
      rintro e w2 ⟨rfl, hb2⟩
      have HB : Hid (Below w.heap.size w w2) := below_step (below_step (below_alloc (Below.refl _ _) _) (below_regrown _ _ _)) hb2
      have HX2 := Lib.hid (kept_box HX.out (below_step (below_regrown _ dq osq) hb2))
      obtain ⟨d0, d1, d2, d3, d4, d5, d6⟩ := seven_cells HX2.out
      clear hb2 t0 t1 t2 t3 t4 t5 t6
      go_wp2_with fail
      refine (HI.out _).mono ?_
      rintro e w3 ⟨rfl, hb3⟩
      have HB3 : Hid (Below w.heap.size w w3) := below_step HB.out hb3
      clear hb3
      go_wp2
      go_ret
      exact ⟨by rw [HE.out]; rfl, HB3.out⟩
  · have HE : Hid (NU = false) := by show _ = _; rw [HF.out, decide_eq_false hz]; rfl
    have hz' := beq_no hz
    clear HF HAN
    go_enter Try.func71, Try.ntmps71
    go_wp2_with fail
    refine wp_region_quiet_below (by kernel_rfl) (by kernel_rfl) ?_
    repeat (go_big_quiet_step (first | (go_at_call 32; exact Calls.regrown_of (HA2.out _ _ _)) | (go_at_call 77; exact Calls.regrown_of (HK.out _))))
    refine wpQuiet_nil ?_
    intro _ hw'
    obtain ⟨⟨dq, osq⟩, hw''⟩ := hw'
    subst hw'' 
    go_wp2
    go_ret
    exact ⟨by rw [HE.out]; rfl, below_step (below_alloc (Below.refl _ _) _) (below_regrown _ _ _)⟩
/-- What comes, goes, or is undone: its error. -/
def contE (o : Om) : Int := if o.kind = 1 then textE o.text else if o.kind = 2 ∨ o.kind = 3 then fitL o.spans else if o.seq < 1 ∨ 268435456 < o.seq then 11 else 0

set_option maxHeartbeats 1600000 in
theorem content_any (HFS : FitSpec) (o : Om) (p : Option Addr) (c : Nat) (w : World) (H : InO o p c w) (ht : o.text.length ≤ 300) (hl : o.spans.length ≤ 60) :
    Calls Try.prog 70 #[ov o p c] w fun e w' => e = .returned (.int .i64 (contE o)) ∧ Below w.heap.size w w' := by
  have HFT := Lib.hid (fun W => fittext_any o.text (by omega) W)
  have HSF : Hid (∀ W, Below w.heap.size w W → Calls Try.prog 76 #[.slice p o.spans.length c] W fun e w' => e = .returned (.int .i64 (fitL o.spans)) ∧ Below W.heap.size W w') := fun W hb => HFS o.spans p c W (H.row.below hb) H.fit.2.2.2.2.2.2.2.2.1 (by omega) H.cap H.nil
  have HC : Hid (contE o = if o.kind = 1 then textE o.text else if o.kind = 2 ∨ o.kind = 3 then fitL o.spans else if o.seq < 1 ∨ 268435456 < o.seq then 11 else 0) := rfl
  clear H
  obtain ⟨kind, r, n, num, text, spans, seq⟩ := o
  unfold ov
  simp only at *
  generalize contE ⟨kind, r, n, num, text, spans, seq⟩ = E at HC ⊢
  generalize textE text = TE at HC HFT
  generalize fitL spans = FE at HC HSF
  generalize (⟨text.toArray⟩ : ByteArray) = bt at HFT ⊢
  by_cases k1 : kind = 1
  · subst k1
    have HE : Hid (E = TE) := by show _ = _; rw [HC.out, if_pos rfl]
    clear HC HSF
    go_enter Try.func70, Try.ntmps70
    go_wp2_with fail
    refine (HFT.out _).mono ?_
    rintro e w1 ⟨rfl, he⟩
    obtain rfl := Eq.symm he
    go_wp2
    go_ret
    exact ⟨by rw [HE.out]; rfl, below_alloc (Below.refl _ _) _⟩
  · have k1' := beq_no k1
    by_cases k2 : kind = 2 ∨ kind = 3
    · have HN := Lib.hid (names_yes kind k2)
      have HE : Hid (E = FE) := by show _ = _; rw [HC.out, if_neg k1, if_pos k2]
      clear HC HFT
      go_enter Try.func70, Try.ntmps70
      go_wp2_with fail
      refine (HN.out _).mono ?_
      rintro e w1 ⟨rfl, he⟩
      obtain rfl := Eq.symm he
      go_wp2_with fail
      refine (HSF.out _ (below_alloc (Below.refl _ _) _)).mono ?_
      rintro e w2 ⟨rfl, hb2⟩
      have HB : Hid (Below w.heap.size w w2) := below_step (below_alloc (Below.refl _ _) _) hb2
      clear hb2
      go_wp2
      go_ret
      exact ⟨by rw [HE.out]; rfl, HB.out⟩
    · have HN := Lib.hid (names_no kind (by omega) (by omega))
      have HE0 : Hid (E = if seq < 1 ∨ 268435456 < seq then 11 else 0) := by show _ = _; rw [HC.out, if_neg k1, if_neg k2]
      clear HC HFT HSF
      by_cases s1 : seq < 1
      · have HE : Hid (E = 11) := by show _ = _; rw [HE0.out, if_pos (Or.inl s1)]
        go_enter Try.func70, Try.ntmps70
        go_wp2_with fail
        refine (HN.out _).mono ?_
        rintro e w1 ⟨rfl, he⟩
        obtain rfl := Eq.symm he
        go_wp2
        go_ret
        exact ⟨by rw [HE.out]; rfl, below_alloc (Below.refl _ _) _⟩
      · by_cases s2 : 268435456 < seq
        · have HE : Hid (E = 11) := by show _ = _; rw [HE0.out, if_pos (Or.inr s2)]
          go_enter Try.func70, Try.ntmps70
          go_wp2_with fail
          refine (HN.out _).mono ?_
          rintro e w1 ⟨rfl, he⟩
          obtain rfl := Eq.symm he
          go_wp2
          go_ret
          exact ⟨by rw [HE.out]; rfl, below_alloc (Below.refl _ _) _⟩
        · have HE : Hid (E = 0) := by show _ = _; rw [HE0.out, if_neg (by rintro (a | a); exact s1 a; exact s2 a)]
          go_enter Try.func70, Try.ntmps70
          go_wp2_with fail
          refine (HN.out _).mono ?_
          rintro e w1 ⟨rfl, he⟩
          obtain rfl := Eq.symm he
          go_wp2
          go_ret
          exact ⟨by rw [HE.out]; rfl, below_alloc (Below.refl _ _) _⟩
theorem fitO_steps (o : Om) : fitO o = if o.kind < 1 ∨ 5 < o.kind then 11 else if moreO o = true then 11 else if contE o ≠ 0 then contE o else if o.kind = 1 ∨ o.kind = 3 then (if numberedO o = false then 11 else 0) else 0 := by
  unfold fitO moreO contE
  by_cases k1 : o.kind = 1
  · simp only [if_pos k1]
    rw [if_neg (show ¬ (o.kind < 1 ∨ 5 < o.kind) by omega)]
    unfold textE
    by_cases a : 0 < o.spans.length ∨ o.seq ≠ 0
    · rw [if_pos (show 0 < o.spans.length ∨ o.seq ≠ 0 ∨ o.text = [] ∨ plainB o.text = false by rcases a with a | a; exact Or.inl a; exact Or.inr (Or.inl a)), if_pos (decide_eq_true a)]
    · rw [if_neg (show ¬ decide (0 < o.spans.length ∨ o.seq ≠ 0) = true by rw [decide_eq_false a]; simp)]
      by_cases b : o.text = [] ∨ plainB o.text = false
      · rw [if_pos (show 0 < o.spans.length ∨ o.seq ≠ 0 ∨ o.text = [] ∨ plainB o.text = false from Or.inr (Or.inr b))]
        simp only [if_pos b]
        rfl
      · rw [if_neg (show ¬ (0 < o.spans.length ∨ o.seq ≠ 0 ∨ o.text = [] ∨ plainB o.text = false) by rintro (x | x | x); exact a (Or.inl x); exact a (Or.inr x); exact b x)]
        simp only [if_neg b]
        by_cases d : 64 < o.text.length
        · simp only [if_pos d]
          rfl
        · simp only [if_neg d]
          rw [if_neg (show ¬ (0 : Int) ≠ 0 by simp), if_pos (show o.kind = 1 ∨ o.kind = 3 from Or.inl k1)]
  · simp only [if_neg k1]
    by_cases k2 : o.kind = 2
    · simp only [if_pos k2, if_pos (show o.kind = 2 ∨ o.kind = 3 from Or.inl k2)]
      rw [if_neg (show ¬ (o.kind < 1 ∨ 5 < o.kind) by omega)]
      by_cases a : placelessO o = false ∨ o.text ≠ [] ∨ o.seq ≠ 0
      · rw [if_pos (by rcases a with a | a | a; exact Or.inr (Or.inr a); exact Or.inl a; exact Or.inr (Or.inl a)), if_pos (decide_eq_true a)]
      · rw [if_neg (by rintro (x | x | x); exact a (Or.inr (Or.inl x)); exact a (Or.inr (Or.inr x)); exact a (Or.inl x)), if_neg (show ¬ decide _ = true by rw [decide_eq_false a]; simp)]
        by_cases b : fitL o.spans = 0
        · rw [if_neg (show ¬ fitL o.spans ≠ 0 by simpa using b), if_neg (show ¬ (o.kind = 1 ∨ o.kind = 3) by omega), b]
        · rw [if_pos b]
    · simp only [if_neg k2]
      by_cases k3 : o.kind = 3
      · simp only [if_pos k3, if_pos (show o.kind = 2 ∨ o.kind = 3 from Or.inr k3)]
        rw [if_neg (show ¬ (o.kind < 1 ∨ 5 < o.kind) by omega)]
        by_cases a : o.text ≠ [] ∨ o.seq ≠ 0
        · rw [if_pos a, if_pos (decide_eq_true a)]
        · rw [if_neg a, if_neg (show ¬ decide _ = true by rw [decide_eq_false a]; simp)]
          by_cases b : fitL o.spans ≠ 0
          · simp only [if_pos b]
          · simp only [if_neg b]
            rw [if_pos (show o.kind = 1 ∨ o.kind = 3 from Or.inr k3)]
      · simp only [if_neg k3, if_neg (show ¬ (o.kind = 2 ∨ o.kind = 3) by omega), if_neg (show ¬ (o.kind = 1 ∨ o.kind = 3) by omega)]
        by_cases k4 : o.kind = 4 ∨ o.kind = 5
        · rw [if_pos k4, if_neg (show ¬ (o.kind < 1 ∨ 5 < o.kind) by omega)]
          by_cases a : placelessO o = false ∨ o.text ≠ [] ∨ 0 < o.spans.length
          · rw [if_pos (by rcases a with a | a | a; exact Or.inr (Or.inr (Or.inl a)); exact Or.inl a; exact Or.inr (Or.inl a)), if_pos (decide_eq_true a)]
          · rw [if_neg (show ¬ decide _ = true by rw [decide_eq_false a]; simp)]
            by_cases b : o.seq < 1 ∨ 268435456 < o.seq
            · rw [if_pos (Or.inr (Or.inr (Or.inr b)))]
              simp only [if_pos b]
              rfl
            · rw [if_neg (by rintro (x | x | x | x); exact a (Or.inr (Or.inl x)); exact a (Or.inr (Or.inr x)); exact a (Or.inl x); exact b x)]
              simp only [if_neg b]
              rfl
        · rw [if_neg k4, if_pos (show o.kind < 1 ∨ 5 < o.kind by omega)]

set_option maxHeartbeats 3200000 in
theorem fitO_of (HFS : FitSpec) : FitOSpec := by
  intro o p c w H ht hl
  have HS := Lib.hid (fitO_steps o)
  have HM := Lib.hid (fun W => more_any o p c W)
  have HC : Hid (∀ W, Below w.heap.size w W → Calls Try.prog 70 #[ov o p c] W fun e w' => e = .returned (.int .i64 (contE o)) ∧ Below W.heap.size W w') := fun W hb => content_any HFS o p c W (H.below hb) ht hl
  have HP : Hid (contE o = 0 → o.kind = 1 ∨ o.kind = 3 → ∀ W, Below w.heap.size w W → Calls Try.prog 71 #[ov o p c] W fun e w' => e = .returned (.bool (numberedO o)) ∧ Below W.heap.size W w') := fun hc hk W hb => by
    unfold contE at hc
    rcases hk with hk | hk
    · refine placed_any o p c W (H.below hb) (fun k3 => absurd (hk.symm.trans k3) (by decide)) ht hl ?_
      unfold atomsO
      rw [if_pos hk]
      rw [if_pos hk] at hc
      unfold textE at hc
      by_cases e : o.text = []
      · rw [if_pos (Or.inl e)] at hc; cases hc
      · have : o.text.length ≠ 0 := fun h => e (List.eq_nil_of_length_eq_zero h)
        omega
    · rw [if_neg (by omega), if_pos (Or.inr hk)] at hc
      obtain ⟨a1, a2, a3⟩ := fitL_ok hc
      refine placed_any o p c W (H.below hb) (fun _ => ⟨a1, by omega⟩) ht hl ?_
      have := total_pos hc
      unfold atomsO
      rw [if_neg (by omega), if_pos hk]
      omega
  have HKY := Lib.hid (makes_yes o.kind)
  have HKN := Lib.hid (makes_no o.kind)
  clear H HFS
  obtain ⟨kind, r, n, num, text, spans, seq⟩ := o
  generalize fitO ⟨kind, r, n, num, text, spans, seq⟩ = FO at HS ⊢
  generalize moreO ⟨kind, r, n, num, text, spans, seq⟩ = MO at HS HM
  generalize contE ⟨kind, r, n, num, text, spans, seq⟩ = CE at HS HC HP
  generalize numberedO ⟨kind, r, n, num, text, spans, seq⟩ = NU at HS HP
  unfold ov at HM HC HP ⊢
  simp only at HS HM HC HP HKY HKN ⊢
  generalize (⟨text.toArray⟩ : ByteArray) = bt at HM HC HP ⊢
  by_cases k1 : kind < 1
  · have HE : Hid (FO = 11) := by show _ = _; rw [HS.out, if_pos (Or.inl k1)]
    clear HS HM HC HP HKY HKN
    go_enter Try.func50, Try.ntmps50
    go_wp2
    go_ret
    exact ⟨by rw [HE.out]; rfl, below_alloc (Below.refl _ _) _⟩
  · by_cases k5 : 5 < kind
    · have HE : Hid (FO = 11) := by show _ = _; rw [HS.out, if_pos (Or.inr k5)]
      clear HS HM HC HP HKY HKN
      go_enter Try.func50, Try.ntmps50
      go_wp2
      go_ret
      exact ⟨by rw [HE.out]; rfl, below_alloc (Below.refl _ _) _⟩
    · have HS1 : Hid (FO = if MO = true then 11 else if CE ≠ 0 then CE else if kind = 1 ∨ kind = 3 then (if NU = false then 11 else 0) else 0) := by show _ = _; rw [HS.out, if_neg (by omega)]
      clear HS
      have HX : Hid ((w.alloc (.cells #[.int .i64 kind, .int .u16 r, .int .u32 n, .int .u32 num, .string bt, .slice p spans.length c, .int .u32 seq] 69)).heap[w.heap.size]? = some (.cells #[.int .i64 kind, .int .u16 r, .int .u32 n, .int .u32 num, .string bt, .slice p spans.length c, .int .u32 seq] 69 (0, 0))) := heap_alloc_new w _
      cases MO with
      | true =>
        have HE : Hid (FO = 11) := by show _ = _; rw [HS1.out, if_pos rfl]
        clear HS1 HC HP HKY HKN
        go_enter Try.func50, Try.ntmps50
        go_wp2_with fail
        refine (HM.out _).mono ?_
        rintro e w1 ⟨rfl, hb1⟩
        have HB1 : Hid (Below w.heap.size w w1) := below_step (below_alloc (Below.refl _ _) _) hb1
        clear hb1
        go_wp2
        go_ret
        exact ⟨by rw [HE.out]; rfl, HB1.out⟩
      | false =>
        have HS2 : Hid (FO = if CE ≠ 0 then CE else if kind = 1 ∨ kind = 3 then (if NU = false then 11 else 0) else 0) := by show _ = _; rw [HS1.out, if_neg (by simp)]
        clear HS1
        go_enter Try.func50, Try.ntmps50
        go_wp2_with fail
        refine (HM.out _).mono ?_
        rintro e w1 ⟨rfl, hb1⟩
        have HB1 : Hid (Below w.heap.size w w1) := below_step (below_alloc (Below.refl _ _) _) hb1
        have HX1 := Lib.hid (kept_box HX.out hb1)
        obtain ⟨d0, d1, d2, d3, d4, d5, d6⟩ := seven_cells HX1.out
        clear hb1 HX
        go_wp2_with fail
        refine (HC.out _ HB1.out).mono ?_
        rintro e w2 ⟨rfl, hb2⟩
        have HB2 : Hid (Below w.heap.size w w2) := below_step HB1.out hb2
        have HX2 := Lib.hid (kept_box HX1.out hb2)
        clear hb2 d0 d1 d2 d3 d4 d5 d6 HX1
        obtain ⟨d0, d1, d2, d3, d4, d5, d6⟩ := seven_cells HX2.out
        by_cases ce : CE = 0
        · subst ce
          have HS3 : Hid (FO = if kind = 1 ∨ kind = 3 then (if NU = false then 11 else 0) else 0) := by show _ = _; rw [HS2.out, if_neg (by simp)]
          by_cases km : kind = 1 ∨ kind = 3
          · have HPK := Lib.hid (HP.out rfl km)
            have HKY2 := Lib.hid (HKY.out km)
            have HS4 : Hid (FO = if NU = false then 11 else 0) := by show _ = _; rw [HS3.out, if_pos km]
            clear HP HKY HKN HS2 HS3
            go_wp2_with fail
            refine (HKY2.out _).mono ?_
            rintro e w3 ⟨rfl, he⟩
            obtain rfl := Eq.symm he
            go_wp2_with fail
            refine (HPK.out _ HB2.out).mono ?_
            rintro e w4 ⟨rfl, hb4⟩
            have HB4 : Hid (Below w.heap.size w w4) := below_step HB2.out hb4
            clear hb4
            cases NU with
            | true =>
              go_wp2
              go_ret
              exact ⟨by rw [HS4.out]; rfl, HB4.out⟩
            | false =>
              go_wp2
              go_ret
              exact ⟨by rw [HS4.out]; rfl, HB4.out⟩
          · have HKN2 := Lib.hid (HKN.out (by omega) (by omega))
            have HS4 : Hid (FO = 0) := by show _ = _; rw [HS3.out, if_neg km]
            clear HP HKY HKN HS2 HS3
            go_wp2_with fail
            refine (HKN2.out _).mono ?_
            rintro e w3 ⟨rfl, he⟩
            obtain rfl := Eq.symm he
            go_wp2
            go_ret
            exact ⟨by rw [HS4.out]; rfl, HB2.out⟩
        · have ce1 := beq_no ce
          have ce2 := bne_no ce
          have HS4 : Hid (FO = CE) := by show _ = _; rw [HS2.out, if_pos ce]
          go_wp2
          go_ret
          exact ⟨by rw [HS4.out]; rfl, HB2.out⟩
end Go.Proofs.Ytedlmngfkkpmgaa
