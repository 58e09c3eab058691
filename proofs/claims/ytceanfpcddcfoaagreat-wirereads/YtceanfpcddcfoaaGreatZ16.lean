/-
  Several texts of one proof, joined: each part says at its head what it proves. No conditions beyond what each theorem states.
-/
import Derived.Test.YtceanfpcddcfoaaGreatZ15
import Derived.Test.YtceanfpcddcfoaaGreatZ05
import Derived.Test.YtceanfpcddcfoaaGreatZ14
import Derived.Test.YtceanfpcddcfoaaGreatZ04
import Derived.Test.YtceanfpcddcfoaaGreatZ06
/-
  What the program's Atoms, placed, fitContent and Fit of layer 8 hand back. No conditions beyond what each theorem states.
-/
namespace Go.Proofs.YtceanfpcddcfoaaGreat
open Go.ChangeShapes Go.WideShapes Go.ChangeAt Go.RowKit Go.Lib
set_option linter.unusedVariables false
set_option linter.unusedSimpArgs false

/-- What Atoms asks for: spans that are right, where it counts them. -/
def CountsP (o : Om) : Prop := o.kind = 3 → RightS o.spans ∧ totalL o.spans ≤ 3000
set_option maxHeartbeats 1600000 in
theorem atoms_any (o : Om) (p : Option Addr) (c : Nat) (w : World) (H : InO o p c w) (hc : CountsP o) (ht : o.text.length ≤ 300) (hl : o.spans.length ≤ 1024) :
    Calls Tryz.prog 82 #[ov o p c] w fun e w' => e = .returned (.int .i64 (atomsO o)) ∧ Below w.heap.size w w' := by
  have HI : Hid (o.kind = 3 → ∀ W, Below w.heap.size w W → Calls Tryz.prog 107 #[.slice p o.spans.length c] W fun e w' => e = .returned (.int .i64 (totalL o.spans : Int)) ∧ Below W.heap.size W w') := fun h W hb => total_spec o.spans p c W (H.row.below hb) (hc h).1 H.fit.2.2.2.2.2.2.2.2.1 (by omega) (hc h).2 H.cap H.nil
  have HA : Hid (atomsO o = if o.kind = 1 then (o.text.length : Int) else if o.kind = 3 then (totalL o.spans : Int) else 0) := rfl
  have hsz : (⟨o.text.toArray⟩ : ByteArray).size = o.text.length := rfl
  clear H hc
  obtain ⟨kind, r, n, num, text, spans, seq⟩ := o
  unfold ov
  simp only at *
  by_cases h1 : kind = 1
  · subst h1
    have HE : Hid (atomsO ⟨1, r, n, num, text, spans, seq⟩ = (text.length : Int)) := by show _ = _; rw [HA.out, if_pos rfl]
    generalize (⟨text.toArray⟩ : ByteArray) = bt at hsz ⊢
    go_enter Tryz.func82, Tryz.ntmps82
    go_wp2
    go_ret
    exact ⟨by rw [HE.out, ← hsz]; rfl, below_alloc (Below.refl _ _) _⟩
  · have h1' : (kind == 1) = false := beq_no h1
    by_cases h3 : kind = 3
    · subst h3
      have HE : Hid (atomsO ⟨3, r, n, num, text, spans, seq⟩ = (totalL spans : Int)) := by show _ = _; rw [HA.out, if_neg (by decide), if_pos rfl]
      have HI3 : Hid (∀ W, Below w.heap.size w W → Calls Tryz.prog 107 #[.slice p spans.length c] W fun e w' => e = .returned (.int .i64 (totalL spans : Int)) ∧ Below W.heap.size W w') := HI.out rfl
      clear HI
      go_enter Tryz.func82, Tryz.ntmps82
      go_wp2_with fail
      refine (HI3.out _ (below_alloc (Below.refl _ _) _)).mono ?_
      rintro e w1 ⟨rfl, hb⟩
      have HB : Hid (Below w.heap.size w w1) := below_step (below_alloc (Below.refl _ _) _) hb
      clear hb HI3
      go_wp2
      go_ret
      exact ⟨by rw [HE.out]; rfl, HB.out⟩
    · have h3' : (kind == 3) = false := beq_no h3
      have HE : Hid (atomsO ⟨kind, r, n, num, text, spans, seq⟩ = 0) := by show _ = _; rw [HA.out, if_neg h1, if_neg h3]
      go_enter Tryz.func82, Tryz.ntmps82
      go_wp2
      go_ret
      exact ⟨by rw [HE.out]; rfl, below_alloc (Below.refl _ _) _⟩
theorem atoms_spec : AtomsSpec := by
  intro o p c w H ht hl hf
  refine atoms_any o p c w H (fun hk => ?_) ht hl
  rcases fitO_cases hf with h | h | h | h
  · exact absurd (hk.symm.trans h.1) (by decide)
  · exact absurd (hk.symm.trans h.1) (by decide)
  · obtain ⟨a1, a2, a3⟩ := fitL_ok h.2.2.2.1
    exact ⟨a1, by omega⟩
  · rcases h.1 with h | h
    · exact absurd (hk.symm.trans h) (by decide)
    · exact absurd (hk.symm.trans h) (by decide)
theorem total_pos {l : List Sp} (h : fitL l = 0) : 1 ≤ totalL l := by
  obtain ⟨a1, a2, a3⟩ := fitL_ok h
  cases l with
  | nil => unfold fitL at h; rw [if_pos (show ([] : List Sp).length = 0 from rfl)] at h; cases h
  | cons s l =>
    have hr := rightS_iff.1 (a1 s (by simp))
    rw [totalL_cons]
    omega
theorem took_numbered {o : Om} (h1 : 1 ≤ atomsO o) (h0 : 0 ≤ o.num) : numberedO o = (decide (tookE o.num (atomsO o) = 0) && anchB o) := by
  unfold numberedO anchB tookE
  by_cases hm : o.num = 0
  · rw [if_pos hm, decide_eq_false (by omega), decide_eq_false (by omega)]; rfl
  · rw [if_neg hm]
    by_cases hg : 268435457 < o.num + atomsO o
    · rw [if_pos hg, decide_eq_false (by omega), decide_eq_false (by omega)]; rfl
    · rw [if_neg hg, decide_eq_true (rfl : (0 : Int) = 0), Bool.true_and]
      apply decide_eq_decide.2
      omega

set_option maxHeartbeats 3200000 in
theorem placed_any (o : Om) (p : Option Addr) (c : Nat) (w : World) (H : InO o p c w) (hc : CountsP o) (ht : o.text.length ≤ 300) (hl : o.spans.length ≤ 1024) (h1 : 1 ≤ atomsO o) :
    Calls Tryz.prog 113 #[ov o p c] w fun e w' => e = .returned (.bool (numberedO o)) ∧ Below w.heap.size w w' := by
  have HA : Hid (∀ W, Below w.heap.size w W → Calls Tryz.prog 82 #[ov o p c] W fun e w' => e = .returned (.int .i64 (atomsO o)) ∧ Below W.heap.size W w') := fun W hb => atoms_any o p c W (H.below hb) hc ht hl
  have hat : atomsO o ≤ 1000000 := by
    unfold atomsO
    by_cases h1 : o.kind = 1
    · rw [if_pos h1]; omega
    · rw [if_neg h1]
      by_cases h3 : o.kind = 3
      · rw [if_pos h3]; have := (hc h3).2; omega
      · rw [if_neg h3]; omega
  have hf := H.fit
  have HF : Hid (numberedO o = (decide (tookE o.num (atomsO o) = 0) && anchB o)) := took_numbered h1 hf.2.2.2.2.2.2.1
  have HK : Hid (∀ W, Calls Tryz.prog 121 #[.int .u32 o.num, .int .i64 (atomsO o)] W fun e w' => e = .returned (.tuple #[.int .u32 (tookN o.num (atomsO o)), .int .i64 (tookE o.num (atomsO o))]) ∧ Below W.heap.size W w') := fun W => (idtake_any o.num (atomsO o) hf.2.2.2.2.2.2.1 hf.2.2.2.2.2.2.2.1 (by omega) (by omega) W).mono (by rintro e w' ⟨he, rfl⟩; exact ⟨he, Below.refl _ _⟩)
  have HAN : Hid (anchB o = decide (o.r = 0 ∧ o.n = 0 ∨ 1 ≤ o.n ∧ o.n ≤ 268435456)) := rfl
  obtain ⟨kind, r, n, num, text, spans, seq⟩ := o
  generalize atomsO ⟨kind, r, n, num, text, spans, seq⟩ = A at HA hat HF HK
  generalize numberedO ⟨kind, r, n, num, text, spans, seq⟩ = NU at HF ⊢
  unfold ov at HA ⊢
  simp only at HA HF HK HAN ⊢
  generalize anchB ⟨kind, r, n, num, text, spans, seq⟩ = AN at HF HAN
  generalize hTE : tookE num A = TE at HF HK
  generalize tookN num A = TN at HK
  clear H hc hf hTE
  generalize (⟨text.toArray⟩ : ByteArray) = bt at HA ⊢
  have HX : Hid ((w.alloc (.cells #[.int .i64 kind, .int .u16 r, .int .u32 n, .int .u32 num, .string bt, .slice p spans.length c, .int .u32 seq] 79)).heap[w.heap.size]? = some (.cells #[.int .i64 kind, .int .u16 r, .int .u32 n, .int .u32 num, .string bt, .slice p spans.length c, .int .u32 seq] 79 (0, 0))) := heap_alloc_new w _
  have HA2 : Hid (∀ (B : Obj) dd os, Calls Tryz.prog 82 #[.agg #[.int .i64 kind, .int .u16 r, .int .u32 n, .int .u32 num, .string bt, .slice p spans.length c, .int .u32 seq]] (Go.Sort.grow (redrawn (w.alloc B) dd) os) fun e w' => e = .returned (.int .i64 A) ∧ Below (Go.Sort.grow (redrawn (w.alloc B) dd) os).heap.size (Go.Sort.grow (redrawn (w.alloc B) dd) os) w') := fun B dd os => HA.out _ (below_step (below_alloc (Below.refl _ _) _) (below_regrown _ _ _))
  obtain ⟨s0, s1, s2, s3, s4, s5, s6⟩ := seven_cells HX.out
  have t0 := cell_regrown s0
  have t1 := cell_regrown s1
  have t2 := cell_regrown s2
  have t3 := cell_regrown s3
  have t4 := cell_regrown s4
  have t5 := cell_regrown s5
  have t6 := cell_regrown s6
  clear HA s0 s1 s2 s3 s4 s5 s6
  by_cases hz : TE = 0
  · subst hz
    by_cases hr : r = 0 ∧ n = 0
    · obtain ⟨rfl, rfl⟩ := hr
      have HE : Hid (NU = true) := by show _ = _; rw [HF.out, HAN.out]; rfl
      have HR := Lib.hid idroot_yes
      clear HF HAN
      go_enter Tryz.func113, Tryz.ntmps113
      go_wp2_with fail
      refine wp_region_quiet_below (by kernel_rfl) (by kernel_rfl) ?_
      repeat (go_big_quiet_step (first | (go_at_call 82; exact Calls.regrown_of (HA2.out _ _ _)) | (go_at_call 121; exact Calls.regrown_of (HK.out _))))
      refine wpQuiet_nil ?_
      intro _ hw'
      obtain ⟨⟨dq, osq⟩, hw''⟩ := hw'
      subst hw'' 
      go_wp2_with fail
      refine (HR.out _).mono ?_
      rintro e w2 ⟨rfl, hb2⟩
      have HB : Hid (Below w.heap.size w w2) := below_step (below_step (below_alloc (Below.refl _ _) _) (below_regrown _ _ _)) hb2
      clear hb2
      go_wp2
      go_ret
      exact ⟨by rw [HE.out]; rfl, HB.out⟩
    · have HE : Hid (NU = rightN (r, n)) := by
        show _ = _
        rw [HF.out, HAN.out, decide_eq_true (rfl : (0 : Int) = 0), Bool.true_and]
        apply decide_eq_decide.2
        exact ⟨fun h => h.resolve_left hr, Or.inr⟩
      have HR := Lib.hid (idroot_no r n hr)
      have HI : Hid (∀ W : World, Calls Tryz.prog 122 #[.agg #[.int .u16 r, .int .u32 n]] W fun e w' => e = .returned (.bool (rightN (r, n))) ∧ Below W.heap.size W w') := idright_any (r, n)
      generalize rightN (r, n) = RN at HI HE
      clear HF HAN
      go_enter Tryz.func113, Tryz.ntmps113
      go_wp2_with fail
      refine wp_region_quiet_below (by kernel_rfl) (by kernel_rfl) ?_
      repeat (go_big_quiet_step (first | (go_at_call 82; exact Calls.regrown_of (HA2.out _ _ _)) | (go_at_call 121; exact Calls.regrown_of (HK.out _))))
      refine wpQuiet_nil ?_
      intro _ hw'
      obtain ⟨⟨dq, osq⟩, hw''⟩ := hw'
      subst hw'' 
      go_wp2_with fail
      refine (HR.out _).mono ?_
      rintro e w2 ⟨rfl, hb2⟩
      have HB : Hid (Below w.heap.size w w2) := below_step (below_step (below_alloc (Below.refl _ _) _) (below_regrown _ _ _)) hb2
      have HX2 := Lib.hid (kept_box HX.out (below_step (below_regrown _ dq osq) hb2))
      obtain ⟨d0, d1, d2, d3, d4, d5, d6⟩ := seven_cells HX2.out
      clear hb2 t0 t1 t2 t3 t4 t5 t6
      go_wp2_with fail
      refine (HI.out _).mono ?_
      rintro e w3 ⟨rfl, hb3⟩
      have HB3 : Hid (Below w.heap.size w w3) := below_step HB.out hb3
      clear hb3
      go_wp2
      go_ret
      exact ⟨by rw [HE.out]; rfl, HB3.out⟩
  · have HE : Hid (NU = false) := by show _ = _; rw [HF.out, decide_eq_false hz]; rfl
    have hz' := beq_no hz
    clear HF HAN
    go_enter Tryz.func113, Tryz.ntmps113
    go_wp2_with fail
    refine wp_region_quiet_below (by kernel_rfl) (by kernel_rfl) ?_
    repeat (go_big_quiet_step (first | (go_at_call 82; exact Calls.regrown_of (HA2.out _ _ _)) | (go_at_call 121; exact Calls.regrown_of (HK.out _))))
    refine wpQuiet_nil ?_
    intro _ hw'
    obtain ⟨⟨dq, osq⟩, hw''⟩ := hw'
    subst hw'' 
    go_wp2
    go_ret
    exact ⟨by rw [HE.out]; rfl, below_step (below_alloc (Below.refl _ _) _) (below_regrown _ _ _)⟩
/-- What comes, goes, or is undone: its error. -/
def contE (o : Om) : Int := if o.kind = 1 then textE o.text else if o.kind = 2 ∨ o.kind = 3 then fitL o.spans else if o.seq < 1 ∨ 268435456 < o.seq then 11 else 0

set_option maxHeartbeats 1600000 in
theorem content_any (HFS : FitSpec) (o : Om) (p : Option Addr) (c : Nat) (w : World) (H : InO o p c w) (ht : o.text.length ≤ 300) (hl : o.spans.length ≤ 1024) :
    Calls Tryz.prog 112 #[ov o p c] w fun e w' => e = .returned (.int .i64 (contE o)) ∧ Below w.heap.size w w' := by
  have HFT := Lib.hid (fun W => fittext_any o.text (by omega) W)
  have HSF : Hid (∀ W, Below w.heap.size w W → Calls Tryz.prog 120 #[.slice p o.spans.length c] W fun e w' => e = .returned (.int .i64 (fitL o.spans)) ∧ Below W.heap.size W w') := fun W hb => HFS o.spans p c W (H.row.below hb) H.fit.2.2.2.2.2.2.2.2.1 (by omega) H.cap H.nil
  have HC : Hid (contE o = if o.kind = 1 then textE o.text else if o.kind = 2 ∨ o.kind = 3 then fitL o.spans else if o.seq < 1 ∨ 268435456 < o.seq then 11 else 0) := rfl
  clear H
  obtain ⟨kind, r, n, num, text, spans, seq⟩ := o
  unfold ov
  simp only at *
  generalize contE ⟨kind, r, n, num, text, spans, seq⟩ = E at HC ⊢
  generalize textE text = TE at HC HFT
  generalize fitL spans = FE at HC HSF
  generalize (⟨text.toArray⟩ : ByteArray) = bt at HFT ⊢
  by_cases k1 : kind = 1
  · subst k1
    have HE : Hid (E = TE) := by show _ = _; rw [HC.out, if_pos rfl]
    clear HC HSF
    go_enter Tryz.func112, Tryz.ntmps112
    go_wp2_with fail
    refine (HFT.out _).mono ?_
    rintro e w1 ⟨rfl, he⟩
    obtain rfl := Eq.symm he
    go_wp2
    go_ret
    exact ⟨by rw [HE.out]; rfl, below_alloc (Below.refl _ _) _⟩
  · have k1' := beq_no k1
    by_cases k2 : kind = 2 ∨ kind = 3
    · have HN := Lib.hid (names_yes kind k2)
      have HE : Hid (E = FE) := by show _ = _; rw [HC.out, if_neg k1, if_pos k2]
      clear HC HFT
      go_enter Tryz.func112, Tryz.ntmps112
      go_wp2_with fail
      refine (HN.out _).mono ?_
      rintro e w1 ⟨rfl, he⟩
      obtain rfl := Eq.symm he
      go_wp2_with fail
      refine (HSF.out _ (below_alloc (Below.refl _ _) _)).mono ?_
      rintro e w2 ⟨rfl, hb2⟩
      have HB : Hid (Below w.heap.size w w2) := below_step (below_alloc (Below.refl _ _) _) hb2
      clear hb2
      go_wp2
      go_ret
      exact ⟨by rw [HE.out]; rfl, HB.out⟩
    · have HN := Lib.hid (names_no kind (by omega) (by omega))
      have HE0 : Hid (E = if seq < 1 ∨ 268435456 < seq then 11 else 0) := by show _ = _; rw [HC.out, if_neg k1, if_neg k2]
      clear HC HFT HSF
      by_cases s1 : seq < 1
      · have HE : Hid (E = 11) := by show _ = _; rw [HE0.out, if_pos (Or.inl s1)]
        go_enter Tryz.func112, Tryz.ntmps112
        go_wp2_with fail
        refine (HN.out _).mono ?_
        rintro e w1 ⟨rfl, he⟩
        obtain rfl := Eq.symm he
        go_wp2
        go_ret
        exact ⟨by rw [HE.out]; rfl, below_alloc (Below.refl _ _) _⟩
      · by_cases s2 : 268435456 < seq
        · have HE : Hid (E = 11) := by show _ = _; rw [HE0.out, if_pos (Or.inr s2)]
          go_enter Tryz.func112, Tryz.ntmps112
          go_wp2_with fail
          refine (HN.out _).mono ?_
          rintro e w1 ⟨rfl, he⟩
          obtain rfl := Eq.symm he
          go_wp2
          go_ret
          exact ⟨by rw [HE.out]; rfl, below_alloc (Below.refl _ _) _⟩
        · have HE : Hid (E = 0) := by show _ = _; rw [HE0.out, if_neg (by rintro (a | a); exact s1 a; exact s2 a)]
          go_enter Tryz.func112, Tryz.ntmps112
          go_wp2_with fail
          refine (HN.out _).mono ?_
          rintro e w1 ⟨rfl, he⟩
          obtain rfl := Eq.symm he
          go_wp2
          go_ret
          exact ⟨by rw [HE.out]; rfl, below_alloc (Below.refl _ _) _⟩
theorem fitO_steps (o : Om) : fitO o = if o.kind < 1 ∨ 5 < o.kind then 11 else if moreO o = true then 11 else if contE o ≠ 0 then contE o else if o.kind = 1 ∨ o.kind = 3 then (if numberedO o = false then 11 else 0) else 0 := by
  unfold fitO moreO contE
  by_cases k1 : o.kind = 1
  · simp only [if_pos k1]
    rw [if_neg (show ¬ (o.kind < 1 ∨ 5 < o.kind) by omega)]
    unfold textE
    by_cases a : 0 < o.spans.length ∨ o.seq ≠ 0
    · rw [if_pos (show 0 < o.spans.length ∨ o.seq ≠ 0 ∨ o.text = [] ∨ plainB o.text = false by rcases a with a | a; exact Or.inl a; exact Or.inr (Or.inl a)), if_pos (decide_eq_true a)]
    · rw [if_neg (show ¬ decide (0 < o.spans.length ∨ o.seq ≠ 0) = true by rw [decide_eq_false a]; simp)]
      by_cases b : o.text = [] ∨ plainB o.text = false
      · rw [if_pos (show 0 < o.spans.length ∨ o.seq ≠ 0 ∨ o.text = [] ∨ plainB o.text = false from Or.inr (Or.inr b))]
        simp only [if_pos b]
        rfl
      · rw [if_neg (show ¬ (0 < o.spans.length ∨ o.seq ≠ 0 ∨ o.text = [] ∨ plainB o.text = false) by rintro (x | x | x); exact a (Or.inl x); exact a (Or.inr x); exact b x)]
        simp only [if_neg b]
        by_cases d : 64 < o.text.length
        · simp only [if_pos d]
          rfl
        · simp only [if_neg d]
          rw [if_neg (show ¬ (0 : Int) ≠ 0 by simp), if_pos (show o.kind = 1 ∨ o.kind = 3 from Or.inl k1)]
  · simp only [if_neg k1]
    by_cases k2 : o.kind = 2
    · simp only [if_pos k2, if_pos (show o.kind = 2 ∨ o.kind = 3 from Or.inl k2)]
      rw [if_neg (show ¬ (o.kind < 1 ∨ 5 < o.kind) by omega)]
      by_cases a : placelessO o = false ∨ o.text ≠ [] ∨ o.seq ≠ 0
      · rw [if_pos (by rcases a with a | a | a; exact Or.inr (Or.inr a); exact Or.inl a; exact Or.inr (Or.inl a)), if_pos (decide_eq_true a)]
      · rw [if_neg (by rintro (x | x | x); exact a (Or.inr (Or.inl x)); exact a (Or.inr (Or.inr x)); exact a (Or.inl x)), if_neg (show ¬ decide _ = true by rw [decide_eq_false a]; simp)]
        by_cases b : fitL o.spans = 0
        · rw [if_neg (show ¬ fitL o.spans ≠ 0 by simpa using b), if_neg (show ¬ (o.kind = 1 ∨ o.kind = 3) by omega), b]
        · rw [if_pos b]
    · simp only [if_neg k2]
      by_cases k3 : o.kind = 3
      · simp only [if_pos k3, if_pos (show o.kind = 2 ∨ o.kind = 3 from Or.inr k3)]
        rw [if_neg (show ¬ (o.kind < 1 ∨ 5 < o.kind) by omega)]
        by_cases a : o.text ≠ [] ∨ o.seq ≠ 0
        · rw [if_pos a, if_pos (decide_eq_true a)]
        · rw [if_neg a, if_neg (show ¬ decide _ = true by rw [decide_eq_false a]; simp)]
          by_cases b : fitL o.spans ≠ 0
          · simp only [if_pos b]
          · simp only [if_neg b]
            rw [if_pos (show o.kind = 1 ∨ o.kind = 3 from Or.inr k3)]
      · simp only [if_neg k3, if_neg (show ¬ (o.kind = 2 ∨ o.kind = 3) by omega), if_neg (show ¬ (o.kind = 1 ∨ o.kind = 3) by omega)]
        by_cases k4 : o.kind = 4 ∨ o.kind = 5
        · rw [if_pos k4, if_neg (show ¬ (o.kind < 1 ∨ 5 < o.kind) by omega)]
          by_cases a : placelessO o = false ∨ o.text ≠ [] ∨ 0 < o.spans.length
          · rw [if_pos (by rcases a with a | a | a; exact Or.inr (Or.inr (Or.inl a)); exact Or.inl a; exact Or.inr (Or.inl a)), if_pos (decide_eq_true a)]
          · rw [if_neg (show ¬ decide _ = true by rw [decide_eq_false a]; simp)]
            by_cases b : o.seq < 1 ∨ 268435456 < o.seq
            · rw [if_pos (Or.inr (Or.inr (Or.inr b)))]
              simp only [if_pos b]
              rfl
            · rw [if_neg (by rintro (x | x | x | x); exact a (Or.inr (Or.inl x)); exact a (Or.inr (Or.inr x)); exact a (Or.inl x); exact b x)]
              simp only [if_neg b]
              rfl
        · rw [if_neg k4, if_pos (show o.kind < 1 ∨ 5 < o.kind by omega)]

set_option maxHeartbeats 3200000 in
theorem fitO_of (HFS : FitSpec) : FitOSpec := by
  intro o p c w H ht hl
  have HS := Lib.hid (fitO_steps o)
  have HM := Lib.hid (fun W => more_any o p c W)
  have HC : Hid (∀ W, Below w.heap.size w W → Calls Tryz.prog 112 #[ov o p c] W fun e w' => e = .returned (.int .i64 (contE o)) ∧ Below W.heap.size W w') := fun W hb => content_any HFS o p c W (H.below hb) ht hl
  have HP : Hid (contE o = 0 → o.kind = 1 ∨ o.kind = 3 → ∀ W, Below w.heap.size w W → Calls Tryz.prog 113 #[ov o p c] W fun e w' => e = .returned (.bool (numberedO o)) ∧ Below W.heap.size W w') := fun hc hk W hb => by
    unfold contE at hc
    rcases hk with hk | hk
    · refine placed_any o p c W (H.below hb) (fun k3 => absurd (hk.symm.trans k3) (by decide)) ht hl ?_
      unfold atomsO
      rw [if_pos hk]
      rw [if_pos hk] at hc
      unfold textE at hc
      by_cases e : o.text = []
      · rw [if_pos (Or.inl e)] at hc; cases hc
      · have : o.text.length ≠ 0 := fun h => e (List.eq_nil_of_length_eq_zero h)
        omega
    · rw [if_neg (by omega), if_pos (Or.inr hk)] at hc
      obtain ⟨a1, a2, a3⟩ := fitL_ok hc
      refine placed_any o p c W (H.below hb) (fun _ => ⟨a1, by omega⟩) ht hl ?_
      have := total_pos hc
      unfold atomsO
      rw [if_neg (by omega), if_pos hk]
      omega
  have HKY := Lib.hid (makes_yes o.kind)
  have HKN := Lib.hid (makes_no o.kind)
  clear H HFS
  obtain ⟨kind, r, n, num, text, spans, seq⟩ := o
  generalize fitO ⟨kind, r, n, num, text, spans, seq⟩ = FO at HS ⊢
  generalize moreO ⟨kind, r, n, num, text, spans, seq⟩ = MO at HS HM
  generalize contE ⟨kind, r, n, num, text, spans, seq⟩ = CE at HS HC HP
  generalize numberedO ⟨kind, r, n, num, text, spans, seq⟩ = NU at HS HP
  unfold ov at HM HC HP ⊢
  simp only at HS HM HC HP HKY HKN ⊢
  generalize (⟨text.toArray⟩ : ByteArray) = bt at HM HC HP ⊢
  by_cases k1 : kind < 1
  · have HE : Hid (FO = 11) := by show _ = _; rw [HS.out, if_pos (Or.inl k1)]
    clear HS HM HC HP HKY HKN
    go_enter Tryz.func97, Tryz.ntmps97
    go_wp2
    go_ret
    exact ⟨by rw [HE.out]; rfl, below_alloc (Below.refl _ _) _⟩
  · by_cases k5 : 5 < kind
    · have HE : Hid (FO = 11) := by show _ = _; rw [HS.out, if_pos (Or.inr k5)]
      clear HS HM HC HP HKY HKN
      go_enter Tryz.func97, Tryz.ntmps97
      go_wp2
      go_ret
      exact ⟨by rw [HE.out]; rfl, below_alloc (Below.refl _ _) _⟩
    · have HS1 : Hid (FO = if MO = true then 11 else if CE ≠ 0 then CE else if kind = 1 ∨ kind = 3 then (if NU = false then 11 else 0) else 0) := by show _ = _; rw [HS.out, if_neg (by omega)]
      clear HS
      have HX : Hid ((w.alloc (.cells #[.int .i64 kind, .int .u16 r, .int .u32 n, .int .u32 num, .string bt, .slice p spans.length c, .int .u32 seq] 79)).heap[w.heap.size]? = some (.cells #[.int .i64 kind, .int .u16 r, .int .u32 n, .int .u32 num, .string bt, .slice p spans.length c, .int .u32 seq] 79 (0, 0))) := heap_alloc_new w _
      cases MO with
      | true =>
        have HE : Hid (FO = 11) := by show _ = _; rw [HS1.out, if_pos rfl]
        clear HS1 HC HP HKY HKN
        go_enter Tryz.func97, Tryz.ntmps97
        go_wp2_with fail
        refine (HM.out _).mono ?_
        rintro e w1 ⟨rfl, hb1⟩
        have HB1 : Hid (Below w.heap.size w w1) := below_step (below_alloc (Below.refl _ _) _) hb1
        clear hb1
        go_wp2
        go_ret
        exact ⟨by rw [HE.out]; rfl, HB1.out⟩
      | false =>
        have HS2 : Hid (FO = if CE ≠ 0 then CE else if kind = 1 ∨ kind = 3 then (if NU = false then 11 else 0) else 0) := by show _ = _; rw [HS1.out, if_neg (by simp)]
        clear HS1
        go_enter Tryz.func97, Tryz.ntmps97
        go_wp2_with fail
        refine (HM.out _).mono ?_
        rintro e w1 ⟨rfl, hb1⟩
        have HB1 : Hid (Below w.heap.size w w1) := below_step (below_alloc (Below.refl _ _) _) hb1
        have HX1 := Lib.hid (kept_box HX.out hb1)
        obtain ⟨d0, d1, d2, d3, d4, d5, d6⟩ := seven_cells HX1.out
        clear hb1 HX
        go_wp2_with fail
        refine (HC.out _ HB1.out).mono ?_
        rintro e w2 ⟨rfl, hb2⟩
        have HB2 : Hid (Below w.heap.size w w2) := below_step HB1.out hb2
        have HX2 := Lib.hid (kept_box HX1.out hb2)
        clear hb2 d0 d1 d2 d3 d4 d5 d6 HX1
        obtain ⟨d0, d1, d2, d3, d4, d5, d6⟩ := seven_cells HX2.out
        by_cases ce : CE = 0
        · subst ce
          have HS3 : Hid (FO = if kind = 1 ∨ kind = 3 then (if NU = false then 11 else 0) else 0) := by show _ = _; rw [HS2.out, if_neg (by simp)]
          by_cases km : kind = 1 ∨ kind = 3
          · have HPK := Lib.hid (HP.out rfl km)
            have HKY2 := Lib.hid (HKY.out km)
            have HS4 : Hid (FO = if NU = false then 11 else 0) := by show _ = _; rw [HS3.out, if_pos km]
            clear HP HKY HKN HS2 HS3
            go_wp2_with fail
            refine (HKY2.out _).mono ?_
            rintro e w3 ⟨rfl, he⟩
            obtain rfl := Eq.symm he
            go_wp2_with fail
            refine (HPK.out _ HB2.out).mono ?_
            rintro e w4 ⟨rfl, hb4⟩
            have HB4 : Hid (Below w.heap.size w w4) := below_step HB2.out hb4
            clear hb4
            cases NU with
            | true =>
              go_wp2
              go_ret
              exact ⟨by rw [HS4.out]; rfl, HB4.out⟩
            | false =>
              go_wp2
              go_ret
              exact ⟨by rw [HS4.out]; rfl, HB4.out⟩
          · have HKN2 := Lib.hid (HKN.out (by omega) (by omega))
            have HS4 : Hid (FO = 0) := by show _ = _; rw [HS3.out, if_neg km]
            clear HP HKY HKN HS2 HS3
            go_wp2_with fail
            refine (HKN2.out _).mono ?_
            rintro e w3 ⟨rfl, he⟩
            obtain rfl := Eq.symm he
            go_wp2
            go_ret
            exact ⟨by rw [HS4.out]; rfl, HB2.out⟩
        · have ce1 := beq_no ce
          have ce2 := bne_no ce
          have HS4 : Hid (FO = CE) := by show _ = _; rw [HS2.out, if_pos ce]
          go_wp2
          go_ret
          exact ⟨by rw [HS4.out]; rfl, HB2.out⟩
end Go.Proofs.YtceanfpcddcfoaaGreat
/-
  What the program's ID, Key, Undoes and Atoms of layer 9 hand back. No conditions beyond what each theorem states.
-/
namespace Go.Proofs.YtceanfpcddcfoaaGreat
open Go.ChangeShapes Go.WideShapes Go.ChangeAt Go.RowKit Go.Lib
set_option linter.unusedVariables false
set_option linter.unusedSimpArgs false

theorem szTK : (Tryz.prog.info? 114).map (·.size) = some 3 := by kernel_rfl
theorem only_two (w : World) (B : Nat) (a b : Value) : Only B w ((w.setCell ⟨B, 0, none⟩ a).setCell ⟨B, 1, none⟩ b) := (only_set w B 0 a).trans (only_set _ B 1 b)
theorem only_new {w W W' : World} {X : Nat} (hb : Below w.heap.size w W) (ho : Only X W W') (hX : w.heap.size ≤ X) : Below w.heap.size w W' := hb.trans (ho.below hb.size (fun k ek => by have ek : k = X := ek; omega))
set_option maxHeartbeats 800000 in
/-- Function 57. -/
theorem keyT_spec : KeyTSpec := by
  intro t p c n w
  unfold tv
  generalize t.ops.length = L
  have HX := Lib.hid (heap_alloc2_new w (.cells #[.int .u16 t.r, .int .u32 t.seq, .int .u64 t.clock, .int .i64 t.user, .slice p L c] 29) (.cells #[.int .u64 0, .int .u16 0, .int .u32 0] 114))
  go_enter Tryz.func57, Tryz.ntmps57
  go_wp2
  (try simp only [Exit.inBlock, Exit.then])
  refine bodyPost_ret (results_cell_row rfl _ _ (w.heap.size + 1) 114 #[.int .u64 t.clock, .int .u16 t.r, .int .u32 n] (0, 0) _ rfl (heap_alloc2_new w _ _) Tryz.underlying114 rfl szTK) rfl ?_
  exact ⟨rfl, below_alloc (below_alloc (Below.refl _ _) _) _⟩
set_option maxHeartbeats 6400000 in
set_option maxRecDepth 20000 in
theorem atomsT_any (t : Tm) (xs : List OV) (p : Option Addr) (c : Nat) (w : World) (H : InT t xs p c w) (hs : SmallX xs) (h0 : fitT t = 0) :
    Calls Tryz.prog 56 #[tv t p c] w fun e w' => e = .returned (.int .i64 (atomsL t.ops)) ∧ Below w.heap.size w w' := by
  have hlen : t.ops.length = xs.length := by rw [H.ops, List.length_map]
  have HR := Lib.hid H.row.row
  have HDR : Hid (∀ k, k < xs.length → t.ops.drop k = (xs.getD k ov0).1 :: t.ops.drop (k + 1)) := fun k hk => drop_ops H.ops hk
  have HFI : Hid (∀ k, k < xs.length → FitOm (xs.getD k ov0).1) := fun k hk => (H.row.at hk).fit
  have HTV : Hid (∀ p c, tv t p c = .agg #[.int .u16 t.r, .int .u32 t.seq, .int .u64 t.clock, .int .i64 t.user, .slice p xs.length c]) := fun p c => by unfold tv; rw [hlen]
  have HOK := fitOs_ok t.ops (-1) (fitT_ok h0).2.2.2.2.2.2.2.2
  have hl16 : xs.length ≤ 16 := by have := (fitT_ok h0).2.2.2.2.2.2.2.1; omega
  have HFO : Hid (∀ k, k < xs.length → fitO (xs.getD k ov0).1 = 0) := fun k hk => (HOK _ (by rw [H.ops]; exact List.mem_map.2 ⟨_, getD_mem ov0 hk, rfl⟩)).1
  have HAT : Hid (∀ k, k < xs.length → ∀ W, Below w.heap.size w W → Calls Tryz.prog 82 #[ov (xs.getD k ov0).1 (xs.getD k ov0).2.1 (xs.getD k ov0).2.2] W fun e w' => e = .returned (.int .i64 (atomsO (xs.getD k ov0).1)) ∧ Below W.heap.size W w') := fun k hk W hb => atoms_spec _ _ _ W ((H.row.at hk).below hb) (hs.at hk).1 (hs.at hk).2 (HFO.out k hk)
  have HTK : Hid (∀ k, k < xs.length → atomsL (t.ops.take (k + 1)) = atomsL (t.ops.take k) + atomsO (xs.getD k ov0).1) := fun k hk => by
    have hk' : k < t.ops.length := by omega
    rw [take_getD o0 hk', atomsL_append, H.ops, getD_map1 xs hk, atomsL_cons, atomsL_nil, Int.add_zero]
  have HRG : Hid (∀ k, k ≤ xs.length → 0 ≤ atomsL (t.ops.take k) ∧ atomsL (t.ops.take k) ≤ k * 1024) := fun k => by
    induction k with
    | zero => intro _; rw [List.take_zero, atomsL_nil]; exact ⟨Int.le_refl _, by omega⟩
    | succ k ih =>
      intro hk
      have i := ih (by omega)
      have r := atoms_range (HFO.out k (by omega)) (HFI.out k (by omega))
      rw [HTK.out k (by omega)]
      omega
  clear H HOK h0
  rw [HTV.out]
  go_enter Tryz.func56, Tryz.ntmps56
  go_wp2
  have HX := Lib.hid (heap_alloc_new w (.cells #[.int .u16 t.r, .int .u32 t.seq, .int .u64 t.clock, .int .i64 t.user, .slice p xs.length c] 29))
  go_loopg [3, 9] xs.length (fun g a i wr => ∃ k : Nat, k ≤ xs.length ∧ xs.length - k ≤ g ∧ i = .int .i64 (k : Int) ∧ a = .int .i64 (atomsL (t.ops.take k)) ∧ Below (w.alloc (.cells #[.int .u16 t.r, .int .u32 t.seq, .int .u64 t.clock, .int .i64 t.user, .slice p xs.length c] 29)).heap.size (w.alloc (.cells #[.int .u16 t.r, .int .u32 t.seq, .int .u64 t.clock, .int .i64 t.user, .slice p xs.length c] 29)) wr)
  case atStart => exact ⟨0, Nat.zero_le _, by omega, rfl, by rw [List.take_zero, atomsL_nil], Below.refl _ _⟩
  case round =>
    obtain ⟨k, hk, hg, rfl, rfl, hB⟩ := hrel
    have HB := Lib.hid hB
    have HBW : Hid (Below w.heap.size w wr) := below_step (below_alloc (Below.refl _ _) _) HB.out
    obtain ⟨z0, z1, z2, z3, z4⟩ := five_cells (kept_box HX.out HB.out)
    clear hB
    have hrg := HRG.out k hk
    by_cases hlt : k < xs.length
    · have hkl : (k : Int) < (xs.length : Int) := by omega
      have HTKk := Lib.hid (HTK.out k hlt)
      have HATk := Lib.hid (fun (A : Obj) => HAT.out k hlt (wr.alloc A) (below_alloc HBW.out A))
      have hrk := atoms_range (HFO.out k hlt) (HFI.out k hlt)
      obtain ⟨b, o, rfl, c0, c1, c2, c3, c4, c5, c6⟩ := orow_at (HR.out.below HBW.out) hlt
      generalize atomsL (t.ops.take k) = A at HTKk hrg
      generalize xs.getD k ov0 = x at c0 c1 c2 c3 c4 c5 c6 HTKk HATk hrk
      obtain ⟨om, px, cx⟩ := x
      simp only at c0 c1 c2 c3 c4 c5 c6 HTKk HATk hrk
      have HOM : Hid (∀ p c, ov om p c = .agg #[.int .i64 om.kind, .int .u16 om.r, .int .u32 om.n, .int .u32 om.num, .string ⟨om.text.toArray⟩, .slice p om.spans.length c, .int .u32 om.seq]) := fun p c => rfl
      rw [HOM.out] at HATk
      generalize (⟨om.text.toArray⟩ : ByteArray) = bt at c4 HATk HOM
      have hw : IntKind.i64.wrap (A + atomsO om) = A + atomsO om := by rw [IntKind.wrap_i64]; omega
      generalize atomsO om = AO at HTKk HATk hrk hw
      go_wp2_with fail
      refine (HATk.out _).mono ?_
      rintro e w1 ⟨rfl, hb1⟩
      have HB1 := Lib.hid (below_step (below_alloc HB.out _) hb1)
      clear hb1
      go_wp2
      go_roundg (xs.length - (k + 1))
      case measure => omega
      case rel => exact ⟨k + 1, by omega, Nat.le_refl _, by go_num, by rw [HTKk.out], HB1.out⟩
    · have : k = xs.length := by omega
      subst this
      have hkl : ¬ (xs.length : Int) < (xs.length : Int) := by omega
      have HLA : Hid (t.ops.take xs.length = t.ops) := by show _ = _; rw [← hlen, List.take_length]
      rw [HLA.out]
      go_wp2
      go_ret
      exact ⟨rfl, HBW.out⟩

/-- Function 56. -/
theorem atomsT_spec : AtomsTSpec := fun t xs p c w H hs h0 => atomsT_any t xs p c w H hs h0
end Go.Proofs.YtceanfpcddcfoaaGreat
/-
  What the program's Put of layer 7 leaves. No conditions beyond what each theorem states.
-/
namespace Go.Proofs.YtceanfpcddcfoaaGreat
open Go.ChangeShapes Go.WideShapes Go.ChangeAt Go.RowKit Go.Lib
set_option linter.unusedVariables false
set_option linter.unusedSimpArgs false

theorem Wr.below {B K : Nat} {v : Value} {bs : List UInt8} {w w' : World} (h : Wr B K v bs w) (hb : Below w.heap.size w w') : Wr B K v bs w' :=
  ⟨h.base, Nat.le_trans h.room hb.size, by rw [hb.block K (lt_of_block h.box)]; exact h.box, h.row.kept (row := none) ⟨hb.os, hb.tape, hb.output, hb.size, fun k hk _ => hb.block k hk⟩ (by cases v.ownBlock <;> simp)⟩
/-- A step of a writer that leaves a variable as it was. -/
theorem box_wrote {K X : Nat} {v : Value} {w w' : World} {o : Obj} (h : w.heap[X]? = some o) (hK : X ≠ K) (hv : v.ownBlock ≠ some X) (hk : Kept (fun k => k = K ∨ v.ownBlock = some k) w w') : w'.heap[X]? = some o := hk.stays h (by rintro (e | e); exact hK e; exact hv e)
theorem own_wrote {X : Nat} {v v' : Value} {w : World} {o : Obj} (h : w.heap[X]? = some o) (hv : v.ownBlock ≠ some X) (hv' : v'.ownBlock = v.ownBlock ∨ ∃ g, v'.ownBlock = some g ∧ w.heap.size ≤ g) : v'.ownBlock ≠ some X := by
  rcases hv' with e | ⟨g, e, hg⟩
  · rw [e]; exact hv
  · rw [e]
    intro ee
    injection ee with ee
    have := lt_of_block h
    omega
/-- Put, for a writer that has up to 200,000 bytes already. -/
def PutWide : Prop := ∀ (B K : Nat) (v : Value) (bs : List UInt8) (l : List Sp) (p : Option Addr) (c : Nat) (w : World), Wr B K v bs w → GRow layS w p l → (0 < l.length → ∀ q, p = some q → q.block < B) → RightS l → FitSs l → l.length ≤ 1024 → bs.length ≤ 200000 → Calls Tryz.prog 92 #[.pointer (some ⟨K, 0, none⟩), .slice p l.length c] w fun e w' => e = .returned (.tuple #[]) ∧ Wrote B K v bs (bytesL l) w w'
set_option maxHeartbeats 3200000 in
set_option maxRecDepth 20000 in
theorem put_wide : PutWide := by
  intro B K v bs l p c w hW hR hq hr hf hl hb
  have HW := Lib.hid hW
  have HR := Lib.hid hR
  have HQ := Lib.hid hq
  have HRT := Lib.hid hr
  have HF := Lib.hid hf
  have hll : l.length < 18446744073709551616 := by omega
  have H0 := Lib.hid (wnum_any B K v bs l.length hll w hW (by omega))
  have hm : l.length % 9223372036854775808 = l.length := by omega
  rw [hm] at H0
  have HG : Hid (∀ w', Kept (fun k => k = K ∨ v.ownBlock = some k) w w' → 0 < l.length → GRow layS w' p l) := fun w' hk h0 => hR.kept hk (fun q e => by
    have hqB := hq h0 q e
    have hbK := hW.base
    rintro (e' | e')
    · omega
    · have := (hW.row.lt _ e').1; omega)
  have HLN : Hid (∀ k, k ≤ l.length → (encN l.length ++ (l.take k).flatMap bytesS).length ≤ 40000) := fun k hk => by
    have h1 := bytesL_len (l := l.take k) (fun x hx => hf x (List.mem_of_mem_take hx)) (by rw [List.length_take]; omega)
    have h2 := encN_len (n := l.length) (by omega)
    unfold bytesL at h1
    rw [List.length_append] at h1 ⊢
    rw [List.length_take] at h1
    omega
  have hw64 : IntKind.u64.wrap (l.length : Int) = (l.length : Int) := by rw [IntKind.wrap_u64]; omega
  clear hW hR hq hr hf hm
  go_enter Tryz.func92, Tryz.ntmps92
  go_wp2_with fail
  refine H0.out.mono ?_
  rintro e w1 ⟨rfl, hw1⟩
  have HW1 := Lib.hid hw1
  clear hw1 H0
  go_wp2
  go_loopg [13] l.length (fun g i wr => ∃ k : Nat, k ≤ l.length ∧ l.length - k ≤ g ∧ i = .int .i64 (k : Int) ∧ Wrote B K v bs (encN l.length ++ (l.take k).flatMap bytesS) w wr)
  case atStart => exact ⟨0, Nat.zero_le _, by omega, rfl, by simpa using HW1.out⟩
  case round =>
    clear HW1
    obtain ⟨k, hk, hg, rfl, v1, hW1, hv1, hk1⟩ := hrel
    by_cases hlt : k < l.length
    · have hln := HLN.out k hk
      obtain ⟨b, o, rfl, c0, c1, c2⟩ := srow_at (HG.out wr hk1 (by omega)) hlt
      have hfs := HF.out.at hlt
      have hrs := rightS_iff.1 (HRT.out.at hlt)
      have HNX : Hid ((l.take (k + 1)).flatMap bytesS = (l.take k).flatMap bytesS ++ bytesS (l.getD k s0)) := by show _ = _; rw [take_getD s0 hlt]; simp
      unfold FitS at hfs
      generalize (l.getD k s0) = s at c0 c1 c2 hfs hrs HNX
      obtain ⟨r, n, m⟩ := s
      simp only at c0 c1 c2 hfs hrs
      obtain ⟨R, rfl⟩ : ∃ R : Nat, r = (R : Int) := ⟨r.toNat, by omega⟩
      obtain ⟨N, rfl⟩ : ∃ N : Nat, n = (N : Int) := ⟨n.toNat, by omega⟩
      obtain ⟨M, rfl⟩ : ∃ M : Nat, m = (M : Int) := ⟨m.toNat, by omega⟩
      have HNX : Hid ((l.take (k + 1)).flatMap bytesS = (l.take k).flatMap bytesS ++ (encN R ++ encN N ++ encN M)) := by show _ = _; rw [HNX.out]; unfold bytesS; simp
      generalize (l.take k).flatMap bytesS = cs at hW1 HNX hln
      have e1 : (encN R).length ≤ 9 := encN_len (n := R) (by omega)
      have e2 : (encN N).length ≤ 9 := encN_len (n := N) (by omega)
      have HW1 := Lib.hid hW1
      have HV1 := Lib.hid hv1
      have HK1 := Lib.hid hk1
      have hXK : wr.heap.size ≠ K := by have := lt_of_block hW1.box; omega
      have hXv : v1.ownBlock ≠ some wr.heap.size := fun e => by have := (hW1.row.lt _ e).2; omega
      clear hW1 hv1 hk1
      have HA := Lib.hid (fun (o : Obj) => wnum_any B K v1 (bs ++ (encN l.length ++ cs)) R (by omega) (wr.alloc o) (HW1.out.below (below_alloc (Below.refl _ _) o)) (by rw [List.length_append]; omega))
      have hm1 : R % 9223372036854775808 = R := by omega
      have hm2 : N % 9223372036854775808 = N := by omega
      have hm3 : M % 9223372036854775808 = M := by omega
      rw [hm1] at HA
      have z1 : IntKind.u64.wrap (R : Int) = (R : Int) := by rw [IntKind.wrap_u64]; omega
      have z2 : IntKind.u64.wrap (N : Int) = (N : Int) := by rw [IntKind.wrap_u64]; omega
      have z3 : IntKind.u64.wrap (M : Int) = (M : Int) := by rw [IntKind.wrap_u64]; omega
      go_wp2_with fail
      refine (HA.out _).mono ?_
      rintro e w2 ⟨rfl, v2, hW2, hv2, hk2⟩
      have hX2 := box_wrote (heap_alloc_new wr _) hXK hXv hk2
      have hXv2 := own_wrote (heap_alloc_new wr _) hXv hv2
      obtain ⟨d0, d1, d2⟩ := three_cells hX2
      have HX2 := Lib.hid hX2
      have HW2 := Lib.hid hW2
      have HV2 := Lib.hid hv2
      have HK2 := Lib.hid hk2
      have HB2 := Lib.hid (wnum_any B K v2 _ N (by omega) w2 hW2 (by simp only [List.length_append] at hln ⊢; omega))
      rw [hm2] at HB2
      clear hX2 hW2 hv2 hk2 HA c0 c1 c2
      go_wp2_with fail
      refine HB2.out.mono ?_
      rintro e w3 ⟨rfl, v3, hW3, hv3, hk3⟩
      have hX3 := box_wrote HX2.out hXK hXv2 hk3
      have hXv3 := own_wrote HX2.out hXv2 hv3
      obtain ⟨f0, f1, f2⟩ := three_cells hX3
      have HV3 := Lib.hid hv3
      have HK3 := Lib.hid hk3
      have HB3 := Lib.hid (wnum_any B K v3 _ M (by omega) w3 hW3 (by simp only [List.length_append] at hln ⊢; omega))
      rw [hm3] at HB3
      clear hX3 hW3 hv3 hk3 HB2 d0 d1 d2
      go_wp2_with fail
      refine HB3.out.mono ?_
      rintro e w4 ⟨rfl, hw4⟩
      have HW4 : Hid (Wrote B K v bs (encN l.length ++ (l.take (k + 1)).flatMap bytesS) w w4) := by
        show Wrote _ _ _ _ _ _ _
        have s3 := Wr.step HK3.out HV3.out hw4
        have s2 := Wr.step (w := wr) ((Kept.ofBelow (below_alloc (Below.refl _ _) _)).trans HK2.out (fun _ _ h => h)) (HV2.out.imp id fun ⟨g, a, b⟩ => ⟨g, a, by simp at b; omega⟩) s3
        have s1 := Wr.step HK1.out HV1.out s2
        rw [HNX.out]
        simpa [List.append_assoc] using s1
      clear hw4 HB3
      go_wp2
      go_roundg (l.length - (k + 1))
      case measure => omega
      case rel => exact ⟨k + 1, by omega, Nat.le_refl _, by go_num, HW4.out⟩
    · have : k = l.length := by omega
      subst this
      have HWE : Hid (Wrote B K v bs (bytesL l) w wr) := ⟨v1, by rw [List.take_length] at hW1; exact hW1, hv1, hk1⟩
      clear hW1 hv1 hk1
      go_wp2
      go_end0
      exact ⟨rfl, HWE.out⟩
theorem put_spec : PutSpec := fun B K v bs l p c w h1 h2 h3 h4 h5 h6 h7 => put_wide B K v bs l p c w h1 h2 h3 h4 h5 h6 (by omega)
end Go.Proofs.YtceanfpcddcfoaaGreat
/-
  What the program's Put of layer 8 leaves. No conditions beyond what each theorem states.
-/
namespace Go.Proofs.YtceanfpcddcfoaaGreat
open Go.ChangeShapes Go.WideShapes Go.ChangeAt Go.RowKit Go.Lib
set_option linter.unusedVariables false
set_option linter.unusedSimpArgs false

/-- A writer that has written cs, beside a variable of the call's own that stays as it was. -/
def WBx (B K : Nat) (v : Value) (bs : List UInt8) (X : Nat) (o : Obj) (cs : List UInt8) (w wr : World) : Prop := X ≠ K ∧ wr.heap[X]? = some o ∧ ∃ v', v'.ownBlock ≠ some X ∧ Wr B K v' (bs ++ cs) wr ∧ (v'.ownBlock = v.ownBlock ∨ ∃ g, v'.ownBlock = some g ∧ w.heap.size ≤ g) ∧ Kept (fun k => k = K ∨ v.ownBlock = some k) w wr
theorem WBx.start {B K : Nat} {v : Value} {bs : List UInt8} {w : World} (h : Wr B K v bs w) (o : Obj) : WBx B K v bs w.heap.size o [] w (w.alloc o) :=
  ⟨fun e => by have := lt_of_block h.box; omega, heap_alloc_new w o, v, fun e => by have := (h.row.lt _ e).2; omega, by rw [List.append_nil]; exact h.below (below_alloc (Below.refl _ _) o), Or.inl rfl, Kept.ofBelow (below_alloc (Below.refl _ _) o)⟩
theorem WBx.wrote {B K : Nat} {v : Value} {bs : List UInt8} {X : Nat} {o : Obj} {cs : List UInt8} {w wr : World} (h : WBx B K v bs X o cs w wr) : Wrote B K v bs cs w wr := by
  obtain ⟨_, _, v', _, h1, h2, h3⟩ := h
  exact ⟨v', h1, h2, h3⟩
theorem WBx.step {B K : Nat} {v : Value} {bs : List UInt8} {X : Nat} {o : Obj} {cs ds : List UInt8} {w wr : World} {f : FuncId} {args : Array Value} {r : Ending} (h : WBx B K v bs X o cs w wr) (H : ∀ v', Wr B K v' (bs ++ cs) wr → Calls Tryz.prog f args wr fun e w' => e = r ∧ Wrote B K v' (bs ++ cs) ds wr w') :
    Calls Tryz.prog f args wr fun e w' => e = r ∧ WBx B K v bs X o (cs ++ ds) w w' := by
  obtain ⟨hXK, hX, v', hXv, hW, hv, hk⟩ := h
  refine (H v' hW).mono ?_
  rintro e w2 ⟨rfl, v2, hW2, hv2, hk2⟩
  refine ⟨rfl, hXK, box_wrote hX hXK hXv hk2, v2, own_wrote hX hXv hv2, by rw [← List.append_assoc]; exact hW2, ?_, hk.trans hk2 ?_⟩
  · rcases hv2 with e | ⟨g, e, hg⟩
    · rcases hv with e2 | ⟨g, e2, hg⟩
      · exact Or.inl (e.trans e2)
      · exact Or.inr ⟨g, e.trans e2, hg⟩
    · exact Or.inr ⟨g, e, Nat.le_trans hk.size hg⟩
  · rintro i hi (rfl | e)
    · exact Or.inl rfl
    · rcases hv with e2 | ⟨g, e2, hg⟩
      · exact Or.inr (e2 ▸ e)
      · rw [e2] at e; cases e; omega
theorem wnum_box {B K : Nat} {v : Value} {bs : List UInt8} {X : Nat} {o : Obj} {cs : List UInt8} {w wr : World} (n : Nat) (hn : n < 9223372036854775808) (h : WBx B K v bs X o cs w wr) (hb : bs.length ≤ 100000) (hc : cs.length ≤ 100000) :
    Calls Tryz.prog 62 #[.pointer (some ⟨K, 0, none⟩), .int .u64 (n : Int)] wr fun e w' => e = .returned (.tuple #[]) ∧ WBx B K v bs X o (cs ++ encN n) w w' :=
  h.step fun v' hW => by
    have := wnum_any B K v' (bs ++ cs) n (by omega) wr hW (by rw [List.length_append]; omega)
    rwa [Nat.mod_eq_of_lt hn] at this
theorem wtext_box {B K : Nat} {v : Value} {bs : List UInt8} {X : Nat} {o : Obj} {cs : List UInt8} {w wr : World} (s : List UInt8) (hs : s.length ≤ 90000) (h : WBx B K v bs X o cs w wr) (hb : bs.length ≤ 100000) (hc : cs.length ≤ 100000) :
    Calls Tryz.prog 90 #[.pointer (some ⟨K, 0, none⟩), .string ⟨s.toArray⟩] wr fun e w' => e = .returned (.tuple #[]) ∧ WBx B K v bs X o (cs ++ encT s) w w' :=
  h.step fun v' hW => wtext_any B K v' (bs ++ cs) s wr hW (by rw [List.length_append]; omega) hs
theorem wspans_box {B K : Nat} {v : Value} {bs : List UInt8} {X : Nat} {o : Obj} {cs : List UInt8} {w wr : World} (l : List Sp) (p : Option Addr) (c : Nat) (hW : Wr B K v bs w) (hR : GRow layS w p l) (hq : 0 < l.length → ∀ q, p = some q → q.block < B) (hr : RightS l) (hf : FitSs l) (hl : l.length ≤ 1024) (h0 : 0 < l.length) (h : WBx B K v bs X o cs w wr) (hb : bs.length ≤ 100000) (hc : cs.length ≤ 100000) :
    Calls Tryz.prog 92 #[.pointer (some ⟨K, 0, none⟩), .slice p l.length c] wr fun e w' => e = .returned (.tuple #[]) ∧ WBx B K v bs X o (cs ++ bytesL l) w w' :=
  h.step fun v' hW' => by
    refine put_wide B K v' (bs ++ cs) l p c wr hW' ?_ hq hr hf hl (by rw [List.length_append]; omega)
    exact hR.kept h.2.2.choose_spec.2.2.2 (fun q e => by
      have hqB := hq h0 q e
      have hbK := hW.base
      rintro (e' | e')
      · omega
      · have := (hW.row.lt _ e').1; omega)

set_option maxHeartbeats 3200000 in
set_option maxRecDepth 20000 in
theorem putO_spec : PutOSpec := by
  intro B K v bs o p c w hW hI hq ht hl h0 hb
  have hc := fitO_cases h0
  have HW := Lib.hid hW
  have HR := Lib.hid hI.row
  have HQ := Lib.hid hq
  have hf := hI.fit
  clear hW hI hq h0
  unfold FitOm at hf
  obtain ⟨f1, f2, f3, f4, f5, f6, f7, f8, f9, f10, f11⟩ := hf
  have HF9 := Lib.hid f9
  clear f9
  obtain ⟨kind, r, n, num, text, spans, seq⟩ := o
  unfold ov
  simp only at f1 f2 f3 f4 f5 f6 f7 f8 f10 f11 ht hl HR HQ HF9 hc ⊢
  rcases hc with h | h | h | h
  · obtain ⟨rfl, rfl, rfl, -, -, ht2, hn⟩ := h
    obtain ⟨R, rfl⟩ : ∃ R : Nat, r = (R : Int) := ⟨r.toNat, by omega⟩
    have eR : (encN R).length ≤ 9 := encN_len (n := R) (by omega)
    have zR : IntKind.u64.wrap (R : Int) = (R : Int) := by rw [IntKind.wrap_u64]; omega
    obtain ⟨N, rfl⟩ : ∃ N : Nat, n = (N : Int) := ⟨n.toNat, by omega⟩
    have eN : (encN N).length ≤ 9 := encN_len (n := N) (by omega)
    have zN : IntKind.u64.wrap (N : Int) = (N : Int) := by rw [IntKind.wrap_u64]; omega
    obtain ⟨M, rfl⟩ : ∃ M : Nat, num = (M : Int) := ⟨num.toNat, by omega⟩
    have eM : (encN M).length ≤ 9 := encN_len (n := M) (by omega)
    have zM : IntKind.u64.wrap (M : Int) = (M : Int) := by rw [IntKind.wrap_u64]; omega
    have HBY : Hid (bytesO ⟨1, (R : Int), (N : Int), (M : Int), text, [], 0⟩ = encN 1 ++ encN R ++ encN N ++ encN M ++ encT text) := by show _ = _; unfold bytesO; simp [List.append_assoc]
    clear hn
    have HM := Lib.hid (makes_yes 1 (Or.inl rfl))
    have HN := Lib.hid (names_no 1 (by decide) (by decide))
    have HT := Lib.hid (turns_no 1 (Or.inl rfl))
    have ek : (encN 1).length ≤ 9 := encN_len (n := 1) (by decide)
    have H0 := Lib.hid (fun (o : Obj) => wnum_box 1 (by decide) (WBx.start HW.out o) (by omega) (by simp))
    simp only [List.nil_append] at H0
    go_enter Tryz.func63, Tryz.ntmps63
    go_wp2_with fail
    refine (H0.out _).mono ?_
    rintro e w1 ⟨rfl, hs1⟩
    have S1 := Lib.hid hs1
    obtain ⟨d0, d1, d2, d3, d4, d5, d6⟩ := seven_cells hs1.2.1
    clear hs1
    go_wp2_with fail
    refine (HM.out _).mono ?_
    rintro e w2 ⟨rfl, he⟩
    obtain rfl := Eq.symm he
    have C1 := Lib.hid (wnum_box R (by omega) S1.out (by omega) (by omega))
    go_wp2_with fail
    refine (C1.out).mono ?_
    rintro e w3 ⟨rfl, hs3⟩
    have S3 := Lib.hid hs3
    obtain ⟨d0, d1, d2, d3, d4, d5, d6⟩ := seven_cells hs3.2.1
    clear hs3
    have C2 := Lib.hid (wnum_box N (by omega) S3.out (by omega) (by simp only [List.length_append] at *; omega))
    go_wp2_with fail
    refine (C2.out).mono ?_
    rintro e w4 ⟨rfl, hs4⟩
    have S4 := Lib.hid hs4
    obtain ⟨d0, d1, d2, d3, d4, d5, d6⟩ := seven_cells hs4.2.1
    clear hs4
    have C3 := Lib.hid (wnum_box M (by omega) S4.out (by omega) (by simp only [List.length_append] at *; omega))
    go_wp2_with fail
    refine (C3.out).mono ?_
    rintro e w5 ⟨rfl, hs5⟩
    have S5 := Lib.hid hs5
    obtain ⟨d0, d1, d2, d3, d4, d5, d6⟩ := seven_cells hs5.2.1
    clear hs5
    have C4 := Lib.hid (wtext_box text (by omega) S5.out (by omega) (by simp only [List.length_append] at *; omega))
    generalize hbt : (⟨text.toArray⟩ : ByteArray) = bt at *
    go_wp2_with fail
    refine (C4.out).mono ?_
    rintro e w6 ⟨rfl, hs6⟩
    have S6 := Lib.hid hs6
    obtain ⟨d0, d1, d2, d3, d4, d5, d6⟩ := seven_cells hs6.2.1
    clear hs6
    go_wp2_with fail
    refine (HN.out _).mono ?_
    rintro e w7 ⟨rfl, he⟩
    obtain rfl := Eq.symm he
    go_wp2_with fail
    refine (HT.out _).mono ?_
    rintro e w8 ⟨rfl, he⟩
    obtain rfl := Eq.symm he
    go_wp2
    go_end0
    exact ⟨rfl, by rw [HBY.out]; exact S6.out.wrote⟩
  · obtain ⟨rfl, rfl, rfl, hp, hfl⟩ := h
    have hp := of_decide_eq_true hp
    simp only at hp
    obtain ⟨rfl, rfl, rfl⟩ := hp
    obtain ⟨a1, a2, a3⟩ := fitL_ok hfl
    have h0 : 0 < spans.length := by
      rcases Nat.eq_zero_or_pos spans.length with e | e
      · unfold fitL at hfl; rw [if_pos e] at hfl; cases hfl
      · exact e
    have A1 := Lib.hid a1
    clear a1 hfl a2
    have HBY : Hid (bytesO ⟨2, 0, 0, 0, [], spans, 0⟩ = encN 2 ++ bytesL spans) := by show _ = _; unfold bytesO; simp
    have HM := Lib.hid (makes_no 2 (by decide) (by decide))
    have HN := Lib.hid (names_yes 2 (Or.inl rfl))
    have HT := Lib.hid (turns_no 2 (Or.inr (Or.inl rfl)))
    have ek : (encN 2).length ≤ 9 := encN_len (n := 2) (by decide)
    have H0 := Lib.hid (fun (o : Obj) => wnum_box 2 (by decide) (WBx.start HW.out o) (by omega) (by simp))
    simp only [List.nil_append] at H0
    go_enter Tryz.func63, Tryz.ntmps63
    go_wp2_with fail
    refine (H0.out _).mono ?_
    rintro e w1 ⟨rfl, hs1⟩
    have S1 := Lib.hid hs1
    obtain ⟨d0, d1, d2, d3, d4, d5, d6⟩ := seven_cells hs1.2.1
    clear hs1
    go_wp2_with fail
    refine (HM.out _).mono ?_
    rintro e w2 ⟨rfl, he⟩
    obtain rfl := Eq.symm he
    go_wp2_with fail
    refine (HN.out _).mono ?_
    rintro e w3 ⟨rfl, he⟩
    obtain rfl := Eq.symm he
    have C1 := Lib.hid (wspans_box spans p c HW.out HR.out HQ.out A1.out HF9.out (by omega) h0 S1.out (by omega) (by omega))
    go_wp2_with fail
    refine (C1.out).mono ?_
    rintro e w4 ⟨rfl, hs4⟩
    have S4 := Lib.hid hs4
    obtain ⟨d0, d1, d2, d3, d4, d5, d6⟩ := seven_cells hs4.2.1
    clear hs4
    go_wp2_with fail
    refine (HT.out _).mono ?_
    rintro e w5 ⟨rfl, he⟩
    obtain rfl := Eq.symm he
    go_wp2
    go_end0
    exact ⟨rfl, by rw [HBY.out]; exact S4.out.wrote⟩
  · obtain ⟨rfl, rfl, rfl, hfl, hn⟩ := h
    obtain ⟨a1, a2, a3⟩ := fitL_ok hfl
    have h0 : 0 < spans.length := by
      rcases Nat.eq_zero_or_pos spans.length with e | e
      · unfold fitL at hfl; rw [if_pos e] at hfl; cases hfl
      · exact e
    have A1 := Lib.hid a1
    clear a1 hfl a2 hn
    obtain ⟨R, rfl⟩ : ∃ R : Nat, r = (R : Int) := ⟨r.toNat, by omega⟩
    have eR : (encN R).length ≤ 9 := encN_len (n := R) (by omega)
    have zR : IntKind.u64.wrap (R : Int) = (R : Int) := by rw [IntKind.wrap_u64]; omega
    obtain ⟨N, rfl⟩ : ∃ N : Nat, n = (N : Int) := ⟨n.toNat, by omega⟩
    have eN : (encN N).length ≤ 9 := encN_len (n := N) (by omega)
    have zN : IntKind.u64.wrap (N : Int) = (N : Int) := by rw [IntKind.wrap_u64]; omega
    obtain ⟨M, rfl⟩ : ∃ M : Nat, num = (M : Int) := ⟨num.toNat, by omega⟩
    have eM : (encN M).length ≤ 9 := encN_len (n := M) (by omega)
    have zM : IntKind.u64.wrap (M : Int) = (M : Int) := by rw [IntKind.wrap_u64]; omega
    have HBY : Hid (bytesO ⟨3, (R : Int), (N : Int), (M : Int), [], spans, 0⟩ = encN 3 ++ encN R ++ encN N ++ encN M ++ bytesL spans) := by show _ = _; unfold bytesO; simp [List.append_assoc]
    have HM := Lib.hid (makes_yes 3 (Or.inr rfl))
    have HN := Lib.hid (names_yes 3 (Or.inr rfl))
    have HT := Lib.hid (turns_no 3 (Or.inr (Or.inr rfl)))
    have ek : (encN 3).length ≤ 9 := encN_len (n := 3) (by decide)
    have H0 := Lib.hid (fun (o : Obj) => wnum_box 3 (by decide) (WBx.start HW.out o) (by omega) (by simp))
    simp only [List.nil_append] at H0
    go_enter Tryz.func63, Tryz.ntmps63
    go_wp2_with fail
    refine (H0.out _).mono ?_
    rintro e w1 ⟨rfl, hs1⟩
    have S1 := Lib.hid hs1
    obtain ⟨d0, d1, d2, d3, d4, d5, d6⟩ := seven_cells hs1.2.1
    clear hs1
    go_wp2_with fail
    refine (HM.out _).mono ?_
    rintro e w2 ⟨rfl, he⟩
    obtain rfl := Eq.symm he
    have C1 := Lib.hid (wnum_box R (by omega) S1.out (by omega) (by omega))
    go_wp2_with fail
    refine (C1.out).mono ?_
    rintro e w3 ⟨rfl, hs3⟩
    have S3 := Lib.hid hs3
    obtain ⟨d0, d1, d2, d3, d4, d5, d6⟩ := seven_cells hs3.2.1
    clear hs3
    have C2 := Lib.hid (wnum_box N (by omega) S3.out (by omega) (by simp only [List.length_append] at *; omega))
    go_wp2_with fail
    refine (C2.out).mono ?_
    rintro e w4 ⟨rfl, hs4⟩
    have S4 := Lib.hid hs4
    obtain ⟨d0, d1, d2, d3, d4, d5, d6⟩ := seven_cells hs4.2.1
    clear hs4
    have C3 := Lib.hid (wnum_box M (by omega) S4.out (by omega) (by simp only [List.length_append] at *; omega))
    go_wp2_with fail
    refine (C3.out).mono ?_
    rintro e w5 ⟨rfl, hs5⟩
    have S5 := Lib.hid hs5
    obtain ⟨d0, d1, d2, d3, d4, d5, d6⟩ := seven_cells hs5.2.1
    clear hs5
    go_wp2_with fail
    refine (HN.out _).mono ?_
    rintro e w6 ⟨rfl, he⟩
    obtain rfl := Eq.symm he
    have C4 := Lib.hid (wspans_box spans p c HW.out HR.out HQ.out A1.out HF9.out (by omega) h0 S5.out (by omega) (by simp only [List.length_append] at *; omega))
    go_wp2_with fail
    refine (C4.out).mono ?_
    rintro e w7 ⟨rfl, hs7⟩
    have S7 := Lib.hid hs7
    obtain ⟨d0, d1, d2, d3, d4, d5, d6⟩ := seven_cells hs7.2.1
    clear hs7
    go_wp2_with fail
    refine (HT.out _).mono ?_
    rintro e w8 ⟨rfl, he⟩
    obtain rfl := Eq.symm he
    go_wp2
    go_end0
    exact ⟨rfl, by rw [HBY.out]; exact S7.out.wrote⟩
  · obtain ⟨hk, rfl, rfl, hp, hs1, hs2⟩ := h
    have hp := of_decide_eq_true hp
    simp only at hp
    obtain ⟨rfl, rfl, rfl⟩ := hp
    obtain ⟨S, rfl⟩ : ∃ S : Nat, seq = (S : Int) := ⟨seq.toNat, by omega⟩
    have eS : (encN S).length ≤ 9 := encN_len (n := S) (by omega)
    have zS : IntKind.u64.wrap (S : Int) = (S : Int) := by rw [IntKind.wrap_u64]; omega
    rcases hk with rfl | rfl
    · have HBY : Hid (bytesO ⟨4, 0, 0, 0, [], [], (S : Int)⟩ = encN 4 ++ encN S) := by show _ = _; unfold bytesO; simp
      have HM := Lib.hid (makes_no 4 (by decide) (by decide))
      have HN := Lib.hid (names_no 4 (by decide) (by decide))
      have HT := Lib.hid (turns_yes 4 (by decide) (by decide) (by decide))
      have ek : (encN 4).length ≤ 9 := encN_len (n := 4) (by decide)
      have H0 := Lib.hid (fun (o : Obj) => wnum_box 4 (by decide) (WBx.start HW.out o) (by omega) (by simp))
      simp only [List.nil_append] at H0
      go_enter Tryz.func63, Tryz.ntmps63
      go_wp2_with fail
      refine (H0.out _).mono ?_
      rintro e w1 ⟨rfl, hs1⟩
      have S1 := Lib.hid hs1
      obtain ⟨d0, d1, d2, d3, d4, d5, d6⟩ := seven_cells hs1.2.1
      clear hs1
      go_wp2_with fail
      refine (HM.out _).mono ?_
      rintro e w2 ⟨rfl, he⟩
      obtain rfl := Eq.symm he
      go_wp2_with fail
      refine (HN.out _).mono ?_
      rintro e w3 ⟨rfl, he⟩
      obtain rfl := Eq.symm he
      go_wp2_with fail
      refine (HT.out _).mono ?_
      rintro e w4 ⟨rfl, he⟩
      obtain rfl := Eq.symm he
      have C1 := Lib.hid (wnum_box S (by omega) S1.out (by omega) (by omega))
      go_wp2_with fail
      refine (C1.out).mono ?_
      rintro e w5 ⟨rfl, hs5⟩
      have S5 := Lib.hid hs5
      obtain ⟨d0, d1, d2, d3, d4, d5, d6⟩ := seven_cells hs5.2.1
      clear hs5
      go_wp2
      go_end0
      exact ⟨rfl, by rw [HBY.out]; exact S5.out.wrote⟩
    · have HBY : Hid (bytesO ⟨5, 0, 0, 0, [], [], (S : Int)⟩ = encN 5 ++ encN S) := by show _ = _; unfold bytesO; simp
      have HM := Lib.hid (makes_no 5 (by decide) (by decide))
      have HN := Lib.hid (names_no 5 (by decide) (by decide))
      have HT := Lib.hid (turns_yes 5 (by decide) (by decide) (by decide))
      have ek : (encN 5).length ≤ 9 := encN_len (n := 5) (by decide)
      have H0 := Lib.hid (fun (o : Obj) => wnum_box 5 (by decide) (WBx.start HW.out o) (by omega) (by simp))
      simp only [List.nil_append] at H0
      go_enter Tryz.func63, Tryz.ntmps63
      go_wp2_with fail
      refine (H0.out _).mono ?_
      rintro e w1 ⟨rfl, hs1⟩
      have S1 := Lib.hid hs1
      obtain ⟨d0, d1, d2, d3, d4, d5, d6⟩ := seven_cells hs1.2.1
      clear hs1
      go_wp2_with fail
      refine (HM.out _).mono ?_
      rintro e w2 ⟨rfl, he⟩
      obtain rfl := Eq.symm he
      go_wp2_with fail
      refine (HN.out _).mono ?_
      rintro e w3 ⟨rfl, he⟩
      obtain rfl := Eq.symm he
      go_wp2_with fail
      refine (HT.out _).mono ?_
      rintro e w4 ⟨rfl, he⟩
      obtain rfl := Eq.symm he
      have C1 := Lib.hid (wnum_box S (by omega) S1.out (by omega) (by omega))
      go_wp2_with fail
      refine (C1.out).mono ?_
      rintro e w5 ⟨rfl, hs5⟩
      have S5 := Lib.hid hs5
      obtain ⟨d0, d1, d2, d3, d4, d5, d6⟩ := seven_cells hs5.2.1
      clear hs5
      go_wp2
      go_end0
      exact ⟨rfl, by rw [HBY.out]; exact S5.out.wrote⟩
end Go.Proofs.YtceanfpcddcfoaaGreat
