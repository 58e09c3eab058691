
/-
  What the document's numbered and Fit of layer 8 hand back. No conditions beyond what each theorem states.
-/
import Derived.Test.YtedlmngfkkpmgaaOpRef1
namespace Go.Proofs.Ytedlmngfkkpmgaa
open Go.ChangeShapes Go.WideShapes Go.ChangeAt Go.RowKit Go.Lib
set_option linter.unusedVariables false
set_option linter.unusedSimpArgs false

theorem beq_no {a b : Int} (h : ¬ a = b) : (a == b) = false := by rw [beq_eq_false_iff_ne]; exact h
set_option maxHeartbeats 6400000 in
theorem refnumbered_any (o : Om) (p : Option Addr) (c : Nat) (w : World) (hf : FitOm o) (hR : GRow layS w p o.spans) (hc : Counts o) (hl : o.spans.length ≤ 100000) (ht : o.text.length ≤ 1000000) :
    Calls Try.prog 46 #[ov o p c] w fun e w' => e = .returned (.bool (numberedO o)) ∧ Below w.heap.size w w' := by
  have HA : Hid (∀ W, Below w.heap.size w W → Calls Try.prog 28 #[ov o p c] W fun e w' => e = .returned (.int .i64 (atomsO o)) ∧ Below W.heap.size W w') := fun W hb => refatoms_any o p c W (hR.below hb) hc hl ht
  have hat : 0 ≤ atomsO o ∧ atomsO o ≤ 1000000 := by
    unfold atomsO
    by_cases h1 : o.kind = 1
    · rw [if_pos h1]; omega
    · rw [if_neg h1]
      by_cases h3 : o.kind = 3
      · rw [if_pos h3]; have := (hc h3).2; omega
      · rw [if_neg h3]; omega
  have HY := Lib.hid (@numbered_yes o)
  have HNO := Lib.hid (@numbered_no o)
  have HAN : Hid (anchB o = decide (o.r = 0 ∧ o.n = 0 ∨ 1 ≤ o.n ∧ o.n ≤ 268435456)) := rfl
  unfold FitOm at hf
  obtain ⟨kind, r, n, num, text, spans, seq⟩ := o
  generalize atomsO ⟨kind, r, n, num, text, spans, seq⟩ = A at HA hat HY
  generalize hNU : numberedO ⟨kind, r, n, num, text, spans, seq⟩ = NU at HY HNO
  unfold ov at HA ⊢
  simp only at HA HY HNO HAN hf ⊢
  obtain ⟨_, _, hr0, hr1, hn0, hn1, hm0, hm1, _, _, _⟩ := hf
  have HNU := Lib.hid hNU
  clear hNU hR hc
  generalize (⟨text.toArray⟩ : ByteArray) = bt at HA ⊢
  have HX : Hid ((w.alloc (.cells #[.int .i64 kind, .int .u16 r, .int .u32 n, .int .u32 num, .string bt, .slice p spans.length c, .int .u32 seq] 49)).heap[w.heap.size]? = some (.cells #[.int .i64 kind, .int .u16 r, .int .u32 n, .int .u32 num, .string bt, .slice p spans.length c, .int .u32 seq] 49 (0, 0))) := heap_alloc_new w _
  cases han : anchB ⟨kind, r, n, num, text, spans, seq⟩ with
  | false =>
    have hno := HNO.out han
    rw [HAN.out] at han
    have han := of_decide_eq_false han
    subst hno
    clear HA HY HNO HAN HX hat
    have : r = 0 ∧ 268435456 < n ∨ ¬ r = 0 ∧ n = 0 ∨ ¬ r = 0 ∧ 268435456 < n := by omega
    clear han
    rcases this with ⟨rfl, h⟩ | ⟨hr, rfl⟩ | ⟨hr, h⟩
    · have h' : (n == 0) = false := beq_no (by omega)
      go_enter Try.func46, Try.ntmps46
      go_wp2
      go_ret
      exact ⟨by first | rfl | (rw [HNU.out]; rfl), below_alloc (Below.refl _ _) _⟩
    · have hr' : (r == 0) = false := beq_no hr
      go_enter Try.func46, Try.ntmps46
      go_wp2
      go_ret
      exact ⟨by first | rfl | (rw [HNU.out]; rfl), below_alloc (Below.refl _ _) _⟩
    · have hr' : (r == 0) = false := beq_no hr
      go_enter Try.func46, Try.ntmps46
      go_wp2
      go_ret
      exact ⟨by first | rfl | (rw [HNU.out]; rfl), below_alloc (Below.refl _ _) _⟩
  | true =>
    have hyes := HY.out han
    rw [HAN.out] at han
    have han := of_decide_eq_true han
    clear HY HNO HAN
    have HYE := Lib.hid hyes
    clear hyes
    have HA2 : Hid (∀ (B : Obj) dd os, Calls Try.prog 28 #[.agg #[.int .i64 kind, .int .u16 r, .int .u32 n, .int .u32 num, .string bt, .slice p spans.length c, .int .u32 seq]] (Go.Sort.grow (redrawn (w.alloc B) dd) os) fun e w' => e = .returned (.int .i64 A) ∧ Below (Go.Sort.grow (redrawn (w.alloc B) dd) os).heap.size (Go.Sort.grow (redrawn (w.alloc B) dd) os) w') := fun B dd os => HA.out _ (below_step (below_alloc (Below.refl _ _) _) (below_regrown _ _ _))
    obtain ⟨s0, s1, s2, s3, s4, s5, s6⟩ := seven_cells HX.out
    have t0 := cell_regrown s0
    have t1 := cell_regrown s1
    have t2 := cell_regrown s2
    have t3 := cell_regrown s3
    have t4 := cell_regrown s4
    have t5 := cell_regrown s5
    have t6 := cell_regrown s6
    clear HX HA s0 s1 s2 s3 s4 s5 s6
    have hsum : IntKind.i64.wrap (num + A) = num + A := by rw [IntKind.wrap_i64]; omega
    have hsub : IntKind.i64.wrap (num + A - 1) = num + A - 1 := by rw [IntKind.wrap_i64]; omega
    have : r = 0 ∧ n = 0 ∨ r = 0 ∧ (n == 0) = false ∧ ¬ n < 1 ∧ ¬ 268435456 < n ∨ (r == 0) = false ∧ ¬ n < 1 ∧ ¬ 268435456 < n := by
      by_cases h : r = 0
      · by_cases h2 : n = 0
        · exact Or.inl ⟨h, h2⟩
        · exact Or.inr (Or.inl ⟨h, beq_no h2, by omega, by omega⟩)
      · exact Or.inr (Or.inr ⟨beq_no h, by omega, by omega⟩)
    clear han
    by_cases m1 : 1 ≤ num
    · by_cases m2 : num ≤ 268435456
      · have HF : Hid (NU = decide (num + A - 1 ≤ 268435456)) := by
          show _ = _
          rw [HYE.out]; apply decide_eq_decide.2; omega
        clear HYE
        rcases this with ⟨rfl, rfl⟩ | ⟨rfl, hn2, hn3, hn4⟩ | ⟨hr2, hn3, hn4⟩
        all_goals
          go_enter Try.func46, Try.ntmps46
          go_wp2_with fail
          refine wp_region_quiet_below (by kernel_rfl) (by kernel_rfl) ?_
          repeat (go_big_quiet_step ((go_at_call 28; exact Calls.regrown_of (HA2.out _ _ _))))
          refine wpQuiet_nil ?_
          intro _ hw'
          obtain ⟨⟨dq, osq⟩, hw''⟩ := hw'
          subst hw''
          go_wp2
          go_ret
          exact ⟨by first | (rw [HF.out]; rfl) | (rw [HNU.out, HF.out]; rfl), below_step (below_alloc (Below.refl _ _) _) (below_regrown _ _ _)⟩
      · have m2' : decide (num ≤ 268435456) = false := decide_eq_false m2
        have HF : Hid (NU = false) := by
          show _ = _
          rw [HYE.out]; exact decide_eq_false (by omega)
        clear HYE
        rcases this with ⟨rfl, rfl⟩ | ⟨rfl, hn2, hn3, hn4⟩ | ⟨hr2, hn3, hn4⟩
        all_goals
          go_enter Try.func46, Try.ntmps46
          go_wp2_with fail
          refine wp_region_quiet_below (by kernel_rfl) (by kernel_rfl) ?_
          repeat (go_big_quiet_step (fail))
          refine wpQuiet_nil ?_
          intro _ hw'
          obtain ⟨⟨dq, osq⟩, hw''⟩ := hw'
          subst hw''
          go_wp2
          go_ret
          exact ⟨by first | (rw [HF.out]; rfl) | (rw [HNU.out, HF.out]; rfl), below_step (below_alloc (Below.refl _ _) _) (below_regrown _ _ _)⟩
    · have m1' : decide (1 ≤ num) = false := decide_eq_false m1
      have HF : Hid (NU = false) := by
        show _ = _
        rw [HYE.out]; exact decide_eq_false (by omega)
      clear HYE
      rcases this with ⟨rfl, rfl⟩ | ⟨rfl, hn2, hn3, hn4⟩ | ⟨hr2, hn3, hn4⟩
      all_goals
        go_enter Try.func46, Try.ntmps46
        go_wp2_with fail
        refine wp_region_quiet_below (by kernel_rfl) (by kernel_rfl) ?_
        repeat (go_big_quiet_step (fail))
        refine wpQuiet_nil ?_
        intro _ hw'
        obtain ⟨⟨dq, osq⟩, hw''⟩ := hw'
        subst hw''
        go_wp2
        go_ret
        exact ⟨by first | (rw [HF.out]; rfl) | (rw [HNU.out, HF.out]; rfl), below_step (below_alloc (Below.refl _ _) _) (below_regrown _ _ _)⟩
end Go.Proofs.Ytedlmngfkkpmgaa
