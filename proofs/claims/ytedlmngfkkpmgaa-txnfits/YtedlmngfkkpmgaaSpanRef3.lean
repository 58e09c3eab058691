
/-
  What the document's Apart, Fit and Less of layer 7 hand back. No conditions beyond what each theorem states.
-/
import Derived.Test.YtedlmngfkkpmgaaSpanOf2
import Derived.Lib.QuietBelow
namespace Go.Proofs.Ytedlmngfkkpmgaa
open Go.ChangeShapes Go.WideShapes Go.ChangeAt Go.RowKit Go.Lib
set_option linter.unusedVariables false
set_option linter.unusedSimpArgs false

theorem sv_eq (s : Sp) : sv s = .agg #[.int .u16 s.1, .int .u32 s.2.1, .int .i64 s.2.2] := rfl
theorem nv_eq (a : Nm) : nv a = .agg #[.int .u16 a.1, .int .u32 a.2] := rfl
set_option maxHeartbeats 3200000 in
theorem refapart_any (l : List Sp) (p : Option Addr) (c : Nat) (w : World) (hR : GRow layS w p l) (hr : RightS l) (hl : l.length ≤ 100000) :
    Calls Try.prog 68 #[.slice p l.length c] w fun e w' => e = .returned (.bool (apartB l)) ∧ Below w.heap.size w w' := by
  have HR := Lib.hid hR
  have HRT := Lib.hid hr
  clear hR hr
  go_enter Try.func68, Try.ntmps68
  go_wp2
  go_loopg [3] l.length (fun g i wr => ∃ k : Nat, k ≤ l.length ∧ l.length - k ≤ g ∧ i = .int .i64 (k : Int) ∧ Below w.heap.size w wr ∧ ∀ i, i < k → ∀ j, j < i → meetS (l.getD i s0) (l.getD j s0) = false)
  case atStart => exact ⟨0, Nat.zero_le _, by omega, rfl, Below.refl _ _, fun i hi => by omega⟩
  case round =>
    obtain ⟨k, hk, hg, rfl, hb, hno⟩ := hrel
    have HB := Lib.hid hb
    have HN := Lib.hid hno
    clear hb hno
    by_cases hlt : k < l.length
    · go_wp2
      go_loopg [4] k (fun g i wq => ∃ j : Nat, j ≤ k ∧ k - j ≤ g ∧ i = .int .i64 (j : Int) ∧ Below w.heap.size w wq ∧ ∀ j', j' < j → meetS (l.getD k s0) (l.getD j' s0) = false)
      case atStart => exact ⟨0, Nat.zero_le _, by omega, rfl, HB.out, fun i hi => by omega⟩
      case round =>
        clear HB
        obtain ⟨j, hj, hgj, rfl, hb, hno⟩ := hrel
        have HB := Lib.hid hb
        have HM := Lib.hid hno
        clear hb hno
        by_cases hjk : j < k
        · obtain ⟨b, o, rfl, c0', c1', c2'⟩ := srow_at HR.out hlt
          obtain ⟨b1, o1, e1, d0', d1', d2'⟩ := srow_at HR.out (i := j) (by omega)
          cases e1
          have c0 := cell_regrown (cellU c0' HB.out)
          have c1 := cell_regrown (cellU c1' HB.out)
          have c2 := cell_regrown (cellU c2' HB.out)
          have d0 := cell_regrown (cellU d0' HB.out)
          have d1 := cell_regrown (cellU d1' HB.out)
          have d2 := cell_regrown (cellU d2' HB.out)
          clear c0' c1' c2' d0' d1' d2'
          have hsr := HRT.out.at hlt
          have htr := HRT.out.at (i := j) (by omega)
          have hjl : (j : Int) < (l.length : Int) := by omega
          obtain ⟨s, hs⟩ : ∃ s, l.getD k s0 = s := ⟨_, rfl⟩
          obtain ⟨t, ht⟩ : ∃ t, l.getD j s0 = t := ⟨_, rfl⟩
          rw [hs] at c0 c1 c2 hsr
          rw [ht] at d0 d1 d2 htr
          have HCL : Hid (∀ W, Calls Try.prog 73 #[.agg #[.int .u16 s.1, .int .u32 s.2.1, .int .i64 s.2.2], .agg #[.int .u16 t.1, .int .u32 t.2.1, .int .i64 t.2.2]] W fun e w' => e = .returned (.bool (meetS s t)) ∧ Below W.heap.size W w') := fun W => refmeet_any s t W hsr htr
          have HST : Hid (l.getD k s0 = s ∧ l.getD j s0 = t) := ⟨hs, ht⟩
          clear hs ht hsr htr
          obtain ⟨s1, s2, s3⟩ := s
          obtain ⟨t1, t2, t3⟩ := t
          simp only at c0 c1 c2 d0 d1 d2 HCL
          cases hm : meetS (s1, s2, s3) (t1, t2, t3) with
          | true =>
            rw [hm] at HCL
            have HF : Hid (apartB l = false) := apartB_no hlt hjk (by rw [HST.out.1, HST.out.2]; exact hm)
            clear hm
            go_wp2_with fail
            refine wp_region_quiet_below (by kernel_rfl) (by kernel_rfl) ?_
            repeat (go_big_quiet_step (first | (go_at_call 73; exact Calls.regrown_of (HCL.out _))))
            refine wpQuiet_nil ?_
            intro _ hw'
            obtain ⟨⟨dq, osq⟩, hw''⟩ := hw'
            subst hw''
            go_wp2
            go_ret
            exact ⟨by rw [HF.out]; rfl, HB.out.trans ((below_regrown _ dq osq).mono HB.out.size)⟩
          | false =>
            rw [hm] at HCL
            have HF : Hid (∀ j', j' < j + 1 → meetS (l.getD k s0) (l.getD j' s0) = false) := fun j' hj' => by
              by_cases e : j' = j
              · subst e; rw [HST.out.1, HST.out.2]; exact hm
              · exact HM.out j' (by omega)
            clear hm
            go_wp2_with fail
            refine wp_region_quiet_below (by kernel_rfl) (by kernel_rfl) ?_
            repeat (go_big_quiet_step (first | (go_at_call 73; exact Calls.regrown_of (HCL.out _))))
            refine wpQuiet_nil ?_
            intro _ hw'
            obtain ⟨⟨dq, osq⟩, hw''⟩ := hw'
            subst hw''
            go_wp2
            go_roundg (k - (j + 1))
            case measure => omega
            case rel => exact ⟨j + 1, by omega, Nat.le_refl _, by go_num, HB.out.trans ((below_regrown _ dq osq).mono HB.out.size), HF.out⟩
        · have : j = k := by omega
          subst this
          go_wp2
          go_roundg (l.length - (j + 1))
          case measure => omega
          case rel => exact ⟨j + 1, by omega, Nat.le_refl _, by go_num, HB.out, fun i hi j' hj' => by
            by_cases e : i = j
            · subst e; exact HM.out j' hj'
            · exact HN.out i (by omega) j' hj'⟩
    · have : k = l.length := by omega
      subst this
      have HF : Hid (apartB l = true) := apartB_iff.2 HN.out
      go_wp2
      go_ret
      exact ⟨by rw [HF.out]; rfl, HB.out⟩

set_option maxHeartbeats 3200000 in
theorem reffit_any (l : List Sp) (p : Option Addr) (c : Nat) (w : World) (hR : GRow layS w p l) (hf : FitSs l) (hl : l.length ≤ 100000) :
    Calls Try.prog 48 #[.slice p l.length c] w fun e w' => e = .returned (.int .i64 (fitL l)) ∧ Below w.heap.size w w' := by
  have HR := Lib.hid hR
  have HFT := Lib.hid hf
  clear hR hf
  have HFL : Hid (fitL l = if l.length = 0 then 11 else if l.length > 1024 then 13 else if fitA 0 l ≠ 0 then fitA 0 l else if apartB l = true then 0 else 16) := rfl
  go_enter Try.func48, Try.ntmps48
  by_cases h0 : l.length = 0
  · have HF : Hid (fitL l = 11) := by rw [HFL.out, if_pos h0]; rfl
    go_wp2
    go_ret
    exact ⟨by rw [HF.out]; rfl, Below.refl _ _⟩
  have h0' : ((l.length : Int) == 0) = false := by rw [beq_eq_false_iff_ne]; omega
  by_cases h1 : l.length > 1024
  · have HF : Hid (fitL l = 13) := by rw [HFL.out, if_neg h0, if_pos h1]; rfl
    have h1' : (1024 : Int) < (l.length : Int) := by omega
    go_wp2
    go_ret
    exact ⟨by rw [HF.out]; rfl, Below.refl _ _⟩
  have h1' : (l.length : Int) ≤ 1024 := by omega
  have HFL2 : Hid (fitL l = if fitA 0 l ≠ 0 then fitA 0 l else if apartB l = true then 0 else 16) := by rw [HFL.out, if_neg h0, if_neg h1]; rfl
  clear HFL h0
  go_wp2
  go_loopg [3, 4] l.length (fun g n i wr => ∃ (k : Nat) (N : Int), k ≤ l.length ∧ l.length - k ≤ g ∧ i = .int .i64 (k : Int) ∧ n = .int .i64 N ∧ 0 ≤ N ∧ N ≤ 1024 ∧ fitA 0 l = fitA N (l.drop k) ∧ RightS (l.take k) ∧ Below w.heap.size w wr)
  case atStart => exact ⟨0, 0, Nat.zero_le _, by omega, rfl, rfl, by omega, by omega, rfl, (by intro x hx; simp at hx), Below.refl _ _⟩
  case round =>
    obtain ⟨k, N, hk, hg, rfl, rfl, hN0, hN1, hfa, hrt, hb⟩ := hrel
    have HB := Lib.hid hb
    have HFA := Lib.hid hfa
    have HRT := Lib.hid hrt
    clear hb hfa hrt
    by_cases hlt : k < l.length
    · obtain ⟨b, o, rfl, c0', c1', c2'⟩ := srow_at HR.out hlt
      have c0 := cellU c0' HB.out
      have c1 := cellU c1' HB.out
      have c2 := cellU c2' HB.out
      have HST : Hid (fitA 0 l = fitA N (l.getD k s0 :: l.drop (k + 1))) := by rw [HFA.out, drop_getD s0 hlt]; rfl
      have HTK : Hid (rightS (l.getD k s0) = true → RightS (l.take (k + 1))) := fun h x hx => by
        rw [take_getD s0 hlt, List.mem_append] at hx
        rcases hx with hx | hx
        · exact HRT.out x hx
        · rw [List.mem_singleton] at hx; rw [hx]; exact h
      have hfs := HFT.out.at hlt
      have HC := refright_any (l.getD k s0) wr hfs
      rw [sv_eq] at HC
      generalize l.getD k s0 = s at HST HTK hfs HC c0' c1' c2' c0 c1 c2
      have d2 := fun W hb => cellU (w' := W) c2 hb
      obtain ⟨r, n, m⟩ := s
      simp only at c0 c1 c2 HC d2
      have HC := Lib.hid HC
      clear c0' c1' c2' HFA
      unfold FitS at hfs
      simp only at hfs
      cases hrs : rightS (r, n, m) with
      | false =>
        have HF : Hid (fitL l = 11) := by rw [HFL2.out, HST.out, fitA, if_pos hrs]; rfl
        rw [hrs] at HC
        go_wp2_with (first | (go_at_call 67; refine HC.out.mono ?_; rintro e w1 ⟨rfl, hb1⟩))
        go_ret
        exact ⟨by rw [HF.out]; rfl, below_step HB.out hb1⟩
      | true =>
        have hri := rightS_iff.1 hrs
        simp only at hri
        have HST2 : Hid (fitA 0 l = if N + m > 1024 then 15 else fitA (N + m) (l.drop (k + 1))) := by rw [HST.out, fitA, if_neg (by rw [hrs]; simp)]; rfl
        have HRT2 : Hid (RightS (l.take (k + 1))) := HTK.out hrs
        rw [hrs] at HC
        clear HTK hrs
        by_cases hbig : N + m > 1024
        · have HF : Hid (fitL l = 15) := by rw [HFL2.out, HST2.out, if_pos hbig]; rfl
          have hbig' : 1024 < N + m := hbig
          go_wp2_with (first | (go_at_call 67; refine HC.out.mono ?_; rintro e w1 ⟨rfl, hb1⟩; have d2 := d2 _ hb1))
          go_ret
          exact ⟨by rw [HF.out]; rfl, below_step HB.out hb1⟩
        · have hbig' : N + m ≤ 1024 := by omega
          have HF : Hid (fitA 0 l = fitA (N + m) (l.drop (k + 1))) := by rw [HST2.out, if_neg hbig]; rfl
          go_wp2_with (first | (go_at_call 67; refine HC.out.mono ?_; rintro e w1 ⟨rfl, hb1⟩; have d2 := d2 _ hb1))
          go_roundg (l.length - (k + 1))
          case measure => omega
          case rel => exact ⟨k + 1, N + m, by omega, Nat.le_refl _, by go_num, rfl, by omega, by omega, HF.out, HRT2.out, below_step HB.out hb1⟩
    · have : k = l.length := by omega
      subst this
      rw [List.take_length] at HRT
      have HFZ : Hid (fitA 0 l = 0) := by rw [HFA.out, List.drop_length]; rfl
      have HC := Lib.hid (refapart_any l p c wr (HR.out.below HB.out) HRT.out hl)
      cases hap : apartB l with
      | false =>
        have HF : Hid (fitL l = 16) := by rw [HFL2.out, HFZ.out, hap]; rfl
        rw [hap] at HC
        go_wp2_with (first | (go_at_call 68; refine HC.out.mono ?_; rintro e w1 ⟨rfl, hb1⟩))
        go_ret
        exact ⟨by rw [HF.out]; rfl, below_step HB.out hb1⟩
      | true =>
        have HF : Hid (fitL l = 0) := by rw [HFL2.out, HFZ.out, hap]; rfl
        rw [hap] at HC
        go_wp2_with (first | (go_at_call 68; refine HC.out.mono ?_; rintro e w1 ⟨rfl, hb1⟩))
        go_ret
        exact ⟨by rw [HF.out]; rfl, below_step HB.out hb1⟩

end Go.Proofs.Ytedlmngfkkpmgaa
