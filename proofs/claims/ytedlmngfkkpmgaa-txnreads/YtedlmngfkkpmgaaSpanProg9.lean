
/-
  What the program's Apart and Fit of layer 7 hand back. No conditions beyond what each theorem states.
-/
import Derived.Test.YtedlmngfkkpmgaaSpanProg8
import Derived.Lib.QuietBelow
namespace Go.Proofs.Ytedlmngfkkpmgaa
open Go.ChangeShapes Go.WideShapes Go.ChangeAt Go.RowKit Go.Lib
open Go.Sort
set_option linter.unusedVariables false
set_option linter.unusedSimpArgs false

/-- All of one's names come ahead of another's first. -/
def Ahead (a b : Sp) : Prop := a.1 < b.1 ∨ a.1 = b.1 ∧ a.2.1 + a.2.2 ≤ b.2.1
theorem Ahead.trans {a b c : Sp} (hb : 1 ≤ b.2.2) (h1 : Ahead a b) (h2 : Ahead b c) : Ahead a c := by unfold Ahead at *; omega
theorem Ahead.meets {a b : Sp} (h : Ahead a b) : meetS b a = false := by
  unfold Ahead at h
  unfold meetS
  exact decide_eq_false (by omega)
theorem ahead_next {a b : Sp} (ha : rightS a = true) (hr : ltOf cmpS b a = false) (hn : firstOf b ∉ idsS a) : Ahead a b := by
  rw [lt_cmpS] at hr
  have hr := of_decide_eq_false hr
  have ha := rightS_iff.1 ha
  rw [mem_idsS] at hn
  unfold firstOf at hn
  simp only at hn
  unfold Ahead
  omega
theorem ahead_all {ys : List Sp} (hr : RightS ys) (hs : Rising ys) (hn : ∀ j, j + 1 < ys.length → firstOf (ys.getD (j + 1) s0) ∉ idsS (ys.getD j s0)) : ∀ d i, i + d + 1 < ys.length → Ahead (ys.getD i s0) (ys.getD (i + d + 1) s0) := by
  intro d
  induction d with
  | zero => intro i hi; exact ahead_next (hr.at (by omega)) (hs i (i + 1) (by omega) hi) (hn i hi)
  | succ d ih =>
    intro i hi
    have h1 := ih i (by omega)
    have h2 := ahead_next (hr.at (i := i + d + 1) (by omega)) (hs (i + d + 1) (i + (d + 1) + 1) (by omega) hi) (hn (i + d + 1) hi)
    have h3 := rightS_iff.1 (hr.at (i := i + d + 1) (by omega))
    exact Ahead.trans h3.2.1 h1 h2
theorem apart_adj {ys : List Sp} (hr : RightS ys) (hs : Rising ys) (hn : ∀ j, j + 1 < ys.length → firstOf (ys.getD (j + 1) s0) ∉ idsS (ys.getD j s0)) : apartB ys = true := by
  apply apartB_iff.2
  intro i hi k hk
  have := ahead_all hr hs hn (i - k - 1) k (by omega)
  rw [show k + (i - k - 1) + 1 = i by omega] at this
  exact this.meets
theorem apart_not {ys : List Sp} (hr : RightS ys) {j : Nat} (hj : j + 1 < ys.length) (h : firstOf (ys.getD (j + 1) s0) ∈ idsS (ys.getD j s0)) : apartB ys = false :=
  apartB_no (i := j + 1) (k := j) hj (by omega) ((meet_iff (hr.at hj) (hr.at (by omega))).2 ⟨_, first_mem (rightS_iff.1 (hr.at hj)).2.1, h⟩)
theorem perm_right {xs ys : List Sp} (hp : ys.Perm xs) (h : RightS xs) : RightS ys := fun x hx => h x (hp.mem_iff.1 hx)
theorem perm_fit {xs ys : List Sp} (hp : ys.Perm xs) (h : FitSs xs) : FitSs ys := fun x hx => h x (hp.mem_iff.1 hx)
theorem perm_ids {xs ys : List Sp} (hp : ys.Perm xs) : (idsL ys).Perm (idsL xs) := hp.flatMap_right idsS
theorem perm_apart {xs ys : List Sp} (hp : ys.Perm xs) (h : RightS xs) : apartB ys = apartB xs := by
  have h1 := apart_nodup (perm_right hp h)
  have h2 := apart_nodup h
  have h3 := (perm_ids hp).nodup_iff
  rw [Bool.eq_iff_iff, h1, h2, h3]

set_option maxHeartbeats 3200000 in
set_option maxRecDepth 20000 in
theorem apart_spec : ApartSpec := by
  intro l p c w hR hr hf hl ht hc hp
  have H0 := Lib.hid (rising_any l p c w hR hl)
  have HRT := Lib.hid hr
  have HF := Lib.hid hf
  clear hR hr hf hp hc ht
  go_enter Try.func81, Try.ntmps81
  go_wp2_with fail
  refine H0.out.mono ?_
  rintro e w1 ⟨ys, p1, c1, rfl, hpm, hrs, hG, hb1⟩
  have HAP : Hid (apartB l = apartB ys) := (perm_apart hpm HRT.out).symm
  have HRY := Lib.hid (perm_right hpm HRT.out)
  have HFY := Lib.hid (perm_fit hpm HF.out)
  have HRS := Lib.hid hrs
  have HG := Lib.hid hG
  have HB1 := Lib.hid hb1
  have hyl : ys.length ≤ 3000 := by rw [hpm.length_eq]; exact hl
  clear hpm hrs hG hb1 H0 HRT HF hl
  go_wp2
  go_loopg [4] ys.length (fun g i wr => ∃ k : Nat, k ≤ ys.length ∧ ys.length - k ≤ g ∧ i = .int .i64 ((k : Int) + 1) ∧ (∀ j, j < k → j + 1 < ys.length → firstOf (ys.getD (j + 1) s0) ∉ idsS (ys.getD j s0)) ∧ Below w.heap.size w wr ∧ GRow layS wr p1 ys)
  case atStart => exact ⟨0, Nat.zero_le _, by omega, rfl, fun j hj => absurd hj (by omega), HB1.out, HG.out⟩
  case round =>
    clear HB1 HG
    obtain ⟨k, hk, hg, rfl, hN, hB, hG⟩ := hrel
    have HN := Lib.hid hN
    have HB := Lib.hid hB
    have HG := Lib.hid hG
    clear hN hB hG
    by_cases hlt : k + 1 < ys.length
    · have hlt' : (k : Int) + 1 < (ys.length : Int) := by omega
      obtain ⟨b, o, rfl, c0, c1, c2⟩ := srow_at HG.out (i := k) (by omega)
      obtain ⟨b', o', eb, d0, d1, d2⟩ := srow_at HG.out (i := k + 1) hlt
      cases eb
      have hin : (k : Int) + 1 - 1 = (k : Int) := by omega
      have hi0 : (0 : Int) ≤ (k : Int) := by omega
      have hi1 : (k : Int) < (ys.length : Int) := by omega
      have hi2 : (0 : Int) ≤ (k : Int) + 1 := by omega
      have HH := Lib.hid (fun W => has_any (ys.getD k s0) (firstOf (ys.getD (k + 1) s0)) W (HFY.out.at (by omega)) (by have := HFY.out.at hlt; unfold FitS at this; unfold FitN firstOf; simp only; omega))
      have HY : Hid (firstOf (ys.getD (k + 1) s0) ∈ idsS (ys.getD k s0) → apartB ys = false) := fun h => apart_not HRY.out hlt h
      have HNX : Hid (firstOf (ys.getD (k + 1) s0) ∉ idsS (ys.getD k s0) → ∀ j, j < k + 1 → j + 1 < ys.length → firstOf (ys.getD (j + 1) s0) ∉ idsS (ys.getD j s0)) := fun h j hj hj1 => by
        by_cases e : j = k
        · subst e; exact h
        · exact HN.out j (by omega) hj1
      generalize ys.getD k s0 = s at c0 c1 c2 HH HY HNX
      generalize ys.getD (k + 1) s0 = t at d0 d1 d2 HH HY HNX
      obtain ⟨r, n, m⟩ := s
      obtain ⟨r', n', m'⟩ := t
      unfold firstOf at HH HY HNX
      unfold sv nv at HH
      simp only at c0 c1 c2 d0 d1 d2 HH HY HNX
      have q0 := cell_regrown c0
      have q1 := cell_regrown c1
      have q2 := cell_regrown c2
      have q3 := cell_regrown d0
      have q4 := cell_regrown d1
      have q5 := cell_regrown d2
      clear c0 c1 c2 d0 d1 d2
      by_cases hm : (r', n') ∈ idsS (r, n, m)
      · rw [decide_eq_true hm] at HH
        have HE : Hid (apartB l = false) := by show _ = _; rw [HAP.out]; exact HY.out hm
        clear HY HNX hm HAP HRY HFY HRS
        go_wp2_with fail
        refine wp_region_quiet_below (by kernel_rfl) (by kernel_rfl) ?_
        repeat (go_big_quiet_step ((go_at_call 84; exact Calls.regrown_of (HH.out _))))
        refine wpQuiet_nil ?_
        intro _ hw'
        obtain ⟨⟨dq, osq⟩, hw''⟩ := hw'
        subst hw''
        have HBQ : Hid (Below w.heap.size w (Go.Sort.grow (redrawn wr dq) osq)) := below_step HB.out (below_regrown _ _ _)
        have HGQ : Hid (GRow layS (Go.Sort.grow (redrawn wr dq) osq) (some ⟨b, o, none⟩) ys) := HG.out.below (below_regrown _ _ _)
        clear q0 q1 q2 q3 q4 q5 HH HB HG
        generalize Go.Sort.grow (redrawn wr dq) osq = W at HBQ HGQ ⊢
        go_wp2
        go_ret
        exact ⟨by rw [HE.out]; rfl, HBQ.out⟩
      · rw [decide_eq_false hm] at HH
        have HN2 := Lib.hid (HNX.out hm)
        clear HY HNX hm HN
        go_wp2_with fail
        refine wp_region_quiet_below (by kernel_rfl) (by kernel_rfl) ?_
        repeat (go_big_quiet_step ((go_at_call 84; exact Calls.regrown_of (HH.out _))))
        refine wpQuiet_nil ?_
        intro _ hw'
        obtain ⟨⟨dq, osq⟩, hw''⟩ := hw'
        subst hw''
        have HBQ : Hid (Below w.heap.size w (Go.Sort.grow (redrawn wr dq) osq)) := below_step HB.out (below_regrown _ _ _)
        have HGQ : Hid (GRow layS (Go.Sort.grow (redrawn wr dq) osq) (some ⟨b, o, none⟩) ys) := HG.out.below (below_regrown _ _ _)
        clear q0 q1 q2 q3 q4 q5 HH HB HG
        generalize Go.Sort.grow (redrawn wr dq) osq = W at HBQ HGQ ⊢
        go_wp2
        go_roundg (ys.length - (k + 1))
        case measure => omega
        case rel => exact ⟨k + 1, by omega, Nat.le_refl _, by go_num, HN2.out, HBQ.out, HGQ.out⟩
    · have hlt' : ¬ (k : Int) + 1 < (ys.length : Int) := by omega
      have HE : Hid (apartB l = true) := by
        show _ = _
        rw [HAP.out]
        exact apart_adj HRY.out HRS.out (fun j hj => HN.out j (by omega) hj)
      clear HAP HRY HFY HRS HN HG
      go_wp2
      go_ret
      exact ⟨by rw [HE.out]; rfl, HB.out⟩
set_option maxHeartbeats 3200000 in
theorem fit_spec : FitSpec := by
  intro l p c w hR hf hl hc hp
  have HR := Lib.hid hR
  have HFT := Lib.hid hf
  clear hR hf
  have HFL : Hid (fitL l = if l.length = 0 then 11 else if l.length > 1024 then 13 else if fitA 0 l ≠ 0 then fitA 0 l else if apartB l = true then 0 else 16) := rfl
  go_enter Try.func76, Try.ntmps76
  by_cases h0 : l.length = 0
  · have HF : Hid (fitL l = 11) := by rw [HFL.out, if_pos h0]; rfl
    go_wp2
    go_ret
    exact ⟨by rw [HF.out]; rfl, Below.refl _ _⟩
  have h0' : ((l.length : Int) == 0) = false := by rw [beq_eq_false_iff_ne]; omega
  by_cases h1 : l.length > 1024
  · have HF : Hid (fitL l = 13) := by rw [HFL.out, if_neg h0, if_pos h1]; rfl
    have h1' : (1024 : Int) < (l.length : Int) := by omega
    go_wp2
    go_ret
    exact ⟨by rw [HF.out]; rfl, Below.refl _ _⟩
  have h1' : (l.length : Int) ≤ 1024 := by omega
  have HFL2 : Hid (fitL l = if fitA 0 l ≠ 0 then fitA 0 l else if apartB l = true then 0 else 16) := by rw [HFL.out, if_neg h0, if_neg h1]; rfl
  clear HFL h0
  go_wp2
  go_loopg [3, 14] l.length (fun g n i wr => ∃ (k : Nat) (N : Int), k ≤ l.length ∧ l.length - k ≤ g ∧ i = .int .i64 (k : Int) ∧ n = .int .i64 N ∧ 0 ≤ N ∧ N ≤ 1024 ∧ fitA 0 l = fitA N (l.drop k) ∧ N = (totalL (l.take k) : Int) ∧ RightS (l.take k) ∧ Below w.heap.size w wr)
  case atStart => exact ⟨0, 0, Nat.zero_le _, by omega, rfl, rfl, by omega, by omega, rfl, rfl, (by intro x hx; simp at hx), Below.refl _ _⟩
  case round =>
    obtain ⟨k, N, hk, hg, rfl, rfl, hN0, hN1, hfa, hto, hrt, hb⟩ := hrel
    have HB := Lib.hid hb
    have HFA := Lib.hid hfa
    have HRT := Lib.hid hrt
    have HTO := Lib.hid hto
    clear hb hfa hrt hto
    by_cases hlt : k < l.length
    · obtain ⟨b, o, rfl, c0', c1', c2'⟩ := srow_at HR.out hlt
      have c0 := cellU c0' HB.out
      have c1 := cellU c1' HB.out
      have c2 := cellU c2' HB.out
      have HST : Hid (fitA 0 l = fitA N (l.getD k s0 :: l.drop (k + 1))) := by rw [HFA.out, drop_getD s0 hlt]; rfl
      have HTK : Hid (rightS (l.getD k s0) = true → RightS (l.take (k + 1))) := fun h x hx => by
        rw [take_getD s0 hlt, List.mem_append] at hx
        rcases hx with hx | hx
        · exact HRT.out x hx
        · rw [List.mem_singleton] at hx; rw [hx]; exact h
      have hfs := HFT.out.at hlt
      have HC := fun W => right_spec (l.getD k s0) W hfs
      unfold sv at HC
      have hTK : totalL (l.take (k + 1)) = totalL (l.take k) + (l.getD k s0).2.2.toNat := totalL_take hlt
      generalize l.getD k s0 = s at HST HTK hfs HC c0' c1' c2' c0 c1 c2 hTK
      obtain ⟨r, n, m⟩ := s
      simp only at c0 c1 c2 HC hTK
      have HC := Lib.hid HC
      clear c0' c1' c2' HFA
      unfold FitS at hfs
      simp only at hfs
      cases hrs : rightS (r, n, m) with
      | false =>
        have HF : Hid (fitL l = 11) := by rw [HFL2.out, HST.out, fitA, if_pos hrs]; rfl
        rw [hrs] at HC
        go_wp2_with (first | (go_at_call 79; refine (HC.out _).mono ?_; rintro e w1 ⟨rfl, hb1⟩))
        go_ret
        exact ⟨by rw [HF.out]; rfl, below_step (below_alloc HB.out _) hb1⟩
      | true =>
        have hri := rightS_iff.1 hrs
        simp only at hri
        have HST2 : Hid (fitA 0 l = if N + m > 1024 then 15 else fitA (N + m) (l.drop (k + 1))) := by rw [HST.out, fitA, if_neg (by rw [hrs]; simp)]; rfl
        have HRT2 : Hid (RightS (l.take (k + 1))) := HTK.out hrs
        rw [hrs] at HC
        clear HTK hrs
        by_cases hbig : N + m > 1024
        · have HF : Hid (fitL l = 15) := by rw [HFL2.out, HST2.out, if_pos hbig]; rfl
          have hbig' : 1024 < N + m := hbig
          go_wp2_with (first | (go_at_call 79; refine (HC.out _).mono ?_; rintro e w1 ⟨rfl, hb1⟩; obtain ⟨x0, x1, d2⟩ := three_cells (kept_box (heap_alloc_new wr _) hb1); clear x0 x1))
          go_ret
          exact ⟨by rw [HF.out]; rfl, below_step (below_alloc HB.out _) hb1⟩
        · have hbig' : N + m ≤ 1024 := by omega
          have HF : Hid (fitA 0 l = fitA (N + m) (l.drop (k + 1))) := by rw [HST2.out, if_neg hbig]; rfl
          go_wp2_with (first | (go_at_call 79; refine (HC.out _).mono ?_; rintro e w1 ⟨rfl, hb1⟩; obtain ⟨x0, x1, d2⟩ := three_cells (kept_box (heap_alloc_new wr _) hb1); clear x0 x1))
          go_roundg (l.length - (k + 1))
          case measure => omega
          case rel => exact ⟨k + 1, N + m, by omega, Nat.le_refl _, by go_num, rfl, by omega, by omega, HF.out, by have := HTO.out; omega, HRT2.out, below_step (below_alloc HB.out _) hb1⟩
    · have : k = l.length := by omega
      subst this
      rw [List.take_length] at HRT
      have HFZ : Hid (fitA 0 l = 0) := by rw [HFA.out, List.drop_length]; rfl
      have HC := Lib.hid (apart_spec l p c wr (HR.out.below HB.out) HRT.out HFT.out (by omega) (by have hto := HTO.out; rw [List.take_length] at hto; omega) hc hp)
      cases hap : apartB l with
      | false =>
        have HF : Hid (fitL l = 16) := by rw [HFL2.out, HFZ.out, hap]; rfl
        rw [hap] at HC
        go_wp2_with (first | (go_at_call 81; refine HC.out.mono ?_; rintro e w1 ⟨rfl, hb1⟩))
        go_ret
        exact ⟨by rw [HF.out]; rfl, below_step HB.out hb1⟩
      | true =>
        have HF : Hid (fitL l = 0) := by rw [HFL2.out, HFZ.out, hap]; rfl
        rw [hap] at HC
        go_wp2_with (first | (go_at_call 81; refine HC.out.mono ?_; rintro e w1 ⟨rfl, hb1⟩))
        go_ret
        exact ⟨by rw [HF.out]; rfl, below_step HB.out hb1⟩

end Go.Proofs.Ytedlmngfkkpmgaa
