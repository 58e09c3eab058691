/-
  Several texts of one proof, joined: each part says at its head what it proves. No conditions beyond what each theorem states.
-/
import Derived.Lib.QuietBelow
import Derived.Test.YtceanfpcddcfoaaGreatZ01
/-
  What the document's Apart, Fit and Less of layer 7 hand back. No conditions beyond what each theorem states.
-/
namespace Go.Proofs.YtceanfpcddcfoaaGreat
open Go.ChangeShapes Go.WideShapes Go.ChangeAt Go.RowKit Go.Lib
set_option linter.unusedVariables false
set_option linter.unusedSimpArgs false

theorem sv_eq (s : Sp) : sv s = .agg #[.int .u16 s.1, .int .u32 s.2.1, .int .i64 s.2.2] := rfl
theorem nv_eq (a : Nm) : nv a = .agg #[.int .u16 a.1, .int .u32 a.2] := rfl
set_option maxHeartbeats 3200000 in
theorem refapart_any (l : List Sp) (p : Option Addr) (c : Nat) (w : World) (hR : GRow layS w p l) (hr : RightS l) (hl : l.length ≤ 100000) :
    Calls Tryz.prog 109 #[.slice p l.length c] w fun e w' => e = .returned (.bool (apartB l)) ∧ Below w.heap.size w w' := by
  have HR := Lib.hid hR
  have HRT := Lib.hid hr
  clear hR hr
  go_enter Tryz.func109, Tryz.ntmps109
  go_wp2
  go_loopg [3] l.length (fun g i wr => ∃ k : Nat, k ≤ l.length ∧ l.length - k ≤ g ∧ i = .int .i64 (k : Int) ∧ Below w.heap.size w wr ∧ ∀ i, i < k → ∀ j, j < i → meetS (l.getD i s0) (l.getD j s0) = false)
  case atStart => exact ⟨0, Nat.zero_le _, by omega, rfl, Below.refl _ _, fun i hi => by omega⟩
  case round =>
    obtain ⟨k, hk, hg, rfl, hb, hno⟩ := hrel
    have HB := Lib.hid hb
    have HN := Lib.hid hno
    clear hb hno
    by_cases hlt : k < l.length
    · go_wp2
      go_loopg [4] k (fun g i wq => ∃ j : Nat, j ≤ k ∧ k - j ≤ g ∧ i = .int .i64 (j : Int) ∧ Below w.heap.size w wq ∧ ∀ j', j' < j → meetS (l.getD k s0) (l.getD j' s0) = false)
      case atStart => exact ⟨0, Nat.zero_le _, by omega, rfl, HB.out, fun i hi => by omega⟩
      case round =>
        clear HB
        obtain ⟨j, hj, hgj, rfl, hb, hno⟩ := hrel
        have HB := Lib.hid hb
        have HM := Lib.hid hno
        clear hb hno
        by_cases hjk : j < k
        · obtain ⟨b, o, rfl, c0', c1', c2'⟩ := srow_at HR.out hlt
          obtain ⟨b1, o1, e1, d0', d1', d2'⟩ := srow_at HR.out (i := j) (by omega)
          cases e1
          have c0 := cell_regrown (cellU c0' HB.out)
          have c1 := cell_regrown (cellU c1' HB.out)
          have c2 := cell_regrown (cellU c2' HB.out)
          have d0 := cell_regrown (cellU d0' HB.out)
          have d1 := cell_regrown (cellU d1' HB.out)
          have d2 := cell_regrown (cellU d2' HB.out)
          clear c0' c1' c2' d0' d1' d2'
          have hsr := HRT.out.at hlt
          have htr := HRT.out.at (i := j) (by omega)
          have hjl : (j : Int) < (l.length : Int) := by omega
          obtain ⟨s, hs⟩ : ∃ s, l.getD k s0 = s := ⟨_, rfl⟩
          obtain ⟨t, ht⟩ : ∃ t, l.getD j s0 = t := ⟨_, rfl⟩
          rw [hs] at c0 c1 c2 hsr
          rw [ht] at d0 d1 d2 htr
          have HCL : Hid (∀ W, Calls Tryz.prog 117 #[.agg #[.int .u16 s.1, .int .u32 s.2.1, .int .i64 s.2.2], .agg #[.int .u16 t.1, .int .u32 t.2.1, .int .i64 t.2.2]] W fun e w' => e = .returned (.bool (meetS s t)) ∧ Below W.heap.size W w') := fun W => refmeet_any s t W hsr htr
          have HST : Hid (l.getD k s0 = s ∧ l.getD j s0 = t) := ⟨hs, ht⟩
          clear hs ht hsr htr
          obtain ⟨s1, s2, s3⟩ := s
          obtain ⟨t1, t2, t3⟩ := t
          simp only at c0 c1 c2 d0 d1 d2 HCL
          cases hm : meetS (s1, s2, s3) (t1, t2, t3) with
          | true =>
            rw [hm] at HCL
            have HF : Hid (apartB l = false) := apartB_no hlt hjk (by rw [HST.out.1, HST.out.2]; exact hm)
            clear hm
            go_wp2_with fail
            refine wp_region_quiet_below (by kernel_rfl) (by kernel_rfl) ?_
            repeat (go_big_quiet_step (first | (go_at_call 117; exact Calls.regrown_of (HCL.out _))))
            refine wpQuiet_nil ?_
            intro _ hw'
            obtain ⟨⟨dq, osq⟩, hw''⟩ := hw'
            subst hw''
            go_wp2
            go_ret
            exact ⟨by rw [HF.out]; rfl, HB.out.trans ((below_regrown _ dq osq).mono HB.out.size)⟩
          | false =>
            rw [hm] at HCL
            have HF : Hid (∀ j', j' < j + 1 → meetS (l.getD k s0) (l.getD j' s0) = false) := fun j' hj' => by
              by_cases e : j' = j
              · subst e; rw [HST.out.1, HST.out.2]; exact hm
              · exact HM.out j' (by omega)
            clear hm
            go_wp2_with fail
            refine wp_region_quiet_below (by kernel_rfl) (by kernel_rfl) ?_
            repeat (go_big_quiet_step (first | (go_at_call 117; exact Calls.regrown_of (HCL.out _))))
            refine wpQuiet_nil ?_
            intro _ hw'
            obtain ⟨⟨dq, osq⟩, hw''⟩ := hw'
            subst hw''
            go_wp2
            go_roundg (k - (j + 1))
            case measure => omega
            case rel => exact ⟨j + 1, by omega, Nat.le_refl _, by go_num, HB.out.trans ((below_regrown _ dq osq).mono HB.out.size), HF.out⟩
        · have : j = k := by omega
          subst this
          go_wp2
          go_roundg (l.length - (j + 1))
          case measure => omega
          case rel => exact ⟨j + 1, by omega, Nat.le_refl _, by go_num, HB.out, fun i hi j' hj' => by
            by_cases e : i = j
            · subst e; exact HM.out j' hj'
            · exact HN.out i (by omega) j' hj'⟩
    · have : k = l.length := by omega
      subst this
      have HF : Hid (apartB l = true) := apartB_iff.2 HN.out
      go_wp2
      go_ret
      exact ⟨by rw [HF.out]; rfl, HB.out⟩

set_option maxHeartbeats 3200000 in
theorem reffit_any (l : List Sp) (p : Option Addr) (c : Nat) (w : World) (hR : GRow layS w p l) (hf : FitSs l) (hl : l.length ≤ 100000) :
    Calls Tryz.prog 87 #[.slice p l.length c] w fun e w' => e = .returned (.int .i64 (fitL l)) ∧ Below w.heap.size w w' := by
  have HR := Lib.hid hR
  have HFT := Lib.hid hf
  clear hR hf
  have HFL : Hid (fitL l = if l.length = 0 then 11 else if l.length > 1024 then 13 else if fitA 0 l ≠ 0 then fitA 0 l else if apartB l = true then 0 else 16) := rfl
  go_enter Tryz.func87, Tryz.ntmps87
  by_cases h0 : l.length = 0
  · have HF : Hid (fitL l = 11) := by rw [HFL.out, if_pos h0]; rfl
    go_wp2
    go_ret
    exact ⟨by rw [HF.out]; rfl, Below.refl _ _⟩
  have h0' : ((l.length : Int) == 0) = false := by rw [beq_eq_false_iff_ne]; omega
  by_cases h1 : l.length > 1024
  · have HF : Hid (fitL l = 13) := by rw [HFL.out, if_neg h0, if_pos h1]; rfl
    have h1' : (1024 : Int) < (l.length : Int) := by omega
    go_wp2
    go_ret
    exact ⟨by rw [HF.out]; rfl, Below.refl _ _⟩
  have h1' : (l.length : Int) ≤ 1024 := by omega
  have HFL2 : Hid (fitL l = if fitA 0 l ≠ 0 then fitA 0 l else if apartB l = true then 0 else 16) := by rw [HFL.out, if_neg h0, if_neg h1]; rfl
  clear HFL h0
  go_wp2
  go_loopg [3, 4] l.length (fun g n i wr => ∃ (k : Nat) (N : Int), k ≤ l.length ∧ l.length - k ≤ g ∧ i = .int .i64 (k : Int) ∧ n = .int .i64 N ∧ 0 ≤ N ∧ N ≤ 1024 ∧ fitA 0 l = fitA N (l.drop k) ∧ RightS (l.take k) ∧ Below w.heap.size w wr)
  case atStart => exact ⟨0, 0, Nat.zero_le _, by omega, rfl, rfl, by omega, by omega, rfl, (by intro x hx; simp at hx), Below.refl _ _⟩
  case round =>
    obtain ⟨k, N, hk, hg, rfl, rfl, hN0, hN1, hfa, hrt, hb⟩ := hrel
    have HB := Lib.hid hb
    have HFA := Lib.hid hfa
    have HRT := Lib.hid hrt
    clear hb hfa hrt
    by_cases hlt : k < l.length
    · obtain ⟨b, o, rfl, c0', c1', c2'⟩ := srow_at HR.out hlt
      have c0 := cellU c0' HB.out
      have c1 := cellU c1' HB.out
      have c2 := cellU c2' HB.out
      have HST : Hid (fitA 0 l = fitA N (l.getD k s0 :: l.drop (k + 1))) := by rw [HFA.out, drop_getD s0 hlt]; rfl
      have HTK : Hid (rightS (l.getD k s0) = true → RightS (l.take (k + 1))) := fun h x hx => by
        rw [take_getD s0 hlt, List.mem_append] at hx
        rcases hx with hx | hx
        · exact HRT.out x hx
        · rw [List.mem_singleton] at hx; rw [hx]; exact h
      have hfs := HFT.out.at hlt
      have HC := refright_any (l.getD k s0) wr hfs
      rw [sv_eq] at HC
      generalize l.getD k s0 = s at HST HTK hfs HC c0' c1' c2' c0 c1 c2
      have d2 := fun W hb => cellU (w' := W) c2 hb
      obtain ⟨r, n, m⟩ := s
      simp only at c0 c1 c2 HC d2
      have HC := Lib.hid HC
      clear c0' c1' c2' HFA
      unfold FitS at hfs
      simp only at hfs
      cases hrs : rightS (r, n, m) with
      | false =>
        have HF : Hid (fitL l = 11) := by rw [HFL2.out, HST.out, fitA, if_pos hrs]; rfl
        rw [hrs] at HC
        go_wp2_with (first | (go_at_call 108; refine HC.out.mono ?_; rintro e w1 ⟨rfl, hb1⟩))
        go_ret
        exact ⟨by rw [HF.out]; rfl, below_step HB.out hb1⟩
      | true =>
        have hri := rightS_iff.1 hrs
        simp only at hri
        have HST2 : Hid (fitA 0 l = if N + m > 1024 then 15 else fitA (N + m) (l.drop (k + 1))) := by rw [HST.out, fitA, if_neg (by rw [hrs]; simp)]; rfl
        have HRT2 : Hid (RightS (l.take (k + 1))) := HTK.out hrs
        rw [hrs] at HC
        clear HTK hrs
        by_cases hbig : N + m > 1024
        · have HF : Hid (fitL l = 15) := by rw [HFL2.out, HST2.out, if_pos hbig]; rfl
          have hbig' : 1024 < N + m := hbig
          go_wp2_with (first | (go_at_call 108; refine HC.out.mono ?_; rintro e w1 ⟨rfl, hb1⟩; have d2 := d2 _ hb1))
          go_ret
          exact ⟨by rw [HF.out]; rfl, below_step HB.out hb1⟩
        · have hbig' : N + m ≤ 1024 := by omega
          have HF : Hid (fitA 0 l = fitA (N + m) (l.drop (k + 1))) := by rw [HST2.out, if_neg hbig]; rfl
          go_wp2_with (first | (go_at_call 108; refine HC.out.mono ?_; rintro e w1 ⟨rfl, hb1⟩; have d2 := d2 _ hb1))
          go_roundg (l.length - (k + 1))
          case measure => omega
          case rel => exact ⟨k + 1, N + m, by omega, Nat.le_refl _, by go_num, rfl, by omega, by omega, HF.out, HRT2.out, below_step HB.out hb1⟩
    · have : k = l.length := by omega
      subst this
      rw [List.take_length] at HRT
      have HFZ : Hid (fitA 0 l = 0) := by rw [HFA.out, List.drop_length]; rfl
      have HC := Lib.hid (refapart_any l p c wr (HR.out.below HB.out) HRT.out hl)
      cases hap : apartB l with
      | false =>
        have HF : Hid (fitL l = 16) := by rw [HFL2.out, HFZ.out, hap]; rfl
        rw [hap] at HC
        go_wp2_with (first | (go_at_call 109; refine HC.out.mono ?_; rintro e w1 ⟨rfl, hb1⟩))
        go_ret
        exact ⟨by rw [HF.out]; rfl, below_step HB.out hb1⟩
      | true =>
        have HF : Hid (fitL l = 0) := by rw [HFL2.out, HFZ.out, hap]; rfl
        rw [hap] at HC
        go_wp2_with (first | (go_at_call 109; refine HC.out.mono ?_; rintro e w1 ⟨rfl, hb1⟩))
        go_ret
        exact ⟨by rw [HF.out]; rfl, below_step HB.out hb1⟩

end Go.Proofs.YtceanfpcddcfoaaGreat
/-
  What the laws' own refs, right, names and same of layer 7 hand back. No conditions beyond what each theorem states.
-/
namespace Go.Proofs.YtceanfpcddcfoaaGreat
open Go.ChangeShapes Go.WideShapes Go.ChangeAt Go.RowKit Go.Lib
set_option linter.unusedVariables false
set_option linter.unusedSimpArgs false

/-- All are spans, with few names, and few. -/
def rightL (l : List Sp) : Bool := l.all rightS && decide (totalL l ≤ 1500) && decide (l.length ≤ 60)
theorem rightL_iff {l : List Sp} : rightL l = true ↔ RightS l ∧ totalL l ≤ 1500 ∧ l.length ≤ 60 := by
  unfold rightL RightS
  simp only [Bool.and_eq_true, List.all_eq_true, decide_eq_true_eq, and_assoc]
theorem rightL_no {l : List Sp} (h : ¬ (RightS l ∧ totalL l ≤ 1500 ∧ l.length ≤ 60)) : rightL l = false := by
  cases hb : rightL l with
  | false => rfl
  | true => exact absurd (rightL_iff.1 hb) h
theorem box_cells (w : World) (r n m : Value) (t : TypeId) : (w.alloc (.cells #[r, n, m] t)).cell? ⟨w.heap.size, 0, none⟩ = some r ∧ (w.alloc (.cells #[r, n, m] t)).cell? ⟨w.heap.size, 1, none⟩ = some n ∧ (w.alloc (.cells #[r, n, m] t)).cell? ⟨w.heap.size, 2, none⟩ = some m := by
  refine ⟨?_, ?_, ?_⟩ <;> rw [cell_of_block (heap_alloc_new w _)] <;> rfl
end Go.Proofs.YtceanfpcddcfoaaGreat
/-
  What the document's Less of layer 7 hands back. No conditions beyond what each theorem states.
-/
namespace Go.Proofs.YtceanfpcddcfoaaGreat
open Go.ChangeShapes Go.WideShapes Go.ChangeAt Go.RowKit Go.Lib
set_option linter.unusedVariables false
set_option linter.unusedSimpArgs false

theorem owns_rebase {w : World} {B B' n size : Nat} {e : TypeId} {v : Value} {xs : List Value} (h : w.ownsRow B' e size v n xs) (hb : B ≤ B') : w.ownsRow B e size v n xs := by
  refine ⟨h.1, ?_⟩
  rcases h.2 with hv | ⟨g, cap, cur, rfl, hbg, rest⟩
  · exact .inl hv
  · exact .inr ⟨g, cap, cur, rfl, Nat.le_trans hb hbg, rest⟩
theorem Hold.rebase {α : Type} {L : Lay α} {w w' wr : World} {e : TypeId} {v : Value} {xs : List α} (h : Hold L w' e v xs wr) (hb : Below w.heap.size w w') : Hold L w e v xs wr := ⟨owns_rebase h.1 hb.size, below_step hb h.2⟩
theorem Made.rebase {α : Type} {L : Lay α} {t : TypeId} {w w' w'' : World} {xs : List α} {e : Ending} (h : Made L t w' xs e w'') (hb : Below w.heap.size w w') : Made L t w xs e w'' := by
  obtain ⟨v, e, hh⟩ := h
  exact ⟨v, e, hh.rebase hb⟩
theorem lessN_right {l wo : List Sp} (h : RightS l) : RightN (lessN l wo) := fun a ha => rightN_ids h a ((List.mem_filter.1 ha).1)
theorem lessN_le (l wo : List Sp) : (lessN l wo).length ≤ totalL l := List.length_filter_le _ _

end Go.Proofs.YtceanfpcddcfoaaGreat
/-
  Spans of names have just these names; no name is there twice just if no two spans meet; what is left of spans without others. Of no program; no conditions beyond what each theorem states.
-/
namespace Go.Proofs.YtceanfpcddcfoaaGreat
open Go.ChangeShapes Go.WideShapes Go.ChangeAt Go.RowKit Go.Lib
set_option linter.unusedVariables false
set_option linter.unusedSimpArgs false

theorem idsS_one (x : Nm) : idsS (x.1, x.2, 1) = [x] := by simp [idsS, idsN]
theorem idsS_more {s : Sp} (h : 1 ≤ s.2.2) : idsS (s.1, s.2.1, s.2.2 + 1) = idsS s ++ [(s.1, s.2.1 + s.2.2)] := by
  unfold idsS
  simp only
  rw [show (s.2.2 + 1).toNat = s.2.2.toNat + 1 by omega]
  have : idsN (s.1, s.2.1, s.2.2 + 1) (s.2.2.toNat + 1) = idsN s (s.2.2.toNat + 1) := rfl
  rw [this, idsN_succ]
  congr 2
  apply Prod.ext
  · rfl
  · simp; omega
/-- Behind so many names: they are the spans' names; the last span ends with the last name; each number may be. -/
def OfInv (ids : List Nm) (k : Nat) : Prop := idsL (ofL (ids.take k)) = ids.take k ∧ (∀ s ∈ ofL (ids.take k), 1 ≤ s.2.1 ∧ 1 ≤ s.2.2 ∧ s.2.2 ≤ 1024 ∧ s.2.1 + s.2.2 - 1 ≤ 268435456) ∧ (∀ D s, ofL (ids.take k) = D ++ [s] → (s.1, s.2.1 + s.2.2 - 1) = ids.getD (k - 1) n0)
theorem of_inv {ids : List Nm} (hr : RightN ids) : ∀ k, k ≤ ids.length → OfInv ids k := by
  intro k
  induction k with
  | zero => exact fun _ => ⟨rfl, (by intro s hs; simp [ofL, ofA] at hs), by intro D s h; simp [ofL, ofA] at h⟩
  | succ k ih =>
    intro h
    have hx := rightN_iff.1 (hr.at (i := k) (by omega))
    by_cases h0 : k = 0
    · subst h0
      unfold OfInv
      rw [ofL_first (by omega)]
      refine ⟨?_, ?_, ?_⟩
      · rw [idsL_one, idsS_one, take_getD n0 (by omega)]; rfl
      · intro s hs
        rw [List.mem_singleton] at hs
        subst hs
        simp only
        omega
      · intro D s e
        have : D = [] ∧ s = ((ids.getD 0 n0).1, (ids.getD 0 n0).2, 1) := by
          have hl := congrArg List.length e
          simp at hl
          subst hl
          simpa using e.symm
        obtain ⟨-, rfl⟩ := this
        simp
    · obtain ⟨i1, i2, i3⟩ := ih (by omega)
      obtain ⟨D, s, e1, e2⟩ := ofL_next (ids := ids) (k := k) (by omega) (by omega)
      have hs := i2 s (by rw [e1]; simp)
      have hl := i3 D s e1
      rw [e1] at i1 i2
      unfold OfInv
      rw [e2]
      by_cases hc : follows (ids.getD (k - 1) n0) (ids.getD k n0) = true ∧ s.2.2 < 1024
      · rw [if_pos hc]
        have hf := of_decide_eq_true hc.1
        rw [← hl] at hf
        simp only at hf
        have hxx : (s.1, s.2.1 + s.2.2) = ids.getD k n0 := Prod.ext hf.1 (by simp only; omega)
        refine ⟨?_, ?_, ?_⟩
        · rw [idsL_append, idsL_one, idsS_more (by omega), take_getD n0 (by omega), ← i1, idsL_append, idsL_one, List.append_assoc, hxx]
        · intro t ht
          rw [List.mem_append, List.mem_singleton] at ht
          rcases ht with ht | rfl
          · exact i2 t (by simp [ht])
          · have : (ids.getD k n0).2 = s.2.1 + s.2.2 := by rw [← hxx]
            simp only
            omega
        · intro D' t e
          have := List.append_inj' e rfl
          obtain ⟨-, e3⟩ := this
          simp only [List.cons.injEq, and_true] at e3
          subst e3
          rw [Nat.add_sub_cancel, ← hxx]
          apply Prod.ext
          · rfl
          · simp only; omega
      · rw [if_neg hc]
        refine ⟨?_, ?_, ?_⟩
        · rw [idsL_append, i1, idsL_one, take_getD n0 (by omega)]
          congr 1
          exact idsS_one _
        · intro t ht
          rw [List.mem_append, List.mem_singleton] at ht
          rcases ht with ht | rfl
          · exact i2 t ht
          · simp only; omega
        · intro D' t e
          have := List.append_inj' e rfl
          obtain ⟨-, e3⟩ := this
          simp only [List.cons.injEq, and_true] at e3
          subst e3
          rw [Nat.add_sub_cancel]
          apply Prod.ext
          · rfl
          · simp only; omega
theorem ids_of {ids : List Nm} (hr : RightN ids) : idsL (ofL ids) = ids := by
  have := (of_inv hr ids.length (Nat.le_refl _)).1
  rwa [List.take_length] at this
theorem right_of {ids : List Nm} (hr : RightN ids) : RightS (ofL ids) := by
  have := (of_inv hr ids.length (Nat.le_refl _)).2.1
  rw [List.take_length] at this
  intro s hs
  have := this s hs
  rw [rightS_iff]; omega
theorem total_of {ids : List Nm} (hr : RightN ids) : totalL (ofL ids) = ids.length := by unfold totalL; rw [ids_of hr]
theorem of_len (ids : List Nm) : (ofL ids).length ≤ ids.length := by
  have := ofL_len_le ids ids.length (Nat.le_refl _)
  rwa [List.take_length] at this
/-- A right span's first name is one of its names. -/
theorem first_mem {s : Sp} (h : 1 ≤ s.2.2) : (s.1, s.2.1) ∈ idsS s := mem_idsS.2 ⟨rfl, Int.le_refl _, by simp only; omega⟩
theorem fit_of_ids {l : List Sp} (hr : RightS l) (hf : FitNs (idsL l)) : FitSs l := by
  intro s hs
  have h := rightS_iff.1 (hr s hs)
  have hm : (s.1, s.2.1) ∈ idsL l := mem_idsL.2 ⟨s, hs, first_mem h.2.1⟩
  have := hf _ hm
  unfold FitN at this
  unfold FitS
  simp only at this
  omega
theorem fit_of_of {ids : List Nm} (hr : RightN ids) (hf : FitNs ids) : FitSs (ofL ids) := fit_of_ids (right_of hr) (by rw [ids_of hr]; exact hf)

theorem meet_iff {s t : Sp} (hs : rightS s = true) (ht : rightS t = true) : meetS s t = true ↔ ∃ a, a ∈ idsS s ∧ a ∈ idsS t := by
  have h1 := rightS_iff.1 hs
  have h2 := rightS_iff.1 ht
  unfold meetS
  rw [decide_eq_true_iff]
  constructor
  · rintro ⟨e, h3, h4⟩
    by_cases hle : s.2.1 ≤ t.2.1
    · exact ⟨(s.1, t.2.1), mem_idsS.2 ⟨rfl, hle, by simp only; omega⟩, mem_idsS.2 ⟨e, Int.le_refl _, by simp only; omega⟩⟩
    · exact ⟨(s.1, s.2.1), mem_idsS.2 ⟨rfl, Int.le_refl _, by simp only; omega⟩, mem_idsS.2 ⟨e, by simp only; omega, by simp only; omega⟩⟩
  · rintro ⟨a, ha, hb⟩
    obtain ⟨e1, a1, a2⟩ := mem_idsS.1 ha
    obtain ⟨e2, b1, b2⟩ := mem_idsS.1 hb
    exact ⟨by rw [← e1, e2], by omega, by omega⟩
theorem idsS_nodup (s : Sp) : (idsS s).Nodup := by
  unfold idsS idsN
  rw [List.nodup_iff_pairwise_ne, List.pairwise_map]
  refine List.Pairwise.imp ?_ (List.nodup_range (n := s.2.2.toNat))
  intro a b h e
  have := (Prod.mk.inj e).2
  omega
/-- No two of them meet. -/
theorem apart_pairs {l : List Sp} : Apart l ↔ l.Pairwise fun a b => meetS b a = false := by
  rw [List.pairwise_iff_getElem]
  constructor
  · intro h i j hi hj hij
    have := h j hj i hij
    simpa [hi, hj] using this
  · intro h i hi k hk
    have := h k i (by omega) hi hk
    simpa [hi, show k < l.length by omega] using this
theorem pairs_nodup {l : List Sp} (hr : RightS l) : l.Pairwise (fun a b => meetS b a = false) ↔ (idsL l).Nodup := by
  induction l with
  | nil => simp [idsL]
  | cons a l ih =>
    have hra : rightS a = true := hr a (by simp)
    have hrl : RightS l := fun x hx => hr x (by simp [hx])
    rw [List.pairwise_cons, idsL_cons, List.nodup_append, ih hrl]
    constructor
    · rintro ⟨h1, h2⟩
      refine ⟨idsS_nodup a, h2, ?_⟩
      intro x hx y hy e
      subst e
      obtain ⟨t, ht, hm⟩ := mem_idsL.1 hy
      have := (meet_iff (hrl t ht) hra).2 ⟨x, hm, hx⟩
      rw [h1 t ht] at this
      cases this
    · rintro ⟨-, h2, h3⟩
      refine ⟨?_, h2⟩
      intro t ht
      cases hm : meetS t a with
      | false => rfl
      | true =>
        obtain ⟨x, hx, hy⟩ := (meet_iff (hrl t ht) hra).1 hm
        exact absurd rfl (h3 x hy x (mem_idsL.2 ⟨t, ht, hx⟩))
theorem apart_nodup {l : List Sp} (hr : RightS l) : apartB l = true ↔ (idsL l).Nodup := by rw [apartB_iff, apart_pairs, pairs_nodup hr]

theorem ids_less {l wo : List Sp} (hr : RightS l) : idsL (lessL l wo) = lessN l wo := ids_of fun a ha => rightN_ids hr a (List.mem_filter.1 ha).1
theorem right_less {l wo : List Sp} (hr : RightS l) : RightS (lessL l wo) := right_of fun a ha => rightN_ids hr a (List.mem_filter.1 ha).1
theorem lessN_total (l wo : List Sp) : (lessN l wo).length ≤ totalL l := List.length_filter_le _ _
theorem total_less {l wo : List Sp} (hr : RightS l) : totalL (lessL l wo) ≤ totalL l := by unfold totalL; rw [ids_less hr]; exact lessN_total l wo
theorem len_less {l wo : List Sp} (hr : RightS l) : (lessL l wo).length ≤ totalL l := Nat.le_trans (of_len _) (lessN_total l wo)
theorem mem_lessN {l wo : List Sp} {a : Nm} : a ∈ lessN l wo ↔ a ∈ idsL l ∧ a ∉ idsL wo := by unfold lessN; rw [List.mem_filter]; simp
theorem fit_less {l wo : List Sp} (hr : RightS l) (hf : FitSs l) : FitSs (lessL l wo) := fit_of_ids (right_less hr) (by rw [ids_less hr]; intro a ha; exact fitN_ids hr hf a (mem_lessN.1 ha).1)
theorem less_self (l : List Sp) : lessL l l = [] := by
  have : lessN l l = [] := List.filter_eq_nil_iff.2 fun a ha => by simp [ha]
  unfold lessL; rw [this]; rfl
theorem less_nil (l : List Sp) : lessL l [] = ofL (idsL l) := by
  have : lessN l [] = idsL l := List.filter_eq_self.2 fun a ha => by simp [idsL]
  unfold lessL; rw [this]
/-- What is in others is not left without them. -/
theorem less_in {l wo : List Sp} (hr : RightS l) : lessL (lessL l (lessL l wo)) wo = [] := by
  have : lessN (lessL l (lessL l wo)) wo = [] := List.filter_eq_nil_iff.2 fun a ha => by
    rw [ids_less hr, mem_lessN, ids_less hr, mem_lessN] at ha
    have : a ∈ idsL wo := by
      by_cases h : a ∈ idsL wo
      · exact h
      · exact absurd ⟨ha.1, h⟩ ha.2
    simp [this]
  unfold lessL at this ⊢; rw [this]; rfl
theorem filter_parts {α : Type} (f : α → Bool) (l : List α) : l.length = (l.filter f).length + (l.filter fun a => !f a).length := by
  induction l with
  | nil => rfl
  | cons a l ih =>
    cases h : f a <;> simp [h] <;> omega
/-- What isn't in others and what is are all, together, and no name twice. -/
theorem less_both {l wo : List Sp} (hr : RightS l) (hd : (idsL l).Nodup) : totalL (lessL l wo ++ lessL l (lessL l wo)) = (idsL l).length ∧ (idsL (lessL l wo ++ lessL l (lessL l wo))).Nodup := by
  have e1 : idsL (lessL l wo) = (idsL l).filter fun a => decide (a ∉ idsL wo) := ids_less hr
  have e2 : idsL (lessL l (lessL l wo)) = (idsL l).filter fun a => !decide (a ∉ idsL wo) := by
    rw [ids_less hr]
    unfold lessN
    apply List.filter_congr
    intro a ha
    have hm : a ∈ idsL (lessL l wo) ↔ a ∉ idsL wo := by
      rw [e1, List.mem_filter]
      simp [ha]
    by_cases h : a ∈ idsL wo
    · have : a ∉ idsL (lessL l wo) := fun k => (hm.1 k) h
      simp [h, this]
    · have := hm.2 h
      simp [h, this]
  constructor
  · unfold totalL
    rw [idsL_append, List.length_append, e1, e2]
    exact (filter_parts _ _).symm
  · rw [idsL_append, e1, e2, List.nodup_append]
    refine ⟨hd.filter _, hd.filter _, ?_⟩
    intro a ha b hb e
    subst e
    have h1 := (List.mem_filter.1 ha).2
    have h2 := (List.mem_filter.1 hb).2
    rw [h1] at h2
    cases h2

end Go.Proofs.YtceanfpcddcfoaaGreat
/-
  What the laws of layer 7 lean on: what span's calls hand back (to be proved of the landed code), and the laws' own anchor under that. No conditions beyond what each theorem states.
-/
namespace Go.Proofs.YtceanfpcddcfoaaGreat
open Go.ChangeShapes Go.WideShapes Go.ChangeAt Go.RowKit Go.Lib
set_option linter.unusedVariables false
set_option linter.unusedSimpArgs false

def TotalSpec : Prop := ∀ (l : List Sp) (p : Option Addr) (c : Nat) (w : World), GRow layS w p l → RightS l → FitSs l → l.length ≤ 3000 → totalL l ≤ 3000 → l.length ≤ c → (p = none → c = 0) → Calls Tryz.prog 107 #[.slice p l.length c] w fun e w' => e = .returned (.int .i64 (totalL l : Int)) ∧ Below w.heap.size w w'
def ApartSpec : Prop := ∀ (l : List Sp) (p : Option Addr) (c : Nat) (w : World), GRow layS w p l → RightS l → FitSs l → l.length ≤ 3000 → totalL l ≤ 3000 → l.length ≤ c → (p = none → c = 0) → Calls Tryz.prog 125 #[.slice p l.length c] w fun e w' => e = .returned (.bool (apartB l)) ∧ Below w.heap.size w w'
def HasSpec : Prop := ∀ (s : Sp) (a : Nm) (w : World), rightS s = true → FitS s → FitN a → Calls Tryz.prog 128 #[sv s, nv a] w fun e w' => e = .returned (.bool (decide (a ∈ idsS s))) ∧ Below w.heap.size w w'
def LastSpec : Prop := ∀ (s : Sp) (w : World), rightS s = true → FitS s → Calls Tryz.prog 126 #[sv s] w fun e w' => e = .returned (nv (s.1, s.2.1 + s.2.2 - 1)) ∧ Below w.heap.size w w'
def cutA (s : Sp) (n : Int) : Sp := if 1 ≤ n ∧ n < s.2.2 then (s.1, s.2.1, n) else s0
def cutB (s : Sp) (n : Int) : Sp := if 1 ≤ n ∧ n < s.2.2 then (s.1, s.2.1 + n, s.2.2 - n) else s0
def RightSpec : Prop := ∀ (s : Sp) (w : World), FitS s → Calls Tryz.prog 123 #[sv s] w fun e w' => e = .returned (.bool (rightS s)) ∧ Below w.heap.size w w'
def FitSpec : Prop := ∀ (l : List Sp) (p : Option Addr) (c : Nat) (w : World), GRow layS w p l → FitSs l → l.length ≤ 1100 → l.length ≤ c → (p = none → c = 0) → Calls Tryz.prog 120 #[.slice p l.length c] w fun e w' => e = .returned (.int .i64 (fitL l)) ∧ Below w.heap.size w w'

theorem grow_three {W : World} {p : Addr} {r n m : Int} (h0 : W.cell? p = some (.int .u16 r)) (h1 : W.cell? (p.add 1) = some (.int .u32 n)) (h2 : W.cell? (p.add 2) = some (.int .i64 m)) : GRow layS W (some p) [(r, n, m)] := by
  obtain ⟨b, o, s⟩ := p
  have hs : s = none := by simpa using World.cell?_spot h0
  subst hs
  rw [Addr.add_lit] at h1 h2
  intro j u hj
  rw [layS.flat_one] at hj
  match j, hj with
  | 0, hj => simp [layS] at hj; subst hj; exact ⟨b, o, rfl, h0⟩
  | 1, hj => simp [layS] at hj; subst hj; exact ⟨b, o, rfl, h1⟩
  | 2, hj => simp [layS] at hj; subst hj; exact ⟨b, o, rfl, h2⟩
theorem three_names (w : World) (t : TypeId) : GRow layI (w.alloc (.cells #[.int .u16 1, .int .u32 4, .int .u16 1, .int .u32 5, .int .u16 2, .int .u32 6] t)) (some ⟨w.heap.size, 0, none⟩) [(1, 4), (1, 5), (2, 6)] := by
  have h : (w.alloc (.cells #[.int .u16 1, .int .u32 4, .int .u16 1, .int .u32 5, .int .u16 2, .int .u32 6] t)).heap[w.heap.size]? = some (.cells (layI.flat [(1, 4), (1, 5), (2, 6)]).toArray t (0, 0)) := heap_alloc_new w _
  exact grow_block h
end Go.Proofs.YtceanfpcddcfoaaGreat
/-
  What the writer's Byte, Num, Text, Raw, Len and Bytes do, for every writer that lies in memory and all that is written. No conditions beyond what each theorem states (what is written stays below a million bytes).
-/
namespace Go.Proofs.YtceanfpcddcfoaaGreat
open Go.ChangeShapes Go.WideShapes Go.ChangeAt Go.RowKit Go.Lib
set_option linter.unusedVariables false
set_option linter.unusedSimpArgs false

/-- Where a string is appended to a row of the call's own, the new row is the old one or new. -/
theorem app_str_at {P : Program} (w : World) (B : Nat) (t u ty e : TypeId) (i : TypeInfo) (ht : P.underlying t = some (.slice e)) (hu : P.underlying u = some .string) (hi : P.info? e = some i) (hz : i.zero = some (.int .u8 0))
    (hsize : i.size = 1) (hby : i.bytes = 1) (v : Value) (n : Nat) (xs : List Value) (hown : w.ownsRow B e 1 v n xs) (s : ByteArray) (hn : n + s.size ≤ 140737488355328) {v' : Value} {w' : World}
    (hr : (Builtin.append_ #[t, u] ty #[v, .string s]).run P w = .ok v' w') : v'.ownBlock = v.ownBlock ∨ v'.ownBlock = some w.heap.size := by
  have hxl : xs.length = n := by simpa using hown.1
  rcases hown.2 with ⟨rfl, rfl⟩ | ⟨g, cap, cur, rfl, hbg, hg, hnc, hcm, hcs, htake⟩
  · by_cases hm : s.size = 0
    · have hf := run_firstCells_string (P := P) w 1 s
      rw [hm] at hf
      simp [Builtin.append_, run_underlying ht, run_underlying hu, sizeOf, typeInfo, hi, hsize, Builtin.lenOf, hm, hf] at hr
      left; rw [← hr.1]
    · have h2 := run_append_nil_string (P := P) w t u ty e i (.int .u8 0) ht hu hi hz s (by omega) (by omega) (by rw [hby]; omega)
      rw [h2] at hr
      cases hr
      right; rfl
  · by_cases hroom : n + s.size ≤ cap
    · have hcs' : cur.size = cap := by simpa using hcs
      have h2 := run_append_room_string (P := P) w t u ty e i ht hu hi hsize g n cap cur hg s hroom (by omega)
      rw [h2] at hr
      cases hr
      left; rfl
    · have h2 := run_append_grow_string (P := P) w t u ty e i (.int .u8 0) ht hu hi hz ⟨g, 0, none⟩ n cap xs (by rw [hsize]; simpa using hxl) (hown.cells (g := g) rfl) s (by omega) (by omega) (by rw [hby]; exact growslice_fits (by omega) (by omega))
      rw [h2] at hr
      cases hr
      right; rfl
theorem wpList_app_str {P : Program} (w : World) {ops : Array Oper} {rest : List Oper} {o : Oper} {a : Act} {Q : Exit → Act → World → Prop} (hgd : o.guard = none) (sl x : Operand) (t u : TypeId)
    (ho : o.op = .call { callee := .builtin .append, args := #[sl, x], argTypes := #[t, u] })
    (B : Nat) (e : TypeId) (i : TypeInfo) (ht : P.underlying t = some (.slice e)) (hu : P.underlying u = some .string) (hi : P.info? e = some i) (hz : i.zero = some (.int .u8 0))
    (hsize : i.size = 1) (hby : i.bytes = 1) (v : Value) (n : Nat) (xs : List Value) (hs : a.eval sl = v) (hown : w.ownsRow B e 1 v n xs) (s : ByteArray) (hx : a.eval x = .string s)
    (hn : n + s.size ≤ 140737488355328) (hB : B ≤ w.heap.size)
    (h : ∀ v' w', w'.ownsRow B e 1 v' (n + s.size) (xs ++ strCells s) → w.grownBy w' v.ownBlock → (v'.ownBlock = v.ownBlock ∨ v'.ownBlock = some w.heap.size) → wpList P ops Q rest (a.put o.dst v') w') : wpList P ops Q (o :: rest) a w := by
  refine wpList_plain hgd fun K hK => ?_
  obtain ⟨v', w', hr, h2, h3, h4⟩ := run_append_own_string (P := P) w B t u o.type e i ht hu hi hz hsize hby v n xs hown s (by unfold maxLen; omega) hn hB
  have h5 := app_str_at (P := P) w B t u o.type e i ht hu hi hz hsize hby v n xs hown s hn hr
  unfold Oper.wp execOp
  simp only [ho, resolve, invoke, builtin, Sem.run_bind, Sem.run_pure, Result.andThen_ok, List.map_toArray, List.map_cons, List.map_nil, hs, hx, hr]
  exact hK _ _ (h v' w' h2 h3 h5)

/-- A writer at block K that holds the slice v, which owns the bytes. -/
structure Wr (B K : Nat) (v : Value) (bs : List UInt8) (w : World) : Prop where
  base : B ≤ K
  room : B ≤ w.heap.size
  box : w.heap[K]? = some (.cells #[v] 85 (0, 0))
  row : w.ownsRow B 5 1 v bs.length (byteCells bs)
theorem Wr.apart {B K : Nat} {v : Value} {bs : List UInt8} {w : World} (h : Wr B K v bs w) : v.ownBlock ≠ some K := by
  intro e
  rcases h.row.2 with ⟨rfl, _⟩ | ⟨g, cap, cur, rfl, hb, hg, _⟩
  · cases e
  · simp [Value.ownBlock] at e
    subst e
    rw [h.box] at hg
    cases hg
/-- What a writer's call leaves. -/
def Wrote (B K : Nat) (v : Value) (bs cs : List UInt8) (w w' : World) : Prop :=
  ∃ v', Wr B K v' (bs ++ cs) w' ∧ (v'.ownBlock = v.ownBlock ∨ ∃ g, v'.ownBlock = some g ∧ w.heap.size ≤ g) ∧ Kept (fun k => k = K ∨ v.ownBlock = some k) w w'
theorem Wrote.refl {B K : Nat} {v : Value} {bs : List UInt8} {w : World} (h : Wr B K v bs w) : Wrote B K v bs [] w w := ⟨v, by rw [List.append_nil]; exact h, Or.inl rfl, Kept.refl _ _⟩
theorem Wr.step {B K : Nat} {v v' : Value} {bs cs ds : List UInt8} {w w1 w2 : World} (h1 : Kept (fun k => k = K ∨ v.ownBlock = some k) w w1) (hv : v'.ownBlock = v.ownBlock ∨ ∃ g, v'.ownBlock = some g ∧ w.heap.size ≤ g) (h : Wrote B K v' (bs ++ cs) ds w1 w2) : Wrote B K v bs (cs ++ ds) w w2 := by
  obtain ⟨v2, k1, k2, k3⟩ := h
  refine ⟨v2, by rw [← List.append_assoc]; exact k1, ?_, h1.trans k3 ?_⟩
  · rcases k2 with e | ⟨g, e, hg⟩
    · rcases hv with e2 | ⟨g, e2, hg⟩
      · exact Or.inl (e.trans e2)
      · exact Or.inr ⟨g, e.trans e2, hg⟩
    · exact Or.inr ⟨g, e, Nat.le_trans h1.size hg⟩
  · rintro i hi (rfl | e)
    · exact Or.inl rfl
    · rcases hv with e2 | ⟨g, e2, hg⟩
      · exact Or.inr (e2 ▸ e)
      · rw [e2] at e; cases e; omega
theorem Wrote.trans {B K : Nat} {v : Value} {bs cs ds : List UInt8} {w w1 w2 : World} (h : Wrote B K v bs cs w w1) (hk : ∀ v', Wr B K v' (bs ++ cs) w1 → Wrote B K v' (bs ++ cs) ds w1 w2) : Wrote B K v bs (cs ++ ds) w w2 := by
  obtain ⟨v', k1, k2, k3⟩ := h
  exact Wr.step k3 k2 (hk v' k1)
/-- Behind an append to the writer's row, and the store of what it told. -/
theorem Wr.wrote {B K : Nat} {v v' : Value} {bs cs : List UInt8} {w W w1 : World} (h : Wr B K v bs w) (hb : Below w.heap.size w W) (hown : w1.ownsRow B 5 1 v' (bs.length + cs.length) (byteCells bs ++ byteCells cs)) (hg : W.grownBy w1 v.ownBlock) (hat : v'.ownBlock = v.ownBlock ∨ v'.ownBlock = some W.heap.size) :
    w1.heap[K]? = some (.cells #[v] 85 (0, 0)) ∧ Wrote B K v bs cs w (w1.setCell ⟨K, 0, none⟩ v') := by
  have hK := lt_of_block h.box
  have hne : some K ≠ v.ownBlock := fun e => h.apart e.symm
  have hbox : w1.heap[K]? = some (.cells #[v] 85 (0, 0)) := by
    rw [hg.block K (Nat.lt_of_lt_of_le hK hb.size) hne, hb.block K hK]; exact h.box
  have hk : Kept (fun k => k = K ∨ v.ownBlock = some k) w w1 := (Kept.ofBelow hb).trans (T := fun k => v.ownBlock = some k) (Kept.ofGrown hg (fun k e => e)) (fun i _ e => Or.inr e)
  have hv' : v'.ownBlock ≠ some K := by
    rcases hat with e | e
    · rw [e]; exact fun e => h.apart e
    · rw [e]; intro e; cases e; have := hb.size; omega
  refine ⟨hbox, v', ⟨h.base, ?_, ?_, ?_⟩, ?_, hk.set (Or.inl rfl) _⟩
  · have := h.room; have := hk.size; simp [World.setCell]; omega
  · simp [World.setCell, Array.getElem?_modify, hbox]
  · rw [byteCells_append, List.length_append]
    exact Kept.row (S := fun k => k = K) (Kept.set (S := fun k => k = K) (Kept.refl _ _) rfl _) hown (fun k e1 e2 => hv' (by rw [e1, e2]))
  · rcases hat with e | e
    · exact Or.inl e
    · exact Or.inr ⟨_, e, hb.size⟩
theorem Wr.bound {B K : Nat} {v : Value} {bs : List UInt8} {w w' : World} (h : Wr B K v bs w) (hk : Kept (fun k => k = K ∨ v.ownBlock = some k) w w') : Below B w w' :=
  hk.below h.room (by rintro k (rfl | e); exact h.base; exact (h.row.lt k e).1)

theorem one_byte (x : UInt8) : ∀ u ∈ [Value.int .u8 (x.toNat : Int)], u.oneCell' = true := by intro u hu; simp at hu; subst hu; rfl
theorem bytes_one (x : UInt8) : byteCells [x] = [Value.int .u8 (x.toNat : Int)] := rfl

set_option maxHeartbeats 800000 in
theorem wbyte_any (B K : Nat) (v : Value) (bs : List UInt8) (x : UInt8) (w : World) (hW : Wr B K v bs w) (hl : bs.length ≤ 1000000) :
    Calls Tryz.prog 88 #[.pointer (some ⟨K, 0, none⟩), .int .u8 (x.toNat : Int)] w fun e w' => e = .returned (.tuple #[]) ∧ Wrote B K v bs [x] w w' := by
  obtain ⟨i0, hi, hz0, hz1, hz2⟩ := info_parts infoB
  have hc : w.cell? ⟨K, 0, none⟩ = some v := by rw [cell_of_block hW.box]; rfl
  have HW := Lib.hid hW
  clear hW
  go_enter Tryz.func88, Tryz.ntmps88
  go_wp2_with (first
    | (at_builtin; refine wpList_append_own_at _ rfl (.tmp 8) (.tmp 10) 42 rfl B 5 i0 (.int .u8 0) 1 1 Tryz.underlying42 hi hz0 hz1 hz2 rfl (by decide) _ _ _ rfl (HW.out.row.alloc _) ⟨w.heap.size, 0, none⟩ 1 1 [.int .u8 (x.toNat : Int)] rfl rfl (cell_one_new _ _ _) (one_byte x) (by unfold maxLen; omega) (by omega) (by have := HW.out.room; simp; omega) ?_))
  intro v' w1 hown hgrow _ hat
  obtain ⟨p', c', rfl⟩ := owns_slice hown
  obtain ⟨hbox, hw⟩ := HW.out.wrote (cs := [x]) (below_alloc (Below.refl _ _) _) (by rw [bytes_one]; exact hown) hgrow (by simpa using hat)
  have HWR := Lib.hid hw
  have c1 : w1.cell? ⟨K, 0, none⟩ = some v := by rw [cell_of_block hbox]; rfl
  have f1 : w1.frozen? ⟨K, 0, none⟩ = false := frozen_of_block hbox
  clear hown hgrow hat hbox hw hc
  go_wp2
  go_end0
  exact ⟨rfl, HWR.out⟩
theorem wbyte_nat (B K : Nat) (v : Value) (bs : List UInt8) (m : Nat) (hm : m < 256) (w : World) (hW : Wr B K v bs w) (hl : bs.length ≤ 1000000) :
    Calls Tryz.prog 88 #[.pointer (some ⟨K, 0, none⟩), .int .u8 (m : Int)] w fun e w' => e = .returned (.tuple #[]) ∧ Wrote B K v bs [UInt8.ofNat m] w w' := by
  have := wbyte_any B K v bs (UInt8.ofNat m) w hW hl
  rwa [u8_nat hm] at this

theorem and63 (n : Nat) (h : n < 18446744073709551616) : bits .and .u64 (n : Int) 9223372036854775807 = ((n % 9223372036854775808 : Nat) : Int) := by
  have e : (BitVec.ofInt 64 (n : Int) &&& BitVec.ofInt 64 9223372036854775807).toNat = n % 9223372036854775808 := by
    rw [BitVec.toNat_and, show (BitVec.ofInt 64 9223372036854775807).toNat = 2 ^ 63 - 1 from rfl, Nat.and_two_pow_sub_one_eq_mod, BitVec.toNat_ofInt]
    omega
  show IntKind.u64.wrap ((BitVec.ofInt 64 (n : Int) &&& BitVec.ofInt 64 9223372036854775807).toNat : Int) = _
  rw [e, IntKind.wrap_u64]
  omega

set_option maxHeartbeats 1600000 in
theorem wnum_any (B K : Nat) (v : Value) (bs : List UInt8) (n : Nat) (hn : n < 18446744073709551616) (w : World) (hW : Wr B K v bs w) (hl : bs.length ≤ 900000) :
    Calls Tryz.prog 62 #[.pointer (some ⟨K, 0, none⟩), .int .u64 (n : Int)] w fun e w' => e = .returned (.tuple #[]) ∧ Wrote B K v bs (encN (n % 9223372036854775808)) w w' := by
  have ha := and63 n hn
  have HN : Hid (n % 9223372036854775808 < 9223372036854775808) := Nat.mod_lt _ (by decide)
  generalize n % 9223372036854775808 = N at ha HN ⊢
  have HL : Hid ((encN N).length ≤ 9) := encN_len HN.out
  have HW := Lib.hid hW
  clear hW
  go_enter Tryz.func62, Tryz.ntmps62
  go_wp2_with fail
  refine wp_scope_loop 0 (fun a' w' => ∃ (m : Nat) (cs : List UInt8) (c4 c5 c6 c7 c8 c9 c10 c11 c12 c13 c14 c15 : Value), a' = { tmps := #[.pointer (some ⟨K, 0, none⟩), .int .u64 (m : Int), undef, undef, c4, c5, c6, c7, c8, c9, c10, c11, c12, c13, c14, c15, undef, undef, undef, undef], defers := [] } ∧ m < 9223372036854775808 ∧ encN N = cs ++ encN m ∧ Wrote B K v bs cs w w') (fun a' _ => natOf (a'.tmps.getD 1 undef)) rfl ?_ ?_
  · intro hpass
    have HP := Lib.hid hpass
    clear hpass
    go_wp2_with fail
    go_step3
    rename_i KK hKK
    exact hKK _ _ (HP.out _ _ ⟨N, [], _, _, _, _, _, _, _, _, _, _, _, _, rfl, HN.out, rfl, Wrote.refl HW.out⟩)
  · rintro a' w' ⟨m, cs, c4, c5, c6, c7, c8, c9, c10, c11, c12, c13, c14, c15, rfl, hm, he, hw⟩
    obtain ⟨v', k1, k2, k3⟩ := hw
    have hcl : cs.length ≤ 9 := by have := HL.out; rw [he, List.length_append] at this; omega
    have HE := Lib.hid he
    have K1 := Lib.hid k1
    have K2 := Lib.hid k2
    have K3 := Lib.hid k3
    clear he k1 k2 k3 ha
    by_cases hs : m < 128
    · have hs' : ¬ (128 : Int) ≤ (m : Int) := by omega
      have hb : IntKind.u8.wrap (m : Int) = m := by rw [IntKind.wrap_u8]; omega
      have H := Lib.hid (wbyte_nat B K v' (bs ++ cs) m (by omega) w' K1.out (by simp; omega))
      have HX : Hid (encN N = cs ++ [UInt8.ofNat m]) := by rw [HE.out, encN_small hs]; rfl
      go_wp2_with fail
      refine H.out.mono ?_
      rintro e w1 ⟨rfl, hw1⟩
      have HW1 := Lib.hid hw1
      clear hw1
      go_wp2_with fail
      simp only [Exit.jump]
      go_end0
      exact ⟨rfl, by rw [HX.out]; exact Wr.step K3.out K2.out HW1.out⟩
    · have hs' : (128 : Int) ≤ (m : Int) := by omega
      have H := wbyte_nat B K v' (bs ++ cs) (m % 128 + 128) (by omega) w' K1.out (by simp; omega)
      rw [show ((m % 128 + 128 : Nat) : Int) = (m : Int) % 128 + 128 by omega] at H
      have H := Lib.hid H
      have HX : Hid (encN N = (cs ++ [UInt8.ofNat (m % 128 + 128)]) ++ encN (m / 128)) := by rw [HE.out, encN_big hs, List.append_assoc]; rfl
      have HM : Hid (m / 128 < m) := by show m / 128 < m; omega
      go_wp2_with fail
      refine H.out.mono ?_
      rintro e w1 ⟨rfl, hw1⟩
      have HW1 : Hid (Wrote B K v bs (cs ++ [UInt8.ofNat (m % 128 + 128)]) w w1) := Wr.step K3.out K2.out hw1
      clear hw1
      go_wp2_with fail
      go_step3
      exact ⟨rfl, ⟨m / 128, _, _, _, _, _, _, _, _, _, _, _, _, _, rfl, by omega, HX.out, HW1.out⟩, HM.out⟩

end Go.Proofs.YtceanfpcddcfoaaGreat
/-
  What the writer's Text, Raw, Len and Bytes, and copied, do, for every writer that lies in memory and all that is written. No conditions beyond what each theorem states (what is written stays below a million bytes).
-/
namespace Go.Proofs.YtceanfpcddcfoaaGreat
open Go.ChangeShapes Go.WideShapes Go.ChangeAt Go.RowKit Go.Lib
set_option linter.unusedVariables false
set_option linter.unusedSimpArgs false

theorem str_cells (s : List UInt8) : strCells ⟨s.toArray⟩ = byteCells s := rfl
theorem str_size (s : List UInt8) : (⟨s.toArray⟩ : ByteArray).size = s.length := rfl

set_option maxHeartbeats 800000 in
theorem wtext_any (B K : Nat) (v : Value) (bs s : List UInt8) (w : World) (hW : Wr B K v bs w) (hl : bs.length ≤ 800000) (hs : s.length ≤ 90000) :
    Calls Tryz.prog 90 #[.pointer (some ⟨K, 0, none⟩), .string ⟨s.toArray⟩] w fun e w' => e = .returned (.tuple #[]) ∧ Wrote B K v bs (encT s) w w' := by
  obtain ⟨i0, hi, hz0, hz1, hz2⟩ := info_parts infoB
  have hN : s.length % 9223372036854775808 = s.length := Nat.mod_eq_of_lt (by omega)
  have H := wnum_any B K v bs s.length (by omega) w hW (by omega)
  rw [hN] at H
  have H := Lib.hid H
  have HLN : Hid ((encN s.length).length ≤ 9) := encN_len (by omega)
  have hw : IntKind.u64.wrap (s.length : Int) = s.length := by rw [IntKind.wrap_u64]; omega
  clear hW hN
  go_enter Tryz.func90, Tryz.ntmps90
  go_wp2_with fail
  refine H.out.mono ?_
  rintro e w1 ⟨rfl, v1, k1, k2, k3⟩
  obtain ⟨bs1, hb1⟩ : ∃ b, b = bs ++ encN s.length := ⟨_, rfl⟩
  have hb2 : bs1.length ≤ 800009 := by rw [hb1, List.length_append]; have := HLN.out; omega
  rw [← hb1] at k1
  obtain ⟨p1, c1, rfl⟩ := owns_slice k1.row
  have hc : w1.cell? ⟨K, 0, none⟩ = some (.slice p1 bs1.length c1) := by rw [cell_of_block k1.box]; rfl
  have HB1 := Lib.hid hb1
  clear hb1
  have K1 := Lib.hid k1
  have K2 := Lib.hid k2
  have K3 := Lib.hid k3
  clear k1 k2 k3 H
  go_wp2_with (first
    | (at_builtin; refine wpList_app_str _ rfl (.tmp 13) (.tmp 14) 42 9 rfl B 5 i0 Tryz.underlying42 Tryz.underlying9 hi hz0 hz1 hz2 _ _ _ rfl K1.out.row ⟨s.toArray⟩ rfl (by rw [str_size]; omega) K1.out.room ?_))
  intro v' w2 hown hgrow hat
  obtain ⟨p', c', rfl⟩ := owns_slice hown
  obtain ⟨hbox, hw⟩ := K1.out.wrote (cs := s) (Below.refl _ _) hown hgrow hat
  have HWR : Hid (Wrote B K v bs (encT s) w _) := Wr.step K3.out K2.out (by rw [← HB1.out]; exact hw)
  have c2 : w2.cell? ⟨K, 0, none⟩ = some (.slice p1 bs1.length c1) := by rw [cell_of_block hbox]; rfl
  have f2 : w2.frozen? ⟨K, 0, none⟩ = false := frozen_of_block hbox
  clear hown hgrow hat hbox hw hc
  go_wp2
  go_end0
  exact ⟨rfl, HWR.out⟩

theorem splice_all {L cs : List Value} (h : L.length = cs.length) : splice L 0 cs = cs := by simp [splice, h]
theorem infoS : (Tryz.prog.info? 5).map (·.size) = some 1 := by kernel_rfl

theorem copy_eq (bs : List UInt8) (p : Option Addr) (c g : Nat) (w1 : World) (cur : List Value) (hcs : cur.length = bs.length) (hh : w1.heap[g]? = some (.cells cur.toArray 5 (0, 0)))
    (hp : 0 < (byteCells bs).length → ∃ ad, p = some ad ∧ ∀ j v, (byteCells bs)[j]? = some v → w1.cell? (ad.add j) = some v) (w : World) (hb : Below g w w1) :
    ∃ w2, (Builtin.copy_ #[42, 42] 3 #[.slice (some ⟨g, 0, none⟩) bs.length bs.length, .slice p bs.length c]).run Tryz.prog w1 = .ok (goInt bs.length) w2 ∧ w2.heap[g]? = some (.cells (byteCells bs).toArray 5 (0, 0)) ∧ Below g w w2 := by
  have hl := byteCells_length bs
  have hm : Nat.min bs.length bs.length = bs.length := Nat.min_self _
  by_cases h0 : bs.length = 0
  · refine ⟨w1, ?_, ?_, hb⟩
    · rw [run_copy_none (P := Tryz.prog) w1 42 42 3 5 _ p bs.length bs.length bs.length c Tryz.underlying42 infoS (by rw [hm]; exact h0), h0]; rfl
    · rw [hh, List.eq_nil_of_length_eq_zero (l := cur) (by rw [hcs]; exact h0), List.eq_nil_of_length_eq_zero (l := byteCells bs) (by rw [hl]; exact h0)]
  · obtain ⟨ad, rfl, hc⟩ := hp (by omega)
    have hr := run_copy_row (P := Tryz.prog) w1 42 42 3 5 g 0 bs.length bs.length ad bs.length c cur.toArray 5 (byteCells bs) Tryz.underlying42 infoS hh (by rw [hm]; exact hl) hc (by simp; omega) (byteCells_one bs)
    rw [show goInt ((byteCells bs).length : Int) = goInt (bs.length : Int) by rw [hl]] at hr
    refine ⟨_, hr, ?_, below_setRow hb (Nat.le_refl _) _⟩
    rw [setRow_heap w1 g _ _ 5 _ hh]
    simp [hcs, hl]

/-- What copied leaves: the bytes in new memory. -/
def Copied (bs : List UInt8) (w : World) (e : Ending) (w' : World) : Prop := e = .returned (.slice (some ⟨w.heap.size, 0, none⟩) bs.length bs.length) ∧ w'.heap[w.heap.size]? = some (.cells (byteCells bs).toArray 5 (0, 0)) ∧ Below w.heap.size w w'

set_option maxHeartbeats 1600000 in
theorem copied_any (bs : List UInt8) (p : Option Addr) (c : Nat) (w : World) (hR : BRow w p bs) (hl : bs.length ≤ 1000000) :
    Calls Tryz.prog 66 #[.slice p bs.length c] w (Copied bs w) := by
  obtain ⟨i0, hi, hz0, hz1, hz2⟩ := info_parts infoB
  have HR := Lib.hid hR
  clear hR
  go_enter Tryz.func66, Tryz.ntmps66
  go_wp2_with (first
    | (at_make; refine wpList_make_full _ rfl _ _ 42 rfl w.heap.size 5 i0 (.int .u8 0) 1 Tryz.underlying42 hi hz0 hz1 _ _ _ _ bs.length rfl rfl rfl rfl (by rw [hz2]; omega) (by unfold maxLen; omega) (Nat.le_refl _) ?_))
  intro w1 hown hgrow
  obtain ⟨cur, hh, hcs⟩ : ∃ cur : List Value, w1.heap[w.heap.size]? = some (.cells cur.toArray 5 (0, 0)) ∧ cur.length = bs.length := by
    rcases hown.2 with ⟨h, _⟩ | ⟨g, cap, cur, h, _, hg, _, _, h3, _⟩
    · cases h
    · cases h
      exact ⟨cur.toList, by simpa using hg, by simpa using h3⟩
  have hb : Below w.heap.size w w1 := (Below.refl _ _).grown hgrow (Nat.le_refl _) (by intro k e; cases e)
  have HCP : Hid (0 < (byteCells bs).length → ∃ ad, p = some ad ∧ ∀ j v, (byteCells bs)[j]? = some v → w1.cell? (ad.add j) = some v) := fun h0 => by
    have hr1 := HR.out.below hb
    rw [byteCells_length] at h0
    obtain ⟨b, o, e, _⟩ := hr1 0 h0
    exact ⟨_, e, brow_news (e ▸ hr1)⟩
  have HH := Lib.hid hh
  have HB := Lib.hid hb
  obtain ⟨w2, hcp, hg2, hb2⟩ := copy_eq bs p c w.heap.size w1 cur hcs HH.out HCP.out w HB.out
  have HG2 := Lib.hid hg2
  have HB2 := Lib.hid hb2
  clear hown hgrow hh hb HR HCP HH HB hg2 hb2
  go_wp2
  go_ret
  exact ⟨rfl, HG2.out, HB2.out⟩

set_option maxHeartbeats 800000 in
theorem wbytes_any (B K : Nat) (v : Value) (bs : List UInt8) (w : World) (hW : Wr B K v bs w) (hl : bs.length ≤ 1000000) :
    Calls Tryz.prog 34 #[.pointer (some ⟨K, 0, none⟩)] w (Copied bs w) := by
  obtain ⟨p1, c1, rfl, _, hr, _⟩ := brow_owns hW.row
  have hc : w.cell? ⟨K, 0, none⟩ = some (.slice p1 bs.length c1) := by rw [cell_of_block hW.box]; rfl
  have H := Lib.hid (copied_any bs p1 c1 w hr hl)
  clear hW hr
  go_enter Tryz.func34, Tryz.ntmps34
  go_wp2_with fail
  refine H.out.mono ?_
  rintro e w1 ⟨rfl, h1, h2⟩
  have H1 := Lib.hid h1
  have H2 := Lib.hid h2
  clear h1 h2
  go_wp2
  go_ret
  exact ⟨rfl, H1.out, H2.out⟩

end Go.Proofs.YtceanfpcddcfoaaGreat
/-
  What From, and the reader's Error, At, Left, Done, fail, take and number do, for every reader that lies in memory. No conditions beyond what each theorem states (its bytes are fewer than a million).
-/
namespace Go.Proofs.YtceanfpcddcfoaaGreat
open Go.ChangeShapes Go.WideShapes Go.ChangeAt Go.RowKit Go.Lib
set_option linter.unusedVariables false
set_option linter.unusedSimpArgs false

/-- A reader at block K, its bytes at block D: how many were read, and its first error. -/
structure Rd (K D : Nat) (bs : List UInt8) (q e : Nat) (w : World) : Prop where
  box : w.heap[K]? = some (.cells #[.slice (some ⟨D, 0, none⟩) bs.length bs.length, .int .i64 (q : Int), .int .i64 (e : Int)] 125 (0, 0))
  row : w.heap[D]? = some (.cells (byteCells bs).toArray 5 (0, 0))
  fits : q ≤ bs.length
  less : bs.length ≤ 1000000
theorem Rd.apart {K D : Nat} {bs : List UInt8} {q e : Nat} {w : World} (h : Rd K D bs q e w) : D ≠ K := by
  intro e; subst e; have h1 := h.box; rw [h.row] at h1; simp only [Option.some.injEq, Obj.cells.injEq] at h1; exact absurd h1.2.1 (by decide)
theorem Rd.kept {K D : Nat} {bs : List UInt8} {q e : Nat} {w w' : World} {S : Nat → Prop} (h : Rd K D bs q e w) (hk : Kept S w w') (h1 : ¬ S K) (h2 : ¬ S D) : Rd K D bs q e w' := ⟨hk.stays h.box h1, hk.stays h.row h2, h.fits, h.less⟩
theorem Rd.below {K D : Nat} {bs : List UInt8} {q e : Nat} {w w' : World} (h : Rd K D bs q e w) (hb : Below w.heap.size w w') : Rd K D bs q e w' := h.kept (S := fun _ => False) (Kept.ofBelow hb) (fun f => f) (fun f => f)
theorem Rd.cell0 {K D : Nat} {bs : List UInt8} {q e : Nat} {w : World} (h : Rd K D bs q e w) : w.cell? ⟨K, 0, none⟩ = some (.slice (some ⟨D, 0, none⟩) bs.length bs.length) := by rw [cell_of_block h.box]; rfl
theorem Rd.cell1 {K D : Nat} {bs : List UInt8} {q e : Nat} {w : World} (h : Rd K D bs q e w) : w.cell? ⟨K, 1, none⟩ = some (.int .i64 (q : Int)) := by rw [cell_of_block h.box]; rfl
theorem Rd.cell2 {K D : Nat} {bs : List UInt8} {q e : Nat} {w : World} (h : Rd K D bs q e w) : w.cell? ⟨K, 2, none⟩ = some (.int .i64 (e : Int)) := by rw [cell_of_block h.box]; rfl
theorem Rd.frozen {K D : Nat} {bs : List UInt8} {q e : Nat} {w : World} (h : Rd K D bs q e w) (o : Nat) : w.frozen? ⟨K, o, none⟩ = false := frozen_of_block h.box
theorem Rd.brow {K D : Nat} {bs : List UInt8} {q e : Nat} {w : World} (h : Rd K D bs q e w) : BRow w (some ⟨D, 0, none⟩) bs := brow_block h.row
theorem Rd.set1 {K D : Nat} {bs : List UInt8} {q e : Nat} {w : World} (h : Rd K D bs q e w) {q' : Nat} (hq : q' ≤ bs.length) : Rd K D bs q' e (w.setCell ⟨K, 1, none⟩ (.int .i64 (q' : Int))) :=
  ⟨by simp [World.setCell, Array.getElem?_modify, h.box], by rw [Below.heap_setCell _ _ _ _ h.apart]; exact h.row, hq, h.less⟩
theorem Rd.set2 {K D : Nat} {bs : List UInt8} {q e : Nat} {w : World} (h : Rd K D bs q e w) (e' : Nat) : Rd K D bs q e' (w.setCell ⟨K, 2, none⟩ (.int .i64 (e' : Int))) :=
  ⟨by simp [World.setCell, Array.getElem?_modify, h.box], by rw [Below.heap_setCell _ _ _ _ h.apart]; exact h.row, h.fits, h.less⟩
/-- What a reader's call leaves: its own block alone has changed. -/
abbrev Only (K : Nat) (w w' : World) : Prop := Kept (fun k => k = K) w w'
theorem Only.step {K : Nat} {a b c : World} (h : Only K a b) (k : Only K b c) : Only K a c := h.trans k (fun _ _ e => e)
theorem only_drew (K : Nat) (w : World) : Only K w w.drew := ⟨rfl, rfl, rfl, Nat.le_refl _, fun _ _ _ => rfl⟩

set_option maxHeartbeats 800000 in
theorem from_any (bs : List UInt8) (p : Option Addr) (c : Nat) (w : World) (hR : BRow w p bs) (hl : bs.length ≤ 1000000) :
    Calls Tryz.prog 40 #[.slice p bs.length c] w fun e w' => ∃ K, e = .returned (.pointer (some ⟨K, 0, none⟩)) ∧ w.heap.size < K ∧ Rd K w.heap.size bs 0 0 w' ∧ Below w.heap.size w w' := by
  have H := Lib.hid (copied_any bs p c w hR hl)
  clear hR
  go_enter Tryz.func40, Tryz.ntmps40
  go_wp2_with fail
  refine H.out.mono ?_
  rintro e w1 ⟨rfl, h1, h2⟩
  have hlt := lt_of_block h1
  have H1 := Lib.hid h1
  have H2 := Lib.hid h2
  clear h1 h2
  go_wp2
  go_ret
  exact ⟨w1.heap.size, rfl, hlt, ⟨heap_alloc_new w1 _, by rw [Below.heap_alloc _ _ _ hlt]; exact H1.out, Nat.zero_le _, hl⟩, H2.out.alloc (by omega) _⟩

set_option maxHeartbeats 800000 in
theorem error_any {K D : Nat} {bs : List UInt8} {q e : Nat} (w : World) (hR : Rd K D bs q e w) :
    Calls Tryz.prog 74 #[.pointer (some ⟨K, 0, none⟩)] w fun r w' => r = .returned (.int .i64 (e : Int)) ∧ w' = w := by
  have c2 := hR.cell2
  clear hR
  go_enter Tryz.func74, Tryz.ntmps74
  go_wp2
  go_ret
  exact ⟨rfl, rfl⟩
set_option maxHeartbeats 800000 in
theorem left_any {K D : Nat} {bs : List UInt8} {q e : Nat} (w : World) (hR : Rd K D bs q e w) :
    Calls Tryz.prog 76 #[.pointer (some ⟨K, 0, none⟩)] w fun r w' => r = .returned (.int .i64 ((bs.length - q : Nat) : Int)) ∧ Below w.heap.size w w' := by
  have c0 := hR.cell0
  have c1 := hR.cell1
  have hf := hR.fits
  have hl := hR.less
  have hw : IntKind.i64.wrap ((bs.length : Int) - (q : Int)) = ((bs.length - q : Nat) : Int) := by rw [IntKind.wrap_i64]; omega
  clear hR
  go_enter Tryz.func76, Tryz.ntmps76
  go_wp2_with fail
  go_quiet (fail)
  go_wp2
  go_ret
  exact ⟨by first | rfl | (rw [show ((bs.length - q : Nat) : Int) = (bs.length : Int) - (q : Int) by omega]), by first | exact Below.refl _ _ | exact below_drewN (Below.refl _ _) _⟩
set_option maxHeartbeats 800000 in
theorem fail_any {K D : Nat} {bs : List UInt8} {q e : Nat} (f : Nat) (w : World) (hR : Rd K D bs q e w) :
    Calls Tryz.prog 100 #[.pointer (some ⟨K, 0, none⟩), .int .i64 (f : Int)] w fun r w' => r = .returned (.tuple #[]) ∧ Rd K D bs q (if e = 0 then f else e) w' ∧ Only K w w' := by
  have c2 := hR.cell2
  have f2 := hR.frozen 2
  have HR := Lib.hid hR
  clear hR
  by_cases he : e = 0
  · subst he
    go_enter Tryz.func100, Tryz.ntmps100
    go_wp2
    go_end0
    exact ⟨rfl, HR.out.set2 f, Kept.set (S := fun k => k = K) (Kept.refl _ _) rfl _⟩
  · have he' : ((e : Int) == 0) = false := by simp; omega
    rw [if_neg he]
    go_enter Tryz.func100, Tryz.ntmps100
    go_wp2
    go_end0
    exact ⟨rfl, HR.out, Kept.refl _ _⟩

end Go.Proofs.YtceanfpcddcfoaaGreat
