/-
  Several texts of one proof, joined: each part says at its head what it proves. No conditions beyond what each theorem states.
-/
import Derived.Lib.QuietBelow
import Derived.Test.YtjkdcpalgfakhaaGreatZ01
/-
  What the document's Apart, Fit and Less of layer 7 hand back. No conditions beyond what each theorem states.
-/
namespace Go.Proofs.YtjkdcpalgfakhaaGreat
open Go.ChangeShapes Go.WideShapes Go.ChangeAt Go.RowKit Go.Lib
set_option linter.unusedVariables false
set_option linter.unusedSimpArgs false

theorem sv_eq (s : Sp) : sv s = .agg #[.int .u16 s.1, .int .u32 s.2.1, .int .i64 s.2.2] := rfl
theorem nv_eq (a : Nm) : nv a = .agg #[.int .u16 a.1, .int .u32 a.2] := rfl
set_option maxHeartbeats 3200000 in
theorem refapart_any (l : List Sp) (p : Option Addr) (c : Nat) (w : World) (hR : GRow layS w p l) (hr : RightS l) (hl : l.length ≤ 100000) :
    Calls Tryz.prog 98 #[.slice p l.length c] w fun e w' => e = .returned (.bool (apartB l)) ∧ Below w.heap.size w w' := by
  have HR := Lib.hid hR
  have HRT := Lib.hid hr
  clear hR hr
  go_enter Tryz.func98, Tryz.ntmps98
  go_wp2
  go_loopg [3] l.length (fun g i wr => ∃ k : Nat, k ≤ l.length ∧ l.length - k ≤ g ∧ i = .int .i64 (k : Int) ∧ Below w.heap.size w wr ∧ ∀ i, i < k → ∀ j, j < i → meetS (l.getD i s0) (l.getD j s0) = false)
  case atStart => exact ⟨0, Nat.zero_le _, by omega, rfl, Below.refl _ _, fun i hi => by omega⟩
  case round =>
    obtain ⟨k, hk, hg, rfl, hb, hno⟩ := hrel
    have HB := Lib.hid hb
    have HN := Lib.hid hno
    clear hb hno
    by_cases hlt : k < l.length
    · go_wp2
      go_loopg [4] k (fun g i wq => ∃ j : Nat, j ≤ k ∧ k - j ≤ g ∧ i = .int .i64 (j : Int) ∧ Below w.heap.size w wq ∧ ∀ j', j' < j → meetS (l.getD k s0) (l.getD j' s0) = false)
      case atStart => exact ⟨0, Nat.zero_le _, by omega, rfl, HB.out, fun i hi => by omega⟩
      case round =>
        clear HB
        obtain ⟨j, hj, hgj, rfl, hb, hno⟩ := hrel
        have HB := Lib.hid hb
        have HM := Lib.hid hno
        clear hb hno
        by_cases hjk : j < k
        · obtain ⟨b, o, rfl, c0', c1', c2'⟩ := srow_at HR.out hlt
          obtain ⟨b1, o1, e1, d0', d1', d2'⟩ := srow_at HR.out (i := j) (by omega)
          cases e1
          have c0 := cell_regrown (cellU c0' HB.out)
          have c1 := cell_regrown (cellU c1' HB.out)
          have c2 := cell_regrown (cellU c2' HB.out)
          have d0 := cell_regrown (cellU d0' HB.out)
          have d1 := cell_regrown (cellU d1' HB.out)
          have d2 := cell_regrown (cellU d2' HB.out)
          clear c0' c1' c2' d0' d1' d2'
          have hsr := HRT.out.at hlt
          have htr := HRT.out.at (i := j) (by omega)
          have hjl : (j : Int) < (l.length : Int) := by omega
          obtain ⟨s, hs⟩ : ∃ s, l.getD k s0 = s := ⟨_, rfl⟩
          obtain ⟨t, ht⟩ : ∃ t, l.getD j s0 = t := ⟨_, rfl⟩
          rw [hs] at c0 c1 c2 hsr
          rw [ht] at d0 d1 d2 htr
          have HCL : Hid (∀ W, Calls Tryz.prog 104 #[.agg #[.int .u16 s.1, .int .u32 s.2.1, .int .i64 s.2.2], .agg #[.int .u16 t.1, .int .u32 t.2.1, .int .i64 t.2.2]] W fun e w' => e = .returned (.bool (meetS s t)) ∧ Below W.heap.size W w') := fun W => refmeet_any s t W hsr htr
          have HST : Hid (l.getD k s0 = s ∧ l.getD j s0 = t) := ⟨hs, ht⟩
          clear hs ht hsr htr
          obtain ⟨s1, s2, s3⟩ := s
          obtain ⟨t1, t2, t3⟩ := t
          simp only at c0 c1 c2 d0 d1 d2 HCL
          cases hm : meetS (s1, s2, s3) (t1, t2, t3) with
          | true =>
            rw [hm] at HCL
            have HF : Hid (apartB l = false) := apartB_no hlt hjk (by rw [HST.out.1, HST.out.2]; exact hm)
            clear hm
            go_wp2_with fail
            refine wp_region_quiet_below (by kernel_rfl) (by kernel_rfl) ?_
            repeat (go_big_quiet_step (first | (go_at_call 104; exact Calls.regrown_of (HCL.out _))))
            refine wpQuiet_nil ?_
            intro _ hw'
            obtain ⟨⟨dq, osq⟩, hw''⟩ := hw'
            subst hw''
            go_wp2
            go_ret
            exact ⟨by rw [HF.out]; rfl, HB.out.trans ((below_regrown _ dq osq).mono HB.out.size)⟩
          | false =>
            rw [hm] at HCL
            have HF : Hid (∀ j', j' < j + 1 → meetS (l.getD k s0) (l.getD j' s0) = false) := fun j' hj' => by
              by_cases e : j' = j
              · subst e; rw [HST.out.1, HST.out.2]; exact hm
              · exact HM.out j' (by omega)
            clear hm
            go_wp2_with fail
            refine wp_region_quiet_below (by kernel_rfl) (by kernel_rfl) ?_
            repeat (go_big_quiet_step (first | (go_at_call 104; exact Calls.regrown_of (HCL.out _))))
            refine wpQuiet_nil ?_
            intro _ hw'
            obtain ⟨⟨dq, osq⟩, hw''⟩ := hw'
            subst hw''
            go_wp2
            go_roundg (k - (j + 1))
            case measure => omega
            case rel => exact ⟨j + 1, by omega, Nat.le_refl _, by go_num, HB.out.trans ((below_regrown _ dq osq).mono HB.out.size), HF.out⟩
        · have : j = k := by omega
          subst this
          go_wp2
          go_roundg (l.length - (j + 1))
          case measure => omega
          case rel => exact ⟨j + 1, by omega, Nat.le_refl _, by go_num, HB.out, fun i hi j' hj' => by
            by_cases e : i = j
            · subst e; exact HM.out j' hj'
            · exact HN.out i (by omega) j' hj'⟩
    · have : k = l.length := by omega
      subst this
      have HF : Hid (apartB l = true) := apartB_iff.2 HN.out
      go_wp2
      go_ret
      exact ⟨by rw [HF.out]; rfl, HB.out⟩

set_option maxHeartbeats 3200000 in
theorem reffit_any (l : List Sp) (p : Option Addr) (c : Nat) (w : World) (hR : GRow layS w p l) (hf : FitSs l) (hl : l.length ≤ 100000) :
    Calls Tryz.prog 82 #[.slice p l.length c] w fun e w' => e = .returned (.int .i64 (fitL l)) ∧ Below w.heap.size w w' := by
  have HR := Lib.hid hR
  have HFT := Lib.hid hf
  clear hR hf
  have HFL : Hid (fitL l = if l.length = 0 then 11 else if l.length > 1024 then 13 else if fitA 0 l ≠ 0 then fitA 0 l else if apartB l = true then 0 else 16) := rfl
  go_enter Tryz.func82, Tryz.ntmps82
  by_cases h0 : l.length = 0
  · have HF : Hid (fitL l = 11) := by rw [HFL.out, if_pos h0]; rfl
    go_wp2
    go_ret
    exact ⟨by rw [HF.out]; rfl, Below.refl _ _⟩
  have h0' : ((l.length : Int) == 0) = false := by rw [beq_eq_false_iff_ne]; omega
  by_cases h1 : l.length > 1024
  · have HF : Hid (fitL l = 13) := by rw [HFL.out, if_neg h0, if_pos h1]; rfl
    have h1' : (1024 : Int) < (l.length : Int) := by omega
    go_wp2
    go_ret
    exact ⟨by rw [HF.out]; rfl, Below.refl _ _⟩
  have h1' : (l.length : Int) ≤ 1024 := by omega
  have HFL2 : Hid (fitL l = if fitA 0 l ≠ 0 then fitA 0 l else if apartB l = true then 0 else 16) := by rw [HFL.out, if_neg h0, if_neg h1]; rfl
  clear HFL h0
  go_wp2
  go_loopg [3, 4] l.length (fun g n i wr => ∃ (k : Nat) (N : Int), k ≤ l.length ∧ l.length - k ≤ g ∧ i = .int .i64 (k : Int) ∧ n = .int .i64 N ∧ 0 ≤ N ∧ N ≤ 1024 ∧ fitA 0 l = fitA N (l.drop k) ∧ RightS (l.take k) ∧ Below w.heap.size w wr)
  case atStart => exact ⟨0, 0, Nat.zero_le _, by omega, rfl, rfl, by omega, by omega, rfl, (by intro x hx; simp at hx), Below.refl _ _⟩
  case round =>
    obtain ⟨k, N, hk, hg, rfl, rfl, hN0, hN1, hfa, hrt, hb⟩ := hrel
    have HB := Lib.hid hb
    have HFA := Lib.hid hfa
    have HRT := Lib.hid hrt
    clear hb hfa hrt
    by_cases hlt : k < l.length
    · obtain ⟨b, o, rfl, c0', c1', c2'⟩ := srow_at HR.out hlt
      have c0 := cellU c0' HB.out
      have c1 := cellU c1' HB.out
      have c2 := cellU c2' HB.out
      have HST : Hid (fitA 0 l = fitA N (l.getD k s0 :: l.drop (k + 1))) := by rw [HFA.out, drop_getD s0 hlt]; rfl
      have HTK : Hid (rightS (l.getD k s0) = true → RightS (l.take (k + 1))) := fun h x hx => by
        rw [take_getD s0 hlt, List.mem_append] at hx
        rcases hx with hx | hx
        · exact HRT.out x hx
        · rw [List.mem_singleton] at hx; rw [hx]; exact h
      have hfs := HFT.out.at hlt
      have HC := refright_any (l.getD k s0) wr hfs
      rw [sv_eq] at HC
      generalize l.getD k s0 = s at HST HTK hfs HC c0' c1' c2' c0 c1 c2
      have d2 := fun W hb => cellU (w' := W) c2 hb
      obtain ⟨r, n, m⟩ := s
      simp only at c0 c1 c2 HC d2
      have HC := Lib.hid HC
      clear c0' c1' c2' HFA
      unfold FitS at hfs
      simp only at hfs
      cases hrs : rightS (r, n, m) with
      | false =>
        have HF : Hid (fitL l = 11) := by rw [HFL2.out, HST.out, fitA, if_pos hrs]; rfl
        rw [hrs] at HC
        go_wp2_with (first | (go_at_call 97; refine HC.out.mono ?_; rintro e w1 ⟨rfl, hb1⟩))
        go_ret
        exact ⟨by rw [HF.out]; rfl, below_step HB.out hb1⟩
      | true =>
        have hri := rightS_iff.1 hrs
        simp only at hri
        have HST2 : Hid (fitA 0 l = if N + m > 1024 then 15 else fitA (N + m) (l.drop (k + 1))) := by rw [HST.out, fitA, if_neg (by rw [hrs]; simp)]; rfl
        have HRT2 : Hid (RightS (l.take (k + 1))) := HTK.out hrs
        rw [hrs] at HC
        clear HTK hrs
        by_cases hbig : N + m > 1024
        · have HF : Hid (fitL l = 15) := by rw [HFL2.out, HST2.out, if_pos hbig]; rfl
          have hbig' : 1024 < N + m := hbig
          go_wp2_with (first | (go_at_call 97; refine HC.out.mono ?_; rintro e w1 ⟨rfl, hb1⟩; have d2 := d2 _ hb1))
          go_ret
          exact ⟨by rw [HF.out]; rfl, below_step HB.out hb1⟩
        · have hbig' : N + m ≤ 1024 := by omega
          have HF : Hid (fitA 0 l = fitA (N + m) (l.drop (k + 1))) := by rw [HST2.out, if_neg hbig]; rfl
          go_wp2_with (first | (go_at_call 97; refine HC.out.mono ?_; rintro e w1 ⟨rfl, hb1⟩; have d2 := d2 _ hb1))
          go_roundg (l.length - (k + 1))
          case measure => omega
          case rel => exact ⟨k + 1, N + m, by omega, Nat.le_refl _, by go_num, rfl, by omega, by omega, HF.out, HRT2.out, below_step HB.out hb1⟩
    · have : k = l.length := by omega
      subst this
      rw [List.take_length] at HRT
      have HFZ : Hid (fitA 0 l = 0) := by rw [HFA.out, List.drop_length]; rfl
      have HC := Lib.hid (refapart_any l p c wr (HR.out.below HB.out) HRT.out hl)
      cases hap : apartB l with
      | false =>
        have HF : Hid (fitL l = 16) := by rw [HFL2.out, HFZ.out, hap]; rfl
        rw [hap] at HC
        go_wp2_with (first | (go_at_call 98; refine HC.out.mono ?_; rintro e w1 ⟨rfl, hb1⟩))
        go_ret
        exact ⟨by rw [HF.out]; rfl, below_step HB.out hb1⟩
      | true =>
        have HF : Hid (fitL l = 0) := by rw [HFL2.out, HFZ.out, hap]; rfl
        rw [hap] at HC
        go_wp2_with (first | (go_at_call 98; refine HC.out.mono ?_; rintro e w1 ⟨rfl, hb1⟩))
        go_ret
        exact ⟨by rw [HF.out]; rfl, below_step HB.out hb1⟩

end Go.Proofs.YtjkdcpalgfakhaaGreat
/-
  What the laws' own refs, right, names and same of layer 7 hand back. No conditions beyond what each theorem states.
-/
namespace Go.Proofs.YtjkdcpalgfakhaaGreat
open Go.ChangeShapes Go.WideShapes Go.ChangeAt Go.RowKit Go.Lib
set_option linter.unusedVariables false
set_option linter.unusedSimpArgs false

/-- All are spans, with few names, and few. -/
def rightL (l : List Sp) : Bool := l.all rightS && decide (totalL l ≤ 1500) && decide (l.length ≤ 60)
theorem rightL_iff {l : List Sp} : rightL l = true ↔ RightS l ∧ totalL l ≤ 1500 ∧ l.length ≤ 60 := by
  unfold rightL RightS
  simp only [Bool.and_eq_true, List.all_eq_true, decide_eq_true_eq, and_assoc]
theorem rightL_no {l : List Sp} (h : ¬ (RightS l ∧ totalL l ≤ 1500 ∧ l.length ≤ 60)) : rightL l = false := by
  cases hb : rightL l with
  | false => rfl
  | true => exact absurd (rightL_iff.1 hb) h
theorem box_cells (w : World) (r n m : Value) (t : TypeId) : (w.alloc (.cells #[r, n, m] t)).cell? ⟨w.heap.size, 0, none⟩ = some r ∧ (w.alloc (.cells #[r, n, m] t)).cell? ⟨w.heap.size, 1, none⟩ = some n ∧ (w.alloc (.cells #[r, n, m] t)).cell? ⟨w.heap.size, 2, none⟩ = some m := by
  refine ⟨?_, ?_, ?_⟩ <;> rw [cell_of_block (heap_alloc_new w _)] <;> rfl
end Go.Proofs.YtjkdcpalgfakhaaGreat
/-
  What the document's Less of layer 7 hands back. No conditions beyond what each theorem states.
-/
namespace Go.Proofs.YtjkdcpalgfakhaaGreat
open Go.ChangeShapes Go.WideShapes Go.ChangeAt Go.RowKit Go.Lib
set_option linter.unusedVariables false
set_option linter.unusedSimpArgs false

theorem owns_rebase {w : World} {B B' n size : Nat} {e : TypeId} {v : Value} {xs : List Value} (h : w.ownsRow B' e size v n xs) (hb : B ≤ B') : w.ownsRow B e size v n xs := by
  refine ⟨h.1, ?_⟩
  rcases h.2 with hv | ⟨g, cap, cur, rfl, hbg, rest⟩
  · exact .inl hv
  · exact .inr ⟨g, cap, cur, rfl, Nat.le_trans hb hbg, rest⟩
theorem Hold.rebase {α : Type} {L : Lay α} {w w' wr : World} {e : TypeId} {v : Value} {xs : List α} (h : Hold L w' e v xs wr) (hb : Below w.heap.size w w') : Hold L w e v xs wr := ⟨owns_rebase h.1 hb.size, below_step hb h.2⟩
theorem Made.rebase {α : Type} {L : Lay α} {t : TypeId} {w w' w'' : World} {xs : List α} {e : Ending} (h : Made L t w' xs e w'') (hb : Below w.heap.size w w') : Made L t w xs e w'' := by
  obtain ⟨v, e, hh⟩ := h
  exact ⟨v, e, hh.rebase hb⟩
theorem lessN_right {l wo : List Sp} (h : RightS l) : RightN (lessN l wo) := fun a ha => rightN_ids h a ((List.mem_filter.1 ha).1)
theorem lessN_le (l wo : List Sp) : (lessN l wo).length ≤ totalL l := List.length_filter_le _ _

end Go.Proofs.YtjkdcpalgfakhaaGreat
/-
  Spans of names have just these names; no name is there twice just if no two spans meet; what is left of spans without others. Of no program; no conditions beyond what each theorem states.
-/
namespace Go.Proofs.YtjkdcpalgfakhaaGreat
open Go.ChangeShapes Go.WideShapes Go.ChangeAt Go.RowKit Go.Lib
set_option linter.unusedVariables false
set_option linter.unusedSimpArgs false

theorem idsS_one (x : Nm) : idsS (x.1, x.2, 1) = [x] := by simp [idsS, idsN]
theorem idsS_more {s : Sp} (h : 1 ≤ s.2.2) : idsS (s.1, s.2.1, s.2.2 + 1) = idsS s ++ [(s.1, s.2.1 + s.2.2)] := by
  unfold idsS
  simp only
  rw [show (s.2.2 + 1).toNat = s.2.2.toNat + 1 by omega]
  have : idsN (s.1, s.2.1, s.2.2 + 1) (s.2.2.toNat + 1) = idsN s (s.2.2.toNat + 1) := rfl
  rw [this, idsN_succ]
  congr 2
  apply Prod.ext
  · rfl
  · simp; omega
/-- Behind so many names: they are the spans' names; the last span ends with the last name; each number may be. -/
def OfInv (ids : List Nm) (k : Nat) : Prop := idsL (ofL (ids.take k)) = ids.take k ∧ (∀ s ∈ ofL (ids.take k), 1 ≤ s.2.1 ∧ 1 ≤ s.2.2 ∧ s.2.2 ≤ 1024 ∧ s.2.1 + s.2.2 - 1 ≤ 268435456) ∧ (∀ D s, ofL (ids.take k) = D ++ [s] → (s.1, s.2.1 + s.2.2 - 1) = ids.getD (k - 1) n0)
theorem of_inv {ids : List Nm} (hr : RightN ids) : ∀ k, k ≤ ids.length → OfInv ids k := by
  intro k
  induction k with
  | zero => exact fun _ => ⟨rfl, (by intro s hs; simp [ofL, ofA] at hs), by intro D s h; simp [ofL, ofA] at h⟩
  | succ k ih =>
    intro h
    have hx := rightN_iff.1 (hr.at (i := k) (by omega))
    by_cases h0 : k = 0
    · subst h0
      unfold OfInv
      rw [ofL_first (by omega)]
      refine ⟨?_, ?_, ?_⟩
      · rw [idsL_one, idsS_one, take_getD n0 (by omega)]; rfl
      · intro s hs
        rw [List.mem_singleton] at hs
        subst hs
        simp only
        omega
      · intro D s e
        have : D = [] ∧ s = ((ids.getD 0 n0).1, (ids.getD 0 n0).2, 1) := by
          have hl := congrArg List.length e
          simp at hl
          subst hl
          simpa using e.symm
        obtain ⟨-, rfl⟩ := this
        simp
    · obtain ⟨i1, i2, i3⟩ := ih (by omega)
      obtain ⟨D, s, e1, e2⟩ := ofL_next (ids := ids) (k := k) (by omega) (by omega)
      have hs := i2 s (by rw [e1]; simp)
      have hl := i3 D s e1
      rw [e1] at i1 i2
      unfold OfInv
      rw [e2]
      by_cases hc : follows (ids.getD (k - 1) n0) (ids.getD k n0) = true ∧ s.2.2 < 1024
      · rw [if_pos hc]
        have hf := of_decide_eq_true hc.1
        rw [← hl] at hf
        simp only at hf
        have hxx : (s.1, s.2.1 + s.2.2) = ids.getD k n0 := Prod.ext hf.1 (by simp only; omega)
        refine ⟨?_, ?_, ?_⟩
        · rw [idsL_append, idsL_one, idsS_more (by omega), take_getD n0 (by omega), ← i1, idsL_append, idsL_one, List.append_assoc, hxx]
        · intro t ht
          rw [List.mem_append, List.mem_singleton] at ht
          rcases ht with ht | rfl
          · exact i2 t (by simp [ht])
          · have : (ids.getD k n0).2 = s.2.1 + s.2.2 := by rw [← hxx]
            simp only
            omega
        · intro D' t e
          have := List.append_inj' e rfl
          obtain ⟨-, e3⟩ := this
          simp only [List.cons.injEq, and_true] at e3
          subst e3
          rw [Nat.add_sub_cancel, ← hxx]
          apply Prod.ext
          · rfl
          · simp only; omega
      · rw [if_neg hc]
        refine ⟨?_, ?_, ?_⟩
        · rw [idsL_append, i1, idsL_one, take_getD n0 (by omega)]
          congr 1
          exact idsS_one _
        · intro t ht
          rw [List.mem_append, List.mem_singleton] at ht
          rcases ht with ht | rfl
          · exact i2 t ht
          · simp only; omega
        · intro D' t e
          have := List.append_inj' e rfl
          obtain ⟨-, e3⟩ := this
          simp only [List.cons.injEq, and_true] at e3
          subst e3
          rw [Nat.add_sub_cancel]
          apply Prod.ext
          · rfl
          · simp only; omega
theorem ids_of {ids : List Nm} (hr : RightN ids) : idsL (ofL ids) = ids := by
  have := (of_inv hr ids.length (Nat.le_refl _)).1
  rwa [List.take_length] at this
theorem right_of {ids : List Nm} (hr : RightN ids) : RightS (ofL ids) := by
  have := (of_inv hr ids.length (Nat.le_refl _)).2.1
  rw [List.take_length] at this
  intro s hs
  have := this s hs
  rw [rightS_iff]; omega
theorem total_of {ids : List Nm} (hr : RightN ids) : totalL (ofL ids) = ids.length := by unfold totalL; rw [ids_of hr]
theorem of_len (ids : List Nm) : (ofL ids).length ≤ ids.length := by
  have := ofL_len_le ids ids.length (Nat.le_refl _)
  rwa [List.take_length] at this
/-- A right span's first name is one of its names. -/
theorem first_mem {s : Sp} (h : 1 ≤ s.2.2) : (s.1, s.2.1) ∈ idsS s := mem_idsS.2 ⟨rfl, Int.le_refl _, by simp only; omega⟩
theorem fit_of_ids {l : List Sp} (hr : RightS l) (hf : FitNs (idsL l)) : FitSs l := by
  intro s hs
  have h := rightS_iff.1 (hr s hs)
  have hm : (s.1, s.2.1) ∈ idsL l := mem_idsL.2 ⟨s, hs, first_mem h.2.1⟩
  have := hf _ hm
  unfold FitN at this
  unfold FitS
  simp only at this
  omega
theorem fit_of_of {ids : List Nm} (hr : RightN ids) (hf : FitNs ids) : FitSs (ofL ids) := fit_of_ids (right_of hr) (by rw [ids_of hr]; exact hf)

theorem meet_iff {s t : Sp} (hs : rightS s = true) (ht : rightS t = true) : meetS s t = true ↔ ∃ a, a ∈ idsS s ∧ a ∈ idsS t := by
  have h1 := rightS_iff.1 hs
  have h2 := rightS_iff.1 ht
  unfold meetS
  rw [decide_eq_true_iff]
  constructor
  · rintro ⟨e, h3, h4⟩
    by_cases hle : s.2.1 ≤ t.2.1
    · exact ⟨(s.1, t.2.1), mem_idsS.2 ⟨rfl, hle, by simp only; omega⟩, mem_idsS.2 ⟨e, Int.le_refl _, by simp only; omega⟩⟩
    · exact ⟨(s.1, s.2.1), mem_idsS.2 ⟨rfl, Int.le_refl _, by simp only; omega⟩, mem_idsS.2 ⟨e, by simp only; omega, by simp only; omega⟩⟩
  · rintro ⟨a, ha, hb⟩
    obtain ⟨e1, a1, a2⟩ := mem_idsS.1 ha
    obtain ⟨e2, b1, b2⟩ := mem_idsS.1 hb
    exact ⟨by rw [← e1, e2], by omega, by omega⟩
theorem idsS_nodup (s : Sp) : (idsS s).Nodup := by
  unfold idsS idsN
  rw [List.nodup_iff_pairwise_ne, List.pairwise_map]
  refine List.Pairwise.imp ?_ (List.nodup_range (n := s.2.2.toNat))
  intro a b h e
  have := (Prod.mk.inj e).2
  omega
/-- No two of them meet. -/
theorem apart_pairs {l : List Sp} : Apart l ↔ l.Pairwise fun a b => meetS b a = false := by
  rw [List.pairwise_iff_getElem]
  constructor
  · intro h i j hi hj hij
    have := h j hj i hij
    simpa [hi, hj] using this
  · intro h i hi k hk
    have := h k i (by omega) hi hk
    simpa [hi, show k < l.length by omega] using this
theorem pairs_nodup {l : List Sp} (hr : RightS l) : l.Pairwise (fun a b => meetS b a = false) ↔ (idsL l).Nodup := by
  induction l with
  | nil => simp [idsL]
  | cons a l ih =>
    have hra : rightS a = true := hr a (by simp)
    have hrl : RightS l := fun x hx => hr x (by simp [hx])
    rw [List.pairwise_cons, idsL_cons, List.nodup_append, ih hrl]
    constructor
    · rintro ⟨h1, h2⟩
      refine ⟨idsS_nodup a, h2, ?_⟩
      intro x hx y hy e
      subst e
      obtain ⟨t, ht, hm⟩ := mem_idsL.1 hy
      have := (meet_iff (hrl t ht) hra).2 ⟨x, hm, hx⟩
      rw [h1 t ht] at this
      cases this
    · rintro ⟨-, h2, h3⟩
      refine ⟨?_, h2⟩
      intro t ht
      cases hm : meetS t a with
      | false => rfl
      | true =>
        obtain ⟨x, hx, hy⟩ := (meet_iff (hrl t ht) hra).1 hm
        exact absurd rfl (h3 x hy x (mem_idsL.2 ⟨t, ht, hx⟩))
theorem apart_nodup {l : List Sp} (hr : RightS l) : apartB l = true ↔ (idsL l).Nodup := by rw [apartB_iff, apart_pairs, pairs_nodup hr]

theorem ids_less {l wo : List Sp} (hr : RightS l) : idsL (lessL l wo) = lessN l wo := ids_of fun a ha => rightN_ids hr a (List.mem_filter.1 ha).1
theorem right_less {l wo : List Sp} (hr : RightS l) : RightS (lessL l wo) := right_of fun a ha => rightN_ids hr a (List.mem_filter.1 ha).1
theorem lessN_total (l wo : List Sp) : (lessN l wo).length ≤ totalL l := List.length_filter_le _ _
theorem total_less {l wo : List Sp} (hr : RightS l) : totalL (lessL l wo) ≤ totalL l := by unfold totalL; rw [ids_less hr]; exact lessN_total l wo
theorem len_less {l wo : List Sp} (hr : RightS l) : (lessL l wo).length ≤ totalL l := Nat.le_trans (of_len _) (lessN_total l wo)
theorem mem_lessN {l wo : List Sp} {a : Nm} : a ∈ lessN l wo ↔ a ∈ idsL l ∧ a ∉ idsL wo := by unfold lessN; rw [List.mem_filter]; simp
theorem fit_less {l wo : List Sp} (hr : RightS l) (hf : FitSs l) : FitSs (lessL l wo) := fit_of_ids (right_less hr) (by rw [ids_less hr]; intro a ha; exact fitN_ids hr hf a (mem_lessN.1 ha).1)
theorem less_self (l : List Sp) : lessL l l = [] := by
  have : lessN l l = [] := List.filter_eq_nil_iff.2 fun a ha => by simp [ha]
  unfold lessL; rw [this]; rfl
theorem less_nil (l : List Sp) : lessL l [] = ofL (idsL l) := by
  have : lessN l [] = idsL l := List.filter_eq_self.2 fun a ha => by simp [idsL]
  unfold lessL; rw [this]
/-- What is in others is not left without them. -/
theorem less_in {l wo : List Sp} (hr : RightS l) : lessL (lessL l (lessL l wo)) wo = [] := by
  have : lessN (lessL l (lessL l wo)) wo = [] := List.filter_eq_nil_iff.2 fun a ha => by
    rw [ids_less hr, mem_lessN, ids_less hr, mem_lessN] at ha
    have : a ∈ idsL wo := by
      by_cases h : a ∈ idsL wo
      · exact h
      · exact absurd ⟨ha.1, h⟩ ha.2
    simp [this]
  unfold lessL at this ⊢; rw [this]; rfl
theorem filter_parts {α : Type} (f : α → Bool) (l : List α) : l.length = (l.filter f).length + (l.filter fun a => !f a).length := by
  induction l with
  | nil => rfl
  | cons a l ih =>
    cases h : f a <;> simp [h] <;> omega
/-- What isn't in others and what is are all, together, and no name twice. -/
theorem less_both {l wo : List Sp} (hr : RightS l) (hd : (idsL l).Nodup) : totalL (lessL l wo ++ lessL l (lessL l wo)) = (idsL l).length ∧ (idsL (lessL l wo ++ lessL l (lessL l wo))).Nodup := by
  have e1 : idsL (lessL l wo) = (idsL l).filter fun a => decide (a ∉ idsL wo) := ids_less hr
  have e2 : idsL (lessL l (lessL l wo)) = (idsL l).filter fun a => !decide (a ∉ idsL wo) := by
    rw [ids_less hr]
    unfold lessN
    apply List.filter_congr
    intro a ha
    have hm : a ∈ idsL (lessL l wo) ↔ a ∉ idsL wo := by
      rw [e1, List.mem_filter]
      simp [ha]
    by_cases h : a ∈ idsL wo
    · have : a ∉ idsL (lessL l wo) := fun k => (hm.1 k) h
      simp [h, this]
    · have := hm.2 h
      simp [h, this]
  constructor
  · unfold totalL
    rw [idsL_append, List.length_append, e1, e2]
    exact (filter_parts _ _).symm
  · rw [idsL_append, e1, e2, List.nodup_append]
    refine ⟨hd.filter _, hd.filter _, ?_⟩
    intro a ha b hb e
    subst e
    have h1 := (List.mem_filter.1 ha).2
    have h2 := (List.mem_filter.1 hb).2
    rw [h1] at h2
    cases h2

end Go.Proofs.YtjkdcpalgfakhaaGreat
/-
  What the laws of layer 7 lean on: what span's calls hand back (to be proved of the landed code), and the laws' own anchor under that. No conditions beyond what each theorem states.
-/
namespace Go.Proofs.YtjkdcpalgfakhaaGreat
open Go.ChangeShapes Go.WideShapes Go.ChangeAt Go.RowKit Go.Lib
set_option linter.unusedVariables false
set_option linter.unusedSimpArgs false

def cutA (s : Sp) (n : Int) : Sp := if 1 ≤ n ∧ n < s.2.2 then (s.1, s.2.1, n) else s0
def cutB (s : Sp) (n : Int) : Sp := if 1 ≤ n ∧ n < s.2.2 then (s.1, s.2.1 + n, s.2.2 - n) else s0
theorem grow_three {W : World} {p : Addr} {r n m : Int} (h0 : W.cell? p = some (.int .u16 r)) (h1 : W.cell? (p.add 1) = some (.int .u32 n)) (h2 : W.cell? (p.add 2) = some (.int .i64 m)) : GRow layS W (some p) [(r, n, m)] := by
  obtain ⟨b, o, s⟩ := p
  have hs : s = none := by simpa using World.cell?_spot h0
  subst hs
  rw [Addr.add_lit] at h1 h2
  intro j u hj
  rw [layS.flat_one] at hj
  match j, hj with
  | 0, hj => simp [layS] at hj; subst hj; exact ⟨b, o, rfl, h0⟩
  | 1, hj => simp [layS] at hj; subst hj; exact ⟨b, o, rfl, h1⟩
  | 2, hj => simp [layS] at hj; subst hj; exact ⟨b, o, rfl, h2⟩
theorem three_names (w : World) (t : TypeId) : GRow layI (w.alloc (.cells #[.int .u16 1, .int .u32 4, .int .u16 1, .int .u32 5, .int .u16 2, .int .u32 6] t)) (some ⟨w.heap.size, 0, none⟩) [(1, 4), (1, 5), (2, 6)] := by
  have h : (w.alloc (.cells #[.int .u16 1, .int .u32 4, .int .u16 1, .int .u32 5, .int .u16 2, .int .u32 6] t)).heap[w.heap.size]? = some (.cells (layI.flat [(1, 4), (1, 5), (2, 6)]).toArray t (0, 0)) := heap_alloc_new w _
  exact grow_block h
end Go.Proofs.YtjkdcpalgfakhaaGreat
/-
  What the writer's Byte, Num, Text, Raw, Len and Bytes do, for every writer that lies in memory and all that is written. No conditions beyond what each theorem states (what is written stays below a million bytes).
-/
namespace Go.Proofs.YtjkdcpalgfakhaaGreat
open Go.ChangeShapes Go.WideShapes Go.ChangeAt Go.RowKit Go.Lib
set_option linter.unusedVariables false
set_option linter.unusedSimpArgs false

/-- Where a string is appended to a row of the call's own, the new row is the old one or new. -/
theorem app_str_at {P : Program} (w : World) (B : Nat) (t u ty e : TypeId) (i : TypeInfo) (ht : P.underlying t = some (.slice e)) (hu : P.underlying u = some .string) (hi : P.info? e = some i) (hz : i.zero = some (.int .u8 0))
    (hsize : i.size = 1) (hby : i.bytes = 1) (v : Value) (n : Nat) (xs : List Value) (hown : w.ownsRow B e 1 v n xs) (s : ByteArray) (hn : n + s.size ≤ 140737488355328) {v' : Value} {w' : World}
    (hr : (Builtin.append_ #[t, u] ty #[v, .string s]).run P w = .ok v' w') : v'.ownBlock = v.ownBlock ∨ v'.ownBlock = some w.heap.size := by
  have hxl : xs.length = n := by simpa using hown.1
  rcases hown.2 with ⟨rfl, rfl⟩ | ⟨g, cap, cur, rfl, hbg, hg, hnc, hcm, hcs, htake⟩
  · by_cases hm : s.size = 0
    · have hf := run_firstCells_string (P := P) w 1 s
      rw [hm] at hf
      simp [Builtin.append_, run_underlying ht, run_underlying hu, sizeOf, typeInfo, hi, hsize, Builtin.lenOf, hm, hf] at hr
      left; rw [← hr.1]
    · have h2 := run_append_nil_string (P := P) w t u ty e i (.int .u8 0) ht hu hi hz s (by omega) (by omega) (by rw [hby]; omega)
      rw [h2] at hr
      cases hr
      right; rfl
  · by_cases hroom : n + s.size ≤ cap
    · have hcs' : cur.size = cap := by simpa using hcs
      have h2 := run_append_room_string (P := P) w t u ty e i ht hu hi hsize g n cap cur hg s hroom (by omega)
      rw [h2] at hr
      cases hr
      left; rfl
    · have h2 := run_append_grow_string (P := P) w t u ty e i (.int .u8 0) ht hu hi hz ⟨g, 0, none⟩ n cap xs (by rw [hsize]; simpa using hxl) (hown.cells (g := g) rfl) s (by omega) (by omega) (by rw [hby]; exact growslice_fits (by omega) (by omega))
      rw [h2] at hr
      cases hr
      right; rfl
theorem wpList_app_str {P : Program} (w : World) {ops : Array Oper} {rest : List Oper} {o : Oper} {a : Act} {Q : Exit → Act → World → Prop} (hgd : o.guard = none) (sl x : Operand) (t u : TypeId)
    (ho : o.op = .call { callee := .builtin .append, args := #[sl, x], argTypes := #[t, u] })
    (B : Nat) (e : TypeId) (i : TypeInfo) (ht : P.underlying t = some (.slice e)) (hu : P.underlying u = some .string) (hi : P.info? e = some i) (hz : i.zero = some (.int .u8 0))
    (hsize : i.size = 1) (hby : i.bytes = 1) (v : Value) (n : Nat) (xs : List Value) (hs : a.eval sl = v) (hown : w.ownsRow B e 1 v n xs) (s : ByteArray) (hx : a.eval x = .string s)
    (hn : n + s.size ≤ 140737488355328) (hB : B ≤ w.heap.size)
    (h : ∀ v' w', w'.ownsRow B e 1 v' (n + s.size) (xs ++ strCells s) → w.grownBy w' v.ownBlock → (v'.ownBlock = v.ownBlock ∨ v'.ownBlock = some w.heap.size) → wpList P ops Q rest (a.put o.dst v') w') : wpList P ops Q (o :: rest) a w := by
  refine wpList_plain hgd fun K hK => ?_
  obtain ⟨v', w', hr, h2, h3, h4⟩ := run_append_own_string (P := P) w B t u o.type e i ht hu hi hz hsize hby v n xs hown s (by unfold maxLen; omega) hn hB
  have h5 := app_str_at (P := P) w B t u o.type e i ht hu hi hz hsize hby v n xs hown s hn hr
  unfold Oper.wp execOp
  simp only [ho, resolve, invoke, builtin, Sem.run_bind, Sem.run_pure, Result.andThen_ok, List.map_toArray, List.map_cons, List.map_nil, hs, hx, hr]
  exact hK _ _ (h v' w' h2 h3 h5)

theorem one_byte (x : UInt8) : ∀ u ∈ [Value.int .u8 (x.toNat : Int)], u.oneCell' = true := by intro u hu; simp at hu; subst hu; rfl
theorem bytes_one (x : UInt8) : byteCells [x] = [Value.int .u8 (x.toNat : Int)] := rfl

theorem and63 (n : Nat) (h : n < 18446744073709551616) : bits .and .u64 (n : Int) 9223372036854775807 = ((n % 9223372036854775808 : Nat) : Int) := by
  have e : (BitVec.ofInt 64 (n : Int) &&& BitVec.ofInt 64 9223372036854775807).toNat = n % 9223372036854775808 := by
    rw [BitVec.toNat_and, show (BitVec.ofInt 64 9223372036854775807).toNat = 2 ^ 63 - 1 from rfl, Nat.and_two_pow_sub_one_eq_mod, BitVec.toNat_ofInt]
    omega
  show IntKind.u64.wrap ((BitVec.ofInt 64 (n : Int) &&& BitVec.ofInt 64 9223372036854775807).toNat : Int) = _
  rw [e, IntKind.wrap_u64]
  omega

end Go.Proofs.YtjkdcpalgfakhaaGreat
/-
  What the writer's Text, Raw, Len and Bytes, and copied, do, for every writer that lies in memory and all that is written. No conditions beyond what each theorem states (what is written stays below a million bytes).
-/
namespace Go.Proofs.YtjkdcpalgfakhaaGreat
open Go.ChangeShapes Go.WideShapes Go.ChangeAt Go.RowKit Go.Lib
set_option linter.unusedVariables false
set_option linter.unusedSimpArgs false

theorem str_cells (s : List UInt8) : strCells ⟨s.toArray⟩ = byteCells s := rfl
theorem str_size (s : List UInt8) : (⟨s.toArray⟩ : ByteArray).size = s.length := rfl

theorem splice_all {L cs : List Value} (h : L.length = cs.length) : splice L 0 cs = cs := by simp [splice, h]
theorem infoS : (Tryz.prog.info? 5).map (·.size) = some 1 := by kernel_rfl

/-- What copied leaves: the bytes in new memory. -/
def Copied (bs : List UInt8) (w : World) (e : Ending) (w' : World) : Prop := e = .returned (.slice (some ⟨w.heap.size, 0, none⟩) bs.length bs.length) ∧ w'.heap[w.heap.size]? = some (.cells (byteCells bs).toArray 5 (0, 0)) ∧ Below w.heap.size w w'

end Go.Proofs.YtjkdcpalgfakhaaGreat
/-
  What From, and the reader's Error, At, Left, Done, fail, take and number do, for every reader that lies in memory. No conditions beyond what each theorem states (its bytes are fewer than a million).
-/
namespace Go.Proofs.YtjkdcpalgfakhaaGreat
open Go.ChangeShapes Go.WideShapes Go.ChangeAt Go.RowKit Go.Lib
set_option linter.unusedVariables false
set_option linter.unusedSimpArgs false

/-- What a reader's call leaves: its own block alone has changed. -/
abbrev Only (K : Nat) (w w' : World) : Prop := Kept (fun k => k = K) w w'
theorem Only.step {K : Nat} {a b c : World} (h : Only K a b) (k : Only K b c) : Only K a c := h.trans k (fun _ _ e => e)
theorem only_drew (K : Nat) (w : World) : Only K w w.drew := ⟨rfl, rfl, rfl, Nat.le_refl _, fun _ _ _ => rfl⟩

end Go.Proofs.YtjkdcpalgfakhaaGreat
/-
  What the reader's take, number and Done do, for every reader that lies in memory. No conditions beyond what each theorem states.
-/
namespace Go.Proofs.YtjkdcpalgfakhaaGreat
open Go.ChangeShapes Go.WideShapes Go.ChangeAt Go.RowKit Go.Lib
set_option linter.unusedVariables false
set_option linter.unusedSimpArgs false

theorem brow_sub {w : World} {D q s : Nat} {bs : List UInt8} (h : BRow w (some ⟨D, 0, none⟩) bs) (hq : q + s ≤ bs.length) : BRow w (some ⟨D, q, none⟩) ((bs.drop q).take s) := fun i hi => by
  rw [List.length_take, List.length_drop] at hi
  obtain ⟨b, o, e, hc⟩ := h (q + i) (by omega)
  cases e
  exact ⟨D, q, rfl, by rw [atB_take (by omega), atB_drop]; simpa using hc⟩

theorem pow_less {y k N : Nat} (hk : k ≤ 8) (hN : N < 128 ^ k) : N + y % 128 * 128 ^ k < 9223372036854775808 ∧ N + y % 128 * 128 ^ k < 128 ^ (k + 1) := by
  have h1 : y % 128 * 128 ^ k ≤ 127 * 128 ^ k := Nat.mul_le_mul_right _ (by omega)
  have h2 : 128 ^ (k + 1) = 128 ^ k * 128 := Nat.pow_succ ..
  have h3 : 128 ^ (k + 1) ≤ 128 ^ 9 := Nat.pow_le_pow_right (by omega) (by omega)
  have h4 : 128 ^ 9 = 9223372036854775808 := by decide
  generalize y % 128 * 128 ^ k = T at h1 ⊢
  generalize 128 ^ (k + 1) = Q at h2 h3 ⊢
  generalize 128 ^ k = P at h1 h2 hN
  omega

end Go.Proofs.YtjkdcpalgfakhaaGreat
/-
  What the reader's Byte, Num, Text and Done hand back, for every reader that lies in memory. No conditions beyond what each theorem states.
-/
namespace Go.Proofs.YtjkdcpalgfakhaaGreat
open Go.ChangeShapes Go.WideShapes Go.ChangeAt Go.RowKit Go.Lib
set_option linter.unusedVariables false
set_option linter.unusedSimpArgs false

/-- What is read, how many bytes were read then, and the error. -/
def rdB (bs : List UInt8) (q e : Nat) : Nat × Nat × Nat := if e = 0 then (if q < bs.length then ((bs.getD q 0).toNat, q + 1, 0) else (0, q, 14)) else (0, q, e)
def rdN (bs : List UInt8) (q e limit : Nat) : Nat × Nat × Nat := if e = 0 then ((readN (bs.drop q) limit).1, q + (readN (bs.drop q) limit).2.1, (readN (bs.drop q) limit).2.2) else (0, q, e)
def rdT (bs : List UInt8) (q e limit : Nat) : List UInt8 × Nat × Nat := if e = 0 then ((readT (bs.drop q) limit).1, q + (readT (bs.drop q) limit).2.1, (readT (bs.drop q) limit).2.2) else ([], q, e)

end Go.Proofs.YtjkdcpalgfakhaaGreat
/-
  What the document's own ReadNum and ReadText of layer 5 hand back, for all bytes. No conditions beyond what each theorem states.
-/
namespace Go.Proofs.YtjkdcpalgfakhaaGreat
open Go.ChangeShapes Go.WideShapes Go.ChangeAt Go.RowKit Go.Lib
set_option linter.unusedVariables false
set_option linter.unusedSimpArgs false

end Go.Proofs.YtjkdcpalgfakhaaGreat
/-
  What the document's own ReadText of layer 5 hands back, for all bytes. No conditions beyond what each theorem states.
-/
namespace Go.Proofs.YtjkdcpalgfakhaaGreat
open Go.ChangeShapes Go.WideShapes Go.ChangeAt Go.RowKit Go.Lib
set_option linter.unusedVariables false
set_option linter.unusedSimpArgs false

theorem brow_at {w : World} {D o q s : Nat} {bs : List UInt8} (h : BRow w (some ⟨D, o, none⟩) bs) (hq : q + s ≤ bs.length) : BRow w (some ⟨D, o + q, none⟩) ((bs.drop q).take s) := fun i hi => by
  rw [List.length_take, List.length_drop] at hi
  obtain ⟨b, o', e, hc⟩ := h (q + i) (by omega)
  cases e
  exact ⟨D, o + q, rfl, by rw [atB_take (by omega), atB_drop, Nat.add_assoc]; exact hc⟩

end Go.Proofs.YtjkdcpalgfakhaaGreat
/-
  What the document's own Num and Text of layer 5 hand back: the bytes of any number and of any short text, in new memory. No conditions beyond what each theorem states.
-/
namespace Go.Proofs.YtjkdcpalgfakhaaGreat
open Go.ChangeShapes Go.WideShapes Go.ChangeAt Go.RowKit Go.Lib
set_option linter.unusedVariables false
set_option linter.unusedSimpArgs false

/-- Bytes in new memory of the call's own. -/
def Fresh (bs : List UInt8) (w : World) (e : Ending) (w' : World) : Prop := ∃ v, e = .returned v ∧ w'.ownsRow w.heap.size 5 1 v bs.length (byteCells bs) ∧ Below w.heap.size w w'
theorem owns_one (w : World) (x : UInt8) : (w.alloc (.cells #[.int .u8 (x.toNat : Int)] 5)).ownsRow w.heap.size 5 1 (.slice (some ⟨w.heap.size, 0, none⟩) 1 1) 1 (byteCells [x]) :=
  World.ownsRow_lit w #[.int .u8 (x.toNat : Int)] 1 (Nat.le_refl _) (by decide) rfl
/-- A row of some bytes has an address. -/
theorem owns_some {w : World} {B n : Nat} {v : Value} {e : TypeId} {bs : List UInt8} (h : w.ownsRow B e 1 v n (byteCells bs)) (hn : 1 ≤ bs.length) : ∃ g c, v = .slice (some ⟨g, 0, none⟩) bs.length c ∧ BRow w (some ⟨g, 0, none⟩) bs := by
  obtain ⟨p, c, rfl, rfl, hr, _⟩ := brow_owns h
  rcases h.2 with ⟨hv, h0⟩ | ⟨g, cap, cur, hv, _⟩
  · omega
  · cases hv
    exact ⟨g, c, rfl, hr⟩

end Go.Proofs.YtjkdcpalgfakhaaGreat
/-
  Spans as bytes: how they are written, and what is read of any bytes. Of no program but how bytes lie in memory; no conditions beyond what each theorem states.
-/
namespace Go.Proofs.YtjkdcpalgfakhaaGreat
open Go.ChangeShapes Go.WideShapes Go.ChangeAt Go.RowKit Go.Lib
set_option linter.unusedVariables false
set_option linter.unusedSimpArgs false

/-- Spans, written. -/
def bytesS (s : Sp) : List UInt8 := encN s.1.toNat ++ encN s.2.1.toNat ++ encN s.2.2.toNat
def bytesL (l : List Sp) : List UInt8 := encN l.length ++ l.flatMap bytesS

/-- Three numbers, read one behind the other; nothing more is read behind an error. -/
def rd3 (bs : List UInt8) (q e : Nat) : Sp × Nat × Nat :=
  let a := rdN bs q e 65535
  let b := rdN bs a.2.1 a.2.2 268435456
  let c := rdN bs b.2.1 b.2.2 1024
  (((a.1 : Int), (b.1 : Int), (c.1 : Int)), c.2.1, c.2.2)
/-- So many spans, read one behind the other. -/
def rdL (bs : List UInt8) : Nat → Nat → Nat → List Sp × Nat × Nat
  | 0, q, e => ([], q, e)
  | n + 1, q, e => if e = 0 then ((rd3 bs q 0).1 :: (rdL bs n (rd3 bs q 0).2.1 (rd3 bs q 0).2.2).1, (rdL bs n (rd3 bs q 0).2.1 (rd3 bs q 0).2.2).2) else ([], q, e)
theorem rdL_err (bs : List UInt8) (n q e : Nat) (h : e ≠ 0) : rdL bs n q e = ([], q, e) := by
  cases n with
  | zero => rfl
  | succ n => rw [rdL, if_neg h]
/-- Spans at a place: none, if there is an error. -/
def readS (bs : List UInt8) (q e : Nat) : List Sp × Nat × Nat :=
  let c := rdN bs q e 1024
  let r := rdL bs c.1 c.2.1 c.2.2
  (if r.2.2 = 0 then r.1 else [], r.2.1, r.2.2)

theorem rdN_fits {bs : List UInt8} {q e limit : Nat} (hq : q ≤ bs.length) : (rdN bs q e limit).2.1 ≤ bs.length ∧ (rdN bs q e limit).1 ≤ limit ∧ ((rdN bs q e limit).2.2 < 16 ∨ (rdN bs q e limit).2.2 = e) := by
  unfold rdN
  split
  · have := read_fair (bs.drop q) limit
    unfold Fair at this
    rw [List.length_drop] at this
    simp only
    omega
  · exact ⟨hq, Nat.zero_le _, Or.inr rfl⟩
theorem rdN_err {bs : List UInt8} {q e limit : Nat} (h : e ≠ 0) : rdN bs q e limit = (0, q, e) := by unfold rdN; rw [if_neg h]
theorem rdN_read {bs : List UInt8} {q limit : Nat} : rdN bs q 0 limit = ((readN (bs.drop q) limit).1, q + (readN (bs.drop q) limit).2.1, (readN (bs.drop q) limit).2.2) := by unfold rdN; rw [if_pos rfl]
theorem rd3_fits {bs : List UInt8} {q : Nat} (hq : q ≤ bs.length) : (rd3 bs q 0).2.1 ≤ bs.length ∧ FitS (rd3 bs q 0).1 ∧ (rd3 bs q 0).2.2 < 16 := by
  have h1 := rdN_fits (e := 0) (limit := 65535) hq
  have h2 := rdN_fits (e := (rdN bs q 0 65535).2.2) (limit := 268435456) h1.1
  have h3 := rdN_fits (e := (rdN bs (rdN bs q 0 65535).2.1 (rdN bs q 0 65535).2.2 268435456).2.2) (limit := 1024) h2.1
  unfold rd3 FitS
  simp only
  omega
theorem rdL_fits {bs : List UInt8} : ∀ n q e, q ≤ bs.length → e < 16 → (rdL bs n q e).2.1 ≤ bs.length ∧ FitSs (rdL bs n q e).1 ∧ (rdL bs n q e).1.length ≤ n ∧ (rdL bs n q e).2.2 < 16 := by
  intro n
  induction n with
  | zero => intro q e hq he; exact ⟨hq, (by intro x hx; simp [rdL] at hx), by simp [rdL], he⟩
  | succ n ih =>
    intro q e hq he
    by_cases h : e = 0
    · obtain ⟨a1, a2, a3⟩ := rd3_fits hq
      obtain ⟨b1, b2, b3, b4⟩ := ih _ _ a1 a3
      rw [rdL, if_pos h]
      refine ⟨b1, ?_, by simp; omega, b4⟩
      intro x hx
      rcases List.mem_cons.1 hx with rfl | hx
      · exact a2
      · exact b2 x hx
    · rw [rdL, if_neg h]
      exact ⟨hq, (by intro x hx; simp at hx), by simp, he⟩
theorem readS_fits {bs : List UInt8} {q : Nat} (hq : q ≤ bs.length) : (readS bs q 0).2.1 ≤ bs.length ∧ FitSs (readS bs q 0).1 ∧ (readS bs q 0).1.length ≤ 1024 ∧ (readS bs q 0).2.2 < 16 := by
  have h1 := rdN_fits (e := 0) (limit := 1024) hq
  obtain ⟨b1, b2, b3, b4⟩ := rdL_fits (bs := bs) (rdN bs q 0 1024).1 (rdN bs q 0 1024).2.1 (rdN bs q 0 1024).2.2 h1.1 (by omega)
  unfold readS
  simp only
  refine ⟨b1, ?_, ?_, b4⟩
  · split
    · exact b2
    · intro x hx; simp at hx
  · split
    · omega
    · simp

/-- What was written is read again. -/
theorem rdN_at {pre post : List UInt8} {n limit : Nat} (hn : n < 9223372036854775808) (hl : n ≤ limit) : rdN (pre ++ (encN n ++ post)) pre.length 0 limit = (n, pre.length + (encN n).length, 0) := by
  unfold rdN
  rw [if_pos rfl, List.drop_left, read_enc hn hl]
theorem rd3_at {pre post : List UInt8} {s : Sp} (hr : rightS s = true) (hf : FitS s) : rd3 (pre ++ (bytesS s ++ post)) pre.length 0 = (s, pre.length + (bytesS s).length, 0) := by
  have h := rightS_iff.1 hr
  unfold FitS at hf
  unfold bytesS rd3
  have e1 : rdN (pre ++ ((encN s.1.toNat ++ encN s.2.1.toNat ++ encN s.2.2.toNat) ++ post)) pre.length 0 65535 = (s.1.toNat, pre.length + (encN s.1.toNat).length, 0) := by
    rw [List.append_assoc (encN s.1.toNat ++ encN s.2.1.toNat), List.append_assoc (encN s.1.toNat)]
    exact rdN_at (by omega) (by omega)
  have e2 : rdN (pre ++ ((encN s.1.toNat ++ encN s.2.1.toNat ++ encN s.2.2.toNat) ++ post)) (pre.length + (encN s.1.toNat).length) 0 268435456 = (s.2.1.toNat, pre.length + (encN s.1.toNat).length + (encN s.2.1.toNat).length, 0) := by
    have := rdN_at (pre := pre ++ encN s.1.toNat) (post := encN s.2.2.toNat ++ post) (n := s.2.1.toNat) (limit := 268435456) (by omega) (by omega)
    rw [List.length_append] at this
    rw [← this]
    simp only [List.append_assoc]
  have e3 : rdN (pre ++ ((encN s.1.toNat ++ encN s.2.1.toNat ++ encN s.2.2.toNat) ++ post)) (pre.length + (encN s.1.toNat).length + (encN s.2.1.toNat).length) 0 1024 = (s.2.2.toNat, pre.length + (encN s.1.toNat).length + (encN s.2.1.toNat).length + (encN s.2.2.toNat).length, 0) := by
    have := rdN_at (pre := pre ++ encN s.1.toNat ++ encN s.2.1.toNat) (post := post) (n := s.2.2.toNat) (limit := 1024) (by omega) (by omega)
    rw [List.length_append, List.length_append] at this
    rw [← this]
    simp only [List.append_assoc]
  rw [e1]
  simp only
  rw [e2]
  simp only
  rw [e3]
  simp only [List.length_append]
  refine Prod.ext ?_ (Prod.ext (by simp only; omega) rfl)
  refine Prod.ext ?_ (Prod.ext ?_ ?_) <;> simp only <;> omega
theorem rdL_at : ∀ (l : List Sp) (pre post : List UInt8), RightS l → FitSs l → rdL (pre ++ (l.flatMap bytesS ++ post)) l.length pre.length 0 = (l, pre.length + (l.flatMap bytesS).length, 0) := by
  intro l
  induction l with
  | nil => intro pre post _ _; simp [rdL]
  | cons s l ih =>
    intro pre post hr hf
    have e1 := rd3_at (pre := pre) (post := l.flatMap bytesS ++ post) (hr s (by simp)) (hf s (by simp))
    have e2 := ih (pre ++ bytesS s) post (fun x hx => hr x (by simp [hx])) (fun x hx => hf x (by simp [hx]))
    rw [List.length_append] at e2
    rw [List.flatMap_cons, List.length_cons, rdL, if_pos rfl, List.append_assoc, e1]
    simp only
    rw [List.append_assoc] at e2
    rw [e2]
    simp only [List.length_append]
    refine Prod.ext rfl (Prod.ext (by simp only; omega) rfl)
theorem readS_all {l : List Sp} (hr : RightS l) (hf : FitSs l) (hl : l.length ≤ 1024) : readS (bytesL l) 0 0 = (l, (bytesL l).length, 0) := by
  unfold readS bytesL
  have e1 := rdN_at (pre := []) (post := l.flatMap bytesS) (n := l.length) (limit := 1024) (by omega) (by omega)
  rw [List.nil_append, List.length_nil] at e1
  rw [e1]
  have e2 := rdL_at l (encN l.length) [] hr hf
  rw [List.append_nil] at e2
  simp only [Nat.zero_add]
  rw [e2]
  simp
theorem bytesS_len {s : Sp} (hf : FitS s) : (bytesS s).length ≤ 27 := by
  unfold FitS at hf
  unfold bytesS
  rw [List.length_append, List.length_append]
  have h1 := encN_len (n := s.1.toNat) (by omega)
  have h2 := encN_len (n := s.2.1.toNat) (by omega)
  have h3 := encN_len (n := s.2.2.toNat) (by omega)
  omega
theorem bytesL_len {l : List Sp} (hf : FitSs l) (hl : l.length ≤ 1024) : (bytesL l).length ≤ 9 + 27 * l.length := by
  unfold bytesL
  rw [List.length_append]
  have h1 := encN_len (n := l.length) (by omega)
  have h2 : (l.flatMap bytesS).length ≤ 27 * l.length := by
    clear h1 hl
    induction l with
    | nil => simp
    | cons s l ih =>
      have := ih (fun x hx => hf x (by simp [hx]))
      have := bytesS_len (hf s (by simp))
      rw [List.flatMap_cons, List.length_append, List.length_cons]; omega
  omega

end Go.Proofs.YtjkdcpalgfakhaaGreat
/-
  Operations: what may be done, by the document. Of no program; no conditions beyond what each theorem states.
-/
namespace Go.Proofs.YtjkdcpalgfakhaaGreat
open Go.ChangeShapes Go.WideShapes Go.ChangeAt Go.RowKit Go.Lib
set_option linter.unusedVariables false
set_option linter.unusedSimpArgs false

/-- An operation: its kind, its anchor's two numbers, its number, its text, its spans and its sequence number. -/
structure Om where
  kind : Int
  r : Int
  n : Int
  num : Int
  text : List UInt8
  spans : List Sp
  seq : Int
def o0 : Om := ⟨0, 0, 0, 0, [], [], 0⟩
/-- Values that the kinds hold. -/
def FitOm (o : Om) : Prop := -9223372036854775808 ≤ o.kind ∧ o.kind ≤ 9223372036854775807 ∧ 0 ≤ o.r ∧ o.r ≤ 65535 ∧ 0 ≤ o.n ∧ o.n ≤ 4294967295 ∧ 0 ≤ o.num ∧ o.num ≤ 4294967295 ∧ FitSs o.spans ∧ 0 ≤ o.seq ∧ o.seq ≤ 4294967295
def ov (o : Om) (p : Option Addr) (c : Nat) : Value := .agg #[.int .i64 o.kind, .int .u16 o.r, .int .u32 o.n, .int .u32 o.num, .string ⟨o.text.toArray⟩, .slice p o.spans.length c, .int .u32 o.seq]
def plain1 (x : UInt8) : Bool := x.toNat == 10 || (decide (32 ≤ x.toNat) && decide (x.toNat ≤ 126))
def plainB (s : List UInt8) : Bool := s.all plain1
theorem plainB_take {s : List UInt8} {k : Nat} (h : k < s.length) : plainB (s.take (k + 1)) = (plainB (s.take k) && plain1 (s.getD k 0)) := by
  unfold plainB
  rw [take_getD 0 h, List.all_append]
  simp
theorem plainB_no {s : List UInt8} {k : Nat} (h : k < s.length) (hx : plain1 (s.getD k 0) = false) : plainB s = false := by
  unfold plainB
  rw [List.all_eq_false]
  exact ⟨s.getD k 0, getD_mem 0 h, by rw [hx]; simp⟩
/-- How many atoms are made. -/
def atomsO (o : Om) : Int := if o.kind = 1 then (o.text.length : Int) else if o.kind = 3 then (totalL o.spans : Int) else 0
def numberedO (o : Om) : Bool := decide ((o.r = 0 ∧ o.n = 0 ∨ 1 ≤ o.n ∧ o.n ≤ 268435456) ∧ 1 ≤ o.num ∧ o.num ≤ 268435456 ∧ o.num + atomsO o - 1 ≤ 268435456)
def placelessO (o : Om) : Bool := decide (o.r = 0 ∧ o.n = 0 ∧ o.num = 0)
/-- May it be done? Else its error. -/
def fitO (o : Om) : Int :=
  if o.kind = 1 then (if 0 < o.spans.length ∨ o.seq ≠ 0 ∨ o.text = [] ∨ plainB o.text = false then 11 else if 64 < o.text.length then 15 else if numberedO o = false then 11 else 0)
  else if o.kind = 2 then (if o.text ≠ [] ∨ o.seq ≠ 0 ∨ placelessO o = false then 11 else fitL o.spans)
  else if o.kind = 3 then (if o.text ≠ [] ∨ o.seq ≠ 0 then 11 else if fitL o.spans ≠ 0 then fitL o.spans else if numberedO o = false then 11 else 0)
  else if o.kind = 4 ∨ o.kind = 5 then (if o.text ≠ [] ∨ 0 < o.spans.length ∨ placelessO o = false ∨ o.seq < 1 ∨ 268435456 < o.seq then 11 else 0)
  else 11
theorem fitA_ok : ∀ (l : List Sp) (N : Int), N ≤ 1024 → fitA N l = 0 → RightS l ∧ N + (totalL l : Int) ≤ 1024 := by
  intro l
  induction l with
  | nil => intro N hN _; exact ⟨fun x hx => by simp at hx, by rw [totalL_nil]; simpa using hN⟩
  | cons s l ih =>
    intro N hN h
    rw [fitA] at h
    by_cases h1 : rightS s = false
    · rw [if_pos h1] at h; cases h
    · rw [if_neg h1] at h
      by_cases h2 : N + s.2.2 > 1024
      · rw [if_pos h2] at h; cases h
      · rw [if_neg h2] at h
        obtain ⟨i1, i2⟩ := ih (N + s.2.2) (by omega) h
        have hs : rightS s = true := by simpa using h1
        have hr := rightS_iff.1 hs
        refine ⟨fun x hx => ?_, ?_⟩
        · rcases List.mem_cons.1 hx with rfl | hx
          · exact hs
          · exact i1 x hx
        · rw [totalL_cons]; omega
theorem fitL_ok {l : List Sp} (h : fitL l = 0) : RightS l ∧ totalL l ≤ 1024 ∧ l.length ≤ 1024 := by
  unfold fitL at h
  by_cases h0 : l.length = 0
  · rw [if_pos h0] at h; cases h
  · rw [if_neg h0] at h
    by_cases h1 : l.length > 1024
    · rw [if_pos h1] at h; cases h
    · rw [if_neg h1] at h
      by_cases h2 : fitA 0 l ≠ 0
      · rw [if_pos h2] at h; exact absurd h h2
      · have h3 : fitA 0 l = 0 := by simpa using h2
        obtain ⟨a, b⟩ := fitA_ok l 0 (by omega) h3
        exact ⟨a, by omega, by omega⟩
/-- What fits, kind by kind. -/
theorem fitO_cases {o : Om} (h : fitO o = 0) :
    (o.kind = 1 ∧ o.spans = [] ∧ o.seq = 0 ∧ o.text ≠ [] ∧ plainB o.text = true ∧ o.text.length ≤ 64 ∧ numberedO o = true) ∨
    (o.kind = 2 ∧ o.text = [] ∧ o.seq = 0 ∧ placelessO o = true ∧ fitL o.spans = 0) ∨
    (o.kind = 3 ∧ o.text = [] ∧ o.seq = 0 ∧ fitL o.spans = 0 ∧ numberedO o = true) ∨
    ((o.kind = 4 ∨ o.kind = 5) ∧ o.text = [] ∧ o.spans = [] ∧ placelessO o = true ∧ 1 ≤ o.seq ∧ o.seq ≤ 268435456) := by
  unfold fitO at h
  by_cases k1 : o.kind = 1
  · rw [if_pos k1] at h
    by_cases a : 0 < o.spans.length ∨ o.seq ≠ 0 ∨ o.text = [] ∨ plainB o.text = false
    · rw [if_pos a] at h; cases h
    · rw [if_neg a] at h
      by_cases b : 64 < o.text.length
      · rw [if_pos b] at h; cases h
      · rw [if_neg b] at h
        by_cases c : numberedO o = false
        · rw [if_pos c] at h; cases h
        · simp only [not_or] at a
          exact Or.inl ⟨k1, List.eq_nil_of_length_eq_zero (by omega), by simpa using a.2.1, a.2.2.1, by simpa using a.2.2.2, by omega, by simpa using c⟩
  · rw [if_neg k1] at h
    by_cases k2 : o.kind = 2
    · rw [if_pos k2] at h
      by_cases a : o.text ≠ [] ∨ o.seq ≠ 0 ∨ placelessO o = false
      · rw [if_pos a] at h; cases h
      · rw [if_neg a] at h
        simp only [not_or] at a
        exact Or.inr (Or.inl ⟨k2, by simpa using a.1, by simpa using a.2.1, by simpa using a.2.2, h⟩)
    · rw [if_neg k2] at h
      by_cases k3 : o.kind = 3
      · rw [if_pos k3] at h
        by_cases a : o.text ≠ [] ∨ o.seq ≠ 0
        · rw [if_pos a] at h; cases h
        · rw [if_neg a] at h
          by_cases b : fitL o.spans ≠ 0
          · rw [if_pos b] at h; exact absurd h b
          · rw [if_neg b] at h
            by_cases c : numberedO o = false
            · rw [if_pos c] at h; cases h
            · simp only [not_or] at a
              exact Or.inr (Or.inr (Or.inl ⟨k3, by simpa using a.1, by simpa using a.2, by simpa using b, by simpa using c⟩))
      · rw [if_neg k3] at h
        by_cases k4 : o.kind = 4 ∨ o.kind = 5
        · rw [if_pos k4] at h
          by_cases a : o.text ≠ [] ∨ 0 < o.spans.length ∨ placelessO o = false ∨ o.seq < 1 ∨ 268435456 < o.seq
          · rw [if_pos a] at h; cases h
          · simp only [not_or] at a
            exact Or.inr (Or.inr (Or.inr ⟨k4, by simpa using a.1, List.eq_nil_of_length_eq_zero (by omega), by simpa using a.2.2.1, by omega, by omega⟩))
        · rw [if_neg k4] at h; cases h
end Go.Proofs.YtjkdcpalgfakhaaGreat
/-
  What the program's Plus, Right of a name, and of a span Last, Right, size, Has and Cut hand back. No conditions beyond what each theorem states.
-/
namespace Go.Proofs.YtjkdcpalgfakhaaGreat
open Go.ChangeShapes Go.WideShapes Go.ChangeAt Go.RowKit Go.Lib
set_option linter.unusedVariables false
set_option linter.unusedSimpArgs false

theorem szI : (Tryz.prog.info? 96).map (·.size) = some 2 := by kernel_rfl
theorem szS : (Tryz.prog.info? 119).map (·.size) = some 3 := by kernel_rfl
/-- A variable of a call's, behind another call. -/
theorem kept_box {w w1 : World} {B : Nat} {cs : Array Value} {t : TypeId} (h : w.heap[B]? = some (.cells cs t (0, 0))) (hb : Below w.heap.size w w1) : w1.heap[B]? = some (.cells cs t (0, 0)) := by
  rw [hb.block B (lt_of_block h)]; exact h
theorem box_two {w : World} {B : Nat} {u v u' v' : Value} {t : TypeId} (h : w.heap[B]? = some (.cells #[u, v] t (0, 0))) : ((w.setCell ⟨B, 0, none⟩ u').setCell ⟨B, 1, none⟩ v').heap[B]? = some (.cells #[u', v'] t (0, 0)) := by
  have h1 := heap_setCell_same w B 0 _ t u' h
  have h2 := heap_setCell_same _ B 1 _ t v' h1
  simpa using h2
theorem box_three {w : World} {B : Nat} {u v x u' v' x' : Value} {t : TypeId} (h : w.heap[B]? = some (.cells #[u, v, x] t (0, 0))) : (((w.setCell ⟨B, 0, none⟩ u').setCell ⟨B, 1, none⟩ v').setCell ⟨B, 2, none⟩ x').heap[B]? = some (.cells #[u', v', x'] t (0, 0)) := by
  have h1 := heap_setCell_same w B 0 _ t u' h
  have h2 := heap_setCell_same _ B 1 _ t v' h1
  have h3 := heap_setCell_same _ B 2 _ t x' h2
  simpa using h3

theorem three_cells {w : World} {B : Nat} {u v x : Value} {t : TypeId} (h : w.heap[B]? = some (.cells #[u, v, x] t (0, 0))) : w.cell? ⟨B, 0, none⟩ = some u ∧ w.cell? ⟨B, 1, none⟩ = some v ∧ w.cell? ⟨B, 2, none⟩ = some x :=
  ⟨by rw [cell_of_block h]; rfl, by rw [cell_of_block h]; rfl, by rw [cell_of_block h]; rfl⟩
theorem two_cells {w : World} {B : Nat} {u v : Value} {t : TypeId} (h : w.heap[B]? = some (.cells #[u, v] t (0, 0))) : w.cell? ⟨B, 0, none⟩ = some u ∧ w.cell? ⟨B, 1, none⟩ = some v :=
  ⟨by rw [cell_of_block h]; rfl, by rw [cell_of_block h]; rfl⟩
end Go.Proofs.YtjkdcpalgfakhaaGreat
