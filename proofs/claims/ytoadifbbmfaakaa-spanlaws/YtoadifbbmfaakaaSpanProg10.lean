
/-
  What the program's stretches of spans are. No conditions beyond what each theorem states.
-/
import Derived.Test.YtoadifbbmfaakaaSpanMath3
import Derived.Test.YtoadifbbmfaakaaSpanProg4
import Derived.Deep.RegionWith
namespace Go.Proofs.Ytoadifbbmfaakaa
open Go.ChangeShapes Go.WideShapes Go.ChangeAt Go.RowKit Go.Lib
open Go.Sort
set_option linter.unusedVariables false
set_option linter.unusedSimpArgs false

def Stretched (l : List Sp) (w : World) (e : Ending) (w' : World) : Prop := ∃ zs, (∀ a, a ∈ idsL zs ↔ a ∈ idsL l) ∧ Good zs ∧ zs.length ≤ l.length ∧ Gave layS w zs e w'
set_option maxHeartbeats 6400000 in
set_option maxRecDepth 20000 in
theorem stretches_any (l : List Sp) (p : Option Addr) (c : Nat) (w : World) (hR : GRow layS w p l) (hr : RightS l) (hf : FitSs l) (hl : l.length ≤ 3000) :
    Calls Try.prog 56 #[.slice p l.length c] w (Stretched l w) := by
  obtain ⟨i0, hi, hz0, hz1, hz2⟩ := info_parts infoSp
  have H0 := Lib.hid (rising_any l p c w hR hl)
  have HRT := Lib.hid hr
  have HF := Lib.hid hf
  clear hR hr hf
  go_enter Try.func56, Try.ntmps56
  go_wp2_with fail
  refine H0.out.mono ?_
  rintro e w1 ⟨ys, p1, c1, rfl, hpm, hrs, hG, hb1⟩
  have HIN := Lib.hid (st_inv (perm_right hpm HRT.out) (perm_fit hpm HF.out) hrs)
  have HOK : Hid (∀ k, k < ys.length → okZ (ys.getD k s0)) := fun k hk => okZ_of ((perm_right hpm HRT.out).at hk) ((perm_fit hpm HF.out).at hk)
  have HPM := Lib.hid hpm
  have HG := Lib.hid hG
  have HB1 := Lib.hid hb1
  have hyl : ys.length ≤ 3000 := by rw [hpm.length_eq]; exact hl
  clear hpm hrs hG hb1 H0 HRT HF
  go_wp2
  go_loopg [3, 11] ys.length (fun g v i wr => ∃ k : Nat, k ≤ ys.length ∧ ys.length - k ≤ g ∧ i = .int .i64 (k : Int) ∧ Hold layS w1 43 v (stretL (ys.take k)) wr)
  case atStart => exact ⟨0, Nat.zero_le _, by omega, rfl, Hold.nil _ _ _⟩
  case round =>
    obtain ⟨k, hk, hg, rfl, hO⟩ := hrel
    have HO := Lib.hid hO
    clear hO
    by_cases hlt : k < ys.length
    · obtain ⟨b, o, rfl, c0', c1', c2'⟩ := srow_at HG.out hlt
      have c0 := cellU c0' HO.out.2
      have c1 := cellU c1' HO.out.2
      have c2 := cellU c2' HO.out.2
      have I := HIN.out k hk
      have HNX : Hid (stretL (ys.take (k + 1)) = stepZ (stretL (ys.take k)) (ys.getD k s0)) := stretL_take hlt
      have hok := HOK.out k hlt
      have hAl := I.len
      have HAO := Lib.hid I.good.ok
      have hkl : (k : Int) < (ys.length : Int) := by omega
      clear c0' c1' c2' I
      generalize stretL (ys.take k) = A at HO HNX hAl HAO
      generalize ys.getD k s0 = s at c0 c1 c2 HNX hok
      obtain ⟨r', n', m'⟩ := s
      simp only at c0 c1 c2
      by_cases hA : A = []
      · subst hA
        obtain ⟨pv, cv, rfl, -, -, -⟩ := HO.out.gave layS_pos
        simp only [List.length_nil] at HO ⊢
        have HNX : Hid (stretL (ys.take (k + 1)) = [] ++ [(r', n', m')]) := by show _ = _; rw [HNX.out]; rfl
        go_wp2_with fail
        go_quiet (fail)
        have HOD : Hid (∀ n o o', Hold layS w1 43 (.slice pv 0 cv) [] (((wr.alloc o).drewN n).alloc o')) := fun n o o' => ((HO.out.alloc o).drewN n).alloc o'
        go_wp2_with (first
          | (at_builtin; refine wpList_append_own _ rfl (.tmp 30) (.tmp 32) 22 rfl w1.heap.size 43 i0 (.agg #[.int .u16 0, .int .u32 0, .int .i64 0]) 3 16 Try.underlying22 hi hz0 hz1 hz2 rfl (by decide) _ 0 [] rfl (HOD.out _ _ _).1 ⟨wr.heap.size + 1, 0, none⟩ 1 1 [.int .u16 r', .int .u32 n', .int .i64 m'] rfl rfl (by have := @cells_new ((wr.alloc (Obj.cells #[Value.int IntKind.u16 r', Value.int IntKind.u32 n', Value.int IntKind.i64 m'] 43)).drewN nq) [.int .u16 r', .int .u32 n', .int .i64 m'] 43; simpa using this) (layS.one (r', n', m')) (by unfold maxLen; omega) (by omega) (by have := HO.out.2.size; simp; omega) ?_))
        intro v' w2 hown' hgrow _
        have HO2 : Hid (Hold layS w1 43 v' (stretL (ys.take (k + 1))) w2) := by
          rw [HNX.out]
          exact (HOD.out _ _ _).onto rfl rfl hown' hgrow
        clear hown' hgrow
        go_wp2
        go_roundg (ys.length - (k + 1))
        case measure => omega
        case rel => exact ⟨k + 1, by omega, Nat.le_refl _, by go_num, HO2.out⟩
      · obtain ⟨D, z, rfl⟩ : ∃ D z, A = D ++ [z] := ⟨_, _, (List.dropLast_concat_getLast hA).symm⟩
        have hlen : (D ++ [z]).length = D.length + 1 := by simp
        obtain ⟨gg, cap, rfl, hgg, hfr⟩ := owns_head HO.out.1 (by simp)
        obtain ⟨pz, cz, ep, hGz, -, -⟩ := HO.out.gave layS_pos
        cases ep
        obtain ⟨bz, oz, eb, z0, z1, z2⟩ := srow_at hGz (i := D.length) (by simp)
        cases eb
        have hgd : (D ++ [z]).getD D.length s0 = z := by simp
        rw [hgd] at z0 z1 z2
        have hzo := HAO.out z (by simp)
        have HNX : Hid (stretL (ys.take (k + 1)) = if firstOf (r', n', m') ∈ idsS z then D ++ [moreZ z (r', n', m')] else (D ++ [z]) ++ [(r', n', m')]) := by show _ = _; rw [HNX.out]; exact stepZ_snoc D z _
        rw [hlen] at hAl HO ⊢
        have HL := Lib.hid hlen
        have HHS := Lib.hid (fun W => has_any z (firstOf (r', n', m')) W hzo.fit (by unfold okZ at hok; unfold FitN firstOf; simp only at hok ⊢; omega))
        have hmi := @mem_idsS z (firstOf (r', n', m'))
        obtain ⟨r, n, m⟩ := z
        unfold firstOf at HHS HNX hmi
        unfold sv nv at HHS
        unfold okZ at hok hzo
        simp only [Nat.zero_add] at z0 z1 z2
        simp only at hok hzo HHS HNX z0 z1 z2 hmi
        have hix : ((D.length + 1 : Nat) : Int) - 1 = (D.length : Int) := by omega
        have hge : ¬ (D.length : Int) < 0 := by omega
        have hge' : decide ((D.length : Int) < 0) = false := decide_eq_false hge
        have hge2 : (0 : Int) ≤ (D.length : Int) := by omega
        have hil : (D.length : Int) < (D.length : Int) + 1 := by omega
        have hil' : (D.length : Int) < ((D.length + 1 : Nat) : Int) := by omega
        have q0 := cell_regrown (cellU z0 (below_alloc (Below.refl wr.heap.size wr) (.cells #[.int .u16 r', .int .u32 n', .int .i64 m'] 43)))
        have q1 := cell_regrown (cellU z1 (below_alloc (Below.refl wr.heap.size wr) (.cells #[.int .u16 r', .int .u32 n', .int .i64 m'] 43)))
        have q2 := cell_regrown (cellU z2 (below_alloc (Below.refl wr.heap.size wr) (.cells #[.int .u16 r', .int .u32 n', .int .i64 m'] 43)))
        have HX : Hid ((wr.alloc (.cells #[.int .u16 r', .int .u32 n', .int .i64 m'] 43)).heap[wr.heap.size]? = some (.cells #[.int .u16 r', .int .u32 n', .int .i64 m'] 43 (0, 0))) := heap_alloc_new wr _
        have t0 := cell_regrown (three_cells HX.out).1
        have t1 := cell_regrown (three_cells HX.out).2.1
        have t2 := cell_regrown (three_cells HX.out).2.2
        clear hlen hGz hgd hA z0 z1 z2
        by_cases hm : (r', n') ∈ idsS (r, n, m)
        · rw [decide_eq_true hm] at HHS
          obtain ⟨rfl, hm1, hm2⟩ := hmi.1 hm
          have HNX : Hid (stretL (ys.take (k + 1)) = D ++ [(r', n, max m (n' - n + m'))]) := by show _ = _; rw [HNX.out, if_pos hm]; rfl
          have w1' : (n' - n) % 4294967296 = n' - n := by omega
          have w2' : IntKind.u32.wrap (n' - n) = n' - n := by rw [IntKind.wrap_u32]; omega
          have w3' : IntKind.i64.wrap (n' - n) = n' - n := by rw [IntKind.wrap_i64]; omega
          have w4' : IntKind.i64.wrap (n' - n + m') = n' - n + m' := by rw [IntKind.wrap_i64]; omega
          clear hmi hm HAO
          go_wp2_with fail
          refine wp_region_quiet_below (by kernel_rfl) (by kernel_rfl) ?_
          repeat (go_big_quiet_step ((go_at_call 20; exact Calls.regrown_of (HHS.out _))))
          refine wpQuiet_nil ?_
          intro _ hw'
          obtain ⟨⟨dq, osq⟩, hw''⟩ := hw'
          subst hw''
          have HX2 : Hid (Hold layS w1 43 (.slice (some ⟨gg, 0, none⟩) (D.length + 1) cap) (D ++ [(r', n, m)]) (Go.Sort.grow (redrawn (wr.alloc (.cells #[.int .u16 r', .int .u32 n', .int .i64 m'] 43)) dq) osq)) := HO.out.below (below_step (below_alloc (Below.refl _ _) _) (below_regrown _ _ _))
          have y0 := t0 dq osq
          have y1 := t1 dq osq
          have y2 := t2 dq osq
          have v0 := q0 dq osq
          have v1 := q1 dq osq
          have v2 := q2 dq osq
          clear q0 q1 q2 t0 t1 t2 HX HHS HO c0 c1 c2
          generalize wr.heap.size = X at y0 y1 y2 ⊢
          generalize Go.Sort.grow (redrawn (wr.alloc (.cells #[.int .u16 r', .int .u32 n', .int .i64 m'] 43)) dq) osq = W at HX2 y0 y1 y2 v0 v1 v2 ⊢
          obtain ⟨gg', cap', egg, hgg', hfr'⟩ := owns_head HX2.out.1 (by simp)
          rw [HL.out] at egg
          cases egg
          go_wp2_with fail
          go_quiet (fail)
          go_wp2_with fail
          go_region
          have HS : Hid (∀ j, Hold layS w1 43 (.slice (some ⟨gg, 0, none⟩) (D.length + 1) cap) (stretL (ys.take (k + 1))) ((W.drewN j).setCell ⟨gg, D.length * 3 + 2, none⟩ (.int .i64 (max m (n' - n + m'))))) := fun j => by
            rw [HNX.out]
            refine ⟨?_, (HX2.out.drewN j).2.setCell (p := ⟨gg, D.length * 3 + 2, none⟩) hgg _⟩
            have hW := (HX2.out.drewN j).1
            rw [List.length_append] at hW
            have := (hW.stored (D.length * 3 + 2) (.int .i64 (max m (n' - n + m')))).1
            rw [flat_last] at this
            rw [List.length_append]; exact this
          go_wp2
          go_roundg (ys.length - (k + 1))
          case measure => omega
          case rel => exact ⟨k + 1, by omega, Nat.le_refl _, by go_num, HS.out _⟩
        · rw [decide_eq_false hm] at HHS
          have HNX : Hid (stretL (ys.take (k + 1)) = (D ++ [(r, n, m)]) ++ [(r', n', m')]) := by show _ = _; rw [HNX.out, if_neg hm]
          clear hmi hm HAO
          go_wp2_with fail
          refine wp_region_quiet_below (by kernel_rfl) (by kernel_rfl) ?_
          repeat (go_big_quiet_step ((go_at_call 20; exact Calls.regrown_of (HHS.out _))))
          refine wpQuiet_nil ?_
          intro _ hw'
          obtain ⟨⟨dq, osq⟩, hw''⟩ := hw'
          subst hw''
          have HX2 : Hid (Hold layS w1 43 (.slice (some ⟨gg, 0, none⟩) (D.length + 1) cap) (D ++ [(r, n, m)]) (Go.Sort.grow (redrawn (wr.alloc (.cells #[.int .u16 r', .int .u32 n', .int .i64 m'] 43)) dq) osq)) := HO.out.below (below_step (below_alloc (Below.refl _ _) _) (below_regrown _ _ _))
          have y0 := t0 dq osq
          have y1 := t1 dq osq
          have y2 := t2 dq osq
          clear q0 q1 q2 t0 t1 t2 HX HHS HO c0 c1 c2
          generalize wr.heap.size = X at y0 y1 y2 ⊢
          generalize Go.Sort.grow (redrawn (wr.alloc (.cells #[.int .u16 r', .int .u32 n', .int .i64 m'] 43)) dq) osq = W at HX2 y0 y1 y2 ⊢
          have HOW : Hid (∀ o', (W.alloc o').ownsRow w1.heap.size 43 3 (.slice (some ⟨gg, 0, none⟩) (D.length + 1) cap) (D.length + 1) (layS.flat (D ++ [(r, n, m)]))) := fun o' => by have := (HX2.out.alloc o').1; rw [HL.out] at this; exact this
          go_wp2_with (first
            | (at_builtin; refine wpList_append_own _ rfl (.tmp 30) (.tmp 32) 22 rfl w1.heap.size 43 i0 (.agg #[.int .u16 0, .int .u32 0, .int .i64 0]) 3 16 Try.underlying22 hi hz0 hz1 hz2 rfl (by decide) _ (D.length + 1) (layS.flat (D ++ [(r, n, m)])) rfl (HOW.out _) ⟨W.heap.size, 0, none⟩ 1 1 [.int .u16 r', .int .u32 n', .int .i64 m'] rfl rfl (cells_new (cs := [.int .u16 r', .int .u32 n', .int .i64 m'])) (layS.one (r', n', m')) (by unfold maxLen; omega) (by omega) (by have := HX2.out.2.size; simp; omega) ?_))
          intro v' w2 hown' hgrow _
          have HO2 : Hid (Hold layS w1 43 v' (stretL (ys.take (k + 1))) w2) := by
            rw [HNX.out]
            exact (HX2.out.alloc _).onto rfl (by simp) hown' hgrow
          clear hown' hgrow
          go_wp2
          go_roundg (ys.length - (k + 1))
          case measure => omega
          case rel => exact ⟨k + 1, by omega, Nat.le_refl _, by go_num, HO2.out⟩
    · have : k = ys.length := by omega
      subst this
      rw [List.take_length] at HO
      have I := HIN.out ys.length (Nat.le_refl _)
      rw [List.take_length] at I
      have HE := Lib.hid I
      have hkl : ¬ (ys.length : Int) < (ys.length : Int) := by omega
      clear I
      go_wp2
      go_ret
      obtain ⟨p2, c2, rfl, h1, h2, h3⟩ := HO.out.gave layS_pos
      exact ⟨stretL ys, fun a => (HE.out.same a).trans (by rw [List.take_length]; exact (perm_ids HPM.out).mem_iff), HE.out.good, by have := HE.out.len; rw [← HPM.out.length_eq]; exact this, p2, c2, rfl, h1, h2, h3, below_step HB1.out HO.out.2⟩
end Go.Proofs.Ytoadifbbmfaakaa
