
/-
  What the document's Of of layer 7 hands back. No conditions beyond what each theorem states.
-/
import Derived.Test.YtoadifbbmfaakaaSpanOf
namespace Go.Proofs.Ytoadifbbmfaakaa
open Go.ChangeShapes Go.WideShapes Go.ChangeAt Go.RowKit Go.Lib
set_option linter.unusedVariables false
set_option linter.unusedSimpArgs false

theorem flat_last (D : List Sp) (s : Sp) (l : Int) : (layS.flat (D ++ [s])).set (D.length * 3 + 2) (.int .i64 l) = layS.flat (D ++ [(s.1, s.2.1, l)]) := by
  have hl : (layS.flat D).length = D.length * 3 := layS.flat_length D
  rw [layS.flat_append, layS.flat_append, List.set_append_right _ _ (by omega), hl, layS.flat_one, layS.flat_one, show D.length * 3 + 2 - D.length * 3 = 2 by omega]
  rfl
set_option maxHeartbeats 6400000 in
set_option maxRecDepth 20000 in
theorem refof_any (ids : List Nm) (p : Option Addr) (c : Nat) (w : World) (hR : GRow layI w p ids) (hr : RightN ids) (hl : ids.length ≤ 100000) :
    Calls Try.prog 25 #[.slice p ids.length c] w (Made layS 56 w (ofL ids)) := by
  obtain ⟨i0, hi, hz0, hz1, hz2⟩ := info_parts infoRS
  have HR := Lib.hid hR
  have HRT := Lib.hid hr
  clear hR hr
  go_enter Try.func25, Try.ntmps25
  go_wp2
  go_loopg [3, 4] ids.length (fun g v i wr => ∃ k : Nat, k ≤ ids.length ∧ ids.length - k ≤ g ∧ i = .int .i64 (k : Int) ∧ Hold layS w 56 v (ofL (ids.take k)) wr)
  case atStart => exact ⟨0, Nat.zero_le _, by omega, rfl, Hold.nil _ _ _⟩
  case round =>
    obtain ⟨k, hk, hg, rfl, hO⟩ := hrel
    have HO := Lib.hid hO
    clear hO
    by_cases hlt : k < ids.length
    · obtain ⟨b, o, rfl, c0', c1'⟩ := irow_at HR.out hlt
      have c0 := cellU c0' HO.out.2
      have c1 := cellU c1' HO.out.2
      clear c0' c1'
      by_cases hk0 : k = 0
      · subst hk0
        have HNX : Hid (ofL (ids.take (0 + 1)) = [] ++ [((ids.getD 0 n0).1, (ids.getD 0 n0).2, 1)]) := ofL_first (by omega)
        have HOL : Hid (ofL (ids.take 0) = []) := rfl
        rw [HOL.out] at HO
        simp only [Nat.zero_mul, Nat.add_zero] at c0 c1
        generalize (ids.getD 0 n0).1 = x at c0 HNX
        generalize (ids.getD 0 n0).2 = y at c1 HNX
        go_wp2_with fail
        go_quiet (fail)
        have HOD : Hid (∀ n, Hold layS w 56 u3 [] (wr.drewN n)) := fun n => HO.out.drewN n
        go_wp2_with (first
          | (at_builtin; refine wpList_append_own _ rfl (.tmp 64) (.tmp 70) 29 rfl w.heap.size 56 i0 (.agg #[.int .u16 0, .int .u32 0, .int .i64 0]) 3 16 Try.underlying29 hi hz0 hz1 hz2 rfl (by decide) _ 0 [] rfl ((HOD.out _).alloc _).1 ⟨wr.heap.size, 0, none⟩ 1 1 [.int .u16 x, .int .u32 y, .int .i64 1] rfl rfl (cells_new (cs := [.int .u16 x, .int .u32 y, .int .i64 1])) (layS.one (x, y, 1)) (by unfold maxLen; omega) (by omega) (by have := HO.out.2.size; simp; omega) ?_))
        intro v' w1 hown' hgrow _
        have HO2 : Hid (Hold layS w 56 v' (ofL (ids.take (0 + 1))) w1) := by
          rw [HNX.out]
          exact ((HOD.out _).alloc _).onto rfl rfl hown' hgrow
        clear hown' hgrow
        go_wp2
        go_roundg (ids.length - (0 + 1))
        case measure => omega
        case rel => exact ⟨0 + 1, by omega, Nat.le_refl _, by go_num, HO2.out⟩
      · have hkp : 0 < k := by omega
        obtain ⟨D, s, hD, hN⟩ := ofL_next hkp hlt
        have hsl := ofL_lens ids k (by omega) s (by rw [hD]; simp)
        have hpr := rightN_iff.1 (HRT.out.at (i := k - 1) (by omega))
        have he1 : ((k : Nat) : Int) - 1 = ((k - 1 : Nat) : Int) := by omega
        obtain ⟨b', o', eb, a0', a1'⟩ := irow_at HR.out (i := k - 1) (by omega)
        cases eb
        have a0 := cellU a0' HO.out.2
        have a1 := cellU a1' HO.out.2
        clear a0' a1'
        generalize hx : (ids.getD k n0).1 = x at c0 hN
        generalize hy : (ids.getD k n0).2 = y at c1 hN
        generalize hu : (ids.getD (k - 1) n0).1 = u at a0
        generalize hv : (ids.getD (k - 1) n0).2 = v at a1 hpr
        have hfo : follows (ids.getD (k - 1) n0) (ids.getD k n0) = decide (u = x ∧ v + 1 = y) := by unfold follows; rw [hx, hy, hu, hv]
        rw [hfo] at hN
        have HOL := Lib.hid hD
        rw [HOL.out] at HO
        obtain ⟨gg, cap, hv3, hgg, hfr⟩ := owns_head HO.out.1 (by simp)
        have hlen : (D ++ [s]).length = D.length + 1 := by simp
        rw [hlen] at hv3
        subst hv3
        have d2 : wr.cell? ⟨gg, D.length * 3 + 2, none⟩ = some (.int .i64 s.2.2) := by
          have hW := HO.out.1
          rw [hlen] at hW
          have := hW.cellAt (D.length * 3 + 2) (by show D.length * 3 + 2 < (D.length + 1) * 3; omega)
          rw [this, layS.flat_append, List.getElem?_append_right (by rw [layS.flat_length]; simp [layS]), layS.flat_length]
          simp [layS, Lay.flat]
        have hb3 := HO.out.2
        have HW3 : Hid (∀ n o, ((wr.drewN n).alloc o).ownsRow w.heap.size 56 3 (.slice (some ⟨gg, 0, none⟩) (D.length + 1) cap) (D.length + 1) (layS.flat (D ++ [s]))) := fun n o => by
          have := ((HO.out.drewN n).alloc o).1
          rw [hlen] at this; exact this
        have hspare : D.length + 1 ≤ 100000 := by have := ofL_len_le ids k (by omega); rw [HOL.out, hlen] at this; omega
        have hw1 : IntKind.u32.wrap (v + 1) = v + 1 := by rw [IntKind.wrap_u32]; omega
        clear hlen hu hv hx hy hfo hD hb3
        by_cases h1 : u = x
        · subst h1
          by_cases h2 : v + 1 = y
          · subst h2
            by_cases h3 : s.2.2 < 1024
            · have HNX : Hid (ofL (ids.take (k + 1)) = D ++ [(s.1, s.2.1, s.2.2 + 1)]) := by rw [hN, if_pos ⟨by simp, h3⟩]; rfl
              clear hN
              go_wp2_with fail
              go_quiet (fail)
              have HOD : Hid (∀ n, Hold layS w 56 (.slice (some ⟨gg, 0, none⟩) (D.length + 1) cap) (D ++ [s]) (wr.drewN n)) := fun n => HO.out.drewN n
              have HS : Hid (∀ n, Hold layS w 56 (.slice (some ⟨gg, 0, none⟩) (D.length + 1) cap) (ofL (ids.take (k + 1))) ((wr.drewN n).setCell ⟨gg, D.length * 3 + 2, none⟩ (.int .i64 (s.2.2 + 1)))) := fun n => by
                rw [HNX.out]
                refine ⟨?_, (HOD.out n).2.setCell (p := ⟨gg, D.length * 3 + 2, none⟩) hgg _⟩
                have hW := (HOD.out n).1
                rw [List.length_append] at hW
                have := (hW.stored (D.length * 3 + 2) (.int .i64 (s.2.2 + 1))).1
                rw [flat_last] at this
                rw [List.length_append]; exact this
              go_wp2
              go_roundg (ids.length - (k + 1))
              case measure => omega
              case rel => exact ⟨k + 1, by omega, Nat.le_refl _, by go_num, HS.out _⟩
            · have HNX : Hid (ofL (ids.take (k + 1)) = (D ++ [s]) ++ [(u, v + 1, 1)]) := by rw [hN, if_neg (fun h => h3 h.2)]; rfl
              clear hN
              go_wp2_with fail
              go_quiet (fail)
              have HOD : Hid (∀ n, Hold layS w 56 (.slice (some ⟨gg, 0, none⟩) (D.length + 1) cap) (D ++ [s]) (wr.drewN n)) := fun n => HO.out.drewN n
              go_wp2_with (first
                | (at_builtin; refine wpList_append_own _ rfl (.tmp 64) (.tmp 70) 29 rfl w.heap.size 56 i0 (.agg #[.int .u16 0, .int .u32 0, .int .i64 0]) 3 16 Try.underlying29 hi hz0 hz1 hz2 rfl (by decide) _ (D.length + 1) (layS.flat (D ++ [s])) rfl (HW3.out _ _) ⟨wr.heap.size, 0, none⟩ 1 1 [.int .u16 u, .int .u32 (v + 1), .int .i64 1] rfl rfl (cells_new (cs := [.int .u16 u, .int .u32 (v + 1), .int .i64 1])) (layS.one (u, v + 1, 1)) (by unfold maxLen; omega) (by omega) (by have := HO.out.2.size; simp; omega) ?_))
              intro v' w1 hown' hgrow _
              have HO2 : Hid (Hold layS w 56 v' (ofL (ids.take (k + 1))) w1) := by
                rw [HNX.out]
                exact ((HOD.out _).alloc _).onto rfl (by simp) hown' hgrow
              clear hown' hgrow
              go_wp2
              go_roundg (ids.length - (k + 1))
              case measure => omega
              case rel => exact ⟨k + 1, by omega, Nat.le_refl _, by go_num, HO2.out⟩
          · have h2' : (v + 1 == y) = false := by simp [h2]
            have HNX : Hid (ofL (ids.take (k + 1)) = (D ++ [s]) ++ [(u, y, 1)]) := by rw [hN, if_neg (fun h => h2 (of_decide_eq_true h.1).2)]; rfl
            clear hN
            go_wp2_with fail
            go_quiet (fail)
            have HOD : Hid (∀ n, Hold layS w 56 (.slice (some ⟨gg, 0, none⟩) (D.length + 1) cap) (D ++ [s]) (wr.drewN n)) := fun n => HO.out.drewN n
            go_wp2_with (first
              | (at_builtin; refine wpList_append_own _ rfl (.tmp 64) (.tmp 70) 29 rfl w.heap.size 56 i0 (.agg #[.int .u16 0, .int .u32 0, .int .i64 0]) 3 16 Try.underlying29 hi hz0 hz1 hz2 rfl (by decide) _ (D.length + 1) (layS.flat (D ++ [s])) rfl (HW3.out _ _) ⟨wr.heap.size, 0, none⟩ 1 1 [.int .u16 u, .int .u32 y, .int .i64 1] rfl rfl (cells_new (cs := [.int .u16 u, .int .u32 y, .int .i64 1])) (layS.one (u, y, 1)) (by unfold maxLen; omega) (by omega) (by have := HO.out.2.size; simp; omega) ?_))
            intro v' w1 hown' hgrow _
            have HO2 : Hid (Hold layS w 56 v' (ofL (ids.take (k + 1))) w1) := by
              rw [HNX.out]
              exact ((HOD.out _).alloc _).onto rfl (by simp) hown' hgrow
            clear hown' hgrow
            go_wp2
            go_roundg (ids.length - (k + 1))
            case measure => omega
            case rel => exact ⟨k + 1, by omega, Nat.le_refl _, by go_num, HO2.out⟩
        · have h1' : (u == x) = false := by simp [h1]
          have HNX : Hid (ofL (ids.take (k + 1)) = (D ++ [s]) ++ [(x, y, 1)]) := by rw [hN, if_neg (fun h => h1 (of_decide_eq_true h.1).1)]; rfl
          clear hN
          go_wp2_with fail
          go_quiet (fail)
          have HOD : Hid (∀ n, Hold layS w 56 (.slice (some ⟨gg, 0, none⟩) (D.length + 1) cap) (D ++ [s]) (wr.drewN n)) := fun n => HO.out.drewN n
          go_wp2_with (first
            | (at_builtin; refine wpList_append_own _ rfl (.tmp 64) (.tmp 70) 29 rfl w.heap.size 56 i0 (.agg #[.int .u16 0, .int .u32 0, .int .i64 0]) 3 16 Try.underlying29 hi hz0 hz1 hz2 rfl (by decide) _ (D.length + 1) (layS.flat (D ++ [s])) rfl (HW3.out _ _) ⟨wr.heap.size, 0, none⟩ 1 1 [.int .u16 x, .int .u32 y, .int .i64 1] rfl rfl (cells_new (cs := [.int .u16 x, .int .u32 y, .int .i64 1])) (layS.one (x, y, 1)) (by unfold maxLen; omega) (by omega) (by have := HO.out.2.size; simp; omega) ?_))
          intro v' w1 hown' hgrow _
          have HO2 : Hid (Hold layS w 56 v' (ofL (ids.take (k + 1))) w1) := by
            rw [HNX.out]
            exact ((HOD.out _).alloc _).onto rfl (by simp) hown' hgrow
          clear hown' hgrow
          go_wp2
          go_roundg (ids.length - (k + 1))
          case measure => omega
          case rel => exact ⟨k + 1, by omega, Nat.le_refl _, by go_num, HO2.out⟩
    · have : k = ids.length := by omega
      subst this
      rw [List.take_length] at HO
      go_wp2
      go_ret
      exact ⟨_, rfl, HO.out⟩

end Go.Proofs.Ytoadifbbmfaakaa
