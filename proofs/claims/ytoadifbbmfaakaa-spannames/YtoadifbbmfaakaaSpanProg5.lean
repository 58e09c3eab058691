
/-
  What the program's Of, Total and IDs of layer 7 hand back. No conditions beyond what each theorem states.
-/
import Derived.Test.YtoadifbbmfaakaaSpanProg4
import Derived.Lib.OwnKind
namespace Go.Proofs.Ytoadifbbmfaakaa
open Go.ChangeShapes Go.WideShapes Go.ChangeAt Go.RowKit Go.Lib
set_option linter.unusedVariables false
set_option linter.unusedSimpArgs false

theorem RightN.take {xs : List Nm} (h : RightN xs) (n : Nat) : RightN (xs.take n) := fun x hx => h x (List.mem_of_mem_take hx)
set_option maxHeartbeats 3200000 in
set_option maxRecDepth 20000 in
theorem of_spec : OfSpec := by
  intro ids p c w hR hr hf hl hc hp
  have HR := Lib.hid hR
  have HRT := Lib.hid hr
  have HF := Lib.hid hf
  clear hR hr hf hp hc
  go_enter Try.func24, Try.ntmps24
  go_wp2
  go_loopg [3, 8] ids.length (fun g v i wr => ∃ k : Nat, k ≤ ids.length ∧ ids.length - k ≤ g ∧ i = .int .i64 (k : Int) ∧ Hold layS w 43 v (ofL (ids.take k)) wr)
  case atStart => exact ⟨0, Nat.zero_le _, by omega, rfl, Hold.nil _ _ _⟩
  case round =>
    obtain ⟨k, hk, hg, rfl, hO⟩ := hrel
    have HO := Lib.hid hO
    clear hO
    by_cases hlt : k < ids.length
    · obtain ⟨b, o, rfl, c0', c1'⟩ := irow_at HR.out hlt
      have c0 := cellU c0' HO.out.2
      have c1 := cellU c1' HO.out.2
      have HNX : Hid (ofL (ids.take (k + 1)) = joinL (ofL (ids.take k)) (ids.getD k n0)) := by show _ = _; rw [take_getD n0 hlt]; exact ofL_join (HRT.out.take k) _
      have HJ := Lib.hid (fun (o : Obj) => join_any (ofL (ids.take k)) (ids.getD k n0) u3 w (wr.alloc o) (HO.out.alloc o) (right_of (HRT.out.take k)) (by have := ofL_len_le ids k hk; omega))
      unfold nv at HJ
      generalize (ids.getD k n0) = a at c0 c1 HNX HJ
      obtain ⟨x, y⟩ := a
      simp only at c0 c1 HJ
      clear c0' c1'
      go_wp2_with fail
      refine (HJ.out _).mono ?_
      rintro e w1 ⟨v', rfl, hH, -, -⟩
      rw [← HNX.out] at hH
      have HO2 := Lib.hid hH
      clear hH HJ
      go_wp2
      go_roundg (ids.length - (k + 1))
      case measure => omega
      case rel => exact ⟨k + 1, by omega, Nat.le_refl _, by go_num, HO2.out⟩
    · have : k = ids.length := by omega
      subst this
      rw [List.take_length] at HO
      go_wp2
      go_ret
      obtain ⟨p1, c1, rfl, h1, h2, h3⟩ := HO.out.gave layS_pos
      exact ⟨p1, c1, rfl, h1, h2, h3, HO.out.2⟩
set_option maxHeartbeats 1600000 in
set_option maxRecDepth 20000 in
theorem total_spec : TotalSpec := by
  intro l p c w hR hr hf hl ht hc hp
  have HR := Lib.hid hR
  have HRT := Lib.hid hr
  have HF := Lib.hid hf
  have HT := Lib.hid ht
  clear hR hr hf hp hc ht
  go_enter Try.func14, Try.ntmps14
  go_wp2
  go_loopg [3, 8] l.length (fun g v i wr => ∃ k : Nat, k ≤ l.length ∧ l.length - k ≤ g ∧ i = .int .i64 (k : Int) ∧ v = .int .i64 (totalL (l.take k) : Int) ∧ Below w.heap.size w wr)
  case atStart => exact ⟨0, Nat.zero_le _, by omega, rfl, rfl, Below.refl _ _⟩
  case round =>
    obtain ⟨k, hk, hg, rfl, rfl, hB⟩ := hrel
    have HB := Lib.hid hB
    clear hB
    by_cases hlt : k < l.length
    · obtain ⟨b, o, rfl, c0', c1', c2'⟩ := srow_at HR.out hlt
      have c0 := cellU c0' HB.out
      have c1 := cellU c1' HB.out
      have c2 := cellU c2' HB.out
      have HS := Lib.hid (fun (W : World) => size_any (l.getD k s0) W (HRT.out.at hlt) (HF.out.at hlt))
      have hr2 := rightS_iff.1 (HRT.out.at hlt)
      have hTK : totalL (l.take (k + 1)) = totalL (l.take k) + (l.getD k s0).2.2.toNat := totalL_take hlt
      have hTL : totalL (l.take (k + 1)) ≤ 3000 := Nat.le_trans (totalL_take_le _ _) HT.out
      unfold sv at HS
      generalize (l.getD k s0) = s at c0 c1 c2 hTK HS hr2
      obtain ⟨r, n, m⟩ := s
      simp only at c0 c1 c2 HS hTK hr2
      generalize hT' : totalL (l.take (k + 1)) = T' at hTK hTL
      generalize totalL (l.take k) = T at hTK
      have hsum : (T : Int) + m = (T' : Int) := by omega
      have hz : IntKind.i64.wrap ((T : Int) + m) = (T' : Int) := by rw [hsum, IntKind.wrap_i64]; omega
      clear c0' c1' c2'
      go_wp2_with fail
      refine (HS.out _).mono ?_
      rintro e w1 ⟨rfl, hb⟩
      have HB2 : Hid (Below w.heap.size w w1) := below_step (below_alloc HB.out _) hb
      clear hb HS
      go_wp2
      go_roundg (l.length - (k + 1))
      case measure => omega
      case rel => exact ⟨k + 1, by omega, Nat.le_refl _, by go_num, by rw [hT']; go_num, HB2.out⟩
    · have : k = l.length := by omega
      subst this
      rw [List.take_length]
      go_wp2
      go_ret
      exact ⟨rfl, HB.out⟩
theorem box_grown {w w' : World} {B base size n : Nat} {cs : Array Value} {t e : TypeId} {v : Value} {xs : List Value} (hne : t ≠ e) (h : w.heap[B]? = some (.cells cs t (0, 0))) (hown : w.ownsRow base e size v n xs) (hg : w.grownBy w' v.ownBlock) : w'.heap[B]? = some (.cells cs t (0, 0)) := by
  rw [hg.block B (lt_of_block h) (fun ee => ?_)]
  · exact h
  · obtain ⟨c, fz, hc⟩ := Lib.ownsRow_kind hown B ee.symm
    rw [h] at hc
    injection hc with hc
    injection hc with h1 h2 h3
    exact hne h2
set_option maxHeartbeats 3200000 in
set_option maxRecDepth 20000 in
theorem ids_spec : IdsSpec := by
  intro l p c w hR hr hf hl ht hc hp
  obtain ⟨i0, hi, hz0, hz1, hz2⟩ := info_parts infoII
  have HTS := Lib.hid (total_spec l p c w hR hr hf hl ht hc hp)
  have HR := Lib.hid hR
  have HRT := Lib.hid hr
  have HF := Lib.hid hf
  have HT := Lib.hid ht
  have hTn : totalL l ≤ 3000 := ht
  clear hR hr hf hp hc ht
  go_enter Try.func13, Try.ntmps13
  go_wp2_with fail
  refine HTS.out.mono ?_
  rintro e w1 ⟨rfl, hb1⟩
  have HB1 := Lib.hid hb1
  clear hb1 HTS
  go_wp2_with (first
    | (at_make; refine wpList_make_own _ rfl _ _ 34 rfl w.heap.size 26 i0 (.agg #[.int .u16 0, .int .u32 0]) 2 Try.underlying34 hi hz0 hz1 _ _ _ (totalL l) rfl rfl rfl (by rw [hz2]; omega) (by unfold maxLen; omega) HB1.out.size ?_))
  intro w2 hown2 hgr2
  have HO2 : Hid (Hold layI w 26 (.slice (some ⟨w1.heap.size, 0, none⟩) 0 (totalL l)) [] w2) := ⟨hown2, HB1.out.grown hgr2 HB1.out.size (fun j hj => by cases hj)⟩
  clear hown2 hgr2 HB1
  go_wp2
  go_loopg [3, 12] l.length (fun g v i wr => ∃ k : Nat, k ≤ l.length ∧ l.length - k ≤ g ∧ i = .int .i64 (k : Int) ∧ Hold layI w 26 v (idsL (l.take k)) wr)
  case atStart => exact ⟨0, Nat.zero_le _, by omega, rfl, HO2.out⟩
  case round =>
    clear HO2
    obtain ⟨k, hk, hg, rfl, hO⟩ := hrel
    have HO := Lib.hid hO
    clear hO
    by_cases hlt : k < l.length
    · have hri := rightS_iff.1 (HRT.out.at hlt)
      have HTK : Hid (totalL (l.take k) + (l.getD k s0).2.2.toNat ≤ 3000) := by
        show totalL (l.take k) + (l.getD k s0).2.2.toNat ≤ 3000
        rw [← totalL_take hlt]; exact Nat.le_trans (totalL_take_le _ _) HT.out
      have HIT : Hid (idsL (l.take (k + 1)) = idsL (l.take k) ++ idsN (l.getD k s0) (l.getD k s0).2.2.toNat) := idsL_take hlt
      have HS := Lib.hid (fun (W : World) => size_any (l.getD k s0) W (HRT.out.at hlt) (HF.out.at hlt))
      obtain ⟨b, o, rfl, c0', c1', c2'⟩ := srow_at HR.out hlt
      have c0 := cellU c0' HO.out.2
      have c1 := cellU c1' HO.out.2
      have c2 := cellU c2' HO.out.2
      have hfn := (HF.out.at hlt)
      unfold FitS at hfn
      unfold sv at HS
      generalize (l.getD k s0) = s at c0 c1 c2 hri HTK HIT HS hfn
      obtain ⟨r, n, m⟩ := s
      simp only at c0 c1 c2 HS hri HTK HIT hfn
      obtain ⟨M, rfl⟩ : ∃ M : Nat, m = (M : Int) := ⟨m.toNat, by omega⟩
      rw [Int.toNat_natCast] at HTK HIT
      have HTL : Hid (totalL (l.take k) = (idsL (l.take k)).length) := rfl
      generalize idsL (l.take k) = A at HO HIT HTL
      rw [HTL.out] at HTK
      obtain ⟨hr1, hr2, hr3, hr4, hr5⟩ := hri
      clear c0' c1' c2' hfn
      go_wp2_with fail
      refine (HS.out _).mono ?_
      rintro e w3 ⟨rfl, hb3⟩
      have HX3 := Lib.hid (kept_box (heap_alloc_new wr _) hb3)
      have HO3 : Hid (Hold layI w 26 u3 A w3) := (HO.out.alloc _).below hb3
      clear hb3 HS HO c0 c1 c2
      generalize wr.heap.size = B at HX3 ⊢
      go_wp2
      go_loopg [3, 18] M (fun g v i wq => ∃ j : Nat, j ≤ M ∧ M - j ≤ g ∧ i = .int .i64 (j : Int) ∧ Hold layI w 26 v (A ++ idsN (r, n, (M : Int)) j) wq ∧ wq.heap[B]? = some (.cells #[.int .u16 r, .int .u32 n, .int .i64 (M : Int)] 43 (0, 0)))
      case atStart => exact ⟨0, Nat.zero_le _, by omega, rfl, by rw [show idsN (r, n, (M : Int)) 0 = [] from rfl, List.append_nil]; exact HO3.out, HX3.out⟩
      case round =>
        clear HO3 HX3
        obtain ⟨j, hj, hgj, rfl, hO, hX⟩ := hrel
        have HO := Lib.hid hO
        have HX := Lib.hid hX
        obtain ⟨d0, d1, d2⟩ := three_cells hX
        clear hO hX
        by_cases hjm : j < M
        · have hll : (A ++ idsN (r, n, (M : Int)) j).length ≤ 3000 := by
            rw [List.length_append, idsN_length]; have := HTK.out; omega
          have HNX : Hid (A ++ idsN (r, n, (M : Int)) (j + 1) = (A ++ idsN (r, n, (M : Int)) j) ++ [(r, n + (j : Int))]) := by
            show _ = _
            rw [idsN_succ, List.append_assoc]
          generalize A ++ idsN (r, n, (M : Int)) j = C at HO HNX hll
          have HP := Lib.hid (fun W => plus_any (r, n) (j : Int) (n + j) W (by simp only; omega))
          unfold nv at HP
          simp only at HP
          go_wp2_with fail
          refine (HP.out _).mono ?_
          rintro e w4 ⟨rfl, hb4⟩
          have HX4 := Lib.hid (kept_box HX.out hb4)
          have HO4 : Hid (Hold layI w 26 u3 C w4) := HO.out.below hb4
          clear hb4 HP HO HX d0 d1 d2
          go_wp2_with (first
            | (at_builtin; refine wpList_append_own _ rfl (.tmp 21) (.tmp 26) 34 rfl w.heap.size 26 i0 (.agg #[.int .u16 0, .int .u32 0]) 2 8 Try.underlying34 hi hz0 hz1 hz2 rfl (by decide) _ C.length (layI.flat C) rfl (HO4.out.alloc _).1 ⟨w4.heap.size, 0, none⟩ 1 1 [.int .u16 r, .int .u32 (n + (j : Int))] rfl rfl (cells_new (cs := [.int .u16 r, .int .u32 (n + (j : Int))])) (layI.one (r, n + (j : Int))) (by unfold maxLen; omega) (by omega) (by have := HO4.out.2.size; simp; omega) ?_))
          intro v' w5 hown' hgrow _
          have HO5 : Hid (Hold layI w 26 v' (A ++ idsN (r, n, (M : Int)) (j + 1)) w5) := by
            rw [HNX.out]
            exact (HO4.out.alloc _).onto rfl (by simp) hown' hgrow
          have HX5 : Hid (w5.heap[B]? = some (.cells #[.int .u16 r, .int .u32 n, .int .i64 (M : Int)] 43 (0, 0))) := box_grown (by decide) (kept_box HX4.out (below_alloc (Below.refl _ _) _)) (HO4.out.alloc _).1 hgrow
          clear hown' hgrow HO4 HX4
          go_wp2
          go_roundg (M - (j + 1))
          case measure => omega
          case rel => exact ⟨j + 1, by omega, Nat.le_refl _, by go_num, HO5.out, HX5.out⟩
        · have : j = M := by omega
          subst this
          rw [← HIT.out] at HO
          go_wp2
          go_roundg (l.length - (k + 1))
          case measure => omega
          case rel => exact ⟨k + 1, by omega, Nat.le_refl _, by go_num, HO.out⟩
    · have : k = l.length := by omega
      subst this
      rw [List.take_length] at HO
      go_wp2
      go_ret
      obtain ⟨p1, c1, rfl, h1, h2, h3⟩ := HO.out.gave layI_pos
      exact ⟨p1, c1, rfl, h1, h2, h3, HO.out.2⟩
end Go.Proofs.Ytoadifbbmfaakaa
