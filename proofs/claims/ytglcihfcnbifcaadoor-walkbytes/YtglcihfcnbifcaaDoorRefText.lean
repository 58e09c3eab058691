
/-
  What the document's own Text of layer 4 hands back, of any text of at most 2^21 bytes. No conditions beyond what each theorem states.
-/
import Derived.Test.YtglcihfcnbifcaaDoorRefWalk
namespace Go.Proofs.YtglcihfcnbifcaaDoor
open Go.ChangeShapes Go.WideShapes Go.ChangeAt Go.RowKit Go.Sort
set_option linter.unusedVariables false
set_option linter.unusedSimpArgs false

theorem wapp_zero (p : Wi) : wapp p (0, 0) = p.2 := by
  obtain ⟨⟨a, b⟩, ⟨c, d⟩⟩ := p
  simp [wapp, gadd, gmul]
theorem wapp_one (p : Wi) : wapp p (1, 0) = (p.1.1 + p.2.1, p.1.2 + p.2.2) := by
  obtain ⟨⟨a, b⟩, ⟨c, d⟩⟩ := p
  simp [wapp, gadd, gmul]
theorem wapp_near {m n : Int} {p : Wi} {z : Gi} (hp : Wok m p) (hz : Near n z) : Near (n + m) (wapp p z) := near_add (un_near hp.1 hz) hp.2

set_option maxHeartbeats 3200000 in
set_option maxRecDepth 100000 in
theorem reftext_any (s : ByteArray) (hs : s.size ≤ 2097152) (w : World) :
    Calls Tryd.prog 9 #[.string s] w fun e w' => e = .returned (iw (wtext s.data.toList)) ∧ Below w.heap.size w w' := by
  go_enter Tryd.func9, Tryd.ntmps9
  go_wp2_with fail
  go_loopg [5] s.size (fun g i wr => ∃ k : Nat, k ≤ s.size ∧ s.size - k ≤ g ∧ i = .int .i64 k ∧ IBox w.heap.size ((0, 0), (0, 0)) wr ∧ GBox (w.heap.size + 1) (wapp (wtext (s.data.toList.take k)) (0, 0)).1 (wapp (wtext (s.data.toList.take k)) (0, 0)).2 wr ∧ GBox (w.heap.size + 1 + 1) (wapp (wtext (s.data.toList.take k)) (1, 0)).1 (wapp (wtext (s.data.toList.take k)) (1, 0)).2 wr ∧ Below w.heap.size w wr)
  case atStart =>
    refine ⟨0, Nat.zero_le _, by omega, rfl, ((IBox.new w ((0, 0), (0, 0))).alloc _).alloc _, ?_, ?_, below_alloc (below_alloc (below_alloc (Below.refl _ _) _) _) _⟩
    · have h := (GBox.new (w.alloc (.cells #[.int .i64 0, .int .i64 0, .int .i64 0, .int .i64 0] 26)) 0 0).alloc (.cells #[.int .i64 1, .int .i64 0] 24)
      rw [show (w.alloc (.cells #[.int .i64 0, .int .i64 0, .int .i64 0, .int .i64 0] 26)).heap.size = w.heap.size + 1 by simp] at h
      exact h
    · have h := GBox.new ((w.alloc (.cells #[.int .i64 0, .int .i64 0, .int .i64 0, .int .i64 0] 26)).alloc (.cells #[.int .i64 0, .int .i64 0] 24)) 1 0
      rw [show ((w.alloc (.cells #[.int .i64 0, .int .i64 0, .int .i64 0, .int .i64 0] 26)).alloc (.cells #[.int .i64 0, .int .i64 0] 24)).heap.size = w.heap.size + 1 + 1 by simp] at h
      exact h
  case round =>
    obtain ⟨k, hk, hg, rfl, hI, hZ, hO, hb⟩ := hrel
    by_cases hlt : k < s.size
    · have HN := Lib.hid (congrArg wtext (byte_at hlt))
      rw [wtext_snoc] at HN
      have hlen : (s.data.toList.take k).length = k := by simp; omega
      have hok := wok_text (s.data.toList.take k)
      rw [hlen] at hok
      have nz := near_mono (wapp_near hok (show Near 0 (0, 0) by unfold Near; decide)) (show (0 : Int) + 8 * k ≤ 33554432 by omega)
      have no := near_mono (wapp_near hok (show Near 1 (1, 0) by unfold Near; decide)) (show (1 : Int) + 8 * k ≤ 33554432 by omega)
      have hbk := wok_byte (n := s[k].toNat) s[k].toNat_lt
      have H1 := Lib.hid (fun W => refbyte_any s[k].toNat s[k].toNat_lt W)
      have H2 := Lib.hid (fun W => refapply_any (wbyte s[k].toNat) _ hbk.1 (near_mono hbk.2 (by omega)) nz W)
      have H3 := Lib.hid (fun W => refapply_any (wbyte s[k].toNat) _ hbk.1 (near_mono hbk.2 (by omega)) no W)
      rw [← wapp_then] at H2 H3
      rw [← HN.out] at H2 H3
      clear HN hok nz no hbk hlen
      generalize hz' : wapp (wtext (s.data.toList.take (k + 1))) (0, 0) = z' at H2
      generalize ho' : wapp (wtext (s.data.toList.take (k + 1))) (1, 0) = o' at H3
      have HZ' : Hid (wapp (wtext (s.data.toList.take (k + 1))) (0, 0) = z') := hz'
      have HO' : Hid (wapp (wtext (s.data.toList.take (k + 1))) (1, 0) = o') := ho'
      clear hz' ho'
      generalize wapp (wtext (s.data.toList.take k)) (0, 0) = z at hZ H2
      generalize wapp (wtext (s.data.toList.take k)) (1, 0) = o at hO H3
      generalize iw (wbyte s[k].toNat) = B at H1 H2 H3
      obtain ⟨z1, z2⟩ := z
      obtain ⟨o1, o2⟩ := o
      obtain ⟨z1', z2'⟩ := z'
      obtain ⟨o1', o2'⟩ := o'
      unfold gv at H2 H3
      simp only at H2 H3 hZ hO
      have a0 := cell_regrown hZ.cell0
      have a1 := cell_regrown hZ.cell1
      have HI : Hid (IBox w.heap.size ((0, 0), (0, 0)) wr) := hI
      have HZ : Hid (GBox (w.heap.size + 1) z1 z2 wr) := hZ
      have HO : Hid (GBox (w.heap.size + 1 + 1) o1 o2 wr) := hO
      have HBB : Hid (Below w.heap.size w wr) := hb
      clear hI hZ hO hb
      go_wp2_with fail
      refine wp_region_tail_below 6 (by kernel_rfl) (by kernel_rfl) ?_
      simp only [List.take_succ_cons, List.take_zero, List.drop_succ_cons, List.drop_zero]
      repeat (first | go_big_quiet_step (first | (go_at_call 8; exact Calls.regrown_of (H1.out _)) | (go_at_call 20; exact Calls.regrown_of (H2.out _))) | quiet_step (first | (go_at_call 8; exact Calls.regrown_of (H1.out _)) | (go_at_call 20; exact Calls.regrown_of (H2.out _))))
      refine wpQuiet_nil ?_
      intro w3 hw'
      have bW : Below wr.heap.size wr w3 := by obtain ⟨⟨dq, osq⟩, rfl⟩ := hw'; exact below_regrown _ _ _
      have I3 : Hid (IBox w.heap.size ((0, 0), (0, 0)) w3) := HI.out.below bW
      have Z3 : Hid (GBox (w.heap.size + 1) z1 z2 w3) := HZ.out.below bW
      have O3 : Hid (GBox (w.heap.size + 1 + 1) o1 o2 w3) := HO.out.below bW
      have HB3 : Hid (Below w.heap.size w w3) := below_step HBB.out bW
      clear a0 a1 bW hw' HI HZ HO HBB
      have a0 := Z3.out.cell0
      have a1 := Z3.out.cell1
      have a2 := Z3.out.frozen
      go_wp2_with fail
      clear a0 a1 a2
      have I4 : Hid (IBox w.heap.size ((0, 0), (0, 0)) ((w3.setCell ⟨w.heap.size + 1, 0, none⟩ (.int .i64 z1')).setCell ⟨w.heap.size + 1, 1, none⟩ (.int .i64 z2'))) := I3.out.apart (by omega) _ _
      have Z4 : Hid (GBox (w.heap.size + 1) z1' z2' ((w3.setCell ⟨w.heap.size + 1, 0, none⟩ (.int .i64 z1')).setCell ⟨w.heap.size + 1, 1, none⟩ (.int .i64 z2'))) := Z3.out.set _ _
      have O4 : Hid (GBox (w.heap.size + 1 + 1) o1 o2 ((w3.setCell ⟨w.heap.size + 1, 0, none⟩ (.int .i64 z1')).setCell ⟨w.heap.size + 1, 1, none⟩ (.int .i64 z2'))) := O3.out.apart (by omega) _ _
      have HB4 : Hid (Below w.heap.size w ((w3.setCell ⟨w.heap.size + 1, 0, none⟩ (.int .i64 z1')).setCell ⟨w.heap.size + 1, 1, none⟩ (.int .i64 z2'))) := below_set HB3.out (by omega) _ _
      clear I3 Z3 O3 HB3
      generalize (w3.setCell ⟨w.heap.size + 1, 0, none⟩ (.int .i64 z1')).setCell ⟨w.heap.size + 1, 1, none⟩ (.int .i64 z2') = w4 at I4 Z4 O4 HB4 ⊢
      have a0 := cell_regrown O4.out.cell0
      have a1 := cell_regrown O4.out.cell1
      refine wp_region_tail_below 6 (by kernel_rfl) (by kernel_rfl) ?_
      simp only [List.take_succ_cons, List.take_zero, List.drop_succ_cons, List.drop_zero]
      repeat (first | go_big_quiet_step (first | (go_at_call 8; exact Calls.regrown_of (H1.out _)) | (go_at_call 20; exact Calls.regrown_of (H3.out _))) | quiet_step (first | (go_at_call 8; exact Calls.regrown_of (H1.out _)) | (go_at_call 20; exact Calls.regrown_of (H3.out _))))
      refine wpQuiet_nil ?_
      intro w5 hw'
      have bW : Below w4.heap.size w4 w5 := by obtain ⟨⟨dq, osq⟩, rfl⟩ := hw'; exact below_regrown _ _ _
      have I5 : Hid (IBox w.heap.size ((0, 0), (0, 0)) w5) := I4.out.below bW
      have Z5 : Hid (GBox (w.heap.size + 1) z1' z2' w5) := Z4.out.below bW
      have O5 : Hid (GBox (w.heap.size + 1 + 1) o1 o2 w5) := O4.out.below bW
      have HB5 : Hid (Below w.heap.size w w5) := below_step HB4.out bW
      clear a0 a1 bW hw' I4 Z4 O4 HB4 H1 H2 H3
      have a0 := O5.out.cell0
      have a1 := O5.out.cell1
      have a2 := O5.out.frozen
      go_wp2_with fail
      go_roundg (s.size - (k + 1))
      case measure => omega
      case rel => exact ⟨k + 1, by omega, Nat.le_refl _, by go_num, I5.out.apart (by omega) _ _, by rw [HZ'.out]; exact Z5.out.apart (by omega) _ _, by rw [HO'.out]; exact O5.out.set _ _, below_set HB5.out (by omega) _ _⟩
    · have hkl : k = s.size := by omega
      subst hkl
      rw [show s.data.toList.take s.size = s.data.toList from List.take_of_length_le (by simp)] at hZ hO
      have hok := wok_text s.data.toList
      rw [show s.data.toList.length = s.size by simp] at hok
      rw [wapp_zero] at hZ
      rw [wapp_one] at hO
      generalize hT : wtext s.data.toList = A at hZ hO hok
      obtain ⟨⟨x, y⟩, ⟨u, v⟩⟩ := A
      obtain ⟨hu, hn⟩ := hok
      have hu := un_one hu
      unfold Near at hu hn
      simp only at hu hn hZ hO
      have HT : Hid (iw (wtext s.data.toList) = .agg #[.int .i64 x, .int .i64 y, .int .i64 u, .int .i64 v]) := by rw [hT]; rfl
      have H4 : Hid (∀ W, Calls Tryd.prog 21 #[.agg #[.int .i64 (x + u), .int .i64 (y + v)], .agg #[.int .i64 u, .int .i64 v]] W fun e w' => e = .returned (.agg #[.int .i64 x, .int .i64 y]) ∧ Below W.heap.size W w') := fun W => by
        have := minus_any (a := x + u) (b := y + v) (c := u) (d := v) (by omega) (by omega) W
        rwa [show x + u - u = x by omega, show y + v - v = y by omega] at this
      clear hT hu hn
      generalize x + u = O1 at hO H4
      generalize y + v = O2 at hO H4
      have a0 := cell_regrown hZ.cell0
      have a1 := cell_regrown hZ.cell1
      have b0 := cell_regrown hO.cell0
      have b1 := cell_regrown hO.cell1
      have HI : Hid (IBox w.heap.size ((0, 0), (0, 0)) wr) := hI
      have HBB : Hid (Below w.heap.size w wr) := hb
      clear hI hZ hO hb
      go_wp2_with fail
      refine wp_region_tail_below 5 (by kernel_rfl) (by kernel_rfl) ?_
      simp only [List.take_succ_cons, List.take_zero, List.drop_succ_cons, List.drop_zero]
      repeat (first | go_big_quiet_step ((go_at_call 21; exact Calls.regrown_of (H4.out _))) | quiet_step ((go_at_call 21; exact Calls.regrown_of (H4.out _))))
      refine wpQuiet_nil ?_
      intro w3 hw'
      have bW : Below wr.heap.size wr w3 := by obtain ⟨⟨dq, osq⟩, rfl⟩ := hw'; exact below_regrown _ _ _
      have I3 : Hid (IBox w.heap.size ((0, 0), (0, 0)) w3) := HI.out.below bW
      have HB3 : Hid (Below w.heap.size w w3) := below_step HBB.out bW
      clear a0 a1 b0 b1 bW hw' HI HBB H4
      have c0 := I3.out.cell0
      have c1 := I3.out.cell1
      have c2 := I3.out.cell2
      have c3 := I3.out.cell3
      have cf := I3.out.frozen
      go_wp2_with fail
      have e0 := (I3.out.set x y u v).cell0
      have e1 := (I3.out.set x y u v).cell1
      have e2 := (I3.out.set x y u v).cell2
      have e3 := (I3.out.set x y u v).cell3
      exact bodyPost_ret (v := .agg #[.int .i64 x, .int .i64 y, .int .i64 u, .int .i64 v]) (by simp [results, Tryd.results9, go_sem, e0, e1, e2, e3]) rfl ⟨by rw [HT.out], below_set4 HB3.out (Nat.le_refl _) _ _ _ _⟩

end Go.Proofs.YtglcihfcnbifcaaDoor
