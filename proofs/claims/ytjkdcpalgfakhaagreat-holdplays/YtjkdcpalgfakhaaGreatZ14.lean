/-
  Several texts of one proof, joined: each part says at its head what it proves. No conditions beyond what each theorem states.
-/
import Derived.Test.YtjkdcpalgfakhaaGreatZ13
import Derived.Test.YtjkdcpalgfakhaaGreatZ12
/-
  What the document's Put of layer 11 hands back. No conditions beyond what each theorem states.
-/
namespace Go.Proofs.YtjkdcpalgfakhaaGreat
open Go.ChangeShapes Go.WideShapes Go.ChangeAt Go.RowKit Go.Lib
set_option linter.unusedVariables false
set_option linter.unusedSimpArgs false

set_option maxHeartbeats 6400000 in
set_option maxRecDepth 20000 in
theorem refput_any (xs : List EV) (x : EV) (p : Option Addr) (c : Nat) (w : World) (hR : GRow layE w p xs) (hl : xs.length ≤ 1000000) :
    Calls Tryz.prog 11 #[.slice p xs.length c, ev x.e x.p x.c x.q x.d] w (GaveE (putX xs x) w) := by
  obtain ⟨i0, hi, hz0, hz1, hz2⟩ := info_parts infoE10
  have HR := Lib.hid hR
  clear hR
  obtain ⟨E, eys, pe, ce, qe, de⟩ := x
  simp only
  have HPX : Hid (putX xs ⟨E, eys, pe, ce, qe, de⟩ = xs.filter (fun y => aheadM y.e E) ++ [(⟨E, eys, pe, ce, qe, de⟩ : EV)] ++ xs.filter (fun y => aheadM E y.e)) := rfl
  generalize putX xs ⟨E, eys, pe, ce, qe, de⟩ = PX at HPX ⊢
  have HENC : Hid (layE.enc (⟨E, eys, pe, ce, qe, de⟩ : EV) = [.slice pe E.deps.length ce, .int .u16 E.txn.r, .int .u32 E.txn.seq, .int .u64 E.txn.clock, .int .i64 E.txn.user, .slice qe E.txn.ops.length de]) := rfl
  obtain ⟨DL, hDL⟩ : ∃ v, E.deps.length = v := ⟨_, rfl⟩
  obtain ⟨r, hr⟩ : ∃ v, E.txn.r = v := ⟨_, rfl⟩
  obtain ⟨seq, hsq⟩ : ∃ v, E.txn.seq = v := ⟨_, rfl⟩
  obtain ⟨clock, hcl⟩ : ∃ v, E.txn.clock = v := ⟨_, rfl⟩
  obtain ⟨user, hus⟩ : ∃ v, E.txn.user = v := ⟨_, rfl⟩
  obtain ⟨TL, hTL⟩ : ∃ v, E.txn.ops.length = v := ⟨_, rfl⟩
  have HEP : Hid (E.deps.length = DL ∧ E.txn.r = r ∧ E.txn.seq = seq ∧ E.txn.clock = clock ∧ E.txn.user = user ∧ E.txn.ops.length = TL) := ⟨hDL, hr, hsq, hcl, hus, hTL⟩
  unfold ev
  rw [hDL, hr, hsq, hcl, hus, hTL]
  rw [hDL, hr, hsq, hcl, hus, hTL] at HENC
  clear hDL hr hsq hcl hus hTL
  have HX := Lib.hid (heap_alloc_new w (.cells #[.slice pe DL ce, .int .u16 r, .int .u32 seq, .int .u64 clock, .int .i64 user, .slice qe TL de] 48))
  have HB0 : Hid (Below w.heap.size w (w.alloc (.cells #[.slice pe DL ce, .int .u16 r, .int .u32 seq, .int .u64 clock, .int .i64 user, .slice qe TL de] 48))) := below_alloc (Below.refl _ _) _
  have HBS : Hid ((w.alloc (.cells #[.slice pe DL ce, .int .u16 r, .int .u32 seq, .int .u64 clock, .int .i64 user, .slice qe TL de] 48)).heap.size ≤ w.heap.size + 1) := by show _ ≤ _; simp
  have HSTART : Hid (Hold layE (w.alloc (.cells #[.slice pe DL ce, .int .u16 r, .int .u32 seq, .int .u64 clock, .int .i64 user, .slice qe TL de] 48)) 48 (.slice none 0 0) [] (w.alloc (.cells #[.slice pe DL ce, .int .u16 r, .int .u32 seq, .int .u64 clock, .int .i64 user, .slice qe TL de] 48))) := Hold.nil _ _ _
  go_enter Tryz.func11, Tryz.ntmps11
  go_wp2_with fail
  generalize (w.alloc (.cells #[.slice pe DL ce, .int .u16 r, .int .u32 seq, .int .u64 clock, .int .i64 user, .slice qe TL de] 48)) = w0 at HX HB0 HBS HSTART ⊢
  go_loopg [5, 6] xs.length (fun g v i wr => ∃ k : Nat, k ≤ xs.length ∧ xs.length - k ≤ g ∧ i = .int .i64 (k : Int) ∧ Hold layE w0 48 v ((xs.take k).filter (fun y => aheadM y.e E)) wr)
  case atStart => exact ⟨0, Nat.zero_le _, by omega, rfl, HSTART.out⟩
  case round =>
    obtain ⟨k, hk, hg, rfl, hO⟩ := hrel
    have HH := Lib.hid hO
    have HB := Lib.hid hO.2
    clear hO
    by_cases hlt : k < xs.length
    · have hkl : (k : Int) < (xs.length : Int) := by omega
      have HFK : Hid ((xs.take (k + 1)).filter (fun y => aheadM y.e E) = (xs.take k).filter (fun y => aheadM y.e E) ++ (if aheadM (xs.getD k x0E).e E = true then [xs.getD k x0E] else [])) := filt_take x0E (fun y => aheadM y.e E) hlt
      have hle := filt_len (fun y => aheadM y.e E) xs k
      have HAH : Hid (∀ W, Calls Tryz.prog 29 #[ev (xs.getD k x0E).e (xs.getD k x0E).p (xs.getD k x0E).c (xs.getD k x0E).q (xs.getD k x0E).d, ev E pe ce qe de] W fun r w' => r = .returned (.bool (aheadM (xs.getD k x0E).e E)) ∧ Below W.heap.size W w') := fun W => refahead_any _ _ _ _ _ _ _ _ _ _ W
      generalize hACC : (xs.take k).filter (fun y => aheadM y.e E) = ACC at HH HFK hle
      clear hACC
      obtain ⟨b, o, rfl, c0', c1', c2', c3', c4', c5'⟩ := erow_at (HR.out.below (below_step HB0.out HB.out)) hlt
      obtain ⟨y0', y1', y2', y3', y4', y5'⟩ := six_cells (kept_box HX.out HB.out)
      unfold ev at HAH
      rw [HEP.out.1, HEP.out.2.1, HEP.out.2.2.1, HEP.out.2.2.2.1, HEP.out.2.2.2.2.1, HEP.out.2.2.2.2.2] at HAH
      generalize hAV : aheadM (xs.getD k x0E).e E = AV at HAH HFK
      clear hAV
      generalize hX1 : xs.getD k x0E = X1 at c0' c1' c2' c3' c4' c5' HAH HFK
      clear hX1
      obtain ⟨⟨xd, ⟨xr, xq, xc, xu, xo⟩⟩, xys, xp, xcc, xqq, xdd⟩ := X1
      simp only at c0' c1' c2' c3' c4' c5' HAH
      have HAR : Hid (∀ dd os, Calls Tryz.prog 29 #[.agg #[.slice xp xd.length xcc, .int .u16 xr, .int .u32 xq, .int .u64 xc, .int .i64 xu, .slice xqq xo.length xdd], .agg #[.slice pe DL ce, .int .u16 r, .int .u32 seq, .int .u64 clock, .int .i64 user, .slice qe TL de]] (Go.Sort.grow (redrawn wr dd) os) fun r w' => r = .returned (.bool AV) ∧ Below (Go.Sort.grow (redrawn wr dd) os).heap.size (Go.Sort.grow (redrawn wr dd) os) w') := fun dd os => HAH.out _
      have c0 := cell_regrown c0'
      have c1 := cell_regrown c1'
      have c2 := cell_regrown c2'
      have c3 := cell_regrown c3'
      have c4 := cell_regrown c4'
      have c5 := cell_regrown c5'
      have y0 := cell_regrown y0'
      have y1 := cell_regrown y1'
      have y2 := cell_regrown y2'
      have y3 := cell_regrown y3'
      have y4 := cell_regrown y4'
      have y5 := cell_regrown y5'
      have HCC : Hid (∀ W, Below wr.heap.size wr W → W.cell? ⟨b, o + k * 6, none⟩ = some (.slice xp xd.length xcc) ∧ W.cell? ⟨b, o + k * 6 + 1, none⟩ = some (.int .u16 xr) ∧ W.cell? ⟨b, o + k * 6 + 2, none⟩ = some (.int .u32 xq) ∧ W.cell? ⟨b, o + k * 6 + 3, none⟩ = some (.int .u64 xc) ∧ W.cell? ⟨b, o + k * 6 + 4, none⟩ = some (.int .i64 xu) ∧ W.cell? ⟨b, o + k * 6 + 5, none⟩ = some (.slice xqq xo.length xdd)) := fun W hb => ⟨cellU c0' hb, cellU c1' hb, cellU c2' hb, cellU c3' hb, cellU c4' hb, cellU c5' hb⟩
      clear c0' c1' c2' c3' c4' c5' y0' y1' y2' y3' y4' y5' HAH
      go_wp2_with fail
      refine wp_region_quiet_below (by kernel_rfl) (by kernel_rfl) ?_
      repeat (first | go_big_quiet_step ((go_at_call 29; exact Calls.regrown_of (HAR.out _ _))) | quiet_step ((go_at_call 29; exact Calls.regrown_of (HAR.out _ _))))
      refine wpQuiet_nil ?_
      intro w3 hw'
      have hb13 : Below wr.heap.size wr w3 := by obtain ⟨⟨dq, osq⟩, rfl⟩ := hw'; exact below_regrown _ _ _
      have HH1 := Lib.hid (HH.out.below hb13)
      obtain ⟨c0, c1, c2, c3, c4, c5⟩ := HCC.out _ hb13
      clear hw' hb13 HAR HH HB HCC y0 y1 y2 y3 y4 y5
      cases AV with
      | false =>
        have HE2 : Hid ((xs.take (k + 1)).filter (fun y => aheadM y.e E) = ACC) := by show _ = _; rw [HFK.out]; simp
        go_wp2
        go_roundg (xs.length - (k + 1))
        case measure => omega
        case rel => exact ⟨k + 1, by omega, Nat.le_refl _, by go_num, by rw [HE2.out]; exact HH1.out⟩
      | true =>
        have HE2 : Hid ((xs.take (k + 1)).filter (fun y => aheadM y.e E) = ACC ++ [(⟨⟨xd, ⟨xr, xq, xc, xu, xo⟩⟩, xys, xp, xcc, xqq, xdd⟩ : EV)]) := by show _ = _; rw [HFK.out]; simp
        have HH2 := Lib.hid (HH1.out.alloc (.cells #[.slice xp xd.length xcc, .int .u16 xr, .int .u32 xq, .int .u64 xc, .int .i64 xu, .slice xqq xo.length xdd] 48))
        go_wp2_with (first
          | (at_builtin; refine wpList_append_own _ rfl (.tmp 20) (.tmp 25) 30 rfl w0.heap.size 48 i0 (.agg #[.slice none 0 0, .int .u16 0, .int .u32 0, .int .u64 0, .int .i64 0, .slice none 0 0]) 6 72 Tryz.underlying30 hi hz0 hz1 hz2 rfl (by decide) _ (ACC).length (layE.flat (ACC)) rfl (HH2.out).1 ⟨w3.heap.size, 0, none⟩ 1 1 [.slice xp xd.length xcc, .int .u16 xr, .int .u32 xq, .int .u64 xc, .int .i64 xu, .slice xqq xo.length xdd] rfl rfl (by have := @cells_new w3 [.slice xp xd.length xcc, .int .u16 xr, .int .u32 xq, .int .u64 xc, .int .i64 xu, .slice xqq xo.length xdd] 48; simpa using this) (by have := layE.one (⟨⟨xd, ⟨xr, xq, xc, xu, xo⟩⟩, xys, xp, xcc, xqq, xdd⟩ : EV); exact this) (by unfold maxLen; omega) (by omega) (by have := HH2.out.2.size; exact this) ?_))
        intro v' w7 hown hgrow _
        have HH7 := Lib.hid (HH2.out.onto (ys := [(⟨⟨xd, ⟨xr, xq, xc, xu, xo⟩⟩, xys, xp, xcc, xqq, xdd⟩ : EV)]) (by rw [layE.flat_one]; rfl) (by simp) hown hgrow)
        clear hown hgrow HH1 HH2 c0 c1 c2 c3 c4 c5
        go_wp2
        go_roundg (xs.length - (k + 1))
        case measure => omega
        case rel => exact ⟨k + 1, by omega, Nat.le_refl _, by go_num, by rw [HE2.out]; exact HH7.out⟩
    · have : k = xs.length := by omega
      subst this
      have hkl : ¬ (xs.length : Int) < (xs.length : Int) := by omega
      rw [List.take_length] at HH
      have hfl : (xs.filter (fun y => aheadM y.e E)).length ≤ xs.length := List.length_filter_le _ _
      generalize xs.filter (fun y => aheadM y.e E) = ACC at HH hfl HPX
      obtain ⟨y0, y1, y2, y3, y4, y5⟩ := six_cells (kept_box HX.out HB.out)
      have HH2 := Lib.hid (HH.out.alloc (.cells #[.slice pe DL ce, .int .u16 r, .int .u32 seq, .int .u64 clock, .int .i64 user, .slice qe TL de] 48))
      go_wp2_with (first
        | (at_builtin; refine wpList_append_own _ rfl (.tmp 27) (.tmp 29) 30 rfl w0.heap.size 48 i0 (.agg #[.slice none 0 0, .int .u16 0, .int .u32 0, .int .u64 0, .int .i64 0, .slice none 0 0]) 6 72 Tryz.underlying30 hi hz0 hz1 hz2 rfl (by decide) _ (ACC).length (layE.flat (ACC)) rfl (HH2.out).1 ⟨wr.heap.size, 0, none⟩ 1 1 [.slice pe DL ce, .int .u16 r, .int .u32 seq, .int .u64 clock, .int .i64 user, .slice qe TL de] rfl rfl (by have := @cells_new wr [.slice pe DL ce, .int .u16 r, .int .u32 seq, .int .u64 clock, .int .i64 user, .slice qe TL de] 48; simpa using this) (by have := layE.one (⟨E, eys, pe, ce, qe, de⟩ : EV); rw [HENC.out] at this; exact this) (by unfold maxLen; omega) (by omega) (by have := HH2.out.2.size; exact this) ?_))
      intro v' w7 hown hgrow _
      have HMID := Lib.hid (HH2.out.onto (ys := [(⟨E, eys, pe, ce, qe, de⟩ : EV)]) (by rw [layE.flat_one]; exact HENC.out.symm) (by simp) hown hgrow)
      have HAL : Hid ((ACC ++ [(⟨E, eys, pe, ce, qe, de⟩ : EV)]).length ≤ xs.length + 1) := by show _ ≤ _; rw [List.length_append]; simp; omega
      clear hown hgrow HH HH2 HB y0 y1 y2 y3 y4 y5 hfl HSTART
      generalize ACC ++ [(⟨E, eys, pe, ce, qe, de⟩ : EV)] = AC0 at HMID HAL HPX
      go_wp2
      go_loopg [5, 7] xs.length (fun g v i wr => ∃ k : Nat, k ≤ xs.length ∧ xs.length - k ≤ g ∧ i = .int .i64 (k : Int) ∧ Hold layE w0 48 v (AC0 ++ (xs.take k).filter (fun y => aheadM E y.e)) wr)
      case atStart => exact ⟨0, Nat.zero_le _, by omega, rfl, by simpa using HMID.out⟩
      case round =>
        clear HMID hlt hk hg hkl
        obtain ⟨k, hk, hg, rfl, hO⟩ := hrel
        have HH := Lib.hid hO
        have HB := Lib.hid hO.2
        clear hO
        by_cases hlt : k < xs.length
        · have hkl : (k : Int) < (xs.length : Int) := by omega
          have HFK : Hid ((xs.take (k + 1)).filter (fun y => aheadM E y.e) = (xs.take k).filter (fun y => aheadM E y.e) ++ (if aheadM E (xs.getD k x0E).e = true then [xs.getD k x0E] else [])) := filt_take x0E (fun y => aheadM E y.e) hlt
          have hle := filt_len (fun y => aheadM E y.e) xs k
          have HAH : Hid (∀ W, Calls Tryz.prog 29 #[ev E pe ce qe de, ev (xs.getD k x0E).e (xs.getD k x0E).p (xs.getD k x0E).c (xs.getD k x0E).q (xs.getD k x0E).d] W fun r w' => r = .returned (.bool (aheadM E (xs.getD k x0E).e)) ∧ Below W.heap.size W w') := fun W => refahead_any _ _ _ _ _ _ _ _ _ _ W
          generalize hACC : (xs.take k).filter (fun y => aheadM E y.e) = ACC at HH HFK hle
          clear hACC
          obtain ⟨b, o, rfl, c0', c1', c2', c3', c4', c5'⟩ := erow_at (HR.out.below (below_step HB0.out HB.out)) hlt
          obtain ⟨y0', y1', y2', y3', y4', y5'⟩ := six_cells (kept_box HX.out HB.out)
          unfold ev at HAH
          rw [HEP.out.1, HEP.out.2.1, HEP.out.2.2.1, HEP.out.2.2.2.1, HEP.out.2.2.2.2.1, HEP.out.2.2.2.2.2] at HAH
          generalize hAV : aheadM E (xs.getD k x0E).e = AV at HAH HFK
          clear hAV
          generalize hX1 : xs.getD k x0E = X1 at c0' c1' c2' c3' c4' c5' HAH HFK
          clear hX1
          obtain ⟨⟨xd, ⟨xr, xq, xc, xu, xo⟩⟩, xys, xp, xcc, xqq, xdd⟩ := X1
          simp only at c0' c1' c2' c3' c4' c5' HAH
          have HAR : Hid (∀ dd os, Calls Tryz.prog 29 #[.agg #[.slice pe DL ce, .int .u16 r, .int .u32 seq, .int .u64 clock, .int .i64 user, .slice qe TL de], .agg #[.slice xp xd.length xcc, .int .u16 xr, .int .u32 xq, .int .u64 xc, .int .i64 xu, .slice xqq xo.length xdd]] (Go.Sort.grow (redrawn wr dd) os) fun r w' => r = .returned (.bool AV) ∧ Below (Go.Sort.grow (redrawn wr dd) os).heap.size (Go.Sort.grow (redrawn wr dd) os) w') := fun dd os => HAH.out _
          have c0 := cell_regrown c0'
          have c1 := cell_regrown c1'
          have c2 := cell_regrown c2'
          have c3 := cell_regrown c3'
          have c4 := cell_regrown c4'
          have c5 := cell_regrown c5'
          have y0 := cell_regrown y0'
          have y1 := cell_regrown y1'
          have y2 := cell_regrown y2'
          have y3 := cell_regrown y3'
          have y4 := cell_regrown y4'
          have y5 := cell_regrown y5'
          have HCC : Hid (∀ W, Below wr.heap.size wr W → W.cell? ⟨b, o + k * 6, none⟩ = some (.slice xp xd.length xcc) ∧ W.cell? ⟨b, o + k * 6 + 1, none⟩ = some (.int .u16 xr) ∧ W.cell? ⟨b, o + k * 6 + 2, none⟩ = some (.int .u32 xq) ∧ W.cell? ⟨b, o + k * 6 + 3, none⟩ = some (.int .u64 xc) ∧ W.cell? ⟨b, o + k * 6 + 4, none⟩ = some (.int .i64 xu) ∧ W.cell? ⟨b, o + k * 6 + 5, none⟩ = some (.slice xqq xo.length xdd)) := fun W hb => ⟨cellU c0' hb, cellU c1' hb, cellU c2' hb, cellU c3' hb, cellU c4' hb, cellU c5' hb⟩
          clear c0' c1' c2' c3' c4' c5' y0' y1' y2' y3' y4' y5' HAH
          go_wp2_with fail
          refine wp_region_quiet_below (by kernel_rfl) (by kernel_rfl) ?_
          repeat (first | go_big_quiet_step ((go_at_call 29; exact Calls.regrown_of (HAR.out _ _))) | quiet_step ((go_at_call 29; exact Calls.regrown_of (HAR.out _ _))))
          refine wpQuiet_nil ?_
          intro w3 hw'
          have hb13 : Below wr.heap.size wr w3 := by obtain ⟨⟨dq, osq⟩, rfl⟩ := hw'; exact below_regrown _ _ _
          have HH1 := Lib.hid (HH.out.below hb13)
          obtain ⟨c0, c1, c2, c3, c4, c5⟩ := HCC.out _ hb13
          clear hw' hb13 HAR HH HB HCC y0 y1 y2 y3 y4 y5
          cases AV with
          | false =>
            have HE2 : Hid ((xs.take (k + 1)).filter (fun y => aheadM E y.e) = ACC) := by show _ = _; rw [HFK.out]; simp
            go_wp2
            go_roundg (xs.length - (k + 1))
            case measure => omega
            case rel => exact ⟨k + 1, by omega, Nat.le_refl _, by go_num, by rw [HE2.out]; exact HH1.out⟩
          | true =>
            have HE2 : Hid ((xs.take (k + 1)).filter (fun y => aheadM E y.e) = ACC ++ [(⟨⟨xd, ⟨xr, xq, xc, xu, xo⟩⟩, xys, xp, xcc, xqq, xdd⟩ : EV)]) := by show _ = _; rw [HFK.out]; simp
            have HH2 := Lib.hid (HH1.out.alloc (.cells #[.slice xp xd.length xcc, .int .u16 xr, .int .u32 xq, .int .u64 xc, .int .i64 xu, .slice xqq xo.length xdd] 48))
            have hll : (AC0 ++ ACC).length ≤ 2 * xs.length + 1 := by rw [List.length_append]; have := HAL.out; omega
            go_wp2_with (first
              | (at_builtin; refine wpList_append_own _ rfl (.tmp 43) (.tmp 48) 30 rfl w0.heap.size 48 i0 (.agg #[.slice none 0 0, .int .u16 0, .int .u32 0, .int .u64 0, .int .i64 0, .slice none 0 0]) 6 72 Tryz.underlying30 hi hz0 hz1 hz2 rfl (by decide) _ (AC0 ++ ACC).length (layE.flat (AC0 ++ ACC)) rfl (HH2.out).1 ⟨w3.heap.size, 0, none⟩ 1 1 [.slice xp xd.length xcc, .int .u16 xr, .int .u32 xq, .int .u64 xc, .int .i64 xu, .slice xqq xo.length xdd] rfl rfl (by have := @cells_new w3 [.slice xp xd.length xcc, .int .u16 xr, .int .u32 xq, .int .u64 xc, .int .i64 xu, .slice xqq xo.length xdd] 48; simpa using this) (by have := layE.one (⟨⟨xd, ⟨xr, xq, xc, xu, xo⟩⟩, xys, xp, xcc, xqq, xdd⟩ : EV); exact this) (by unfold maxLen; omega) (by omega) (by have := HH2.out.2.size; exact this) ?_))
            intro v' w7 hown hgrow _
            have HH7 := Lib.hid (HH2.out.onto (ys := [(⟨⟨xd, ⟨xr, xq, xc, xu, xo⟩⟩, xys, xp, xcc, xqq, xdd⟩ : EV)]) (by rw [layE.flat_one]; rfl) (by simp) hown hgrow)
            clear hown hgrow HH1 HH2 c0 c1 c2 c3 c4 c5
            go_wp2
            go_roundg (xs.length - (k + 1))
            case measure => omega
            case rel => exact ⟨k + 1, by omega, Nat.le_refl _, by go_num, by rw [HE2.out]; rw [← List.append_assoc]; exact HH7.out⟩
        · have : k = xs.length := by omega
          subst this
          have hkl : ¬ (xs.length : Int) < (xs.length : Int) := by omega
          rw [List.take_length, ← HPX.out] at HH
          have HBX : Hid (Below w.heap.size w wr) := below_step HB0.out HH.out.2
          obtain ⟨p', c', rfl, hG, -, -⟩ := HH.out.gave layE_pos
          have HG := Lib.hid hG
          have HK := Lib.hid (kind_owns HH.out.1)
          clear hG
          go_wp2
          go_ret
          exact ⟨p', c', rfl, HG.out, HK.out, HBX.out⟩
end Go.Proofs.YtjkdcpalgfakhaaGreat
/-
  A buffer's calls as HoldPlays takes them, in rows; what stays from call to call. No conditions beyond what each theorem states.
-/
namespace Go.Proofs.YtjkdcpalgfakhaaGreat
open Go.ChangeShapes Go.WideShapes Go.ChangeAt Go.RowKit Go.Lib
set_option linter.unusedVariables false
set_option linter.unusedSimpArgs false

/-- A call, as it lies in memory. -/
structure OpV where
  kind : Int
  x : EV
  h : List Vec.En
  s : Option Addr
  f : Nat
def o0P : OpV := ⟨0, x0E, [], none, 0⟩
def layP : Lay OpV := ⟨8, fun o => [.int .i64 o.kind, .slice o.x.p o.x.e.deps.length o.x.c, .int .u16 o.x.e.txn.r, .int .u32 o.x.e.txn.seq, .int .u64 o.x.e.txn.clock, .int .i64 o.x.e.txn.user, .slice o.x.q o.x.e.txn.ops.length o.x.d, .slice o.s o.h.length o.f], fun _ => rfl, fun o u hu => by
  simp at hu
  rcases hu with rfl | rfl | rfl | rfl | rfl | rfl | rfl | rfl <;> rfl⟩
theorem layP_pos : 0 < layP.k := by decide
theorem prow_at {w : World} {p : Option Addr} {xs : List OpV} (h : GRow layP w p xs) {i : Nat} (hi : i < xs.length) : ∃ b o, p = some ⟨b, o, none⟩ ∧ w.cell? ⟨b, o + i * 8, none⟩ = some (.int .i64 (xs.getD i o0P).kind) ∧ w.cell? ⟨b, o + i * 8 + 1, none⟩ = some (.slice (xs.getD i o0P).x.p (xs.getD i o0P).x.e.deps.length (xs.getD i o0P).x.c) ∧ w.cell? ⟨b, o + i * 8 + 2, none⟩ = some (.int .u16 (xs.getD i o0P).x.e.txn.r) ∧ w.cell? ⟨b, o + i * 8 + 3, none⟩ = some (.int .u32 (xs.getD i o0P).x.e.txn.seq) ∧ w.cell? ⟨b, o + i * 8 + 4, none⟩ = some (.int .u64 (xs.getD i o0P).x.e.txn.clock) ∧ w.cell? ⟨b, o + i * 8 + 5, none⟩ = some (.int .i64 (xs.getD i o0P).x.e.txn.user) ∧ w.cell? ⟨b, o + i * 8 + 6, none⟩ = some (.slice (xs.getD i o0P).x.q (xs.getD i o0P).x.e.txn.ops.length (xs.getD i o0P).x.d) ∧ w.cell? ⟨b, o + i * 8 + 7, none⟩ = some (.slice (xs.getD i o0P).s (xs.getD i o0P).h.length (xs.getD i o0P).f) := by
  obtain ⟨b, o, rfl, h0⟩ := h.cell o0P (j := 0) hi rfl
  obtain ⟨b1, o1, e1, h1⟩ := h.cell o0P (j := 1) hi rfl
  obtain ⟨b2, o2, e2, h2⟩ := h.cell o0P (j := 2) hi rfl
  obtain ⟨b3, o3, e3, h3⟩ := h.cell o0P (j := 3) hi rfl
  obtain ⟨b4, o4, e4, h4⟩ := h.cell o0P (j := 4) hi rfl
  obtain ⟨b5, o5, e5, h5⟩ := h.cell o0P (j := 5) hi rfl
  obtain ⟨b6, o6, e6, h6⟩ := h.cell o0P (j := 6) hi rfl
  obtain ⟨b7, o7, e7, h7⟩ := h.cell o0P (j := 7) hi rfl
  cases e1; cases e2; cases e3; cases e4; cases e5; cases e6; cases e7
  exact ⟨b, o, rfl, h0, h1, h2, h3, h4, h5, h6, h7⟩
theorem eight_cells {w : World} {B : Nat} {a b c d e f g h : Value} {t : TypeId} (hb : w.heap[B]? = some (.cells #[a, b, c, d, e, f, g, h] t (0, 0))) : w.cell? ⟨B, 0, none⟩ = some a ∧ w.cell? ⟨B, 1, none⟩ = some b ∧ w.cell? ⟨B, 2, none⟩ = some c ∧ w.cell? ⟨B, 3, none⟩ = some d ∧ w.cell? ⟨B, 4, none⟩ = some e ∧ w.cell? ⟨B, 5, none⟩ = some f ∧ w.cell? ⟨B, 6, none⟩ = some g ∧ w.cell? ⟨B, 7, none⟩ = some h :=
  ⟨by rw [cell_of_block hb]; rfl, by rw [cell_of_block hb]; rfl, by rw [cell_of_block hb]; rfl, by rw [cell_of_block hb]; rfl, by rw [cell_of_block hb]; rfl, by rw [cell_of_block hb]; rfl, by rw [cell_of_block hb]; rfl, by rw [cell_of_block hb]; rfl⟩
/-- A call that was handed in. -/
structure InP (w : World) (o : OpV) : Prop where
  x : InE o.x.e o.x.ys o.x.p o.x.c o.x.q o.x.d w
  ops : o.x.e.txn.ops.length ≤ 1954687338211
  size : ∀ y ∈ o.x.ys, y.1.text.length ≤ 9223372036854775807 ∧ y.1.spans.length ≤ 8796093021952
  row : Vec.Row w o.s o.h
  fits : Vec.Fits o.h
  cap : o.h.length ≤ o.f
  nil : o.s = none → o.f = 0
  len : o.h.length ≤ 17592186043904
/-- Calls that were handed in, in a row. -/
structure ArgP (w : World) (p : Option Addr) (xs : List OpV) : Prop where
  row : GRow layP w p xs
  each : ∀ o ∈ xs, InP w o
theorem in_good {w : World} {x : EV} (h : InE x.e x.ys x.p x.c x.q x.d w) (hg : goodE x.e = true) : ArgE w x := by
  unfold goodE at hg
  rw [Bool.and_eq_true] at hg
  obtain ⟨h1, h2, h3⟩ := small_x h.txn.ops hg.1
  exact ⟨h, h2, h3, h1, of_decide_eq_true hg.2⟩
theorem right_known11 {h : List Vec.En} {s : Option Addr} {f : Nat} (hc : h.length ≤ f) (hn : s = none → f = 0) (hf : Vec.Fits h) (hr : Vec.rightH h = true) : Known h s f ∧ h.length ≤ 100 := by
  unfold Vec.rightH at hr
  rw [Bool.and_eq_true] at hr
  have h1 := of_decide_eq_true hr.1
  exact ⟨⟨hc, hn, hf, rightB_iff.1 hr.2, by omega⟩, h1⟩
theorem Firm.box {S : Nat → Prop} {w : World} {B : Nat} {o : Obj} (h : w.heap[B]? = some o) (hn : ¬ S B) : Firm S w (fun W => W.heap[B]? = some o) := fun w2 h2 => h2.stays h hn
theorem ListE.sub {w : World} {p q : Option Addr} {xs ys : List EV} (h : ListE w p xs) (hr : GRow layE w q ys) (hk : KindAt 48 w q) (hs : ∀ y ∈ ys, y ∈ xs ∨ (RowE w y ∧ KindE w y)) : ListE w q ys := ⟨hr, hk, fun y hy => by
  rcases hs y hy with h1 | h1
  · exact h.each y h1
  · exact h1⟩
def FairL (es : List EV) : Prop := ∀ x ∈ es, FairE x.e ∧ x.e.deps.length ≤ 100
theorem FairL.sub {xs ys : List EV} (h : FairL xs) (hs : ∀ y ∈ ys, y ∈ xs) : FairL ys := fun y hy => h y (hs y hy)
/-- The buffer at block K and the document's list at q hold the same envelopes; all that there was at first is as it was. -/
def HdP (Buf : (Nat → Prop) → Nat → List Em → World → Prop) (w0 : World) (K : Nat) (es : List EV) (q : Option Addr) (w : World) : Prop := ∃ S, Buf S K (es.map (·.e)) w ∧ Firm S w (fun W => Below w0.heap.size w0 W) ∧ ListE w q es
theorem HdP.base {Buf : (Nat → Prop) → Nat → List Em → World → Prop} {w0 w : World} {K : Nat} {es : List EV} {q : Option Addr} (H : HdP Buf w0 K es q w) : Below w0.heap.size w0 w := by
  obtain ⟨S, h1, h2, h3⟩ := H
  exact h2.now
theorem HdP.below {Buf : (Nat → Prop) → Nat → List Em → World → Prop} (HS : BufSpec Buf) {w0 w w' : World} {K : Nat} {es : List EV} {q : Option Addr} (H : HdP Buf w0 K es q w) (hb : Below w.heap.size w w') : HdP Buf w0 K es q w' := by
  obtain ⟨S, h1, h2, h3⟩ := H
  exact ⟨S, HS.below _ _ _ _ _ h1 hb, h2.below hb, h3.below hb⟩
theorem HdP.list {Buf : (Nat → Prop) → Nat → List Em → World → Prop} {w0 w : World} {K : Nat} {es : List EV} {q : Option Addr} (H : HdP Buf w0 K es q w) : ListE w q es := by
  obtain ⟨S, h1, h2, h3⟩ := H
  exact h3
/-- One of a buffer's calls; F is what stays firm beside it. -/
def Stepped (Buf : (Nat → Prop) → Nat → List Em → World → Prop) (w0 : World) (K : Nat) (l : List Em) (es : List EV) (q : Option Addr) (F : World → Prop) (w : World) : Prop := ∃ S, Buf S K l w ∧ Firm S w (fun W => Below w0.heap.size w0 W) ∧ ListE w q es ∧ F w
theorem HdP.step {Buf : (Nat → Prop) → Nat → List Em → World → Prop} (HS : BufSpec Buf) {w0 w w' : World} {K : Nat} {es : List EV} {q : Option Addr} {S S' : Nat → Prop} {l : List Em} (h1 : Buf S K (es.map (·.e)) w) (h2 : Firm S w (fun W => Below w0.heap.size w0 W)) (h3 : ListE w q es) (h4 : Buf S' K l w') (hst : Step S S' w w') : Buf S' K l w' ∧ Firm S' w' (fun W => Below w0.heap.size w0 W) ∧ ListE w' q es :=
  ⟨h4, h2.step hst, h3.kept (HS.others _ _ _ _ h1) hst.kept⟩
end Go.Proofs.YtjkdcpalgfakhaaGreat
