
/-
  The function of the law WalkBytes hands back true, for every byte and every text. The condition: the library's table of powers of ten holds what it was laid with.
-/
import Derived.Test.YtglcihfcnbifcaaDoorRefText
import Derived.Test.YtglcihfcnbifcaaDoorWalkRef
import Derived.Test.YtglcihfcnbifcaaDoorWalkAnchor
namespace Go.Proofs.YtglcihfcnbifcaaDoor
open Go.ChangeShapes Go.WideShapes Go.ChangeAt Go.RowKit Go.Sort
set_option linter.unusedVariables false
set_option linter.unusedSimpArgs false

set_option maxHeartbeats 6400000 in
set_option maxRecDepth 100000 in
theorem law_bytes (n : Nat) (hn : n < 256) (s : ByteArray) (w : World) (hfit : Fit w) :
    Calls Tryd.prog 3 #[.int .u8 n, .string s] w fun e w' => e = .returned (.bool true) ∧ Below w.heap.size w w' := by
  have HA := Lib.hid (walk_anchor w)
  have HF : Hid (Fit w) := hfit
  clear hfit
  go_enter Tryd.func3, Tryd.ntmps3
  go_wp2_with fail
  refine HA.out.mono ?_
  rintro e w1 ⟨rfl, b1⟩
  have HB1 : Hid (Below w.heap.size w w1) := b1
  clear b1 HA
  by_cases hs : s.size > 3000
  · have hs' : (3000 : Int) < s.size := by omega
    go_wp2
    go_ret
    exact ⟨rfl, HB1.out⟩
  · have hs' : ¬ (3000 : Int) < s.size := by omega
    have hb := ww_byte hn
    have kb := wok_byte hn
    have ht := ww_text s.data.toList (by simp; omega)
    have kt := wok_text s.data.toList
    rw [show s.data.toList.length = s.size by simp] at kt
    have kb' : Wok 33554432 (wbyte n) := ⟨kb.1, near_mono kb.2 (by omega)⟩
    have kt' : Wok 33554432 (wtext s.data.toList) := ⟨kt.1, near_mono kt.2 (by omega)⟩
    have HO := Lib.hid (fun W => wof_any n hn W)
    have HT := Lib.hid (fun W => text_any s (by omega) W)
    have HRB := Lib.hid (fun W => ref_yes hb kb' W)
    have HRT := Lib.hid (fun W => ref_yes ht kt' W)
    have HDB := Lib.hid (fun W => refbyte_any n hn W)
    have HDT := Lib.hid (fun W => reftext_any s (by omega) W)
    have HR := Lib.hid (fun W => wright_yes ht kt' W)
    have HS := Lib.hid (fun W h => wshow_yes ht kt' W h)
    have HD := Lib.hid (fun W => rshow_yes kt' W)
    have HY := Lib.hid stay_any
    have hst := eqW_iff ww_stay ww_stay
    rw [decide_eq_true rfl] at hst
    unfold eqW wstayW at hst
    simp only at hst
    rw [Bool.and_eq_true, Bool.and_eq_true, Bool.and_eq_true] at hst
    obtain ⟨⟨p1, p2⟩, p3, p4⟩ := hst
    clear hb kb ht kt kb' kt' p3 p4
    generalize wbyteW n = A at HO HRB
    generalize wtextW s.data.toList = B at HT HRT HR HS
    generalize wbyte n = V at HRB HDB
    generalize wtext s.data.toList = T at HRT HDT HS HD
    generalize showW T = S at HS HD
    obtain ⟨⟨x, y⟩, ⟨u, v⟩⟩ := A
    obtain ⟨⟨x', y'⟩, ⟨u', v'⟩⟩ := B
    obtain ⟨⟨a, b⟩, ⟨c, d⟩⟩ := V
    obtain ⟨⟨a', b'⟩, ⟨c', d'⟩⟩ := T
    unfold wv at HO HT HRB HRT HR HS HY
    unfold iw at HRB HRT HDB HDT HD
    unfold wstayW at HY
    simp only at HO HT HRB HRT HR HS HDB HDT HD HY
    go_wp2_with fail
    refine (HO.out _).mono ?_
    rintro e w2 ⟨rfl, b2⟩
    have HB2 : Hid (Below w.heap.size w w2) := below_step HB1.out b2
    clear b2 HB1
    go_wp2_with fail
    refine (HRB.out _).mono ?_
    rintro e w3 ⟨rfl, b3⟩
    have HB3 : Hid (Below w.heap.size w (w3.alloc (.cells #[.int .i64 a, .int .i64 b, .int .i64 c, .int .i64 d] 26))) := below_alloc (below_step HB2.out b3) _
    have X3 : Hid (IBox w3.heap.size ((a, b), (c, d)) (w3.alloc (.cells #[.int .i64 a, .int .i64 b, .int .i64 c, .int .i64 d] 26))) := IBox.new w3 ((a, b), (c, d))
    clear b3 HB2 HO HRB
    go_wp2_with fail
    refine (HT.out _).mono ?_
    rintro e w4 ⟨rfl, b4⟩
    have HB4 : Hid (Below w.heap.size w w4) := below_step HB3.out b4
    have X4 : Hid (IBox w3.heap.size ((a, b), (c, d)) w4) := X3.out.below b4
    clear b4 HB3 X3
    go_wp2_with fail
    refine (HRT.out _).mono ?_
    rintro e w5 ⟨rfl, b5⟩
    have HB5 : Hid (Below w.heap.size w (w5.alloc (.cells #[.int .i64 a', .int .i64 b', .int .i64 c', .int .i64 d'] 26))) := below_alloc (below_step HB4.out b5) _
    have X5 : Hid (IBox w3.heap.size ((a, b), (c, d)) (w5.alloc (.cells #[.int .i64 a', .int .i64 b', .int .i64 c', .int .i64 d'] 26))) := (X4.out.below b5).alloc _
    have Y5 : Hid (IBox w5.heap.size ((a', b'), (c', d')) (w5.alloc (.cells #[.int .i64 a', .int .i64 b', .int .i64 c', .int .i64 d'] 26))) := IBox.new w5 ((a', b'), (c', d'))
    clear b5 HB4 X4 HRT
    go_wp2_with fail
    have f0 := cell_regrown X5.out.cell0
    have f1 := cell_regrown X5.out.cell1
    have f2 := cell_regrown X5.out.cell2
    have f3 := cell_regrown X5.out.cell3
    have g0 := cell_regrown Y5.out.cell0
    have g1 := cell_regrown Y5.out.cell1
    have g2 := cell_regrown Y5.out.cell2
    have g3 := cell_regrown Y5.out.cell3
    simp only at f0 f1 f2 f3 g0 g1 g2 g3
    clear X5 Y5
    generalize w5.alloc (.cells #[.int .i64 a', .int .i64 b', .int .i64 c', .int .i64 d'] 26) = W at HB5 f0 f1 f2 f3 g0 g1 g2 g3 ⊢
    have HFR : Hid (∀ d os, Fit (grow (redrawn W d) os)) := fun d os => HF.out.below (below_step HB5.out (below_regrown _ d os))
    refine wp_region_quiet_below (by kernel_rfl) (by kernel_rfl) ?_
    repeat (go_big_quiet_step (first | (go_at_call 8; exact Calls.regrown_of (HDB.out _)) | (go_at_call 9; exact Calls.regrown_of (HDT.out _)) | (go_at_call 7; exact Calls.regrown_of (HT.out _)) | (go_at_call 10; exact Calls.regrown_of (HR.out _)) | (go_at_call 11; exact Calls.regrown_of (HS.out _ (HFR.out _ _))) | (go_at_call 12; exact Calls.regrown_of (HD.out _)) | (go_at_call 13; exact Calls.regrown_of (HY.out _))))
    refine wpQuiet_nil ?_
    intro w6 hw'
    have bW : Below W.heap.size W w6 := by obtain ⟨⟨dq, osq⟩, rfl⟩ := hw'; exact below_regrown _ _ _
    have HB6 : Hid (Below w.heap.size w w6) := below_step HB5.out bW
    clear f0 f1 f2 f3 g0 g1 g2 g3 bW hw' HB5 HFR
    go_wp2
    go_ret
    exact ⟨ret_bool (by first | rfl | simp), HB6.out⟩

end Go.Proofs.YtglcihfcnbifcaaDoor
