
/-
  The example of the document's chapter 4, as the laws ask it of the program: it answers as the document says. No conditions.
-/
import Derived.Test.YtglcihfcnbifcaaDoorWalkText
namespace Go.Proofs.YtglcihfcnbifcaaDoor
open Go.ChangeShapes Go.WideShapes Go.ChangeAt Go.RowKit Go.Sort
set_option linter.unusedVariables false
set_option linter.unusedSimpArgs false

theorem wh_four : Wh 4616189618054758400 4 := wh_lit false 4503599627370496 (-50) 50 (by decide) (by omega) (by decide)
theorem wh_mthree : Wh 13837309855095848960 (-3) := wh_lit true 6755399441055744 (-51) 51 (by decide) (by omega) (by decide)
theorem wh_five : Wh 4617315517961601024 5 := wh_lit false 5629499534213120 (-50) 50 (by decide) (by omega) (by decide)

set_option maxHeartbeats 1600000 in
theorem walk_anchor (w : World) : Calls Tryd.prog 4 #[] w fun e w' => e = .returned (.bool true) ∧ Below w.heap.size w w' := by
  have hA := ww_byte (n := 97) (by omega)
  have hT := then_ok hA hA (wok_byte (n := 97) (by omega)) (wok_byte (n := 97) (by omega)) (by omega) (by omega)
  have e1 : eqW (wbyteW 97) ((0, 4607182418800017408), (4607182418800017408, 4616189618054758400)) = true := by
    rw [eqW_iff hA (w := ((0, 1), (1, 4))) ⟨⟨wh_zero, wh_one⟩, wh_one, wh_four⟩]; decide
  have e2 : eqW (wthenW (wbyteW 97) (wbyteW 97)) ((13830554455654793216, 0), (13837309855095848960, 4617315517961601024)) = true := by
    rw [eqW_iff hT.2 (w := ((-1, 0), (-3, 5))) ⟨⟨wh_mone, wh_zero⟩, wh_mthree, wh_five⟩]; decide
  have H1 : Hid (∀ W, Calls Tryd.prog 6 #[.int .u8 97] W fun e w' => e = .returned (wv (wbyteW 97)) ∧ Below W.heap.size W w') := fun W => wof_any 97 (by omega) W
  have H2 : Hid (∀ K c W, WBox K (wbyteW 97) W → Calls Tryd.prog 14 #[wv (wbyteW 97), .slice (some ⟨K, 0, none⟩) 1 c] W fun e w' => e = .returned (wv (wthenW (wbyteW 97) (wbyteW 97))) ∧ Below W.heap.size W w') := fun K c W h => then_one hT.1 K c W h
  clear hA hT
  generalize wthenW (wbyteW 97) (wbyteW 97) = B at H2 e2
  generalize wbyteW 97 = A at H1 H2 e1
  obtain ⟨⟨x, y⟩, ⟨u, v⟩⟩ := A
  obtain ⟨⟨s, t⟩, ⟨m, n⟩⟩ := B
  unfold eqW at e1 e2
  unfold wv at H1 H2
  simp only at e1 e2 H1 H2
  rw [Bool.and_eq_true, Bool.and_eq_true, Bool.and_eq_true] at e1 e2
  obtain ⟨⟨p1, p2⟩, p3, p4⟩ := e1
  obtain ⟨⟨q1, q2⟩, q3, q4⟩ := e2
  go_enter Tryd.func4, Tryd.ntmps4
  go_wp2_with fail
  refine (H1.out _).mono ?_
  rintro e w1 ⟨rfl, hb1⟩
  have HB1 : Hid (Below w.heap.size w w1) := hb1
  clear hb1
  go_wp2_with fail
  have HB2 : Hid (Below w.heap.size w ((w1.alloc (.cells #[.complex .f64 x y, .complex .f64 u v] 31)).alloc (.cells #[.complex .f64 x y, .complex .f64 u v] 31))) := below_alloc (below_alloc HB1.out _) _
  have G2 : Hid (WBox (w1.heap.size + 1) ((x, y), (u, v)) ((w1.alloc (.cells #[.complex .f64 x y, .complex .f64 u v] 31)).alloc (.cells #[.complex .f64 x y, .complex .f64 u v] 31))) := by
    have h := WBox.new (w1.alloc (wobj ((x, y), (u, v)))) ((x, y), (u, v))
    rw [show (w1.alloc (wobj ((x, y), (u, v)))).heap.size = w1.heap.size + 1 by simp] at h
    exact h
  refine (H2.out _ _ _ G2.out).mono ?_
  rintro e w2 ⟨rfl, hb2⟩
  have HB3 : Hid (Below w.heap.size w w2) := below_step HB2.out hb2
  clear hb2 HB1 HB2 G2 H1 H2
  go_wp2_with fail
  go_ret
  exact ⟨rfl, HB3.out⟩

end Go.Proofs.YtglcihfcnbifcaaDoor
