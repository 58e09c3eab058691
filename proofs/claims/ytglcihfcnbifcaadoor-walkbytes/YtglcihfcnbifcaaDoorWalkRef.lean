
/-
  What the law's ref, and walk's Right and Show, and the document's own Show of layer 4, hand back of a walk that may be. The condition of Show: the library's table of powers of ten holds what it was laid with.
-/
import Derived.Test.YtglcihfcnbifcaaDoorRefWalk
import Derived.Test.YtglcihfcnbifcaaDoorShow
namespace Go.Proofs.YtglcihfcnbifcaaDoor
open Go.ChangeShapes Go.WideShapes Go.ChangeAt Go.RowKit Go.Sort
set_option linter.unusedVariables false
set_option linter.unusedSimpArgs false

theorem sm_near {z : Gi} (h : Near 33554432 z) : Sm z.1 ∧ Sm z.2 := by unfold Near at h; unfold Sm; omega
theorem isW_near {x : Cx} {z : Gi} (hx : CW x z) (h : Near 33554432 z) : IsW x.1 z.1 ∧ IsW x.2 z.2 := by
  unfold Near at h
  exact ⟨⟨hx.1, by omega, by omega⟩, hx.2, by omega, by omega⟩
theorem un_norm {z : Gi} (h : Un z) : z.1 * z.1 + z.2 * z.2 = 1 := by rcases h with rfl | rfl | rfl | rfl <;> decide

theorem GBox.away {K J o : Nat} {x y : Int} {w : World} (h : GBox K x y w) (hne : K ≠ J) (a : Value) : GBox K x y (w.setCell ⟨J, o, none⟩ a) := by
  unfold GBox at h ⊢
  rw [Below.heap_setCell _ _ _ _ hne]; exact h
theorem GBox.away4 {K J : Nat} {x y : Int} {w : World} (h : GBox K x y w) (hne : K ≠ J) (a b c d : Value) : GBox K x y ((((w.setCell ⟨J, 0, none⟩ a).setCell ⟨J, 1, none⟩ b).setCell ⟨J, 2, none⟩ c).setCell ⟨J, 3, none⟩ d) := (((h.away hne a).away hne b).away hne c).away hne d

set_option maxHeartbeats 3200000 in
set_option maxRecDepth 100000 in
theorem ref_yes {a : Ws} {v : Wi} (ha : WW a v) (hv : Wok 33554432 v) (w : World) :
    Calls Tryd.prog 5 #[wv a] w fun e w' => e = .returned (.tuple #[iw v, .bool true]) ∧ Below w.heap.size w w' := by
  have i1 := isW_near ha.1 (near_mono (un_one hv.1) (by omega))
  have i2 := isW_near ha.2 hv.2
  have H1 := Lib.hid (fun W => refof_yes i1.1 i1.2 W)
  have H2 := Lib.hid (fun W => refof_yes i2.1 i2.2 W)
  have H3 := Lib.hid (fun W => refnorm_any (a := v.1.1) (b := v.1.2) i1.1.2 i1.2.2 W)
  rw [un_norm hv.1] at H3
  clear ha hv i1 i2
  obtain ⟨⟨x, y⟩, ⟨u, t⟩⟩ := a
  obtain ⟨⟨p, q⟩, ⟨r, s⟩⟩ := v
  unfold wv iw
  simp only at H1 H2 H3 ⊢
  go_enter Tryd.func5, Tryd.ntmps5
  go_wp2_with fail
  refine (H1.out _).mono ?_
  rintro e w1 ⟨rfl, hb1⟩
  have A1 := ((WBox.new w ((x, y), (u, t))).alloc (.cells #[.int .i64 0, .int .i64 0, .int .i64 0, .int .i64 0] 26)).below hb1
  have I1 : IBox (w.heap.size + 1) ((0, 0), (0, 0)) w1 := by
    have h := (IBox.new (w.alloc (wobj ((x, y), (u, t)))) ((0, 0), (0, 0))).below hb1
    rw [show (w.alloc (wobj ((x, y), (u, t)))).heap.size = w.heap.size + 1 by simp] at h
    exact h
  have HB1 : Hid (Below w.heap.size w w1) := below_step (below_alloc (below_alloc (Below.refl _ _) _) _) hb1
  clear hb1
  have A2 := A1.alloc (.cells #[.int .i64 p, .int .i64 q] 24)
  have I2 : Hid (IBox (w.heap.size + 1) ((0, 0), (0, 0)) (w1.alloc (.cells #[.int .i64 p, .int .i64 q] 24))) := I1.alloc _
  have G2 : Hid (GBox w1.heap.size p q (w1.alloc (.cells #[.int .i64 p, .int .i64 q] 24))) := GBox.new w1 p q
  have c1 := A2.cell1
  simp only at c1
  have HL1 : Hid (w.heap.size + 1 < w1.heap.size) := I1.lt
  clear A1 I1 A2
  go_wp2_with fail
  refine (H2.out _).mono ?_
  rintro e w2 ⟨rfl, hb2⟩
  have HB2 : Hid (Below w.heap.size w (w2.alloc (.cells #[.int .i64 r, .int .i64 s] 24))) := below_alloc (below_step (below_alloc HB1.out _) hb2) _
  have I3 : Hid (IBox (w.heap.size + 1) ((0, 0), (0, 0)) (w2.alloc (.cells #[.int .i64 r, .int .i64 s] 24))) := (I2.out.below hb2).alloc _
  have G3 : Hid (GBox w1.heap.size p q (w2.alloc (.cells #[.int .i64 r, .int .i64 s] 24))) := (G2.out.below hb2).alloc _
  have HI2 : Hid (IBox (w.heap.size + 1) ((0, 0), (0, 0)) w2) := I2.out.below hb2
  have J3 : Hid (GBox w2.heap.size r s (w2.alloc (.cells #[.int .i64 r, .int .i64 s] 24))) := GBox.new w2 r s
  clear hb2 I2 G2 c1 HB1 H1 H2
  go_wp2_with fail
  have HL : Hid (w.heap.size + 1 < w2.heap.size) := by have := HI2.out.lt; exact this
  clear HI2
  generalize w2.alloc (.cells #[.int .i64 r, .int .i64 s] 24) = W at HB2 I3 G3 J3 ⊢
  have hlt := I3.out.lt
  have c0 := I3.out.cell0
  have c1 := I3.out.cell1
  have c2 := I3.out.cell2
  have c3 := I3.out.cell3
  have cf := I3.out.frozen
  have a0 : ∀ wx, GBox w1.heap.size p q wx ∧ GBox w2.heap.size r s wx → wx.cell? ⟨w1.heap.size, 0, none⟩ = some (.int .i64 p) := fun wx h => h.1.cell0
  have a1 : ∀ wx, GBox w1.heap.size p q wx ∧ GBox w2.heap.size r s wx → wx.cell? ⟨w1.heap.size, 1, none⟩ = some (.int .i64 q) := fun wx h => h.1.cell1
  have b0 : ∀ wx, GBox w1.heap.size p q wx ∧ GBox w2.heap.size r s wx → wx.cell? ⟨w2.heap.size, 0, none⟩ = some (.int .i64 r) := fun wx h => h.2.cell0
  have b1 : ∀ wx, GBox w1.heap.size p q wx ∧ GBox w2.heap.size r s wx → wx.cell? ⟨w2.heap.size, 1, none⟩ = some (.int .i64 s) := fun wx h => h.2.cell1
  have hn1 : w1.heap.size ≠ w.heap.size + 1 := by have := HL1.out; omega
  have hn2 : w2.heap.size ≠ w.heap.size + 1 := by have := HL.out; omega
  go_region_held3 (fun wx => GBox w1.heap.size p q wx ∧ GBox w2.heap.size r s wx) (first | exact ⟨G3.out, J3.out⟩ | assumption | exact ⟨hS4.out.1.away4 hn1 _ _ _ _, hS4.out.2.away4 hn2 _ _ _ _⟩)
    (first | (go_at_call 16; refine (H3.out _).mono ?_; rintro e w4 ⟨rfl, hb4⟩; have hS4 : Hid (GBox w1.heap.size p q w4 ∧ GBox w2.heap.size r s w4) := ⟨GBox.below (w := W.drew) G3.out hb4, GBox.below (w := W.drew) J3.out hb4⟩; have hS := hS4.out; have I4 : Hid (IBox (w.heap.size + 1) ((0, 0), (0, 0)) w4) := IBox.below (w := W.drew) I3.out hb4; have HB4 : Hid (Below w.heap.size w w4) := below_step HB2.out (below_of_drew hb4); have d0 := I4.out.cell0; have d1 := I4.out.cell1; have d2 := I4.out.cell2; have d3 := I4.out.cell3; have df := I4.out.frozen; clear hb4 c0 c1 c2 c3 cf))
  clear a0 a1 b0 b1 d0 d1 d2 d3 df
  go_wp2_with fail
  have e0 := (I4.out.set p q r s).cell0
  have e1 := (I4.out.set p q r s).cell1
  have e2 := (I4.out.set p q r s).cell2
  have e3 := (I4.out.set p q r s).cell3
  exact bodyPost_ret (v := .tuple #[.agg #[.int .i64 p, .int .i64 q, .int .i64 r, .int .i64 s], .bool true]) (by simp [results, Tryd.results5, go_sem, e0, e1, e2, e3]) rfl ⟨rfl, below_set4 HB4.out (by omega) _ _ _ _⟩

theorem un_turn {x : Cx} {z : Gi} (hx : CW x z) (hz : Un z) : ∃ K : Nat, K < 4 ∧ (∀ j : Nat, j < K → eqz x.1 x.2 j = false) ∧ eqz x.1 x.2 K = true := by
  have e := eqz_whole hx.1 hx.2
  rcases hz with rfl | rfl | rfl | rfl
  · exact ⟨0, by omega, fun j hj => by omega, by rw [e]; decide⟩
  · exact ⟨1, by omega, fun j hj => by rw [show j = 0 by omega, e]; decide, by rw [e]; decide⟩
  · exact ⟨2, by omega, fun j hj => by
      have : j = 0 ∨ j = 1 := by omega
      rcases this with rfl | rfl <;> rw [e] <;> decide, by rw [e]; decide⟩
  · exact ⟨3, by omega, fun j hj => by
      have : j = 0 ∨ j = 1 ∨ j = 2 := by omega
      rcases this with rfl | rfl | rfl <;> rw [e] <;> decide, by rw [e]; decide⟩

set_option maxHeartbeats 1600000 in
theorem wright_yes {a : Ws} {v : Wi} (ha : WW a v) (hv : Wok 33554432 v) (w : World) :
    Calls Tryd.prog 10 #[wv a] w fun e w' => e = .returned (.bool true) ∧ Below w.heap.size w w' := by
  have i2 := isW_near ha.2 hv.2
  obtain ⟨K, hK, h1, h2⟩ := un_turn ha.1 hv.1
  have H1 := Lib.hid (fun W => turns_at a.1.1 a.1.2 K hK h1 h2 W)
  have H2 := Lib.hid (fun W => right_yes i2.1 i2.2 W)
  clear ha hv i2 h1 h2
  obtain ⟨⟨x, y⟩, ⟨u, t⟩⟩ := a
  unfold wv
  simp only at H1 H2 ⊢
  go_enter Tryd.func10, Tryd.ntmps10
  go_wp2_with fail
  refine (H1.out _).mono ?_
  rintro e w1 ⟨rfl, he⟩
  obtain rfl := Eq.symm he
  clear he
  go_wp2_with fail
  refine (H2.out _).mono ?_
  rintro e w2 ⟨rfl, he⟩
  obtain rfl := Eq.symm he
  clear he
  go_wp2
  go_ret
  exact ⟨rfl, below_alloc (Below.refl _ _) _⟩

/-- A walk as a text. -/
def showW (v : Wi) : ByteArray := ⟨(showG v.1.1 v.1.2).toArray⟩ ++ ⟨#[32]⟩ ++ ⟨(showG v.2.1 v.2.2).toArray⟩
theorem showG_le {a b : Int} (ha : Sm a) (hb : Sm b) : (⟨(showG a b).toArray⟩ : ByteArray).size ≤ 44 := by
  unfold Sm at ha hb
  have la := itoa_le (i := a) (by omega) (by omega)
  have lb := itoa_le (i := b) (by omega) (by omega)
  rw [bsize]
  unfold showG
  split <;> simp <;> omega

set_option maxHeartbeats 1600000 in
theorem wshow_yes {a : Ws} {v : Wi} (ha : WW a v) (hv : Wok 33554432 v) (w : World) (hfit : Fit w) :
    Calls Tryd.prog 11 #[wv a] w fun e w' => e = .returned (.string (showW v)) ∧ Below w.heap.size w w' := by
  have i1 := isW_near ha.1 (near_mono (un_one hv.1) (by omega))
  have i2 := isW_near ha.2 hv.2
  have l1 := showG_le i1.1.2 i1.2.2
  have l2 := showG_le i2.1.2 i2.2.2
  have H1 := Lib.hid (fun W h => show_yes i1.1 i1.2 W h)
  have H2 := Lib.hid (fun W h => show_yes i2.1 i2.2 W h)
  have HW : Hid (showW v = ⟨(showG v.1.1 v.1.2).toArray⟩ ++ ⟨#[32]⟩ ++ ⟨(showG v.2.1 v.2.2).toArray⟩) := rfl
  generalize (⟨(showG v.1.1 v.1.2).toArray⟩ : ByteArray) = A at H1 HW l1
  generalize (⟨(showG v.2.1 v.2.2).toArray⟩ : ByteArray) = B at H2 HW l2
  clear ha hv i1 i2
  have hs1 : (⟨#[32]⟩ : ByteArray).size = 1 := rfl
  have q1 : ¬ 9223372036854775807 < A.size + 1 := by omega
  have q2 : ¬ 9223372036854775807 < (A ++ ⟨#[32]⟩).size + B.size := by rw [ByteArray.size_append]; omega
  obtain ⟨⟨x, y⟩, ⟨u, t⟩⟩ := a
  unfold wv
  simp only at H1 H2 ⊢
  have HF : Hid (Fit w) := hfit
  clear hfit
  go_enter Tryd.func11, Tryd.ntmps11
  go_wp2_with fail
  have HB : Hid (Below w.heap.size w (w.alloc (wobj ((x, y), (u, t))))) := below_alloc (Below.refl _ _) _
  have C := WBox.new w ((x, y), (u, t))
  have c0 := cell_regrown C.cell0
  have c1 := cell_regrown C.cell1
  simp only at c0 c1
  clear C
  unfold wobj at HB c0 c1
  simp only at HB c0 c1
  generalize w.alloc (.cells #[.complex .f64 x y, .complex .f64 u t] 31) = W at HB c0 c1 ⊢
  have HFR : Hid (∀ d os, Fit (grow (redrawn W d) os)) := fun d os => HF.out.below (below_step HB.out (below_regrown _ d os))
  refine wp_region_quiet_below (by kernel_rfl) (by kernel_rfl) ?_
  go_big_quiet_step (fail)
  go_big_quiet_step (fail)
  go_big_quiet_step ((go_at_call 24; exact Calls.regrown_of (H1.out _ (HFR.out _ _))))
  go_big_quiet_step (fail)
  go_big_quiet_step (fail)
  go_big_quiet_step (fail)
  go_big_quiet_step ((go_at_call 24; exact Calls.regrown_of (H2.out _ (HFR.out _ _))))
  repeat (go_big_quiet_step (fail))
  refine wpQuiet_nil ?_
  intro w3 hw'
  have bW : Below W.heap.size W w3 := by obtain ⟨⟨dq, osq⟩, rfl⟩ := hw'; exact below_regrown _ _ _
  have HB3 : Hid (Below w.heap.size w w3) := below_step HB.out bW
  clear c0 c1 bW hw' HB HFR H1 H2
  go_wp2
  go_ret
  exact ⟨ret_str HW.out.symm, HB3.out⟩

set_option maxHeartbeats 1600000 in
theorem rshow_yes {v : Wi} (hv : Wok 33554432 v) (w : World) :
    Calls Tryd.prog 12 #[iw v] w fun e w' => e = .returned (.string (showW v)) ∧ Below w.heap.size w w' := by
  have i1 := sm_near (near_mono (un_one hv.1) (by omega : (1 : Int) ≤ 33554432))
  have i2 := sm_near hv.2
  have l1 := showG_le i1.1 i1.2
  have l2 := showG_le i2.1 i2.2
  have H1 := Lib.hid (fun W => refshow_any i1.1 i1.2 W)
  have H2 := Lib.hid (fun W => refshow_any i2.1 i2.2 W)
  have HW : Hid (showW v = ⟨(showG v.1.1 v.1.2).toArray⟩ ++ ⟨#[32]⟩ ++ ⟨(showG v.2.1 v.2.2).toArray⟩) := rfl
  generalize (⟨(showG v.1.1 v.1.2).toArray⟩ : ByteArray) = A at H1 HW l1
  generalize (⟨(showG v.2.1 v.2.2).toArray⟩ : ByteArray) = B at H2 HW l2
  clear hv i1 i2
  have hs1 : (⟨#[32]⟩ : ByteArray).size = 1 := rfl
  have q1 : ¬ 9223372036854775807 < A.size + 1 := by omega
  have q2 : ¬ 9223372036854775807 < (A ++ ⟨#[32]⟩).size + B.size := by rw [ByteArray.size_append]; omega
  obtain ⟨⟨x, y⟩, ⟨u, t⟩⟩ := v
  unfold iw
  simp only at H1 H2 ⊢
  go_enter Tryd.func12, Tryd.ntmps12
  go_wp2_with fail
  have HB : Hid (Below w.heap.size w (w.alloc (.cells #[.int .i64 x, .int .i64 y, .int .i64 u, .int .i64 t] 26))) := below_alloc (Below.refl _ _) _
  have C := IBox.new w ((x, y), (u, t))
  have c0 := cell_regrown C.cell0
  have c1 := cell_regrown C.cell1
  have c2 := cell_regrown C.cell2
  have c3 := cell_regrown C.cell3
  simp only at c0 c1 c2 c3
  clear C
  generalize w.alloc (.cells #[.int .i64 x, .int .i64 y, .int .i64 u, .int .i64 t] 26) = W at HB c0 c1 c2 c3 ⊢
  refine wp_region_quiet_below (by kernel_rfl) (by kernel_rfl) ?_
  go_big_quiet_step (fail)
  go_big_quiet_step (fail)
  go_big_quiet_step ((go_at_call 25; exact Calls.regrown_of (H1.out _)))
  go_big_quiet_step (fail)
  go_big_quiet_step (fail)
  go_big_quiet_step (fail)
  go_big_quiet_step ((go_at_call 25; exact Calls.regrown_of (H2.out _)))
  repeat (go_big_quiet_step (fail))
  refine wpQuiet_nil ?_
  intro w3 hw'
  have bW : Below W.heap.size W w3 := by obtain ⟨⟨dq, osq⟩, rfl⟩ := hw'; exact below_regrown _ _ _
  have HB3 : Hid (Below w.heap.size w w3) := below_step HB.out bW
  clear c0 c1 c2 c3 bW hw' HB H1 H2
  go_wp2
  go_ret
  exact ⟨ret_str HW.out.symm, HB3.out⟩

end Go.Proofs.YtglcihfcnbifcaaDoor
