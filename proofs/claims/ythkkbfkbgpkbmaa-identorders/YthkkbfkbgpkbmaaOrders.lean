/-
  IdentOrders returns true for any three keys, and leaves them as they were. No conditions.
-/
import Derived.Test.YthkkbfkbgpkbmaaOrd
import Derived.Lib.SmallJoins
import Derived.Deep.DeepCutAuto
import Derived.RegionTactic
import Derived.BigRegion
import Derived.Deep.RegionHeld3
import Derived.Deep.DrawnRows
namespace Go.Proofs.Ythkkbfkbgpkbmaa
open Go.ChangeShapes Go.WideShapes Go.ChangeAt Go.RowKit Go.Sort Go.Joins
set_option linter.unusedVariables false
set_option linter.unusedSimpArgs false

/-- A key lies at block b. -/
structure KeyIn (w : World) (b : Nat) (c r n : Int) : Prop where
  lt : b < w.heap.size
  h0 : w.cell? ⟨b, 0, none⟩ = some (.int .u64 c)
  h1 : w.cell? ⟨b, 1, none⟩ = some (.int .u16 r)
  h2 : w.cell? ⟨b, 2, none⟩ = some (.int .u32 n)
/-- An ID lies at block b. -/
structure IdIn (w : World) (b : Nat) (r n : Int) : Prop where
  lt : b < w.heap.size
  h0 : w.cell? ⟨b, 0, none⟩ = some (.int .u16 r)
  h1 : w.cell? ⟨b, 1, none⟩ = some (.int .u32 n)

theorem KeyIn.below {w w' : World} {b : Nat} {c r n : Int} (h : KeyIn w b c r n) (hb : Below w.heap.size w w') : KeyIn w' b c r n :=
  ⟨Nat.lt_of_lt_of_le h.lt hb.size, by rw [hb.cell h.lt]; exact h.h0, by rw [hb.cell h.lt]; exact h.h1, by rw [hb.cell h.lt]; exact h.h2⟩
theorem IdIn.below {w w' : World} {b : Nat} {r n : Int} (h : IdIn w b r n) (hb : Below w.heap.size w w') : IdIn w' b r n :=
  ⟨Nat.lt_of_lt_of_le h.lt hb.size, by rw [hb.cell h.lt]; exact h.h0, by rw [hb.cell h.lt]; exact h.h1⟩
theorem below_step {w w' w'' : World} (h : Below w.heap.size w w') (k : Below w'.heap.size w' w'') : Below w.heap.size w w'' := h.trans (k.mono h.size)

theorem bcell {W w1 : World} (hb : Below W.heap.size W w1) : (∀ b o, b < W.heap.size → w1.cell? ⟨b, o, none⟩ = W.cell? ⟨b, o, none⟩) ∧ (∀ b o, b < W.heap.size → w1.frozen? ⟨b, o, none⟩ = W.frozen? ⟨b, o, none⟩) :=
  ⟨fun b o h => hb.cell (p := ⟨b, o, none⟩) h, fun b o h => hb.frozen (p := ⟨b, o, none⟩) h⟩
theorem below_alloc {w W : World} (h : Below w.heap.size w W) (o : Obj) : Below w.heap.size w (W.alloc o) := h.alloc h.size o

set_option maxHeartbeats 400000 in
theorem keyid_exact (c r n : Int) (w : World) :
    Calls Try.prog 7 #[.agg #[.int .u64 c, .int .u16 r, .int .u32 n]] w fun e w' => e = .returned (.agg #[.int .u16 r, .int .u32 n]) ∧ w' = (w.alloc (.cells #[.int .u64 c, .int .u16 r, .int .u32 n] 26)).alloc (.cells #[.int .u16 r, .int .u32 n] 31) := by
  go_enter Try.func7, Try.ntmps7
  go_wp2
  exact bodyPost_ret (v := .agg #[.int .u16 r, .int .u32 n]) (by simp [results, Try.results7, go_sem]) rfl ⟨rfl, rfl⟩

set_option maxRecDepth 100000 in
set_option maxHeartbeats 4000000 in
theorem orders_walk (c r n d s m f t l : Int) (w : World) :
    Calls Try.prog 3 #[.agg #[.int .u64 c, .int .u16 r, .int .u32 n], .agg #[.int .u64 d, .int .u16 s, .int .u32 m], .agg #[.int .u64 f, .int .u16 t, .int .u32 l]] w fun e w' => e = .returned (.bool true) ∧ Below w.heap.size w w' := by
  have HA : Hid (∀ W, Calls Try.prog 6 #[] W fun e w' => e = .returned (.bool true) ∧ Below W.heap.size W w') := anchor_any
  go_enter Try.func3, Try.ntmps3
  go_wp2_with (go_at_call 6; refine (HA.out _).mono ?_; rintro e w1 ⟨rfl, hb⟩)
  have A1 : Hid (KeyIn w1 w.heap.size c r n) := KeyIn.below ⟨by simp; omega, by go_simp, by go_simp, by go_simp⟩ hb
  have B1 : Hid (KeyIn w1 (w.heap.size + 1) d s m) := KeyIn.below ⟨by simp, by go_simp, by go_simp, by go_simp⟩ hb
  have C1 : Hid (KeyIn w1 (w.heap.size + 1 + 1) f t l) := KeyIn.below ⟨by simp, by go_simp, by go_simp, by go_simp⟩ hb
  have HB : Hid (Below w.heap.size w w1) := (below_alloc3 _ _ _ _).trans (hb.mono (by simp; omega))
  clear hb
  go_cut [7, 8, 9] (fun s7 s8 s9 wx => ∃ p q z : Nat, s7 = .pointer (some ⟨p, 0, none⟩) ∧ s8 = .pointer (some ⟨q, 0, none⟩) ∧ s9 = .pointer (some ⟨z, 0, none⟩) ∧ KeyIn wx p c r n ∧ KeyIn wx q d s m ∧ KeyIn wx z f t l ∧ Below w1.heap.size w1 wx)
  case first =>
    have c0 : ∀ w2, Below w1.heap.size w1 w2 → w2.cell? ⟨w.heap.size, 0, none⟩ = some (.int .u64 c) := fun w2 h => (A1.out.below h).h0
    have c1 : ∀ w2, Below w1.heap.size w1 w2 → w2.cell? ⟨w.heap.size, 1, none⟩ = some (.int .u16 r) := fun w2 h => (A1.out.below h).h1
    have c2 : ∀ w2, Below w1.heap.size w1 w2 → w2.cell? ⟨w.heap.size, 2, none⟩ = some (.int .u32 n) := fun w2 h => (A1.out.below h).h2
    have d0 : ∀ w2, Below w1.heap.size w1 w2 → w2.cell? ⟨w.heap.size + 1, 0, none⟩ = some (.int .u64 d) := fun w2 h => (B1.out.below h).h0
    have d1 : ∀ w2, Below w1.heap.size w1 w2 → w2.cell? ⟨w.heap.size + 1, 1, none⟩ = some (.int .u16 s) := fun w2 h => (B1.out.below h).h1
    have d2 : ∀ w2, Below w1.heap.size w1 w2 → w2.cell? ⟨w.heap.size + 1, 2, none⟩ = some (.int .u32 m) := fun w2 h => (B1.out.below h).h2
    have f0 : ∀ w2, Below w1.heap.size w1 w2 → w2.cell? ⟨w.heap.size + 1 + 1, 0, none⟩ = some (.int .u64 f) := fun w2 h => (C1.out.below h).h0
    have f1 : ∀ w2, Below w1.heap.size w1 w2 → w2.cell? ⟨w.heap.size + 1 + 1, 1, none⟩ = some (.int .u16 t) := fun w2 h => (C1.out.below h).h1
    have f2 : ∀ w2, Below w1.heap.size w1 w2 → w2.cell? ⟨w.heap.size + 1 + 1, 2, none⟩ = some (.int .u32 l) := fun w2 h => (C1.out.below h).h2
    go_region_held3 (fun w2 => Below w1.heap.size w1 w2) (repeat (first | exact Below.refl _ _ | refine Below.drew ?_ | (refine Below.alloc ?_ (by simp <;> omega) _) | (refine Below.setCell ?_ (by simp <;> omega) _))) (fail)
    all_goals
      clear c0 c1 c2 d0 d1 d2 f0 f1 f2
      go_wp2_with fail
      go_meet
      exact ⟨_, _, _, rfl, rfl, rfl, ⟨by simp <;> omega, by go_simp, by go_simp, by go_simp⟩, ⟨by simp <;> omega, by go_simp, by go_simp, by go_simp⟩, ⟨by simp <;> omega, by go_simp, by go_simp, by go_simp⟩,
        by repeat (first | exact Below.refl _ _ | refine Below.drew ?_ | (refine Below.alloc ?_ (by simp <;> omega) _) | (refine Below.setCell ?_ (by simp <;> omega) _))⟩
  case rest =>
    obtain ⟨p, q, z, rfl, rfl, rfl, hp, hq, hz, hbel⟩ := hcut
    have A2 : Hid (KeyIn wc w.heap.size c r n) := A1.out.below hbel
    have B2 : Hid (KeyIn wc (w.heap.size + 1) d s m) := B1.out.below hbel
    have C2 : Hid (KeyIn wc (w.heap.size + 1 + 1) f t l) := C1.out.below hbel
    have HB2 : Hid (Below w.heap.size w wc) := below_step HB.out hbel
    have X2 : Hid (KeyIn wc p c r n) := hp
    have Y2 : Hid (KeyIn wc q d s m) := hq
    have Z2 : Hid (KeyIn wc z f t l) := hz
    clear hp hq hz hbel A1 B1 C1 HB
    go_wp2_with fail
    obtain ⟨w2, hw2⟩ : ∃ w2, w2 = wc := ⟨_, rfl⟩
    subst hw2
    go_cut [10, 11] (fun s10 s11 wx => ∃ g k : Nat, s10 = .pointer (some ⟨g, 0, none⟩) ∧ s11 = .pointer (some ⟨k, 0, none⟩) ∧ IdIn wx g r n ∧ IdIn wx k s m ∧ Below w2.heap.size w2 wx)
    case first =>
      have c0 : ∀ wx, Below w2.heap.size w2 wx → wx.cell? ⟨w.heap.size, 0, none⟩ = some (.int .u64 c) := fun wx h => (A2.out.below h).h0
      have c1 : ∀ wx, Below w2.heap.size w2 wx → wx.cell? ⟨w.heap.size, 1, none⟩ = some (.int .u16 r) := fun wx h => (A2.out.below h).h1
      have c2 : ∀ wx, Below w2.heap.size w2 wx → wx.cell? ⟨w.heap.size, 2, none⟩ = some (.int .u32 n) := fun wx h => (A2.out.below h).h2
      have d0 : ∀ wx, Below w2.heap.size w2 wx → wx.cell? ⟨w.heap.size + 1, 0, none⟩ = some (.int .u64 d) := fun wx h => (B2.out.below h).h0
      have d1 : ∀ wx, Below w2.heap.size w2 wx → wx.cell? ⟨w.heap.size + 1, 1, none⟩ = some (.int .u16 s) := fun wx h => (B2.out.below h).h1
      have d2 : ∀ wx, Below w2.heap.size w2 wx → wx.cell? ⟨w.heap.size + 1, 2, none⟩ = some (.int .u32 m) := fun wx h => (B2.out.below h).h2
      go_region_held3 (fun wx => Below w2.heap.size w2 wx) (repeat (first | exact Below.refl _ _ | assumption | refine Below.drew ?_ | refine below_alloc ?_ _ | (refine Below.setCell ?_ (by simp <;> omega) _)))
        (first | (go_at_call 7; refine (keyid_exact _ _ _ _).mono ?_; rintro e w4 ⟨rfl, rfl⟩))
      all_goals
        clear c0 c1 c2 d0 d1 d2
        go_wp2_with fail
        go_meet
        exact ⟨_, _, rfl, rfl, ⟨by simp <;> omega, by go_simp, by go_simp⟩, ⟨by simp <;> omega, by go_simp, by go_simp⟩,
          by repeat (first | exact Below.refl _ _ | refine Below.drew ?_ | refine below_alloc ?_ _ | (refine Below.setCell ?_ (by simp <;> omega) _))⟩
    case rest =>
      obtain ⟨g, k, rfl, rfl, hg, hk, hbel⟩ := hcut
      have A3 : Hid (KeyIn wc w.heap.size c r n) := A2.out.below hbel
      have B3 : Hid (KeyIn wc (w.heap.size + 1) d s m) := B2.out.below hbel
      have C3 : Hid (KeyIn wc (w.heap.size + 1 + 1) f t l) := C2.out.below hbel
      have X3 : Hid (KeyIn wc p c r n) := X2.out.below hbel
      have Y3 : Hid (KeyIn wc q d s m) := Y2.out.below hbel
      have Z3 : Hid (KeyIn wc z f t l) := Z2.out.below hbel
      have P3 : Hid (IdIn wc g r n) := hg
      have Q3 : Hid (IdIn wc k s m) := hk
      have HB3 : Hid (Below w.heap.size w wc) := below_step HB2.out hbel
      clear hg hk hbel A2 B2 C2 X2 Y2 Z2 HB2
      have HK : Hid (∀ W, Calls Try.prog 8 #[.agg #[.int .u64 c, .int .u16 r, .int .u32 n], .agg #[.int .u64 d, .int .u16 s, .int .u32 m]] W fun e w' => e = .returned (.int .i64 (signI (klessB c r n d s m) (klessB d s m c r n))) ∧ Below W.heap.size W w') := by
        intro W; rw [← kec_sign]; exact keycmp_any _ _ _ _ _ _ _
      have HI : Hid (∀ W, Calls Try.prog 11 #[.agg #[.int .u16 r, .int .u32 n], .agg #[.int .u16 s, .int .u32 m]] W fun e w' => e = .returned (.int .i64 (signI (lessB r n s m) (lessB s m r n))) ∧ Below W.heap.size W w') := by
        intro W; rw [← idc_sign]; exact idcmp_any _ _ _ _ _
      have HG : Hid (∀ (a b : Bool) W, Calls Try.prog 9 #[.bool a, .bool b] W fun e w' => e = .returned (.int .i64 (signI a b)) ∧ Below W.heap.size W w') := by
        intro a b W; exact (sign_any a b W).mono fun e w' ⟨h1, h2⟩ => ⟨h1, by rw [h2]; exact Below.refl _ _⟩
      have a0 := fun d os => (A3.out.below (below_regrown wc d os)).h0
      have a1 := fun d os => (A3.out.below (below_regrown wc d os)).h1
      have a2 := fun d os => (A3.out.below (below_regrown wc d os)).h2
      have b0 := fun d os => (B3.out.below (below_regrown wc d os)).h0
      have b1 := fun d os => (B3.out.below (below_regrown wc d os)).h1
      have b2 := fun d os => (B3.out.below (below_regrown wc d os)).h2
      have x0 := fun d os => (X3.out.below (below_regrown wc d os)).h0
      have x1 := fun d os => (X3.out.below (below_regrown wc d os)).h1
      have x2 := fun d os => (X3.out.below (below_regrown wc d os)).h2
      have y0 := fun d os => (Y3.out.below (below_regrown wc d os)).h0
      have y1 := fun d os => (Y3.out.below (below_regrown wc d os)).h1
      have y2 := fun d os => (Y3.out.below (below_regrown wc d os)).h2
      have p0 := fun d os => (P3.out.below (below_regrown wc d os)).h0
      have p1 := fun d os => (P3.out.below (below_regrown wc d os)).h1
      have q0 := fun d os => (Q3.out.below (below_regrown wc d os)).h0
      have q1 := fun d os => (Q3.out.below (below_regrown wc d os)).h1
      go_wp2_with fail
      refine wp_region_quiet_below (by kernel_rfl) (by kernel_rfl) ?_
      repeat (go_big_quiet_step (first | (go_at_call 8; exact Calls.regrown_of (HK.out _)) | (go_at_call 10; exact Calls.regrown_of (kless_any _ _ _ _ _ _ _)) | (go_at_call 9; exact Calls.regrown_of (HG.out _ _ _)) | (go_at_call 7; exact Calls.regrown_of (keyid_any _ _ _ _)) | (go_at_call 11; exact Calls.regrown_of (HI.out _)) | (go_at_call 12; exact Calls.regrown_of (less_any _ _ _ _ _))))
      refine wpQuiet_nil ?_
      intro w3 hw'
      have HB4 : Hid (Below wc.heap.size wc w3) := by obtain ⟨⟨dq, osq⟩, rfl⟩ := hw'; exact below_regrown _ _ _
      clear hw' a0 a1 a2 b0 b1 b2 x0 x1 x2 y0 y1 y2 p0 p1 q0 q1 P3 Q3 HI HG
      have A4 : Hid (KeyIn w3 w.heap.size c r n) := A3.out.below HB4.out
      have B4 : Hid (KeyIn w3 (w.heap.size + 1) d s m) := B3.out.below HB4.out
      have C4 : Hid (KeyIn w3 (w.heap.size + 1 + 1) f t l) := C3.out.below HB4.out
      have X4 : Hid (KeyIn w3 p c r n) := X3.out.below HB4.out
      have Z4 : Hid (KeyIn w3 z f t l) := Z3.out.below HB4.out
      have HB5 : Hid (Below w.heap.size w w3) := below_step HB3.out HB4.out
      clear A3 B3 C3 X3 Y3 Z3 HB3 HB4 HK
      go_wp2_with fail
      go_cut [65] (fun s65 wx => s65 = .bool false ∧ Below w3.heap.size w3 wx)
      case first =>
        have a0 := fun d os => (A4.out.below (below_regrown w3 d os)).h0
        have a1 := fun d os => (A4.out.below (below_regrown w3 d os)).h1
        have a2 := fun d os => (A4.out.below (below_regrown w3 d os)).h2
        have b0 := fun d os => (B4.out.below (below_regrown w3 d os)).h0
        have b1 := fun d os => (B4.out.below (below_regrown w3 d os)).h1
        have b2 := fun d os => (B4.out.below (below_regrown w3 d os)).h2
        rcases kec_three c r n d s m with ⟨e1, e2, rfl, rfl, rfl⟩ | ⟨e1, e2⟩ | ⟨e1, e2⟩
        all_goals
          refine wp_region_quiet_below (by kernel_rfl) (by kernel_rfl) ?_
          repeat (go_big_quiet_step ((go_at_call 8; exact Calls.regrown_of (keycmp_any _ _ _ _ _ _ _))))
          refine wpQuiet_nil ?_
          intro w4 hw'
          have HB6 : Hid (Below w3.heap.size w3 w4) := by obtain ⟨⟨dq, osq⟩, rfl⟩ := hw'; exact below_regrown _ _ _
          clear hw' a0 a1 a2 b0 b1 b2
          go_wp2_with fail
          go_meet
          exact ⟨rfl, HB6.out⟩
      case rest =>
        obtain ⟨rfl, hbel⟩ := hcut
        have A5 : Hid (KeyIn wc w.heap.size c r n) := A4.out.below hbel
        have B5 : Hid (KeyIn wc (w.heap.size + 1) d s m) := B4.out.below hbel
        have C5 : Hid (KeyIn wc (w.heap.size + 1 + 1) f t l) := C4.out.below hbel
        have X5 : Hid (KeyIn wc p c r n) := X4.out.below hbel
        have Z5 : Hid (KeyIn wc z f t l) := Z4.out.below hbel
        have HB7 : Hid (Below w.heap.size w wc) := below_step HB5.out hbel
        clear A4 B4 C4 X4 Z4 HB5 hbel
        have c0 : ∀ wx, Below wc.heap.size wc wx → wx.cell? ⟨w.heap.size, 0, none⟩ = some (.int .u64 c) := fun wx h => (A5.out.below h).h0
        have c1 : ∀ wx, Below wc.heap.size wc wx → wx.cell? ⟨w.heap.size, 1, none⟩ = some (.int .u16 r) := fun wx h => (A5.out.below h).h1
        have c2 : ∀ wx, Below wc.heap.size wc wx → wx.cell? ⟨w.heap.size, 2, none⟩ = some (.int .u32 n) := fun wx h => (A5.out.below h).h2
        have d0 : ∀ wx, Below wc.heap.size wc wx → wx.cell? ⟨w.heap.size + 1, 0, none⟩ = some (.int .u64 d) := fun wx h => (B5.out.below h).h0
        have d1 : ∀ wx, Below wc.heap.size wc wx → wx.cell? ⟨w.heap.size + 1, 1, none⟩ = some (.int .u16 s) := fun wx h => (B5.out.below h).h1
        have d2 : ∀ wx, Below wc.heap.size wc wx → wx.cell? ⟨w.heap.size + 1, 2, none⟩ = some (.int .u32 m) := fun wx h => (B5.out.below h).h2
        have f0 : ∀ wx, Below wc.heap.size wc wx → wx.cell? ⟨w.heap.size + 1 + 1, 0, none⟩ = some (.int .u64 f) := fun wx h => (C5.out.below h).h0
        have f1 : ∀ wx, Below wc.heap.size wc wx → wx.cell? ⟨w.heap.size + 1 + 1, 1, none⟩ = some (.int .u16 t) := fun wx h => (C5.out.below h).h1
        have f2 : ∀ wx, Below wc.heap.size wc wx → wx.cell? ⟨w.heap.size + 1 + 1, 2, none⟩ = some (.int .u32 l) := fun wx h => (C5.out.below h).h2
        have x0 : ∀ wx, Below wc.heap.size wc wx → wx.cell? ⟨p, 0, none⟩ = some (.int .u64 c) := fun wx h => (X5.out.below h).h0
        have x1 : ∀ wx, Below wc.heap.size wc wx → wx.cell? ⟨p, 1, none⟩ = some (.int .u16 r) := fun wx h => (X5.out.below h).h1
        have x2 : ∀ wx, Below wc.heap.size wc wx → wx.cell? ⟨p, 2, none⟩ = some (.int .u32 n) := fun wx h => (X5.out.below h).h2
        have z0 : ∀ wx, Below wc.heap.size wc wx → wx.cell? ⟨z, 0, none⟩ = some (.int .u64 f) := fun wx h => (Z5.out.below h).h0
        have z1 : ∀ wx, Below wc.heap.size wc wx → wx.cell? ⟨z, 1, none⟩ = some (.int .u16 t) := fun wx h => (Z5.out.below h).h1
        have z2 : ∀ wx, Below wc.heap.size wc wx → wx.cell? ⟨z, 2, none⟩ = some (.int .u32 l) := fun wx h => (Z5.out.below h).h2
        have hb0 : Below wc.heap.size wc wc := Below.refl _ _
        clear A5 B5 C5 X5 Z5
        by_cases k1 : 0 < kec c r n d s m
        · go_wp2_with (first | (go_at_call 8; refine (keycmp_any _ _ _ _ _ _ _).mono ?_; rintro e w6 ⟨rfl, hb6⟩; replace hb6 := below_step (by assumption) hb6))
          go_ret
          exact ⟨rfl, below_step HB7.out hb6⟩
        · by_cases k2 : 0 < kec d s m f t l
          · go_wp2_with (first | (go_at_call 8; refine (keycmp_any _ _ _ _ _ _ _).mono ?_; rintro e w6 ⟨rfl, hb6⟩; replace hb6 := below_step (by assumption) hb6))
            go_ret
            exact ⟨rfl, below_step HB7.out (by assumption)⟩
          · obtain ⟨k3, k4⟩ := kec_trans c r n d s m f t l k1 k2
            go_wp2_with (first | (go_at_call 8; refine (keycmp_any _ _ _ _ _ _ _).mono ?_; rintro e w6 ⟨rfl, hb6⟩; replace hb6 := below_step (by assumption) hb6) | (go_at_call 10; refine (kless_any _ _ _ _ _ _ _).mono ?_; rintro e w6 ⟨rfl, hb6⟩; replace hb6 := below_step (by assumption) hb6))
            go_ret
            exact ⟨rfl, below_step HB7.out (by assumption)⟩

end Go.Proofs.Ythkkbfkbgpkbmaa
