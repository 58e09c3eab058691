
/-
  What the laws' own copyistmade.Small, SameOp and SameTxn tell (the two of one thing twice). No conditions beyond what each theorem states.
-/
import Derived.Test.YtedlmngfkkpmgaaTxnRef1
namespace Go.Proofs.Ytedlmngfkkpmgaa
open Go.ChangeShapes Go.WideShapes Go.ChangeAt Go.RowKit Go.Lib
set_option linter.unusedVariables false
set_option linter.unusedSimpArgs false

def smallO (o : Om) : Bool := decide (o.text.length ≤ 300) && decide (o.spans.length ≤ 60)
def smallT (t : Tm) : Bool := decide (t.ops.length ≤ 40) && t.ops.all smallO
theorem smallT_x {t : Tm} {xs : List OV} (h : t.ops = xs.map (·.1)) (hs : smallT t = true) : SmallX xs ∧ xs.length ≤ 40 := by
  unfold smallT at hs
  rw [Bool.and_eq_true, h, List.length_map] at hs
  refine ⟨fun x hx => ?_, of_decide_eq_true hs.1⟩
  have := List.all_eq_true.1 hs.2 x.1 (List.mem_map.2 ⟨x, hx, rfl⟩)
  unfold smallO at this
  rw [Bool.and_eq_true] at this
  exact ⟨of_decide_eq_true this.1, of_decide_eq_true this.2⟩
set_option maxHeartbeats 3200000 in
set_option maxRecDepth 20000 in
theorem msmall_any (t : Tm) (xs : List OV) (p : Option Addr) (c : Nat) (w : World) (H : InT t xs p c w) (hl : t.ops.length ≤ 9223372036854775807) (hq : ∀ x ∈ xs, x.1.text.length ≤ 9223372036854775807 ∧ x.1.spans.length ≤ 9223372036854775807) :
    Calls Try.prog 7 #[tv t p c] w fun e w' => e = .returned (.bool (smallT t)) ∧ Below w.heap.size w w' := by
  have hlen : t.ops.length = xs.length := by rw [H.ops, List.length_map]
  have HR := Lib.hid H.row.row
  have HTV : Hid (∀ p c, tv t p c = .agg #[.int .u16 t.r, .int .u32 t.seq, .int .u64 t.clock, .int .i64 t.user, .slice p xs.length c]) := fun p c => by unfold tv; rw [hlen]
  have HQ : Hid (∀ k, k < xs.length → (xs.getD k ov0).1.text.length ≤ 9223372036854775807 ∧ (xs.getD k ov0).1.spans.length ≤ 9223372036854775807) := fun k hk => hq _ (getD_mem ov0 hk)
  have HS : Hid (smallT t = (decide (xs.length ≤ 40) && (xs.map (·.1)).all smallO)) := by show _ = _; unfold smallT; rw [hlen, H.ops]
  have HALL : Hid (∀ k, k < xs.length → ((xs.take (k + 1)).map (·.1)).all smallO = (((xs.take k).map (·.1)).all smallO && smallO (xs.getD k ov0).1)) := fun k hk => by rw [take_getD ov0 hk, List.map_append, List.all_append]; simp
  have HNO : Hid (∀ k, k < xs.length → smallO (xs.getD k ov0).1 = false → (xs.map (·.1)).all smallO = false) := fun k hk h => by
    rw [List.all_eq_false]
    exact ⟨_, List.mem_map.2 ⟨_, getD_mem ov0 hk, rfl⟩, by rw [h]; simp⟩
  clear H hq
  rw [HTV.out]
  generalize smallT t = S at HS ⊢
  rw [hlen] at hl
  have HX := Lib.hid (heap_alloc_new w (.cells #[.int .u16 t.r, .int .u32 t.seq, .int .u64 t.clock, .int .i64 t.user, .slice p xs.length c] 27))
  by_cases g : xs.length ≤ 40
  · have g' : ¬ (40 : Int) < (xs.length : Int) := by omega
    have HS2 : Hid (S = (xs.map (·.1)).all smallO) := by show _ = _; rw [HS.out, decide_eq_true g, Bool.true_and]
    clear HS
    go_enter Try.func7, Try.ntmps7
    go_wp2
    go_loopg [12] xs.length (fun g i wr => ∃ k : Nat, k ≤ xs.length ∧ xs.length - k ≤ g ∧ i = .int .i64 (k : Int) ∧ ((xs.take k).map (·.1)).all smallO = true ∧ Below w.heap.size w wr)
    case atStart => exact ⟨0, Nat.zero_le _, by omega, rfl, rfl, below_alloc (Below.refl _ _) _⟩
    case round =>
      obtain ⟨k, hk, hg, rfl, ha, hB⟩ := hrel
      have HA := Lib.hid ha
      have HB := Lib.hid hB
      clear ha hB
      by_cases hlt : k < xs.length
      · have hkl : (k : Int) < (xs.length : Int) := by omega
        have HAK := Lib.hid (HALL.out k hlt)
        rw [HA.out, Bool.true_and] at HAK
        have HNK := Lib.hid (HNO.out k hlt)
        have hqk := HQ.out k hlt
        obtain ⟨b, o, rfl, c0, c1, c2, c3, c4, c5, c6⟩ := orow_at (HR.out.below HB.out) hlt
        generalize xs.getD k ov0 = x at c0 c1 c2 c3 c4 c5 c6 HAK HNK hqk
        obtain ⟨om, px, cx⟩ := x
        simp only at c0 c1 c2 c3 c4 c5 c6 HAK HNK hqk
        have hbt : (⟨om.text.toArray⟩ : ByteArray).size = om.text.length := rfl
        have HSO : Hid (smallO om = (decide (om.text.length ≤ 300) && decide (om.spans.length ≤ 60))) := rfl
        generalize (⟨om.text.toArray⟩ : ByteArray) = bt at c4 hbt
        by_cases t1 : om.text.length ≤ 300
        · have t1' : ¬ (300 : Int) < (bt.size : Int) := by omega
          by_cases s1 : om.spans.length ≤ 60
          · have s1' : ¬ (60 : Int) < (om.spans.length : Int) := by omega
            have HY : Hid (((xs.take (k + 1)).map (·.1)).all smallO = true) := by show _ = _; rw [HAK.out, HSO.out, decide_eq_true t1, decide_eq_true s1]; rfl
            go_wp2
            go_roundg (xs.length - (k + 1))
            case measure => omega
            case rel => exact ⟨k + 1, by omega, Nat.le_refl _, by go_num, HY.out, below_alloc HB.out _⟩
          · have s1' : (60 : Int) < (om.spans.length : Int) := by omega
            have HE : Hid (S = false) := by show _ = _; rw [HS2.out]; exact HNK.out (by rw [HSO.out, decide_eq_false s1, Bool.and_false])
            go_wp2
            go_ret
            exact ⟨by rw [HE.out]; rfl, below_alloc HB.out _⟩
        · have t1' : (300 : Int) < (bt.size : Int) := by omega
          have HE : Hid (S = false) := by show _ = _; rw [HS2.out]; exact HNK.out (by rw [HSO.out, decide_eq_false t1, Bool.false_and])
          go_wp2
          go_ret
          exact ⟨by rw [HE.out]; rfl, below_alloc HB.out _⟩
      · have : k = xs.length := by omega
        subst this
        have hkl : ¬ (xs.length : Int) < (xs.length : Int) := by omega
        have HE : Hid (S = true) := by show _ = _; rw [HS2.out]; have := HA.out; rwa [List.take_length] at this
        go_wp2
        go_ret
        exact ⟨by rw [HE.out]; rfl, HB.out⟩
  · have g' : (40 : Int) < (xs.length : Int) := by omega
    have HE : Hid (S = false) := by show _ = _; rw [HS.out, decide_eq_false g, Bool.false_and]
    go_enter Try.func7, Try.ntmps7
    go_wp2
    go_ret
    exact ⟨by rw [HE.out]; rfl, below_alloc (Below.refl _ _) _⟩

set_option maxHeartbeats 6400000 in
set_option maxRecDepth 20000 in
theorem msameop_yes (o : Om) (p q : Option Addr) (c d : Nat) (w : World) (hR : GRow layS w p o.spans) (hS : GRow layS w q o.spans) (hl : o.spans.length ≤ 8796093021952) :
    Calls Try.prog 38 #[ov o p c, ov o q d] w fun e w' => e = .returned (.bool true) ∧ Below w.heap.size w w' := by
  have HR := Lib.hid hR
  have HS := Lib.hid hS
  obtain ⟨kind, r, n, num, text, spans, seq⟩ := o
  have HOV : Hid (∀ p c, ov ⟨kind, r, n, num, text, spans, seq⟩ p c = .agg #[.int .i64 kind, .int .u16 r, .int .u32 n, .int .u32 num, .string ⟨text.toArray⟩, .slice p spans.length c, .int .u32 seq]) := fun p c => rfl
  simp only [HOV.out] at HR HS hl ⊢
  clear hR hS HOV
  generalize (⟨text.toArray⟩ : ByteArray) = bt
  have H1 := Lib.hid (heap_alloc2_old w (.cells #[.int .i64 kind, .int .u16 r, .int .u32 n, .int .u32 num, .string bt, .slice p spans.length c, .int .u32 seq] 49) (.cells #[.int .i64 kind, .int .u16 r, .int .u32 n, .int .u32 num, .string bt, .slice q spans.length d, .int .u32 seq] 49))
  have H2 := Lib.hid (heap_alloc2_new w (.cells #[.int .i64 kind, .int .u16 r, .int .u32 n, .int .u32 num, .string bt, .slice p spans.length c, .int .u32 seq] 49) (.cells #[.int .i64 kind, .int .u16 r, .int .u32 n, .int .u32 num, .string bt, .slice q spans.length d, .int .u32 seq] 49))
  go_enter Try.func38, Try.ntmps38
  go_wp2_with fail
  have HRW : Hid (GRow layS ((w.alloc (.cells #[.int .i64 kind, .int .u16 r, .int .u32 n, .int .u32 num, .string bt, .slice p spans.length c, .int .u32 seq] 49)).alloc (.cells #[.int .i64 kind, .int .u16 r, .int .u32 n, .int .u32 num, .string bt, .slice q spans.length d, .int .u32 seq] 49)) p spans) := (HR.out.alloc _).alloc _
  have HSW : Hid (GRow layS ((w.alloc (.cells #[.int .i64 kind, .int .u16 r, .int .u32 n, .int .u32 num, .string bt, .slice p spans.length c, .int .u32 seq] 49)).alloc (.cells #[.int .i64 kind, .int .u16 r, .int .u32 n, .int .u32 num, .string bt, .slice q spans.length d, .int .u32 seq] 49)) q spans) := (HS.out.alloc _).alloc _
  have HBW : Hid (Below w.heap.size w ((w.alloc (.cells #[.int .i64 kind, .int .u16 r, .int .u32 n, .int .u32 num, .string bt, .slice p spans.length c, .int .u32 seq] 49)).alloc (.cells #[.int .i64 kind, .int .u16 r, .int .u32 n, .int .u32 num, .string bt, .slice q spans.length d, .int .u32 seq] 49))) := below_alloc (below_alloc (Below.refl _ _) _) _
  generalize (w.alloc (.cells #[.int .i64 kind, .int .u16 r, .int .u32 n, .int .u32 num, .string bt, .slice p spans.length c, .int .u32 seq] 49)).alloc (.cells #[.int .i64 kind, .int .u16 r, .int .u32 n, .int .u32 num, .string bt, .slice q spans.length d, .int .u32 seq] 49) = W at H1 H2 HRW HSW HBW ⊢
  clear HR HS
  go_loopg [51] spans.length (fun g i wr => ∃ k : Nat, k ≤ spans.length ∧ spans.length - k ≤ g ∧ i = .int .i64 (k : Int) ∧ Below W.heap.size W wr)
  case atStart => exact ⟨0, Nat.zero_le _, by omega, rfl, Below.refl _ _⟩
  case round =>
    obtain ⟨k, hk, hg, rfl, hB⟩ := hrel
    have HB := Lib.hid hB
    clear hB
    by_cases hlt : k < spans.length
    · have hkl : (k : Int) < (spans.length : Int) := by omega
      have hk0 : (0 : Int) ≤ (k : Int) := by omega
      obtain ⟨b1, o1, rfl, a0, a1, a2⟩ := srow_at (HRW.out.below HB.out) hlt
      obtain ⟨b2, o2, rfl, e0, e1, e2⟩ := srow_at (HSW.out.below HB.out) hlt
      have x5 := (seven_cells (kept_box H1.out HB.out)).2.2.2.2.2.1
      have y5 := (seven_cells (kept_box H2.out HB.out)).2.2.2.2.2.1
      generalize spans.getD k s0 = s at a0 a1 a2 e0 e1 e2
      obtain ⟨r', n', m'⟩ := s
      simp only at a0 a1 a2 e0 e1 e2
      go_wp2_with fail
      go_quiet (fail)
      go_wp2
      go_roundg (spans.length - (k + 1))
      case measure => omega
      case rel => exact ⟨k + 1, by omega, Nat.le_refl _, by go_num, below_drewN HB.out _⟩
    · have : k = spans.length := by omega
      subst this
      have hkl : ¬ (spans.length : Int) < (spans.length : Int) := by omega
      go_wp2
      go_ret
      exact ⟨rfl, below_step HBW.out HB.out⟩

set_option maxHeartbeats 6400000 in
set_option maxRecDepth 20000 in
theorem msametxn_yes (t : Tm) (xs ys : List OV) (p q : Option Addr) (c d : Nat) (w : World) (H : RowT t xs p c w) (Gops : t.ops = ys.map (·.1)) (Grow : GRow layO w q ys) (Geach : ∀ y ∈ ys, GRow layS w y.2.1 y.1.spans) (hl : t.ops.length ≤ 9223372036854775807) (hs : ∀ x ∈ xs, x.1.spans.length ≤ 8796093021952) :
    Calls Try.prog 20 #[tv t p c, tv t q d] w fun e w' => e = .returned (.bool true) ∧ Below w.heap.size w w' := by
  have hx : xs.length = t.ops.length := by rw [H.ops, List.length_map]
  have hy : ys.length = t.ops.length := by rw [Gops, List.length_map]
  have HEQ : Hid (∀ k, k < t.ops.length → (ys.getD k ov0).1 = (xs.getD k ov0).1) := fun k hk => by rw [← getD_map1 xs (by omega), ← getD_map1 ys (by omega), ← H.ops, ← Gops]
  have HSO : Hid (∀ k, k < t.ops.length → ∀ W, Below w.heap.size w W → Calls Try.prog 38 #[ov (xs.getD k ov0).1 (xs.getD k ov0).2.1 (xs.getD k ov0).2.2, ov (ys.getD k ov0).1 (ys.getD k ov0).2.1 (ys.getD k ov0).2.2] W fun e w' => e = .returned (.bool true) ∧ Below W.heap.size W w') := fun k hk W hb => by
    have h1 := (H.at (k := k) (by omega)).1.below hb
    have h2 := (Geach _ (getD_mem ov0 (i := k) (by omega))).below hb
    rw [HEQ.out k hk] at h2 ⊢
    exact msameop_yes _ _ _ _ _ W h1 h2 (hs _ (getD_mem ov0 (by omega)))
  have HR := Lib.hid H.row
  have HS := Lib.hid Grow
  clear H Gops Grow Geach HEQ
  unfold tv
  generalize t.ops.length = L at hl hx hy HSO ⊢
  obtain ⟨r, seq, clock, user, ops⟩ := t
  simp only
  have H1 := Lib.hid (heap_alloc2_old w (.cells #[.int .u16 r, .int .u32 seq, .int .u64 clock, .int .i64 user, .slice p L c] 32) (.cells #[.int .u16 r, .int .u32 seq, .int .u64 clock, .int .i64 user, .slice q L d] 32))
  have H2 := Lib.hid (heap_alloc2_new w (.cells #[.int .u16 r, .int .u32 seq, .int .u64 clock, .int .i64 user, .slice p L c] 32) (.cells #[.int .u16 r, .int .u32 seq, .int .u64 clock, .int .i64 user, .slice q L d] 32))
  go_enter Try.func20, Try.ntmps20
  go_wp2_with fail
  have HBW : Hid (Below w.heap.size w ((w.alloc (.cells #[.int .u16 r, .int .u32 seq, .int .u64 clock, .int .i64 user, .slice p L c] 32)).alloc (.cells #[.int .u16 r, .int .u32 seq, .int .u64 clock, .int .i64 user, .slice q L d] 32))) := below_alloc (below_alloc (Below.refl _ _) _) _
  generalize (w.alloc (.cells #[.int .u16 r, .int .u32 seq, .int .u64 clock, .int .i64 user, .slice p L c] 32)).alloc (.cells #[.int .u16 r, .int .u32 seq, .int .u64 clock, .int .i64 user, .slice q L d] 32) = W at H1 H2 HBW ⊢
  go_loopg [44] L (fun g i wr => ∃ k : Nat, k ≤ L ∧ L - k ≤ g ∧ i = .int .i64 (k : Int) ∧ Below W.heap.size W wr)
  case atStart => exact ⟨0, Nat.zero_le _, by omega, rfl, Below.refl _ _⟩
  case round =>
    obtain ⟨k, hk, hg, rfl, hB⟩ := hrel
    have HB := Lib.hid hB
    have HBB : Hid (Below w.heap.size w wr) := below_step HBW.out HB.out
    clear hB
    by_cases hlt : k < L
    · have hkl : (k : Int) < (L : Int) := by omega
      have hk0 : (0 : Int) ≤ (k : Int) := by omega
      have HSK : Hid (∀ dd os, Calls Try.prog 38 #[ov (xs.getD k ov0).1 (xs.getD k ov0).2.1 (xs.getD k ov0).2.2, ov (ys.getD k ov0).1 (ys.getD k ov0).2.1 (ys.getD k ov0).2.2] (Go.Sort.grow (redrawn wr dd) os) fun e w' => e = .returned (.bool true) ∧ Below (Go.Sort.grow (redrawn wr dd) os).heap.size (Go.Sort.grow (redrawn wr dd) os) w') := fun dd os => HSO.out k hlt _ (below_step HBB.out (below_regrown _ _ _))
      obtain ⟨b1, o1, rfl, a0', a1', a2', a3', a4', a5', a6'⟩ := orow_at (HR.out.below HBB.out) (by omega : k < xs.length)
      obtain ⟨b2, o2, rfl, e0', e1', e2', e3', e4', e5', e6'⟩ := orow_at (HS.out.below HBB.out) (by omega : k < ys.length)
      have x5' := (five_cells (kept_box H1.out HB.out)).2.2.2.2
      have y5' := (five_cells (kept_box H2.out HB.out)).2.2.2.2
      have a0 := cell_regrown a0'
      have a1 := cell_regrown a1'
      have a2 := cell_regrown a2'
      have a3 := cell_regrown a3'
      have a4 := cell_regrown a4'
      have a5 := cell_regrown a5'
      have a6 := cell_regrown a6'
      have e0 := cell_regrown e0'
      have e1 := cell_regrown e1'
      have e2 := cell_regrown e2'
      have e3 := cell_regrown e3'
      have e4 := cell_regrown e4'
      have e5 := cell_regrown e5'
      have e6 := cell_regrown e6'
      have x5 := cell_regrown x5'
      have y5 := cell_regrown y5'
      clear a0' a1' a2' a3' a4' a5' a6' e0' e1' e2' e3' e4' e5' e6' x5' y5'
      generalize xs.getD k ov0 = x at a0 a1 a2 a3 a4 a5 a6 HSK
      generalize ys.getD k ov0 = y at e0 e1 e2 e3 e4 e5 e6 HSK
      obtain ⟨ox, px, cx⟩ := x
      obtain ⟨oy, py, cy⟩ := y
      unfold ov at HSK
      simp only at a0 a1 a2 a3 a4 a5 a6 e0 e1 e2 e3 e4 e5 e6 HSK
      generalize (⟨ox.text.toArray⟩ : ByteArray) = btx at a4 HSK
      generalize (⟨oy.text.toArray⟩ : ByteArray) = bty at e4 HSK
      go_wp2_with fail
      refine wp_region_quiet_below (by kernel_rfl) (by kernel_rfl) ?_
      repeat (first | go_big_quiet_step ((go_at_call 38; exact Calls.regrown_of (HSK.out _ _))) | quiet_step ((go_at_call 38; exact Calls.regrown_of (HSK.out _ _))))
      refine wpQuiet_nil ?_
      intro _ hw'
      obtain ⟨⟨dq, osq⟩, hw''⟩ := hw'
      subst hw''
      clear a0 a1 a2 a3 a4 a5 a6 e0 e1 e2 e3 e4 e5 e6 x5 y5
      go_wp2
      go_roundg (L - (k + 1))
      case measure => omega
      case rel => exact ⟨k + 1, by omega, Nat.le_refl _, by go_num, below_step HB.out (below_regrown _ _ _)⟩
    · have : k = L := by omega
      subst this
      have hkl : ¬ (k : Int) < (k : Int) := by omega
      go_wp2
      go_ret
      exact ⟨rfl, HBB.out⟩
end Go.Proofs.Ytedlmngfkkpmgaa
