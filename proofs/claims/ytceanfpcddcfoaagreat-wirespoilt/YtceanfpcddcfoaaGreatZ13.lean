/-
  Several texts of one proof, joined: each part says at its head what it proves. No conditions beyond what each theorem states.
-/
import Derived.Test.YtceanfpcddcfoaaGreatZ10
import Derived.Test.YtceanfpcddcfoaaGreatZ12
import Derived.Test.YtceanfpcddcfoaaGreatZ09
/-
  What the laws' own copyistmade.Small, SameOp and SameTxn tell (the two of one thing twice). No conditions beyond what each theorem states.
-/
namespace Go.Proofs.YtceanfpcddcfoaaGreat
open Go.ChangeShapes Go.WideShapes Go.ChangeAt Go.RowKit Go.Lib
set_option linter.unusedVariables false
set_option linter.unusedSimpArgs false

def smallO (o : Om) : Bool := decide (o.text.length ≤ 300) && decide (o.spans.length ≤ 60)
def smallT (t : Tm) : Bool := decide (t.ops.length ≤ 40) && t.ops.all smallO
theorem smallT_x {t : Tm} {xs : List OV} (h : t.ops = xs.map (·.1)) (hs : smallT t = true) : SmallP xs ∧ xs.length ≤ 40 := by
  unfold smallT at hs
  rw [Bool.and_eq_true, h, List.length_map] at hs
  refine ⟨fun x hx => ?_, of_decide_eq_true hs.1⟩
  have := List.all_eq_true.1 hs.2 x.1 (List.mem_map.2 ⟨x, hx, rfl⟩)
  unfold smallO at this
  rw [Bool.and_eq_true] at this
  exact ⟨of_decide_eq_true this.1, of_decide_eq_true this.2⟩
set_option maxHeartbeats 3200000 in
set_option maxRecDepth 20000 in
theorem msmall_any (t : Tm) (xs : List OV) (p : Option Addr) (c : Nat) (w : World) (H : InT t xs p c w) (hl : t.ops.length ≤ 9223372036854775807) (hq : ∀ x ∈ xs, x.1.text.length ≤ 9223372036854775807 ∧ x.1.spans.length ≤ 9223372036854775807) :
    Calls Tryz.prog 27 #[tv t p c] w fun e w' => e = .returned (.bool (smallT t)) ∧ Below w.heap.size w w' := by
  have hlen : t.ops.length = xs.length := by rw [H.ops, List.length_map]
  have HR := Lib.hid H.row.row
  have HTV : Hid (∀ p c, tv t p c = .agg #[.int .u16 t.r, .int .u32 t.seq, .int .u64 t.clock, .int .i64 t.user, .slice p xs.length c]) := fun p c => by unfold tv; rw [hlen]
  have HQ : Hid (∀ k, k < xs.length → (xs.getD k ov0).1.text.length ≤ 9223372036854775807 ∧ (xs.getD k ov0).1.spans.length ≤ 9223372036854775807) := fun k hk => hq _ (getD_mem ov0 hk)
  have HS : Hid (smallT t = (decide (xs.length ≤ 40) && (xs.map (·.1)).all smallO)) := by show _ = _; unfold smallT; rw [hlen, H.ops]
  have HALL : Hid (∀ k, k < xs.length → ((xs.take (k + 1)).map (·.1)).all smallO = (((xs.take k).map (·.1)).all smallO && smallO (xs.getD k ov0).1)) := fun k hk => by rw [take_getD ov0 hk, List.map_append, List.all_append]; simp
  have HNO : Hid (∀ k, k < xs.length → smallO (xs.getD k ov0).1 = false → (xs.map (·.1)).all smallO = false) := fun k hk h => by
    rw [List.all_eq_false]
    exact ⟨_, List.mem_map.2 ⟨_, getD_mem ov0 hk, rfl⟩, by rw [h]; simp⟩
  clear H hq
  rw [HTV.out]
  generalize smallT t = S at HS ⊢
  rw [hlen] at hl
  have HX := Lib.hid (heap_alloc_new w (.cells #[.int .u16 t.r, .int .u32 t.seq, .int .u64 t.clock, .int .i64 t.user, .slice p xs.length c] 29))
  by_cases g : xs.length ≤ 40
  · have g' : ¬ (40 : Int) < (xs.length : Int) := by omega
    have HS2 : Hid (S = (xs.map (·.1)).all smallO) := by show _ = _; rw [HS.out, decide_eq_true g, Bool.true_and]
    clear HS
    go_enter Tryz.func27, Tryz.ntmps27
    go_wp2
    go_loopg [12] xs.length (fun g i wr => ∃ k : Nat, k ≤ xs.length ∧ xs.length - k ≤ g ∧ i = .int .i64 (k : Int) ∧ ((xs.take k).map (·.1)).all smallO = true ∧ Below w.heap.size w wr)
    case atStart => exact ⟨0, Nat.zero_le _, by omega, rfl, rfl, below_alloc (Below.refl _ _) _⟩
    case round =>
      obtain ⟨k, hk, hg, rfl, ha, hB⟩ := hrel
      have HA := Lib.hid ha
      have HB := Lib.hid hB
      clear ha hB
      by_cases hlt : k < xs.length
      · have hkl : (k : Int) < (xs.length : Int) := by omega
        have HAK := Lib.hid (HALL.out k hlt)
        rw [HA.out, Bool.true_and] at HAK
        have HNK := Lib.hid (HNO.out k hlt)
        have hqk := HQ.out k hlt
        obtain ⟨b, o, rfl, c0, c1, c2, c3, c4, c5, c6⟩ := orow_at (HR.out.below HB.out) hlt
        generalize xs.getD k ov0 = x at c0 c1 c2 c3 c4 c5 c6 HAK HNK hqk
        obtain ⟨om, px, cx⟩ := x
        simp only at c0 c1 c2 c3 c4 c5 c6 HAK HNK hqk
        have hbt : (⟨om.text.toArray⟩ : ByteArray).size = om.text.length := rfl
        have HSO : Hid (smallO om = (decide (om.text.length ≤ 300) && decide (om.spans.length ≤ 60))) := rfl
        generalize (⟨om.text.toArray⟩ : ByteArray) = bt at c4 hbt
        by_cases t1 : om.text.length ≤ 300
        · have t1' : ¬ (300 : Int) < (bt.size : Int) := by omega
          by_cases s1 : om.spans.length ≤ 60
          · have s1' : ¬ (60 : Int) < (om.spans.length : Int) := by omega
            have HY : Hid (((xs.take (k + 1)).map (·.1)).all smallO = true) := by show _ = _; rw [HAK.out, HSO.out, decide_eq_true t1, decide_eq_true s1]; rfl
            go_wp2
            go_roundg (xs.length - (k + 1))
            case measure => omega
            case rel => exact ⟨k + 1, by omega, Nat.le_refl _, by go_num, HY.out, below_alloc HB.out _⟩
          · have s1' : (60 : Int) < (om.spans.length : Int) := by omega
            have HE : Hid (S = false) := by show _ = _; rw [HS2.out]; exact HNK.out (by rw [HSO.out, decide_eq_false s1, Bool.and_false])
            go_wp2
            go_ret
            exact ⟨by rw [HE.out]; rfl, below_alloc HB.out _⟩
        · have t1' : (300 : Int) < (bt.size : Int) := by omega
          have HE : Hid (S = false) := by show _ = _; rw [HS2.out]; exact HNK.out (by rw [HSO.out, decide_eq_false t1, Bool.false_and])
          go_wp2
          go_ret
          exact ⟨by rw [HE.out]; rfl, below_alloc HB.out _⟩
      · have : k = xs.length := by omega
        subst this
        have hkl : ¬ (xs.length : Int) < (xs.length : Int) := by omega
        have HE : Hid (S = true) := by show _ = _; rw [HS2.out]; have := HA.out; rwa [List.take_length] at this
        go_wp2
        go_ret
        exact ⟨by rw [HE.out]; rfl, HB.out⟩
  · have g' : (40 : Int) < (xs.length : Int) := by omega
    have HE : Hid (S = false) := by show _ = _; rw [HS.out, decide_eq_false g, Bool.false_and]
    go_enter Tryz.func27, Tryz.ntmps27
    go_wp2
    go_ret
    exact ⟨by rw [HE.out]; rfl, below_alloc (Below.refl _ _) _⟩

set_option maxHeartbeats 6400000 in
set_option maxRecDepth 20000 in
theorem msameop_yes (o : Om) (p q : Option Addr) (c d : Nat) (w : World) (hR : GRow layS w p o.spans) (hS : GRow layS w q o.spans) (hl : o.spans.length ≤ 8796093021952) :
    Calls Tryz.prog 79 #[ov o p c, ov o q d] w fun e w' => e = .returned (.bool true) ∧ Below w.heap.size w w' := by
  have HR := Lib.hid hR
  have HS := Lib.hid hS
  obtain ⟨kind, r, n, num, text, spans, seq⟩ := o
  have HOV : Hid (∀ p c, ov ⟨kind, r, n, num, text, spans, seq⟩ p c = .agg #[.int .i64 kind, .int .u16 r, .int .u32 n, .int .u32 num, .string ⟨text.toArray⟩, .slice p spans.length c, .int .u32 seq]) := fun p c => rfl
  simp only [HOV.out] at HR HS hl ⊢
  clear hR hS HOV
  generalize (⟨text.toArray⟩ : ByteArray) = bt
  have H1 := Lib.hid (heap_alloc2_old w (.cells #[.int .i64 kind, .int .u16 r, .int .u32 n, .int .u32 num, .string bt, .slice p spans.length c, .int .u32 seq] 71) (.cells #[.int .i64 kind, .int .u16 r, .int .u32 n, .int .u32 num, .string bt, .slice q spans.length d, .int .u32 seq] 71))
  have H2 := Lib.hid (heap_alloc2_new w (.cells #[.int .i64 kind, .int .u16 r, .int .u32 n, .int .u32 num, .string bt, .slice p spans.length c, .int .u32 seq] 71) (.cells #[.int .i64 kind, .int .u16 r, .int .u32 n, .int .u32 num, .string bt, .slice q spans.length d, .int .u32 seq] 71))
  go_enter Tryz.func79, Tryz.ntmps79
  go_wp2_with fail
  have HRW : Hid (GRow layS ((w.alloc (.cells #[.int .i64 kind, .int .u16 r, .int .u32 n, .int .u32 num, .string bt, .slice p spans.length c, .int .u32 seq] 71)).alloc (.cells #[.int .i64 kind, .int .u16 r, .int .u32 n, .int .u32 num, .string bt, .slice q spans.length d, .int .u32 seq] 71)) p spans) := (HR.out.alloc _).alloc _
  have HSW : Hid (GRow layS ((w.alloc (.cells #[.int .i64 kind, .int .u16 r, .int .u32 n, .int .u32 num, .string bt, .slice p spans.length c, .int .u32 seq] 71)).alloc (.cells #[.int .i64 kind, .int .u16 r, .int .u32 n, .int .u32 num, .string bt, .slice q spans.length d, .int .u32 seq] 71)) q spans) := (HS.out.alloc _).alloc _
  have HBW : Hid (Below w.heap.size w ((w.alloc (.cells #[.int .i64 kind, .int .u16 r, .int .u32 n, .int .u32 num, .string bt, .slice p spans.length c, .int .u32 seq] 71)).alloc (.cells #[.int .i64 kind, .int .u16 r, .int .u32 n, .int .u32 num, .string bt, .slice q spans.length d, .int .u32 seq] 71))) := below_alloc (below_alloc (Below.refl _ _) _) _
  generalize (w.alloc (.cells #[.int .i64 kind, .int .u16 r, .int .u32 n, .int .u32 num, .string bt, .slice p spans.length c, .int .u32 seq] 71)).alloc (.cells #[.int .i64 kind, .int .u16 r, .int .u32 n, .int .u32 num, .string bt, .slice q spans.length d, .int .u32 seq] 71) = W at H1 H2 HRW HSW HBW ⊢
  clear HR HS
  go_loopg [51] spans.length (fun g i wr => ∃ k : Nat, k ≤ spans.length ∧ spans.length - k ≤ g ∧ i = .int .i64 (k : Int) ∧ Below W.heap.size W wr)
  case atStart => exact ⟨0, Nat.zero_le _, by omega, rfl, Below.refl _ _⟩
  case round =>
    obtain ⟨k, hk, hg, rfl, hB⟩ := hrel
    have HB := Lib.hid hB
    clear hB
    by_cases hlt : k < spans.length
    · have hkl : (k : Int) < (spans.length : Int) := by omega
      have hk0 : (0 : Int) ≤ (k : Int) := by omega
      obtain ⟨b1, o1, rfl, a0, a1, a2⟩ := srow_at (HRW.out.below HB.out) hlt
      obtain ⟨b2, o2, rfl, e0, e1, e2⟩ := srow_at (HSW.out.below HB.out) hlt
      have x5 := (seven_cells (kept_box H1.out HB.out)).2.2.2.2.2.1
      have y5 := (seven_cells (kept_box H2.out HB.out)).2.2.2.2.2.1
      generalize spans.getD k s0 = s at a0 a1 a2 e0 e1 e2
      obtain ⟨r', n', m'⟩ := s
      simp only at a0 a1 a2 e0 e1 e2
      go_wp2_with fail
      go_quiet (fail)
      go_wp2
      go_roundg (spans.length - (k + 1))
      case measure => omega
      case rel => exact ⟨k + 1, by omega, Nat.le_refl _, by go_num, below_drewN HB.out _⟩
    · have : k = spans.length := by omega
      subst this
      have hkl : ¬ (spans.length : Int) < (spans.length : Int) := by omega
      go_wp2
      go_ret
      exact ⟨rfl, below_step HBW.out HB.out⟩

set_option maxHeartbeats 6400000 in
set_option maxRecDepth 20000 in
theorem msametxn_yes (t : Tm) (xs ys : List OV) (p q : Option Addr) (c d : Nat) (w : World) (H : RowT t xs p c w) (Gops : t.ops = ys.map (·.1)) (Grow : GRow layO w q ys) (Geach : ∀ y ∈ ys, GRow layS w y.2.1 y.1.spans) (hl : t.ops.length ≤ 9223372036854775807) (hs : ∀ x ∈ xs, x.1.spans.length ≤ 8796093021952) :
    Calls Tryz.prog 47 #[tv t p c, tv t q d] w fun e w' => e = .returned (.bool true) ∧ Below w.heap.size w w' := by
  have hx : xs.length = t.ops.length := by rw [H.ops, List.length_map]
  have hy : ys.length = t.ops.length := by rw [Gops, List.length_map]
  have HEQ : Hid (∀ k, k < t.ops.length → (ys.getD k ov0).1 = (xs.getD k ov0).1) := fun k hk => by rw [← getD_map1 xs (by omega), ← getD_map1 ys (by omega), ← H.ops, ← Gops]
  have HSO : Hid (∀ k, k < t.ops.length → ∀ W, Below w.heap.size w W → Calls Tryz.prog 79 #[ov (xs.getD k ov0).1 (xs.getD k ov0).2.1 (xs.getD k ov0).2.2, ov (ys.getD k ov0).1 (ys.getD k ov0).2.1 (ys.getD k ov0).2.2] W fun e w' => e = .returned (.bool true) ∧ Below W.heap.size W w') := fun k hk W hb => by
    have h1 := (H.at (k := k) (by omega)).1.below hb
    have h2 := (Geach _ (getD_mem ov0 (i := k) (by omega))).below hb
    rw [HEQ.out k hk] at h2 ⊢
    exact msameop_yes _ _ _ _ _ W h1 h2 (hs _ (getD_mem ov0 (by omega)))
  have HR := Lib.hid H.row
  have HS := Lib.hid Grow
  clear H Gops Grow Geach HEQ
  unfold tv
  generalize t.ops.length = L at hl hx hy HSO ⊢
  obtain ⟨r, seq, clock, user, ops⟩ := t
  simp only
  have H1 := Lib.hid (heap_alloc2_old w (.cells #[.int .u16 r, .int .u32 seq, .int .u64 clock, .int .i64 user, .slice p L c] 37) (.cells #[.int .u16 r, .int .u32 seq, .int .u64 clock, .int .i64 user, .slice q L d] 37))
  have H2 := Lib.hid (heap_alloc2_new w (.cells #[.int .u16 r, .int .u32 seq, .int .u64 clock, .int .i64 user, .slice p L c] 37) (.cells #[.int .u16 r, .int .u32 seq, .int .u64 clock, .int .i64 user, .slice q L d] 37))
  go_enter Tryz.func47, Tryz.ntmps47
  go_wp2_with fail
  have HBW : Hid (Below w.heap.size w ((w.alloc (.cells #[.int .u16 r, .int .u32 seq, .int .u64 clock, .int .i64 user, .slice p L c] 37)).alloc (.cells #[.int .u16 r, .int .u32 seq, .int .u64 clock, .int .i64 user, .slice q L d] 37))) := below_alloc (below_alloc (Below.refl _ _) _) _
  generalize (w.alloc (.cells #[.int .u16 r, .int .u32 seq, .int .u64 clock, .int .i64 user, .slice p L c] 37)).alloc (.cells #[.int .u16 r, .int .u32 seq, .int .u64 clock, .int .i64 user, .slice q L d] 37) = W at H1 H2 HBW ⊢
  go_loopg [44] L (fun g i wr => ∃ k : Nat, k ≤ L ∧ L - k ≤ g ∧ i = .int .i64 (k : Int) ∧ Below W.heap.size W wr)
  case atStart => exact ⟨0, Nat.zero_le _, by omega, rfl, Below.refl _ _⟩
  case round =>
    obtain ⟨k, hk, hg, rfl, hB⟩ := hrel
    have HB := Lib.hid hB
    have HBB : Hid (Below w.heap.size w wr) := below_step HBW.out HB.out
    clear hB
    by_cases hlt : k < L
    · have hkl : (k : Int) < (L : Int) := by omega
      have hk0 : (0 : Int) ≤ (k : Int) := by omega
      have HSK : Hid (∀ dd os, Calls Tryz.prog 79 #[ov (xs.getD k ov0).1 (xs.getD k ov0).2.1 (xs.getD k ov0).2.2, ov (ys.getD k ov0).1 (ys.getD k ov0).2.1 (ys.getD k ov0).2.2] (Go.Sort.grow (redrawn wr dd) os) fun e w' => e = .returned (.bool true) ∧ Below (Go.Sort.grow (redrawn wr dd) os).heap.size (Go.Sort.grow (redrawn wr dd) os) w') := fun dd os => HSO.out k hlt _ (below_step HBB.out (below_regrown _ _ _))
      obtain ⟨b1, o1, rfl, a0', a1', a2', a3', a4', a5', a6'⟩ := orow_at (HR.out.below HBB.out) (by omega : k < xs.length)
      obtain ⟨b2, o2, rfl, e0', e1', e2', e3', e4', e5', e6'⟩ := orow_at (HS.out.below HBB.out) (by omega : k < ys.length)
      have x5' := (five_cells (kept_box H1.out HB.out)).2.2.2.2
      have y5' := (five_cells (kept_box H2.out HB.out)).2.2.2.2
      have a0 := cell_regrown a0'
      have a1 := cell_regrown a1'
      have a2 := cell_regrown a2'
      have a3 := cell_regrown a3'
      have a4 := cell_regrown a4'
      have a5 := cell_regrown a5'
      have a6 := cell_regrown a6'
      have e0 := cell_regrown e0'
      have e1 := cell_regrown e1'
      have e2 := cell_regrown e2'
      have e3 := cell_regrown e3'
      have e4 := cell_regrown e4'
      have e5 := cell_regrown e5'
      have e6 := cell_regrown e6'
      have x5 := cell_regrown x5'
      have y5 := cell_regrown y5'
      clear a0' a1' a2' a3' a4' a5' a6' e0' e1' e2' e3' e4' e5' e6' x5' y5'
      generalize xs.getD k ov0 = x at a0 a1 a2 a3 a4 a5 a6 HSK
      generalize ys.getD k ov0 = y at e0 e1 e2 e3 e4 e5 e6 HSK
      obtain ⟨ox, px, cx⟩ := x
      obtain ⟨oy, py, cy⟩ := y
      unfold ov at HSK
      simp only at a0 a1 a2 a3 a4 a5 a6 e0 e1 e2 e3 e4 e5 e6 HSK
      generalize (⟨ox.text.toArray⟩ : ByteArray) = btx at a4 HSK
      generalize (⟨oy.text.toArray⟩ : ByteArray) = bty at e4 HSK
      go_wp2_with fail
      refine wp_region_quiet_below (by kernel_rfl) (by kernel_rfl) ?_
      repeat (first | go_big_quiet_step ((go_at_call 79; exact Calls.regrown_of (HSK.out _ _))) | quiet_step ((go_at_call 79; exact Calls.regrown_of (HSK.out _ _))))
      refine wpQuiet_nil ?_
      intro _ hw'
      obtain ⟨⟨dq, osq⟩, hw''⟩ := hw'
      subst hw''
      clear a0 a1 a2 a3 a4 a5 a6 e0 e1 e2 e3 e4 e5 e6 x5 y5
      go_wp2
      go_roundg (L - (k + 1))
      case measure => omega
      case rel => exact ⟨k + 1, by omega, Nat.le_refl _, by go_num, below_step HB.out (below_regrown _ _ _)⟩
    · have : k = L := by omega
      subst this
      have hkl : ¬ (k : Int) < (k : Int) := by omega
      go_wp2
      go_ret
      exact ⟨rfl, HBB.out⟩
end Go.Proofs.YtceanfpcddcfoaaGreat
/-
  What the laws' own deps, ref and small of layer 10 hand back. No conditions beyond what each theorem states.
-/
namespace Go.Proofs.YtceanfpcddcfoaaGreat
open Go.ChangeShapes Go.WideShapes Go.ChangeAt Go.RowKit Go.Lib
set_option linter.unusedVariables false
set_option linter.unusedSimpArgs false

/-- Entries in new memory of the call's own. -/
def MadeD (xs : List Vec.En) (w : World) (e : Ending) (w' : World) : Prop := ∃ p c, e = .returned (.slice p xs.length c) ∧ Vec.Row w' p xs ∧ KindAt 101 w' p ∧ Below w.heap.size w w'
set_option maxHeartbeats 1600000 in
set_option maxRecDepth 20000 in
theorem depsL_any (xs : List Vec.En) (p : Option Addr) (c : Nat) (w : World) (hR : Vec.Row w p xs) (hl : xs.length ≤ 17592186043904) :
    Calls Tryz.prog 17 #[.slice p xs.length c] w (MadeD xs w) := by
  have HR := Lib.hid hR
  clear hR
  obtain ⟨i0, hi, hz0, hz1, hz2⟩ := info_parts infoE2
  unfold MadeD
  go_enter Tryz.func17, Tryz.ntmps17
  go_wp2
  go_loopg [3, 8] xs.length (fun g v i wr => ∃ k : Nat, k ≤ xs.length ∧ xs.length - k ≤ g ∧ i = .int .i64 k ∧ Hold layV w 101 v (xs.take k) wr)
  case atStart => exact ⟨0, Nat.zero_le _, by omega, rfl, Hold.nil _ _ _⟩
  case round =>
    obtain ⟨k, hk, hg, rfl, hH⟩ := hrel
    have HH := Lib.hid hH
    clear hH
    by_cases hlt : k < xs.length
    · obtain ⟨b, o, rfl, c0', c1'⟩ := HR.out k hlt
      have c0 := cellU c0' HH.out.2
      have c1 := cellU c1' HH.out.2
      have HNX : Hid (xs.take (k + 1) = xs.take k ++ [Vec.atL xs k]) := Vec.take_atL xs k hlt
      have HTL : Hid ((xs.take k).length = k) := by show _ = _; rw [List.length_take]; omega
      clear c0' c1'
      generalize Vec.atL xs k = s at c0 c1 HNX
      obtain ⟨x, y⟩ := s
      simp only at c0 c1 HNX
      generalize xs.take k = ys at HH HNX HTL
      have hyl : ys.length ≤ 17592186043904 := by rw [HTL.out]; omega
      go_wp2_with (first
        | (at_builtin; refine wpList_append_own _ rfl (.tmp 12) (.tmp 14) 34 rfl w.heap.size 101 i0 (.agg #[.int .u16 0, .int .u32 0]) 2 8 Tryz.underlying34 hi hz0 hz1 hz2 rfl (by decide) _ ys.length (layV.flat ys) rfl ((HH.out.alloc _).alloc _).1 ⟨wr.heap.size + 1, 0, none⟩ 1 1 [.int .u16 x, .int .u32 y] rfl rfl (Vec.cells_pair 101 (by simp) (by simp)) (layV.one (x, y)) (by unfold maxLen; omega) (by omega) (by have := HH.out.2.size; simp; omega) ?_))
      intro v' w7 hown hgrow _
      have HH7 : Hid (Hold layV w 101 v' (ys ++ [(x, y)]) w7) := ((HH.out.alloc _).alloc _).onto (ys := [(x, y)]) (by rw [layV.flat_one]; rfl) (by simp) hown hgrow
      clear hown hgrow HH
      go_wp2
      go_roundg (xs.length - (k + 1))
      case measure => omega
      case rel => exact ⟨k + 1, by omega, Nat.le_refl _, by go_num, by rw [HNX.out]; exact HH7.out⟩
    · have : k = xs.length := by omega
      subst this
      rw [List.take_length] at HH
      obtain ⟨p', c', rfl, hG, -, -⟩ := HH.out.gave layV_pos
      have HG := Lib.hid (vrow hG)
      clear hG
      go_wp2
      go_ret
      exact ⟨p', c', rfl, HG.out, kind_owns HH.out.1, HH.out.2⟩

/-- Few entries, and a small transaction. -/
def smallE (e : Em) : Bool := decide (e.deps.length ≤ 100) && smallT e.txn
set_option maxHeartbeats 1600000 in
set_option maxRecDepth 20000 in
theorem smallE_any (e : Em) (xs : List OV) (p q : Option Addr) (c d : Nat) (w : World) (H : InT e.txn xs q d w) (hl : e.txn.ops.length ≤ 9223372036854775807) (hq : ∀ x ∈ xs, x.1.text.length ≤ 9223372036854775807 ∧ x.1.spans.length ≤ 9223372036854775807) :
    Calls Tryz.prog 8 #[ev e p c q d] w fun r w' => r = .returned (.bool (smallE e)) ∧ Below w.heap.size w w' := by
  have H1 : Hid (∀ W, Below w.heap.size w W → Calls Tryz.prog 27 #[.agg #[.int .u16 e.txn.r, .int .u32 e.txn.seq, .int .u64 e.txn.clock, .int .i64 e.txn.user, .slice q e.txn.ops.length d]] W fun r w' => r = .returned (.bool (smallT e.txn)) ∧ Below W.heap.size W w') := fun W hb => msmall_any e.txn xs q d W (H.below hb) hl hq
  have HS : Hid (smallE e = (decide (e.deps.length ≤ 100) && smallT e.txn)) := rfl
  clear H hl hq
  obtain ⟨deps, ⟨r, seq, clock, user, ops⟩⟩ := e
  unfold ev
  simp only at *
  generalize smallE (⟨deps, ⟨r, seq, clock, user, ops⟩⟩ : Em) = S at HS ⊢
  generalize smallT (⟨r, seq, clock, user, ops⟩ : Tm) = T at H1 HS
  generalize ops.length = TL at H1 ⊢
  generalize deps.length = L at HS ⊢
  have HX := Lib.hid (heap_alloc_new w (.cells #[.slice p L c, .int .u16 r, .int .u32 seq, .int .u64 clock, .int .i64 user, .slice q TL d] 31))
  have HB0 : Hid (Below w.heap.size w (w.alloc (.cells #[.slice p L c, .int .u16 r, .int .u32 seq, .int .u64 clock, .int .i64 user, .slice q TL d] 31))) := below_alloc (Below.refl _ _) _
  obtain ⟨x0, x1, x2, x3, x4, x5⟩ := six_cells HX.out
  by_cases h : L ≤ 100
  · have h' : (L : Int) ≤ 100 := by omega
    have HS2 : Hid (S = T) := by show _ = _; rw [HS.out, decide_eq_true h, Bool.true_and]
    clear HS
    go_enter Tryz.func8, Tryz.ntmps8
    go_wp2_with fail
    refine (H1.out _ HB0.out).mono ?_
    rintro e w1 ⟨rfl, hb1⟩
    have HB1 : Hid (Below w.heap.size w w1) := below_step HB0.out hb1
    clear hb1
    go_wp2
    go_ret
    exact ⟨by rw [HS2.out]; rfl, HB1.out⟩
  · have h' : ¬ (L : Int) ≤ 100 := by omega
    have HS2 : Hid (S = false) := by show _ = _; rw [HS.out, decide_eq_false h, Bool.false_and]
    clear HS
    go_enter Tryz.func8, Tryz.ntmps8
    go_wp2
    go_ret
    exact ⟨by rw [HS2.out]; rfl, HB0.out⟩

theorem RowT.only {w w' : World} {t : Tm} {us : List OV} {p : Option Addr} {cp X m m2 : Nat} {k k2 : Nat} {pv qv : Option Addr} {a b c d : Int} {ty : TypeId} (h : RowT t us p cp w) (hX : w.heap[X]? = some (.cells #[.slice pv m k, .int .u16 a, .int .u32 b, .int .u64 c, .int .i64 d, .slice qv m2 k2] ty (0, 0))) (ho : Only X w w') : RowT t us p cp w' :=
  ⟨h.ops, grow_apartO h.row hX ho, fun x hx => ⟨grow_apartS (h.each x hx).1 hX ho, (h.each x hx).2⟩, h.cap, h.nil⟩
/-- An envelope as the document has it, made by the law. -/
def MadeE (e : Em) (w : World) (r : Ending) (w' : World) : Prop := ∃ ys p c q d, r = .returned (ev e p c q d) ∧ Vec.Row w' p e.deps ∧ KindAt 101 w' p ∧ RowT e.txn ys q d w' ∧ Below w.heap.size w w'
set_option maxHeartbeats 6400000 in
set_option maxRecDepth 20000 in
theorem refE_any (e : Em) (xs : List OV) (p q : Option Addr) (c d : Nat) (w : World) (hR : Vec.Row w p e.deps) (hm : e.deps.length ≤ 17592186043904) (H : RowT e.txn xs q d w) (hl : e.txn.ops.length ≤ 1954687338211) (hs : ∀ x ∈ xs, x.1.spans.length ≤ 8796093021952) :
    Calls Tryz.prog 9 #[ev e p c q d] w (MadeE e w) := by
  have H1 : Hid (∀ W, Below w.heap.size w W → Calls Tryz.prog 17 #[.slice p e.deps.length c] W (MadeD e.deps W)) := fun W hb => depsL_any e.deps p c W (hR.below hb) hm
  have H2 : Hid (∀ W, Below w.heap.size w W → Calls Tryz.prog 28 #[.agg #[.int .u16 e.txn.r, .int .u32 e.txn.seq, .int .u64 e.txn.clock, .int .i64 e.txn.user, .slice q e.txn.ops.length d]] W (MadeT e.txn W)) := fun W hb => mtxn_any e.txn xs q d W (H.below hb) hl hs
  clear hR H hl hs
  unfold MadeT tv at H2
  unfold MadeD at H1
  unfold MadeE ev
  obtain ⟨deps, t⟩ := e
  simp only at *
  generalize hLL : deps.length = L at H1 hm ⊢
  clear hLL
  have HX1 := Lib.hid (heap_alloc2_old w (.cells #[.slice p L c, .int .u16 t.r, .int .u32 t.seq, .int .u64 t.clock, .int .i64 t.user, .slice q t.ops.length d] 31) (.cells #[.slice none 0 0, .int .u16 0, .int .u32 0, .int .u64 0, .int .i64 0, .slice none 0 0] 39))
  have HX2 := Lib.hid (heap_alloc2_new w (.cells #[.slice p L c, .int .u16 t.r, .int .u32 t.seq, .int .u64 t.clock, .int .i64 t.user, .slice q t.ops.length d] 31) (.cells #[.slice none 0 0, .int .u16 0, .int .u32 0, .int .u64 0, .int .i64 0, .slice none 0 0] 39))
  have HB0 : Hid (Below w.heap.size w ((w.alloc (.cells #[.slice p L c, .int .u16 t.r, .int .u32 t.seq, .int .u64 t.clock, .int .i64 t.user, .slice q t.ops.length d] 31)).alloc (.cells #[.slice none 0 0, .int .u16 0, .int .u32 0, .int .u64 0, .int .i64 0, .slice none 0 0] 39))) := below_alloc (below_alloc (Below.refl _ _) _) _
  go_enter Tryz.func9, Tryz.ntmps9
  go_wp2_with fail
  generalize ((w.alloc (.cells #[.slice p L c, .int .u16 t.r, .int .u32 t.seq, .int .u64 t.clock, .int .i64 t.user, .slice q t.ops.length d] 31)).alloc (.cells #[.slice none 0 0, .int .u16 0, .int .u32 0, .int .u64 0, .int .i64 0, .slice none 0 0] 39)) = w0 at HX1 HX2 HB0 ⊢
  have HC : Hid (∀ W, Below w0.heap.size w0 W → _) := fun W hb => six_cells (kept_box HX1.out hb)
  have HD : Hid (∀ W, Below w0.heap.size w0 W → W.heap[w.heap.size + 1]? = some (.cells #[.slice none 0 0, .int .u16 0, .int .u32 0, .int .u64 0, .int .i64 0, .slice none 0 0] 39 (0, 0))) := fun W hb => kept_box HX2.out hb
  have L0 : Below w0.heap.size w0 w0.drew := (Below.refl _ _).drew
  obtain ⟨x0, x1, x2, x3, x4, x5⟩ := HC.out _ L0
  go_region_with (first
    | (go_at_call 17; refine (H1.out _ (by first | exact below_step HB0.out L0 | exact below_step HB0.out T1)).mono ?_; rintro e w3 ⟨p3, c3, rfl, hv3, hk3, hb3⟩
       have D1 := (by first | exact below_step T1 hb3 | exact below_step L0 hb3 : Below w0.heap.size w0 w3)
       obtain ⟨y0, y1, y2, y3, y4, y5⟩ := HC.out _ D1
       obtain ⟨r0, r1, r2, r3, r4, r5⟩ := six_cells (HD.out _ D1)
       have fD := fun o => frozen_of_block (o := o) (HD.out _ D1))
    | (go_at_call 28; refine (H2.out _ (by first | exact below_step HB0.out D1 | exact below_step HB0.out L0)).mono ?_; rintro e w4 ⟨us, p4, c4, rfl, hT4, hb4⟩
       have T1 := (by first | exact below_step D1 hb4 | exact below_step L0 hb4 : Below w0.heap.size w0 w4)
       obtain ⟨z0, z1, z2, z3, z4, z5⟩ := HC.out _ T1
       obtain ⟨s0, s1, s2, s3, s4, s5⟩ := six_cells (HD.out _ T1)
       have fT := fun o => frozen_of_block (o := o) (HD.out _ T1)))
  all_goals first
    | (have hX := HD.out _ T1
       have hv := hv3.below hb4
       have hk := hk3.below hb4
       have hT := hT4
       have hB := below_step HB0.out T1
       have HXX := Lib.hid hX
       have HVV := Lib.hid hv
       have HKK := Lib.hid hk
       have HTT := Lib.hid hT
       have HBB := Lib.hid hB
       clear hX hv hk hT hB
       go_wp2
       (try simp only [Exit.inBlock, Exit.then])
       have hS := only_six w4 (w.heap.size + 1) (.slice p3 L c3) (.int .u16 t.r) (.int .u32 t.seq) (.int .u64 t.clock) (.int .i64 t.user) (.slice p4 t.ops.length c4)
       have hap := HKK.out.apart (by decide) HXX.out
       refine bodyPost_ret (results_cell_row rfl _ _ (w.heap.size + 1) 39 #[.slice p3 L c3, .int .u16 t.r, .int .u32 t.seq, .int .u64 t.clock, .int .i64 t.user, .slice p4 t.ops.length c4] (0, 0) _ rfl (box_six HXX.out) Tryz.underlying39 rfl szE) rfl ?_
       exact ⟨us, p3, c3, p4, c4, rfl, vrow_kept HVV.out hS hap, HKK.out.kept hS hap, HTT.out.only HXX.out hS, HBB.out.trans (hS.below HBB.out.size (fun i ei => by have ei : i = w.heap.size + 1 := ei; omega))⟩)
    | (have hX := HD.out _ D1
       have hv := hv3
       have hk := hk3
       have hT := hT4.below hb3
       have hB := below_step HB0.out D1
       have HXX := Lib.hid hX
       have HVV := Lib.hid hv
       have HKK := Lib.hid hk
       have HTT := Lib.hid hT
       have HBB := Lib.hid hB
       clear hX hv hk hT hB
       go_wp2
       (try simp only [Exit.inBlock, Exit.then])
       have hS := only_six w3 (w.heap.size + 1) (.slice p3 L c3) (.int .u16 t.r) (.int .u32 t.seq) (.int .u64 t.clock) (.int .i64 t.user) (.slice p4 t.ops.length c4)
       have hap := HKK.out.apart (by decide) HXX.out
       refine bodyPost_ret (results_cell_row rfl _ _ (w.heap.size + 1) 39 #[.slice p3 L c3, .int .u16 t.r, .int .u32 t.seq, .int .u64 t.clock, .int .i64 t.user, .slice p4 t.ops.length c4] (0, 0) _ rfl (box_six HXX.out) Tryz.underlying39 rfl szE) rfl ?_
       exact ⟨us, p3, c3, p4, c4, rfl, vrow_kept HVV.out hS hap, HKK.out.kept hS hap, HTT.out.only HXX.out hS, HBB.out.trans (hS.below HBB.out.size (fun i ei => by have ei : i = w.heap.size + 1 := ei; omega))⟩)
end Go.Proofs.YtceanfpcddcfoaaGreat
/-
  What the laws' own same of layer 10 tells, of one envelope twice. No conditions beyond what each theorem states.
-/
namespace Go.Proofs.YtceanfpcddcfoaaGreat
open Go.ChangeShapes Go.WideShapes Go.ChangeAt Go.RowKit Go.Lib
set_option linter.unusedVariables false
set_option linter.unusedSimpArgs false

set_option maxHeartbeats 6400000 in
set_option maxRecDepth 20000 in
theorem sameE_yes (e : Em) (xs ys : List OV) (p p2 q q2 : Option Addr) (c c2 d d2 : Nat) (w : World) (hR : Vec.Row w p e.deps) (hR2 : Vec.Row w p2 e.deps) (hm : e.deps.length ≤ 17592186043904) (H : RowT e.txn xs q d w) (G : LieT e.txn ys q2 w) (hl : e.txn.ops.length ≤ 1954687338211) (hs : ∀ x ∈ xs, x.1.spans.length ≤ 8796093021952) :
    Calls Tryz.prog 15 #[ev e p c q d, ev e p2 c2 q2 d2] w fun r w' => r = .returned (.bool true) ∧ Below w.heap.size w w' := by
  have hss : ∀ zs : List OV, e.txn.ops = zs.map (·.1) → ∀ z ∈ zs, z.1.spans.length ≤ 8796093021952 := fun zs hz z hzm => by
    have hm : z.1 ∈ e.txn.ops := by rw [hz]; exact List.mem_map.2 ⟨z, hzm, rfl⟩
    rw [H.ops] at hm
    obtain ⟨x, hx, ex⟩ := List.mem_map.1 hm
    rw [← ex]; exact hs x hx
  have H1 : Hid (∀ W, Below w.heap.size w W → Calls Tryz.prog 9 #[ev e p c q d] W (MadeE e W)) := fun W hb => refE_any e xs p q c d W (hR.below hb) hm (H.below hb) hl hs
  have S1 : Hid (∀ W zs p' c', Below w.heap.size w W → RowT e.txn zs p' c' W → Calls Tryz.prog 47 #[tv e.txn p' c', tv e.txn q2 d2] W fun r w' => r = .returned (.bool true) ∧ Below W.heap.size W w') := fun W zs p' c' hb h => msametxn_yes e.txn zs ys p' q2 c' d2 W h G.ops (G.row.below hb) (fun y hy => (G.each y hy).below hb) (by omega) (hss zs h.ops)
  have HR2 := Lib.hid hR2
  clear hR hR2 H G hl hs hss
  unfold MadeE at H1
  unfold tv at S1
  unfold ev at H1 ⊢
  obtain ⟨deps, t⟩ := e
  simp only at *
  generalize hLL : t.ops.length = TL at *
  clear hLL
  have HX0 := Lib.hid (heap_alloc2_old w (.cells #[.slice p deps.length c, .int .u16 t.r, .int .u32 t.seq, .int .u64 t.clock, .int .i64 t.user, .slice q TL d] 31) (.cells #[.slice p2 deps.length c2, .int .u16 t.r, .int .u32 t.seq, .int .u64 t.clock, .int .i64 t.user, .slice q2 TL d2] 39))
  have HX1 := Lib.hid (heap_alloc2_new w (.cells #[.slice p deps.length c, .int .u16 t.r, .int .u32 t.seq, .int .u64 t.clock, .int .i64 t.user, .slice q TL d] 31) (.cells #[.slice p2 deps.length c2, .int .u16 t.r, .int .u32 t.seq, .int .u64 t.clock, .int .i64 t.user, .slice q2 TL d2] 39))
  have HB0 : Hid (Below w.heap.size w ((w.alloc (.cells #[.slice p deps.length c, .int .u16 t.r, .int .u32 t.seq, .int .u64 t.clock, .int .i64 t.user, .slice q TL d] 31)).alloc (.cells #[.slice p2 deps.length c2, .int .u16 t.r, .int .u32 t.seq, .int .u64 t.clock, .int .i64 t.user, .slice q2 TL d2] 39))) := below_alloc (below_alloc (Below.refl _ _) _) _
  obtain ⟨x0, x1, x2, x3, x4, x5⟩ := six_cells HX0.out
  go_enter Tryz.func15, Tryz.ntmps15
  go_wp2_with fail
  generalize ((w.alloc (.cells #[.slice p deps.length c, .int .u16 t.r, .int .u32 t.seq, .int .u64 t.clock, .int .i64 t.user, .slice q TL d] 31)).alloc (.cells #[.slice p2 deps.length c2, .int .u16 t.r, .int .u32 t.seq, .int .u64 t.clock, .int .i64 t.user, .slice q2 TL d2] 39)) = w0 at HX0 HX1 HB0 x0 x1 x2 x3 x4 x5 ⊢
  refine (H1.out _ HB0.out).mono ?_
  rintro r w1 ⟨us, p3, c3, q3, d3, rfl, hv3, -, hT3, hb3⟩
  have HB2 : Hid (Below w.heap.size w (w1.alloc (.cells #[.slice p3 deps.length c3, .int .u16 t.r, .int .u32 t.seq, .int .u64 t.clock, .int .i64 t.user, .slice q3 TL d3] 39))) := below_alloc (below_step HB0.out hb3) _
  have HX1' := Lib.hid (kept_box (kept_box HX1.out hb3) (below_alloc (Below.refl _ _) (.cells #[.slice p3 deps.length c3, .int .u16 t.r, .int .u32 t.seq, .int .u64 t.clock, .int .i64 t.user, .slice q3 TL d3] 39)))
  have HX5 := Lib.hid (heap_alloc_new w1 (.cells #[.slice p3 deps.length c3, .int .u16 t.r, .int .u32 t.seq, .int .u64 t.clock, .int .i64 t.user, .slice q3 TL d3] 39))
  have HV3 : Hid (Vec.Row (w1.alloc (.cells #[.slice p3 deps.length c3, .int .u16 t.r, .int .u32 t.seq, .int .u64 t.clock, .int .i64 t.user, .slice q3 TL d3] 39)) p3 deps) := hv3.below (below_alloc (Below.refl _ _) _)
  have HT3 : Hid (RowT t us q3 d3 (w1.alloc (.cells #[.slice p3 deps.length c3, .int .u16 t.r, .int .u32 t.seq, .int .u64 t.clock, .int .i64 t.user, .slice q3 TL d3] 39))) := hT3.below (below_alloc (Below.refl _ _) _)
  clear x0 x1 x2 x3 x4 x5 hb3 hv3 hT3 HX0 HX1 HB0 H1
  obtain ⟨y0, y1, y2, y3, y4, y5⟩ := six_cells HX1'.out
  obtain ⟨z0, z1, z2, z3, z4, z5⟩ := six_cells HX5.out
  go_wp2_with fail
  generalize (w1.alloc (.cells #[.slice p3 deps.length c3, .int .u16 t.r, .int .u32 t.seq, .int .u64 t.clock, .int .i64 t.user, .slice q3 TL d3] 39)) = w2 at HB2 HX1' HX5 HV3 HT3 y0 y1 y2 y3 y4 y5 z0 z1 z2 z3 z4 z5 ⊢
  refine (S1.out _ _ _ _ HB2.out HT3.out).mono ?_
  rintro r w3 ⟨rfl, hb3⟩
  have HB3 : Hid (Below w.heap.size w w3) := below_step HB2.out hb3
  have HX1 := Lib.hid (kept_box HX1'.out hb3)
  have HX5' := Lib.hid (kept_box HX5.out hb3)
  have HV3' := Lib.hid (HV3.out.below hb3)
  clear hb3 S1 HT3 HV3 HX5 HX1' y0 y1 y2 y3 y4 y5 z0 z1 z2 z3 z4 z5
  obtain ⟨y0, y1, y2, y3, y4, y5⟩ := six_cells HX1.out
  obtain ⟨z0, z1, z2, z3, z4, z5⟩ := six_cells HX5'.out
  go_wp2
  go_loopg [27] deps.length (fun g i wr => ∃ k : Nat, k ≤ deps.length ∧ deps.length - k ≤ g ∧ i = .int .i64 (k : Int) ∧ Below w3.heap.size w3 wr)
  case atStart => exact ⟨0, Nat.zero_le _, by omega, rfl, Below.refl _ _⟩
  case round =>
    clear y0 y1 y2 y3 y4 y5 z0 z1 z2 z3 z4 z5
    obtain ⟨k, hk, hg, rfl, hb⟩ := hrel
    have HB := Lib.hid hb
    clear hb
    by_cases hlt : k < deps.length
    · have hkl : (k : Int) < (deps.length : Int) := by omega
      obtain ⟨b1, o1, rfl, a0, a1⟩ := (HV3'.out.below HB.out) k hlt
      obtain ⟨b2, o2, rfl, e0', e1'⟩ := (HR2.out.below (below_step HB3.out HB.out)) k hlt
      obtain ⟨y0, y1, y2, y3, y4, y5⟩ := six_cells (kept_box HX1.out HB.out)
      obtain ⟨z0, z1, z2, z3, z4, z5⟩ := six_cells (kept_box HX5'.out HB.out)
      generalize Vec.atL deps k = s at a0 a1 e0' e1'
      obtain ⟨x, y⟩ := s
      simp only at a0 a1 e0' e1'
      go_wp2_with fail
      go_quiet (fail)
      go_wp2
      go_roundg (deps.length - (k + 1))
      case measure => omega
      case rel => exact ⟨k + 1, by omega, Nat.le_refl _, by go_num, below_drewN HB.out _⟩
    · have : k = deps.length := by omega
      subst this
      have hkl : ¬ (deps.length : Int) < (deps.length : Int) := by omega
      go_wp2
      go_ret
      exact ⟨rfl, below_step HB3.out HB.out⟩
end Go.Proofs.YtceanfpcddcfoaaGreat
/-
  Whatever is read of bytes, written, is just these bytes: numbers, texts, spans, operations, transactions, entries. Of no program; no conditions beyond what each theorem states.
-/
namespace Go.Proofs.YtceanfpcddcfoaaGreat
open Go.ChangeShapes Go.WideShapes Go.ChangeAt Go.RowKit Go.Lib
set_option linter.unusedVariables false
set_option linter.unusedSimpArgs false

/-- The bytes from a place to another one. -/
def seg (bs : List UInt8) (a b : Nat) : List UInt8 := (bs.drop a).take (b - a)
theorem seg_join {bs : List UInt8} {a b c : Nat} (h : a ≤ b) (h2 : b ≤ c) : seg bs a b ++ seg bs b c = seg bs a c := by
  unfold seg
  rw [show c - a = (b - a) + (c - b) by omega, List.take_add, List.drop_drop, show a + (b - a) = b by omega]
theorem seg_none (bs : List UInt8) (a : Nat) : seg bs a a = [] := by unfold seg; rw [Nat.sub_self, List.take_zero]
theorem seg_all {bs : List UInt8} {b : Nat} (h : bs.length ≤ b) : seg bs 0 b = bs := by unfold seg; rw [List.drop_zero, Nat.sub_zero, List.take_of_length_le h]
theorem scan_back (limit : Nat) : ∀ f (bs : List UInt8) k n, (scanN limit f bs k n).2.2 = 0 → ∃ m, (scanN limit f bs k n).1 = n + m * 128 ^ k ∧ k ≤ (scanN limit f bs k n).2.1 ∧ encN m = bs.take ((scanN limit f bs k n).2.1 - k) ∧ (0 < m ∨ k = 0) := by
  intro f
  induction f with
  | zero => intro bs k n h; simp [scanN] at h
  | succ f ih =>
    intro bs k n h
    cases bs with
    | nil => simp [scanN] at h
    | cons b r =>
      rw [scanN] at h ⊢
      have hb : b.toNat < 256 := b.toNat_lt
      by_cases h1 : 128 ≤ b.toNat
      · rw [if_pos h1] at h ⊢
        obtain ⟨m, e1, e2, e3, e4⟩ := ih r (k + 1) _ h
        have hm : 0 < m := by omega
        refine ⟨b.toNat % 128 + m * 128, ?_, by omega, ?_, Or.inl (by omega)⟩
        · rw [e1, Nat.add_mul, Nat.pow_succ, Nat.mul_comm (128 ^ k) 128, ← Nat.mul_assoc]; omega
        · rw [encN_big (by omega), show (b.toNat % 128 + m * 128) / 128 = m by omega, e3]
          generalize (scanN limit f r (k + 1) (n + b.toNat % 128 * 128 ^ k)).2.1 = q at e2 ⊢
          rw [show q - k = (q - (k + 1)) + 1 by omega, List.take_succ_cons]
          congr 1
          apply UInt8.toNat.inj
          rw [u8_nat (by omega)]
          omega
      · rw [if_neg h1] at h ⊢
        by_cases h2 : b.toNat = 0 ∧ 0 < k
        · rw [if_pos h2] at h; simp at h
        · rw [if_neg h2] at h ⊢
          by_cases h3 : limit < n + b.toNat % 128 * 128 ^ k
          · rw [if_pos h3] at h; simp at h
          · rw [if_neg h3] at h ⊢
            refine ⟨b.toNat, by simp only; rw [Nat.mod_eq_of_lt (by omega)], by simp, ?_, by omega⟩
            rw [encN_small (by omega)]
            simp only [Nat.add_sub_cancel_left]
            simp
theorem read_back {bs : List UInt8} {limit : Nat} (h : (readN bs limit).2.2 = 0) : encN (readN bs limit).1 = bs.take (readN bs limit).2.1 := by
  obtain ⟨m, e1, -, e3, -⟩ := scan_back limit 9 bs 0 0 h
  unfold readN
  rw [e1, Nat.zero_add, Nat.pow_zero, Nat.mul_one, e3, Nat.sub_zero]
/-- A number, read: its bytes are those between. -/
theorem back_N {bs : List UInt8} {q limit : Nat} (hq : q ≤ bs.length) (h : (rdN bs q 0 limit).2.2 = 0) : q ≤ (rdN bs q 0 limit).2.1 ∧ (rdN bs q 0 limit).2.1 ≤ bs.length ∧ encN (rdN bs q 0 limit).1 = seg bs q (rdN bs q 0 limit).2.1 := by
  have hf := rdN_fits (bs := bs) (q := q) (e := 0) (limit := limit) hq
  rw [rdN_read] at h hf ⊢
  simp only at h hf ⊢
  refine ⟨by omega, hf.1, ?_⟩
  rw [read_back h]
  unfold seg
  rw [Nat.add_sub_cancel_left]
/-- An error ahead stays. -/
theorem err_N {bs : List UInt8} {q e limit : Nat} (h : (rdN bs q e limit).2.2 = 0) : e = 0 := by
  by_cases he : e = 0
  · exact he
  · rw [rdN_err he] at h; exact h
theorem readT_ok {bs : List UInt8} {limit : Nat} (h : (readT bs limit).2.2 = 0) : (readN bs limit).2.2 = 0 ∧ (readN bs limit).1 ≤ bs.length - (readN bs limit).2.1 ∧ readT bs limit = ((bs.drop (readN bs limit).2.1).take (readN bs limit).1, (readN bs limit).2.1 + (readN bs limit).1, 0) := by
  unfold readT at h ⊢
  by_cases h1 : (readN bs limit).2.2 ≠ 0
  · rw [if_pos h1] at h; exact absurd h h1
  · rw [if_neg h1] at h ⊢
    by_cases h2 : bs.length - (readN bs limit).2.1 < (readN bs limit).1
    · rw [if_pos h2] at h; simp at h
    · rw [if_neg h2]
      exact ⟨by omega, by omega, rfl⟩
/-- What was read lies between two places, and has just their bytes. -/
def Back (bs : List UInt8) (a b : Nat) (x : List UInt8) : Prop := a ≤ b ∧ b ≤ bs.length ∧ x = seg bs a b
theorem Back.trans {bs : List UInt8} {a b c : Nat} {x y : List UInt8} (h : Back bs a b x) (k : Back bs b c y) : Back bs a c (x ++ y) :=
  ⟨Nat.le_trans h.1 k.1, k.2.1, by rw [h.2.2, k.2.2, seg_join h.1 k.1]⟩
theorem Back.nil {bs : List UInt8} {a : Nat} (h : a ≤ bs.length) : Back bs a a [] := ⟨Nat.le_refl _, h, (seg_none bs a).symm⟩
theorem bk_N {bs : List UInt8} {q e limit : Nat} (hq : q ≤ bs.length) (h : (rdN bs q e limit).2.2 = 0) : e = 0 ∧ Back bs q (rdN bs q e limit).2.1 (encN (rdN bs q e limit).1) := by
  have he := err_N h
  subst he
  exact ⟨rfl, back_N hq h⟩
theorem bk_T {bs : List UInt8} {q e limit : Nat} (hq : q ≤ bs.length) (h : (rdT bs q e limit).2.2 = 0) : e = 0 ∧ Back bs q (rdT bs q e limit).2.1 (encT (rdT bs q e limit).1) := by
  unfold rdT at h ⊢
  by_cases he : e = 0
  · rw [if_pos he] at h ⊢
    refine ⟨he, ?_⟩
    simp only at h ⊢
    obtain ⟨h1, h2, h3⟩ := readT_ok h
    have hb := read_back h1
    have hf := read_fair (bs.drop q) limit
    unfold Fair at hf
    rw [List.length_drop] at hf h2
    rw [h3]
    simp only
    refine ⟨by omega, by omega, ?_⟩
    unfold encT seg
    rw [List.length_take, List.length_drop, List.length_drop, Nat.min_eq_left (by omega), hb, show q + ((readN (bs.drop q) limit).2.1 + (readN (bs.drop q) limit).1) - q = (readN (bs.drop q) limit).2.1 + (readN (bs.drop q) limit).1 by omega, List.take_add]
  · rw [if_neg he] at h; exact absurd h he
theorem bk_3 {bs : List UInt8} {q e : Nat} (hq : q ≤ bs.length) (h : (rd3 bs q e).2.2 = 0) : e = 0 ∧ Back bs q (rd3 bs q e).2.1 (bytesS (rd3 bs q e).1) := by
  unfold rd3 at h ⊢
  simp only at h ⊢
  have f1 := rdN_fits (bs := bs) (q := q) (e := e) (limit := 65535) hq
  have f2 := rdN_fits (bs := bs) (q := (rdN bs q e 65535).2.1) (e := (rdN bs q e 65535).2.2) (limit := 268435456) f1.1
  obtain ⟨e3, b3⟩ := bk_N f2.1 h
  obtain ⟨e2, b2⟩ := bk_N f1.1 e3
  obtain ⟨e1, b1⟩ := bk_N hq e2
  refine ⟨e1, ?_⟩
  unfold bytesS
  simp only [Int.toNat_natCast]
  exact (b1.trans b2).trans b3
theorem bk_L {bs : List UInt8} : ∀ (n q e : Nat), q ≤ bs.length → (rdL bs n q e).2.2 = 0 → e = 0 ∧ (rdL bs n q e).1.length = n ∧ Back bs q (rdL bs n q e).2.1 ((rdL bs n q e).1.flatMap bytesS) := by
  intro n
  induction n with
  | zero => intro q e hq h; exact ⟨h, rfl, Back.nil hq⟩
  | succ n ih =>
    intro q e hq h
    by_cases he : e = 0
    · rw [rdL, if_pos he] at h ⊢
      simp only at h ⊢
      obtain ⟨a1, a2, a3⟩ := rd3_fits hq
      obtain ⟨i1, i2, i3⟩ := ih _ _ a1 h
      obtain ⟨-, b1⟩ := bk_3 hq i1
      refine ⟨he, by simp [i2], ?_⟩
      rw [List.flatMap_cons]
      exact b1.trans i3
    · rw [rdL_err _ _ _ _ he] at h; exact absurd h he
theorem bk_S {bs : List UInt8} {q e : Nat} (hq : q ≤ bs.length) (h : (readS bs q e).2.2 = 0) : e = 0 ∧ Back bs q (readS bs q e).2.1 (bytesL (readS bs q e).1) := by
  unfold readS at h ⊢
  simp only at h ⊢
  have f1 := rdN_fits (bs := bs) (q := q) (e := e) (limit := 1024) hq
  obtain ⟨e2, l2, b2⟩ := bk_L _ _ _ f1.1 h
  obtain ⟨e1, b1⟩ := bk_N hq e2
  refine ⟨e1, ?_⟩
  rw [if_pos h]
  unfold bytesL
  rw [l2]
  exact b1.trans b2
/-- An operation's bytes behind its kind and anchor. -/
def tailO (o : Om) : List UInt8 := if o.kind = 1 then encT o.text else if o.kind = 2 ∨ o.kind = 3 then bytesL o.spans else encN o.seq.toNat
theorem bk_B {bs : List UInt8} {k : Nat} {t : Nat × Nat × Nat} {q e : Nat} (hq : q ≤ bs.length) (h : (readB bs k t q e).2.2 = 0) : e = 0 ∧ Back bs q (readB bs k t q e).2.1 (tailO (readB bs k t q e).1) ∧ (readB bs k t q e).1.kind = (k : Int) ∧ (readB bs k t q e).1.r = (t.1 : Int) ∧ (readB bs k t q e).1.n = (t.2.1 : Int) ∧ (readB bs k t q e).1.num = (t.2.2 : Int) := by
  unfold readB at h ⊢
  by_cases k1 : k = 1
  · subst k1
    rw [if_pos rfl] at h ⊢
    by_cases h0 : (rdT bs q e 64).2.2 = 0
    · rw [if_pos h0] at h ⊢
      obtain ⟨e1, b1⟩ := bk_T hq h0
      exact ⟨e1, b1, rfl, rfl, rfl, rfl⟩
    · rw [if_neg h0] at h; exact absurd h h0
  · rw [if_neg k1] at h ⊢
    by_cases k2 : k = 2 ∨ k = 3
    · rw [if_pos k2] at h ⊢
      by_cases h0 : (readS bs q e).2.2 = 0
      · rw [if_pos h0] at h ⊢
        obtain ⟨e1, b1⟩ := bk_S hq h0
        refine ⟨e1, ?_, rfl, rfl, rfl, rfl⟩
        unfold tailO
        simp only
        rw [if_neg (by omega), if_pos (by omega)]
        exact b1
      · rw [if_neg h0] at h; exact absurd h h0
    · rw [if_neg k2] at h ⊢
      by_cases h0 : (rdN bs q e 268435456).2.2 = 0
      · rw [if_pos h0] at h ⊢
        obtain ⟨e1, b1⟩ := bk_N hq h0
        refine ⟨e1, ?_, rfl, rfl, rfl, rfl⟩
        unfold tailO
        simp only
        rw [if_neg (by omega), if_neg (by omega), Int.toNat_natCast]
        exact b1
      · rw [if_neg h0] at h; exact absurd h h0
theorem bytesO_tail (o : Om) : bytesO o = encN o.kind.toNat ++ (if o.kind = 1 ∨ o.kind = 3 then encN o.r.toNat ++ (encN o.n.toNat ++ encN o.num.toNat) else []) ++ tailO o := rfl
theorem bk_O {bs : List UInt8} {q e : Nat} (hq : q ≤ bs.length) (h : (readO bs q e).2.2 = 0) : e = 0 ∧ Back bs q (readO bs q e).2.1 (bytesO (readO bs q e).1) := by
  have f1 := rdN_fits (bs := bs) (q := q) (e := e) (limit := 5) hq
  have f2 := rdN_fits (bs := bs) (q := (rdN bs q e 5).2.1) (e := (rdN bs q e 5).2.2) (limit := 65535) f1.1
  have f3 := rdN_fits (bs := bs) (q := (rdN bs (rdN bs q e 5).2.1 (rdN bs q e 5).2.2 65535).2.1) (e := (rdN bs (rdN bs q e 5).2.1 (rdN bs q e 5).2.2 65535).2.2) (limit := 268435456) f2.1
  have f4 := rdN_fits (bs := bs) (q := (rdN bs (rdN bs (rdN bs q e 5).2.1 (rdN bs q e 5).2.2 65535).2.1 (rdN bs (rdN bs q e 5).2.1 (rdN bs q e 5).2.2 65535).2.2 268435456).2.1) (e := (rdN bs (rdN bs (rdN bs q e 5).2.1 (rdN bs q e 5).2.2 65535).2.1 (rdN bs (rdN bs q e 5).2.1 (rdN bs q e 5).2.2 65535).2.2 268435456).2.2) (limit := 268435456) f3.1
  unfold readO at h ⊢
  by_cases hk : (rdN bs q e 5).1 = 1 ∨ (rdN bs q e 5).1 = 3
  · rw [if_pos hk] at h ⊢
    obtain ⟨e5, b5, c1, c2, c3, c4⟩ := bk_B (by unfold rdP; exact f4.1) h
    generalize hO : readB bs (rdN bs q e 5).1 (rdP bs (rdN bs q e 5).2.1 (rdN bs q e 5).2.2).1 (rdP bs (rdN bs q e 5).2.1 (rdN bs q e 5).2.2).2.1 (rdP bs (rdN bs q e 5).2.1 (rdN bs q e 5).2.2).2.2 = O at *
    unfold rdP at e5 b5 c2 c3 c4
    simp only at e5 b5 c2 c3 c4
    obtain ⟨e4, b4⟩ := bk_N f3.1 e5
    obtain ⟨e3, b3⟩ := bk_N f2.1 e4
    obtain ⟨e2, b2⟩ := bk_N f1.1 e3
    obtain ⟨e1, b1⟩ := bk_N hq e2
    refine ⟨e1, ?_⟩
    have hb : bytesO O.1 = encN (rdN bs q e 5).1 ++ ((encN (rdN bs (rdN bs q e 5).2.1 (rdN bs q e 5).2.2 65535).1 ++ (encN (rdN bs (rdN bs (rdN bs q e 5).2.1 (rdN bs q e 5).2.2 65535).2.1 (rdN bs (rdN bs q e 5).2.1 (rdN bs q e 5).2.2 65535).2.2 268435456).1 ++ encN (rdN bs (rdN bs (rdN bs (rdN bs q e 5).2.1 (rdN bs q e 5).2.2 65535).2.1 (rdN bs (rdN bs q e 5).2.1 (rdN bs q e 5).2.2 65535).2.2 268435456).2.1 (rdN bs (rdN bs (rdN bs q e 5).2.1 (rdN bs q e 5).2.2 65535).2.1 (rdN bs (rdN bs q e 5).2.1 (rdN bs q e 5).2.2 65535).2.2 268435456).2.2 268435456).1)) ++ tailO O.1) := by
      rw [bytesO_tail, c1, c2, c3, c4, if_pos (by omega)]
      simp only [Int.toNat_natCast, List.append_assoc]
    rw [hb]
    exact b1.trans ((b2.trans (b3.trans b4)).trans b5)
  · rw [if_neg hk] at h ⊢
    obtain ⟨e5, b5, c1, c2, c3, c4⟩ := bk_B f1.1 h
    generalize hO : readB bs (rdN bs q e 5).1 (0, 0, 0) (rdN bs q e 5).2.1 (rdN bs q e 5).2.2 = O at *
    obtain ⟨e1, b1⟩ := bk_N hq e5
    refine ⟨e1, ?_⟩
    have hb : bytesO O.1 = encN (rdN bs q e 5).1 ++ tailO O.1 := by
      rw [bytesO_tail, c1, if_neg (by omega)]
      simp only [Int.toNat_natCast, List.nil_append, List.append_nil]
    rw [hb]
    exact b1.trans b5
theorem bk_Os {bs : List UInt8} (hl : bs.length ≤ 1000000) : ∀ (n q e : Nat), q ≤ bs.length → e < 16 → (rdOs bs n q e).2.2 = 0 → e = 0 ∧ (rdOs bs n q e).1.length = n ∧ Back bs q (rdOs bs n q e).2.1 ((rdOs bs n q e).1.flatMap bytesO) := by
  intro n
  induction n with
  | zero => intro q e hq _ h; exact ⟨h, rfl, Back.nil hq⟩
  | succ n ih =>
    intro q e hq he16 h
    by_cases he : e = 0
    · rw [rdOs, if_pos he] at h ⊢
      simp only at h ⊢
      obtain ⟨a1, a2, -, -⟩ := readO_range (e := 0) hq (by omega) hl
      obtain ⟨i1, i2, i3⟩ := ih _ _ a1 a2 h
      obtain ⟨-, b1⟩ := bk_O hq i1
      refine ⟨he, by simp [i2], ?_⟩
      rw [List.flatMap_cons]
      exact b1.trans i3
    · rw [rdOs_err _ _ _ _ he] at h; exact absurd h he
theorem bk_Tx {bs : List UInt8} (hl : bs.length ≤ 1000000) {q e : Nat} (hq : q ≤ bs.length) (he : e < 16) (h : (readTx bs q e).2.2 = 0) : e = 0 ∧ Back bs q (readTx bs q e).2.1 (bytesT (readTx bs q e).1) := by
  rw [readTx_ch] at h ⊢
  have s5 := chS_le (E := e) hq 5
  have s4 := chS_le (E := e) hq 4
  have s3 := chS_le (E := e) hq 3
  have s2 := chS_le (E := e) hq 2
  have s1 := chS_le (E := e) hq 1
  by_cases h0 : (rdOs bs (chV bs q e 4) (chS bs q e 5).1 (chS bs q e 5).2).2.2 = 0
  · rw [if_pos h0] at h ⊢
    obtain ⟨e6, l6, b6⟩ := bk_Os hl _ _ _ s5.1 (by omega) h0
    obtain ⟨e5, b5⟩ := bk_N s4.1 e6
    obtain ⟨e4, b4⟩ := bk_N s3.1 e5
    obtain ⟨e3, b3⟩ := bk_N s2.1 e4
    obtain ⟨e2, b2⟩ := bk_N s1.1 e3
    obtain ⟨e1, b1⟩ := bk_N (limit := lim9 0) hq e2
    refine ⟨e1, ?_⟩
    unfold bytesT
    simp only [Int.toNat_natCast]
    rw [l6]
    exact b1.trans (b2.trans (b3.trans (b4.trans (b5.trans b6))))
  · rw [if_neg h0] at h; exact absurd h h0
theorem bk_D {bs : List UInt8} {q : Nat} (hq : q ≤ bs.length) (h : (rdD bs q).2.2 = 0) : Back bs q (rdD bs q).2.1 (encN (rdD bs q).1.1.toNat ++ encN (rdD bs q).1.2.toNat) := by
  have f1 := rdN_fits (bs := bs) (q := q) (e := 0) (limit := 65535) hq
  unfold rdD at h ⊢
  simp only at h ⊢
  obtain ⟨e2, b2⟩ := bk_N f1.1 h
  obtain ⟨-, b1⟩ := bk_N hq e2
  simp only [Int.toNat_natCast]
  exact b1.trans b2
theorem bk_Ds {bs : List UInt8} : ∀ (n q e : Nat), q ≤ bs.length → (rdDs bs n q e).2.2 = 0 → e = 0 ∧ (rdDs bs n q e).1.length = n ∧ Back bs q (rdDs bs n q e).2.1 (bytesD (rdDs bs n q e).1) := by
  intro n
  induction n with
  | zero => intro q e hq h; exact ⟨h, rfl, Back.nil hq⟩
  | succ n ih =>
    intro q e hq h
    by_cases he : e = 0
    · subst he
      have hs := rdDs_step (bs := bs) (n := n + 1) (k := 0) (q := q) (by omega)
      rw [Nat.sub_zero, Nat.zero_add, Nat.add_sub_cancel] at hs
      rw [hs] at h ⊢
      simp only at h ⊢
      obtain ⟨i1, i2, i3⟩ := ih _ _ (rdD_range hq).1 h
      have b1 := bk_D hq i1
      refine ⟨by trivial, by simp [i2], ?_⟩
      have hb : bytesD ((rdD bs q).1 :: (rdDs bs n (rdD bs q).2.1 (rdD bs q).2.2).1) = (encN (rdD bs q).1.1.toNat ++ encN (rdD bs q).1.2.toNat) ++ bytesD (rdDs bs n (rdD bs q).2.1 (rdD bs q).2.2).1 := by simp [bytesD]
      rw [hb]
      exact b1.trans i3
    · rw [rdDs_err _ _ _ _ he] at h; exact absurd h he
/-- What is read of a frame's inner bytes has just these bytes, and fits. -/
theorem body_back {bs : List UInt8} (hl : bs.length ≤ 1000000) {e : Em} (h : readBody bs = (e, 0)) : bodyE e = bs ∧ fitE e = 0 := by
  unfold readBody at h
  simp only at h
  have f1 := rdN_fits (bs := bs) (q := 0) (e := 0) (limit := 65536) (Nat.zero_le _)
  have f2 := rdDs_range (bs := bs) (rdN bs 0 0 65536).1 (rdN bs 0 0 65536).2.1 (rdN bs 0 0 65536).2.2 f1.1 (by omega)
  by_cases h1 : (readTx bs (rdDs bs (rdN bs 0 0 65536).1 (rdN bs 0 0 65536).2.1 (rdN bs 0 0 65536).2.2).2.1 (rdDs bs (rdN bs 0 0 65536).1 (rdN bs 0 0 65536).2.1 (rdN bs 0 0 65536).2.2).2.2).2.2 = 0
  · rw [if_neg (by omega)] at h
    obtain ⟨e3, b3⟩ := bk_Tx hl f2.1 f2.2.1 h1
    obtain ⟨e2, l2, b2⟩ := bk_Ds _ _ _ f1.1 e3
    obtain ⟨-, b1⟩ := bk_N (Nat.zero_le _) e2
    have B := b1.trans (b2.trans b3)
    split at h
    · simp at h
    · rename_i hlt
      split at h
      · rename_i hne
        exact absurd (Prod.mk.inj h).2 hne
      · rename_i hfit
        have he := (Prod.mk.inj h).1
        subst he
        refine ⟨?_, by omega⟩
        unfold bodyE
        simp only
        rw [l2, B.2.2, seg_all (by omega)]
  · rw [if_pos h1] at h
    exact absurd (Prod.mk.inj h).2 (by omega)
end Go.Proofs.YtceanfpcddcfoaaGreat
/-
  An envelope's bytes are read again; what is read of bytes has just these; cut off, or with others behind, or with some bits turned, they are none. Of no program; no conditions beyond what each theorem states.
-/
namespace Go.Proofs.YtceanfpcddcfoaaGreat
open Go.ChangeShapes Go.WideShapes Go.ChangeAt Go.RowKit Go.Lib
set_option linter.unusedVariables false
set_option linter.unusedSimpArgs false

theorem be4n_num {n : Nat} (h : n < 4294967296) (rest : List UInt8) : num4 (headE n ++ rest) = n := by
  unfold num4 headE be4n
  simp only [List.cons_append, List.getD_cons_succ, List.getD_cons_zero, List.nil_append]
  rw [u8_nat (by omega), u8_nat (by omega), u8_nat (by omega), u8_nat (by omega)]
  omega
theorem head_three (n : Nat) (rest : List UInt8) : ((headE n ++ rest).getD 0 0).toNat = 67 ∧ ((headE n ++ rest).getD 1 0).toNat = 80 ∧ ((headE n ++ rest).getD 2 0).toNat = 1 := ⟨rfl, rfl, rfl⟩
theorem bytesE_parts (e : Em) : bytesE e = headE (bytesE e).length ++ (bodyE e ++ be4 (sumL (frameE e))) := by
  rw [bytesE_len, ← List.append_assoc]
  rfl
theorem readE_ok {bs : List UInt8} (h : (readE bs).2 = 0) : 11 ≤ bs.length ∧ bs.length ≤ 1048576 ∧ (bs.getD 0 0).toNat = 67 ∧ (bs.getD 1 0).toNat = 80 ∧ (bs.getD 2 0).toNat = 1 ∧ num4 bs = bs.length ∧ openL bs = true ∧ readE bs = readBody ((bs.take (bs.length - 4)).drop 7) := by
  unfold readE at h ⊢
  by_cases h1 : bs.length < 11
  · rw [if_pos h1] at h; simp at h
  · rw [if_neg h1] at h ⊢
    by_cases h2 : 1048576 < bs.length
    · rw [if_pos h2] at h; simp at h
    · rw [if_neg h2] at h ⊢
      by_cases h3 : (bs.getD 0 0).toNat ≠ 67 ∨ (bs.getD 1 0).toNat ≠ 80 ∨ (bs.getD 2 0).toNat ≠ 1 ∨ num4 bs ≠ bs.length
      · rw [if_pos h3] at h; simp at h
      · rw [if_neg h3] at h ⊢
        by_cases h4 : openL bs = false
        · rw [if_pos h4] at h; simp at h
        · rw [if_neg h4]
          exact ⟨by omega, by omega, by omega, by omega, by omega, by omega, by simpa using h4, rfl⟩
theorem readE_shut {bs : List UInt8} (h : openL bs = false) : (readE bs).2 ≠ 0 := fun h0 => by
  have := (readE_ok h0).2.2.2.2.2.2.1
  rw [h] at this
  cases this
theorem readE_all {e : Em} (hd : Vec.Fits e.deps) (hl : e.deps.length ≤ 65536) (ht : FitTm e.txn) (h0 : fitE e = 0) (hb : (bytesE e).length ≤ 1048576) : readE (bytesE e) = (e, 0) := by
  have hp := bytesE_parts e
  have hn := be4n_num (n := (bytesE e).length) (by omega) (bodyE e ++ be4 (sumL (frameE e)))
  have h3 := head_three (bytesE e).length (bodyE e ++ be4 (sumL (frameE e)))
  rw [← hp] at hn h3
  have hlen := bytesE_len e
  unfold readE
  rw [if_neg (by omega), if_neg (by omega), if_neg (by omega), if_neg (by rw [show openL (bytesE e) = true from open_seal _]; simp)]
  have ht4 : (bytesE e).take ((bytesE e).length - 4) = frameE e := by
    rw [hlen, show (bodyE e).length + 11 - 4 = (frameE e).length by rw [frameE_len]; omega]
    unfold bytesE sealL
    rw [List.take_left]
  rw [ht4]
  unfold frameE
  rw [show (headE ((bodyE e).length + 11) ++ bodyE e).drop 7 = bodyE e from rfl]
  exact readBody_all hd hl ht h0
theorem five_take {bs : List UInt8} (h : 7 ≤ bs.length) : bs.take 7 = [bs.getD 0 0, bs.getD 1 0, bs.getD 2 0, bs.getD 3 0, bs.getD 4 0, bs.getD 5 0, bs.getD 6 0] := by
  match bs, h with
  | a :: b :: c :: d :: e :: f :: g :: r, _ => rfl
theorem u8_ext {a : UInt8} {n : Nat} (h : a.toNat = n) : a = UInt8.ofNat n := by
  apply UInt8.toNat.inj
  rw [u8_nat (by have := a.toNat_lt; omega), h]
theorem readE_back {bs : List UInt8} {e : Em} (hl : bs.length ≤ 1000000) (h : readE bs = (e, 0)) : bytesE e = bs ∧ fitE e = 0 := by
  obtain ⟨h1, h2, h3, h4, h5, h6, h7, h8⟩ := readE_ok (bs := bs) (by rw [h])
  rw [h8] at h
  obtain ⟨hb, hf⟩ := body_back (by rw [List.length_drop, List.length_take]; omega) h
  refine ⟨?_, hf⟩
  have hlen : (bodyE e).length = bs.length - 11 := by rw [hb, List.length_drop, List.length_take]; omega
  have hfr : frameE e = bs.take (bs.length - 4) := by
    unfold frameE
    rw [hlen, show bs.length - 11 + 11 = bs.length by omega, hb]
    have h7' : headE (num4 bs) = bs.take 7 := by
      rw [five_take (by omega)]
      have b3 := (bs.getD 3 0).toNat_lt
      have b4 := (bs.getD 4 0).toNat_lt
      have b5 := (bs.getD 5 0).toNat_lt
      have b6 := (bs.getD 6 0).toNat_lt
      unfold headE be4n
      rw [u8_ext h3, u8_ext h4, u8_ext h5]
      have e3 : num4 bs / 16777216 = (bs.getD 3 0).toNat := by unfold num4; omega
      have e4 : num4 bs / 65536 % 256 = (bs.getD 4 0).toNat := by unfold num4; omega
      have e5 : num4 bs / 256 % 256 = (bs.getD 5 0).toNat := by unfold num4; omega
      have e6 : num4 bs % 256 = (bs.getD 6 0).toNat := by unfold num4; omega
      rw [e3, e4, e5, e6, ← u8_ext rfl, ← u8_ext rfl, ← u8_ext rfl, ← u8_ext rfl]
      rfl
    have h7n : headE bs.length = bs.take 7 := by rw [← h6]; exact h7'
    rw [h7n, show bs.take 7 = (bs.take (bs.length - 4)).take 7 by rw [List.take_take, Nat.min_eq_left (by omega)], List.take_append_drop]
  unfold bytesE
  rw [hfr]
  exact open_is h7
theorem getD_take {bs : List UInt8} {i k : Nat} (h : i < k) : (bs.take k).getD i 0 = bs.getD i 0 := by
  simp [List.getD_eq_getElem?_getD, List.getElem?_take, h]
theorem num4_take {bs : List UInt8} {k : Nat} (h : 7 ≤ k) : num4 (bs.take k) = num4 bs := by
  unfold num4
  rw [getD_take (by omega), getD_take (by omega), getD_take (by omega), getD_take (by omega)]
theorem num4_bytesE {e : Em} (rest : List UInt8) (h : (bytesE e).length < 4294967296) : num4 (bytesE e ++ rest) = (bytesE e).length := by
  have hp := bytesE_parts e
  have hn := be4n_num h ((bodyE e ++ be4 (sumL (frameE e))) ++ rest)
  rw [← List.append_assoc, ← hp] at hn
  exact hn
theorem readE_cut {e : Em} {k : Nat} (hk : k < (bytesE e).length) (hl : (bytesE e).length < 4294967296) : (readE ((bytesE e).take k)).2 ≠ 0 := fun h0 => by
  obtain ⟨h1, -, -, -, -, h6, -⟩ := readE_ok h0
  rw [List.length_take, Nat.min_eq_left (by omega)] at h1 h6
  rw [num4_take (by omega)] at h6
  have := num4_bytesE [] hl
  rw [List.append_nil] at this
  omega
theorem readE_more {e : Em} {more : List UInt8} (hm : 0 < more.length) (hl : (bytesE e).length < 4294967296) : (readE (bytesE e ++ more)).2 ≠ 0 := fun h0 => by
  obtain ⟨-, -, -, -, -, h6, -⟩ := readE_ok h0
  rw [num4_bytesE more hl, List.length_append] at h6
  omega
end Go.Proofs.YtceanfpcddcfoaaGreat
