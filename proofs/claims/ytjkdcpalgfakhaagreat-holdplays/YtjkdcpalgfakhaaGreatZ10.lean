/-
  Several texts of one proof, joined: each part says at its head what it proves. No conditions beyond what each theorem states.
-/
import Derived.Test.YtjkdcpalgfakhaaGreatZ09
import Derived.Test.YtjkdcpalgfakhaaGreatZ07
/-
  What the laws' own copyistmade.Small, SameOp and SameTxn tell (the two of one thing twice). No conditions beyond what each theorem states.
-/
namespace Go.Proofs.YtjkdcpalgfakhaaGreat
open Go.ChangeShapes Go.WideShapes Go.ChangeAt Go.RowKit Go.Lib
set_option linter.unusedVariables false
set_option linter.unusedSimpArgs false

def smallO (o : Om) : Bool := decide (o.text.length ≤ 300) && decide (o.spans.length ≤ 60)
def smallT (t : Tm) : Bool := decide (t.ops.length ≤ 40) && t.ops.all smallO
theorem smallT_x {t : Tm} {xs : List OV} (h : t.ops = xs.map (·.1)) (hs : smallT t = true) : SmallP xs ∧ xs.length ≤ 40 := by
  unfold smallT at hs
  rw [Bool.and_eq_true, h, List.length_map] at hs
  refine ⟨fun x hx => ?_, of_decide_eq_true hs.1⟩
  have := List.all_eq_true.1 hs.2 x.1 (List.mem_map.2 ⟨x, hx, rfl⟩)
  unfold smallO at this
  rw [Bool.and_eq_true] at this
  exact ⟨of_decide_eq_true this.1, of_decide_eq_true this.2⟩
set_option maxHeartbeats 3200000 in
set_option maxRecDepth 20000 in
theorem msmall_any (t : Tm) (xs : List OV) (p : Option Addr) (c : Nat) (w : World) (H : InT t xs p c w) (hl : t.ops.length ≤ 9223372036854775807) (hq : ∀ x ∈ xs, x.1.text.length ≤ 9223372036854775807 ∧ x.1.spans.length ≤ 9223372036854775807) :
    Calls Tryz.prog 22 #[tv t p c] w fun e w' => e = .returned (.bool (smallT t)) ∧ Below w.heap.size w w' := by
  have hlen : t.ops.length = xs.length := by rw [H.ops, List.length_map]
  have HR := Lib.hid H.row.row
  have HTV : Hid (∀ p c, tv t p c = .agg #[.int .u16 t.r, .int .u32 t.seq, .int .u64 t.clock, .int .i64 t.user, .slice p xs.length c]) := fun p c => by unfold tv; rw [hlen]
  have HQ : Hid (∀ k, k < xs.length → (xs.getD k ov0).1.text.length ≤ 9223372036854775807 ∧ (xs.getD k ov0).1.spans.length ≤ 9223372036854775807) := fun k hk => hq _ (getD_mem ov0 hk)
  have HS : Hid (smallT t = (decide (xs.length ≤ 40) && (xs.map (·.1)).all smallO)) := by show _ = _; unfold smallT; rw [hlen, H.ops]
  have HALL : Hid (∀ k, k < xs.length → ((xs.take (k + 1)).map (·.1)).all smallO = (((xs.take k).map (·.1)).all smallO && smallO (xs.getD k ov0).1)) := fun k hk => by rw [take_getD ov0 hk, List.map_append, List.all_append]; simp
  have HNO : Hid (∀ k, k < xs.length → smallO (xs.getD k ov0).1 = false → (xs.map (·.1)).all smallO = false) := fun k hk h => by
    rw [List.all_eq_false]
    exact ⟨_, List.mem_map.2 ⟨_, getD_mem ov0 hk, rfl⟩, by rw [h]; simp⟩
  clear H hq
  rw [HTV.out]
  generalize smallT t = S at HS ⊢
  rw [hlen] at hl
  have HX := Lib.hid (heap_alloc_new w (.cells #[.int .u16 t.r, .int .u32 t.seq, .int .u64 t.clock, .int .i64 t.user, .slice p xs.length c] 36))
  by_cases g : xs.length ≤ 40
  · have g' : ¬ (40 : Int) < (xs.length : Int) := by omega
    have HS2 : Hid (S = (xs.map (·.1)).all smallO) := by show _ = _; rw [HS.out, decide_eq_true g, Bool.true_and]
    clear HS
    go_enter Tryz.func22, Tryz.ntmps22
    go_wp2
    go_loopg [12] xs.length (fun g i wr => ∃ k : Nat, k ≤ xs.length ∧ xs.length - k ≤ g ∧ i = .int .i64 (k : Int) ∧ ((xs.take k).map (·.1)).all smallO = true ∧ Below w.heap.size w wr)
    case atStart => exact ⟨0, Nat.zero_le _, by omega, rfl, rfl, below_alloc (Below.refl _ _) _⟩
    case round =>
      obtain ⟨k, hk, hg, rfl, ha, hB⟩ := hrel
      have HA := Lib.hid ha
      have HB := Lib.hid hB
      clear ha hB
      by_cases hlt : k < xs.length
      · have hkl : (k : Int) < (xs.length : Int) := by omega
        have HAK := Lib.hid (HALL.out k hlt)
        rw [HA.out, Bool.true_and] at HAK
        have HNK := Lib.hid (HNO.out k hlt)
        have hqk := HQ.out k hlt
        obtain ⟨b, o, rfl, c0, c1, c2, c3, c4, c5, c6⟩ := orow_at (HR.out.below HB.out) hlt
        generalize xs.getD k ov0 = x at c0 c1 c2 c3 c4 c5 c6 HAK HNK hqk
        obtain ⟨om, px, cx⟩ := x
        simp only at c0 c1 c2 c3 c4 c5 c6 HAK HNK hqk
        have hbt : (⟨om.text.toArray⟩ : ByteArray).size = om.text.length := rfl
        have HSO : Hid (smallO om = (decide (om.text.length ≤ 300) && decide (om.spans.length ≤ 60))) := rfl
        generalize (⟨om.text.toArray⟩ : ByteArray) = bt at c4 hbt
        by_cases t1 : om.text.length ≤ 300
        · have t1' : ¬ (300 : Int) < (bt.size : Int) := by omega
          by_cases s1 : om.spans.length ≤ 60
          · have s1' : ¬ (60 : Int) < (om.spans.length : Int) := by omega
            have HY : Hid (((xs.take (k + 1)).map (·.1)).all smallO = true) := by show _ = _; rw [HAK.out, HSO.out, decide_eq_true t1, decide_eq_true s1]; rfl
            go_wp2
            go_roundg (xs.length - (k + 1))
            case measure => omega
            case rel => exact ⟨k + 1, by omega, Nat.le_refl _, by go_num, HY.out, below_alloc HB.out _⟩
          · have s1' : (60 : Int) < (om.spans.length : Int) := by omega
            have HE : Hid (S = false) := by show _ = _; rw [HS2.out]; exact HNK.out (by rw [HSO.out, decide_eq_false s1, Bool.and_false])
            go_wp2
            go_ret
            exact ⟨by rw [HE.out]; rfl, below_alloc HB.out _⟩
        · have t1' : (300 : Int) < (bt.size : Int) := by omega
          have HE : Hid (S = false) := by show _ = _; rw [HS2.out]; exact HNK.out (by rw [HSO.out, decide_eq_false t1, Bool.false_and])
          go_wp2
          go_ret
          exact ⟨by rw [HE.out]; rfl, below_alloc HB.out _⟩
      · have : k = xs.length := by omega
        subst this
        have hkl : ¬ (xs.length : Int) < (xs.length : Int) := by omega
        have HE : Hid (S = true) := by show _ = _; rw [HS2.out]; have := HA.out; rwa [List.take_length] at this
        go_wp2
        go_ret
        exact ⟨by rw [HE.out]; rfl, HB.out⟩
  · have g' : (40 : Int) < (xs.length : Int) := by omega
    have HE : Hid (S = false) := by show _ = _; rw [HS.out, decide_eq_false g, Bool.false_and]
    go_enter Tryz.func22, Tryz.ntmps22
    go_wp2
    go_ret
    exact ⟨by rw [HE.out]; rfl, below_alloc (Below.refl _ _) _⟩

set_option maxHeartbeats 6400000 in
set_option maxRecDepth 20000 in
theorem msameop_yes (o : Om) (p q : Option Addr) (c d : Nat) (w : World) (hR : GRow layS w p o.spans) (hS : GRow layS w q o.spans) (hl : o.spans.length ≤ 8796093021952) :
    Calls Tryz.prog 60 #[ov o p c, ov o q d] w fun e w' => e = .returned (.bool true) ∧ Below w.heap.size w w' := by
  have HR := Lib.hid hR
  have HS := Lib.hid hS
  obtain ⟨kind, r, n, num, text, spans, seq⟩ := o
  have HOV : Hid (∀ p c, ov ⟨kind, r, n, num, text, spans, seq⟩ p c = .agg #[.int .i64 kind, .int .u16 r, .int .u32 n, .int .u32 num, .string ⟨text.toArray⟩, .slice p spans.length c, .int .u32 seq]) := fun p c => rfl
  simp only [HOV.out] at HR HS hl ⊢
  clear hR hS HOV
  generalize (⟨text.toArray⟩ : ByteArray) = bt
  have H1 := Lib.hid (heap_alloc2_old w (.cells #[.int .i64 kind, .int .u16 r, .int .u32 n, .int .u32 num, .string bt, .slice p spans.length c, .int .u32 seq] 108) (.cells #[.int .i64 kind, .int .u16 r, .int .u32 n, .int .u32 num, .string bt, .slice q spans.length d, .int .u32 seq] 108))
  have H2 := Lib.hid (heap_alloc2_new w (.cells #[.int .i64 kind, .int .u16 r, .int .u32 n, .int .u32 num, .string bt, .slice p spans.length c, .int .u32 seq] 108) (.cells #[.int .i64 kind, .int .u16 r, .int .u32 n, .int .u32 num, .string bt, .slice q spans.length d, .int .u32 seq] 108))
  go_enter Tryz.func60, Tryz.ntmps60
  go_wp2_with fail
  have HRW : Hid (GRow layS ((w.alloc (.cells #[.int .i64 kind, .int .u16 r, .int .u32 n, .int .u32 num, .string bt, .slice p spans.length c, .int .u32 seq] 108)).alloc (.cells #[.int .i64 kind, .int .u16 r, .int .u32 n, .int .u32 num, .string bt, .slice q spans.length d, .int .u32 seq] 108)) p spans) := (HR.out.alloc _).alloc _
  have HSW : Hid (GRow layS ((w.alloc (.cells #[.int .i64 kind, .int .u16 r, .int .u32 n, .int .u32 num, .string bt, .slice p spans.length c, .int .u32 seq] 108)).alloc (.cells #[.int .i64 kind, .int .u16 r, .int .u32 n, .int .u32 num, .string bt, .slice q spans.length d, .int .u32 seq] 108)) q spans) := (HS.out.alloc _).alloc _
  have HBW : Hid (Below w.heap.size w ((w.alloc (.cells #[.int .i64 kind, .int .u16 r, .int .u32 n, .int .u32 num, .string bt, .slice p spans.length c, .int .u32 seq] 108)).alloc (.cells #[.int .i64 kind, .int .u16 r, .int .u32 n, .int .u32 num, .string bt, .slice q spans.length d, .int .u32 seq] 108))) := below_alloc (below_alloc (Below.refl _ _) _) _
  generalize (w.alloc (.cells #[.int .i64 kind, .int .u16 r, .int .u32 n, .int .u32 num, .string bt, .slice p spans.length c, .int .u32 seq] 108)).alloc (.cells #[.int .i64 kind, .int .u16 r, .int .u32 n, .int .u32 num, .string bt, .slice q spans.length d, .int .u32 seq] 108) = W at H1 H2 HRW HSW HBW ⊢
  clear HR HS
  go_loopg [51] spans.length (fun g i wr => ∃ k : Nat, k ≤ spans.length ∧ spans.length - k ≤ g ∧ i = .int .i64 (k : Int) ∧ Below W.heap.size W wr)
  case atStart => exact ⟨0, Nat.zero_le _, by omega, rfl, Below.refl _ _⟩
  case round =>
    obtain ⟨k, hk, hg, rfl, hB⟩ := hrel
    have HB := Lib.hid hB
    clear hB
    by_cases hlt : k < spans.length
    · have hkl : (k : Int) < (spans.length : Int) := by omega
      have hk0 : (0 : Int) ≤ (k : Int) := by omega
      obtain ⟨b1, o1, rfl, a0, a1, a2⟩ := srow_at (HRW.out.below HB.out) hlt
      obtain ⟨b2, o2, rfl, e0, e1, e2⟩ := srow_at (HSW.out.below HB.out) hlt
      have x5 := (seven_cells (kept_box H1.out HB.out)).2.2.2.2.2.1
      have y5 := (seven_cells (kept_box H2.out HB.out)).2.2.2.2.2.1
      generalize spans.getD k s0 = s at a0 a1 a2 e0 e1 e2
      obtain ⟨r', n', m'⟩ := s
      simp only at a0 a1 a2 e0 e1 e2
      go_wp2_with fail
      go_quiet (fail)
      go_wp2
      go_roundg (spans.length - (k + 1))
      case measure => omega
      case rel => exact ⟨k + 1, by omega, Nat.le_refl _, by go_num, below_drewN HB.out _⟩
    · have : k = spans.length := by omega
      subst this
      have hkl : ¬ (spans.length : Int) < (spans.length : Int) := by omega
      go_wp2
      go_ret
      exact ⟨rfl, below_step HBW.out HB.out⟩

set_option maxHeartbeats 6400000 in
set_option maxRecDepth 20000 in
theorem msametxn_yes (t : Tm) (xs ys : List OV) (p q : Option Addr) (c d : Nat) (w : World) (H : RowT t xs p c w) (Gops : t.ops = ys.map (·.1)) (Grow : GRow layO w q ys) (Geach : ∀ y ∈ ys, GRow layS w y.2.1 y.1.spans) (hl : t.ops.length ≤ 9223372036854775807) (hs : ∀ x ∈ xs, x.1.spans.length ≤ 8796093021952) :
    Calls Tryz.prog 34 #[tv t p c, tv t q d] w fun e w' => e = .returned (.bool true) ∧ Below w.heap.size w w' := by
  have hx : xs.length = t.ops.length := by rw [H.ops, List.length_map]
  have hy : ys.length = t.ops.length := by rw [Gops, List.length_map]
  have HEQ : Hid (∀ k, k < t.ops.length → (ys.getD k ov0).1 = (xs.getD k ov0).1) := fun k hk => by rw [← getD_map1 xs (by omega), ← getD_map1 ys (by omega), ← H.ops, ← Gops]
  have HSO : Hid (∀ k, k < t.ops.length → ∀ W, Below w.heap.size w W → Calls Tryz.prog 60 #[ov (xs.getD k ov0).1 (xs.getD k ov0).2.1 (xs.getD k ov0).2.2, ov (ys.getD k ov0).1 (ys.getD k ov0).2.1 (ys.getD k ov0).2.2] W fun e w' => e = .returned (.bool true) ∧ Below W.heap.size W w') := fun k hk W hb => by
    have h1 := (H.at (k := k) (by omega)).1.below hb
    have h2 := (Geach _ (getD_mem ov0 (i := k) (by omega))).below hb
    rw [HEQ.out k hk] at h2 ⊢
    exact msameop_yes _ _ _ _ _ W h1 h2 (hs _ (getD_mem ov0 (by omega)))
  have HR := Lib.hid H.row
  have HS := Lib.hid Grow
  clear H Gops Grow Geach HEQ
  unfold tv
  generalize t.ops.length = L at hl hx hy HSO ⊢
  obtain ⟨r, seq, clock, user, ops⟩ := t
  simp only
  have H1 := Lib.hid (heap_alloc2_old w (.cells #[.int .u16 r, .int .u32 seq, .int .u64 clock, .int .i64 user, .slice p L c] 46) (.cells #[.int .u16 r, .int .u32 seq, .int .u64 clock, .int .i64 user, .slice q L d] 46))
  have H2 := Lib.hid (heap_alloc2_new w (.cells #[.int .u16 r, .int .u32 seq, .int .u64 clock, .int .i64 user, .slice p L c] 46) (.cells #[.int .u16 r, .int .u32 seq, .int .u64 clock, .int .i64 user, .slice q L d] 46))
  go_enter Tryz.func34, Tryz.ntmps34
  go_wp2_with fail
  have HBW : Hid (Below w.heap.size w ((w.alloc (.cells #[.int .u16 r, .int .u32 seq, .int .u64 clock, .int .i64 user, .slice p L c] 46)).alloc (.cells #[.int .u16 r, .int .u32 seq, .int .u64 clock, .int .i64 user, .slice q L d] 46))) := below_alloc (below_alloc (Below.refl _ _) _) _
  generalize (w.alloc (.cells #[.int .u16 r, .int .u32 seq, .int .u64 clock, .int .i64 user, .slice p L c] 46)).alloc (.cells #[.int .u16 r, .int .u32 seq, .int .u64 clock, .int .i64 user, .slice q L d] 46) = W at H1 H2 HBW ⊢
  go_loopg [44] L (fun g i wr => ∃ k : Nat, k ≤ L ∧ L - k ≤ g ∧ i = .int .i64 (k : Int) ∧ Below W.heap.size W wr)
  case atStart => exact ⟨0, Nat.zero_le _, by omega, rfl, Below.refl _ _⟩
  case round =>
    obtain ⟨k, hk, hg, rfl, hB⟩ := hrel
    have HB := Lib.hid hB
    have HBB : Hid (Below w.heap.size w wr) := below_step HBW.out HB.out
    clear hB
    by_cases hlt : k < L
    · have hkl : (k : Int) < (L : Int) := by omega
      have hk0 : (0 : Int) ≤ (k : Int) := by omega
      have HSK : Hid (∀ dd os, Calls Tryz.prog 60 #[ov (xs.getD k ov0).1 (xs.getD k ov0).2.1 (xs.getD k ov0).2.2, ov (ys.getD k ov0).1 (ys.getD k ov0).2.1 (ys.getD k ov0).2.2] (Go.Sort.grow (redrawn wr dd) os) fun e w' => e = .returned (.bool true) ∧ Below (Go.Sort.grow (redrawn wr dd) os).heap.size (Go.Sort.grow (redrawn wr dd) os) w') := fun dd os => HSO.out k hlt _ (below_step HBB.out (below_regrown _ _ _))
      obtain ⟨b1, o1, rfl, a0', a1', a2', a3', a4', a5', a6'⟩ := orow_at (HR.out.below HBB.out) (by omega : k < xs.length)
      obtain ⟨b2, o2, rfl, e0', e1', e2', e3', e4', e5', e6'⟩ := orow_at (HS.out.below HBB.out) (by omega : k < ys.length)
      have x5' := (five_cells (kept_box H1.out HB.out)).2.2.2.2
      have y5' := (five_cells (kept_box H2.out HB.out)).2.2.2.2
      have a0 := cell_regrown a0'
      have a1 := cell_regrown a1'
      have a2 := cell_regrown a2'
      have a3 := cell_regrown a3'
      have a4 := cell_regrown a4'
      have a5 := cell_regrown a5'
      have a6 := cell_regrown a6'
      have e0 := cell_regrown e0'
      have e1 := cell_regrown e1'
      have e2 := cell_regrown e2'
      have e3 := cell_regrown e3'
      have e4 := cell_regrown e4'
      have e5 := cell_regrown e5'
      have e6 := cell_regrown e6'
      have x5 := cell_regrown x5'
      have y5 := cell_regrown y5'
      clear a0' a1' a2' a3' a4' a5' a6' e0' e1' e2' e3' e4' e5' e6' x5' y5'
      generalize xs.getD k ov0 = x at a0 a1 a2 a3 a4 a5 a6 HSK
      generalize ys.getD k ov0 = y at e0 e1 e2 e3 e4 e5 e6 HSK
      obtain ⟨ox, px, cx⟩ := x
      obtain ⟨oy, py, cy⟩ := y
      unfold ov at HSK
      simp only at a0 a1 a2 a3 a4 a5 a6 e0 e1 e2 e3 e4 e5 e6 HSK
      generalize (⟨ox.text.toArray⟩ : ByteArray) = btx at a4 HSK
      generalize (⟨oy.text.toArray⟩ : ByteArray) = bty at e4 HSK
      go_wp2_with fail
      refine wp_region_quiet_below (by kernel_rfl) (by kernel_rfl) ?_
      repeat (first | go_big_quiet_step ((go_at_call 60; exact Calls.regrown_of (HSK.out _ _))) | quiet_step ((go_at_call 60; exact Calls.regrown_of (HSK.out _ _))))
      refine wpQuiet_nil ?_
      intro _ hw'
      obtain ⟨⟨dq, osq⟩, hw''⟩ := hw'
      subst hw''
      clear a0 a1 a2 a3 a4 a5 a6 e0 e1 e2 e3 e4 e5 e6 x5 y5
      go_wp2
      go_roundg (L - (k + 1))
      case measure => omega
      case rel => exact ⟨k + 1, by omega, Nat.le_refl _, by go_num, below_step HB.out (below_regrown _ _ _)⟩
    · have : k = L := by omega
      subst this
      have hkl : ¬ (k : Int) < (k : Int) := by omega
      go_wp2
      go_ret
      exact ⟨rfl, HBB.out⟩
end Go.Proofs.YtjkdcpalgfakhaaGreat
/-
  What the laws' own deps, ref and small of layer 10 hand back. No conditions beyond what each theorem states.
-/
namespace Go.Proofs.YtjkdcpalgfakhaaGreat
open Go.ChangeShapes Go.WideShapes Go.ChangeAt Go.RowKit Go.Lib
set_option linter.unusedVariables false
set_option linter.unusedSimpArgs false

/-- Entries in new memory of the call's own. -/
def MadeD (xs : List Vec.En) (w : World) (e : Ending) (w' : World) : Prop := ∃ p c, e = .returned (.slice p xs.length c) ∧ Vec.Row w' p xs ∧ KindAt 75 w' p ∧ Below w.heap.size w w'
/-- Few entries, and a small transaction. -/
def smallE (e : Em) : Bool := decide (e.deps.length ≤ 100) && smallT e.txn
theorem RowT.only {w w' : World} {t : Tm} {us : List OV} {p : Option Addr} {cp X m m2 : Nat} {k k2 : Nat} {pv qv : Option Addr} {a b c d : Int} {ty : TypeId} (h : RowT t us p cp w) (hX : w.heap[X]? = some (.cells #[.slice pv m k, .int .u16 a, .int .u32 b, .int .u64 c, .int .i64 d, .slice qv m2 k2] ty (0, 0))) (ho : Only X w w') : RowT t us p cp w' :=
  ⟨h.ops, grow_apartO h.row hX ho, fun x hx => ⟨grow_apartS (h.each x hx).1 hX ho, (h.each x hx).2⟩, h.cap, h.nil⟩
/-- An envelope as the document has it, made by the law. -/
def MadeE (e : Em) (w : World) (r : Ending) (w' : World) : Prop := ∃ ys p c q d, r = .returned (ev e p c q d) ∧ Vec.Row w' p e.deps ∧ KindAt 75 w' p ∧ RowT e.txn ys q d w' ∧ Below w.heap.size w w'
end Go.Proofs.YtjkdcpalgfakhaaGreat
/-
  What the laws' own same of layer 10 tells, of one envelope twice. No conditions beyond what each theorem states.
-/
namespace Go.Proofs.YtjkdcpalgfakhaaGreat
open Go.ChangeShapes Go.WideShapes Go.ChangeAt Go.RowKit Go.Lib
set_option linter.unusedVariables false
set_option linter.unusedSimpArgs false

end Go.Proofs.YtjkdcpalgfakhaaGreat
/-
  What the laws' own Vector and Envelope of copyistsent hand back. No conditions beyond what each theorem states.
-/
namespace Go.Proofs.YtjkdcpalgfakhaaGreat
open Go.ChangeShapes Go.WideShapes Go.ChangeAt Go.RowKit Go.Lib
set_option linter.unusedVariables false
set_option linter.unusedSimpArgs false

set_option maxHeartbeats 1600000 in
set_option maxRecDepth 20000 in
theorem svec_any (xs : List Vec.En) (p : Option Addr) (c : Nat) (w : World) (hR : Vec.Row w p xs) (hl : xs.length ≤ 17592186043904) :
    Calls Tryz.prog 7 #[.slice p xs.length c] w (MadeD xs w) := by
  have HR := Lib.hid hR
  clear hR
  obtain ⟨i0, hi, hz0, hz1, hz2⟩ := info_parts infoE2
  unfold MadeD
  go_enter Tryz.func7, Tryz.ntmps7
  go_wp2
  go_loopg [3, 8] xs.length (fun g v i wr => ∃ k : Nat, k ≤ xs.length ∧ xs.length - k ≤ g ∧ i = .int .i64 k ∧ Hold layV w 75 v (xs.take k) wr)
  case atStart => exact ⟨0, Nat.zero_le _, by omega, rfl, Hold.nil _ _ _⟩
  case round =>
    obtain ⟨k, hk, hg, rfl, hH⟩ := hrel
    have HH := Lib.hid hH
    clear hH
    by_cases hlt : k < xs.length
    · obtain ⟨b, o, rfl, c0', c1'⟩ := HR.out k hlt
      have c0 := cellU c0' HH.out.2
      have c1 := cellU c1' HH.out.2
      have HNX : Hid (xs.take (k + 1) = xs.take k ++ [Vec.atL xs k]) := Vec.take_atL xs k hlt
      have HTL : Hid ((xs.take k).length = k) := by show _ = _; rw [List.length_take]; omega
      clear c0' c1'
      generalize Vec.atL xs k = s at c0 c1 HNX
      obtain ⟨x, y⟩ := s
      simp only at c0 c1 HNX
      generalize xs.take k = ys at HH HNX HTL
      have hyl : ys.length ≤ 17592186043904 := by rw [HTL.out]; omega
      go_wp2_with (first
        | (at_builtin; refine wpList_append_own _ rfl (.tmp 12) (.tmp 14) 42 rfl w.heap.size 75 i0 (.agg #[.int .u16 0, .int .u32 0]) 2 8 Tryz.underlying42 hi hz0 hz1 hz2 rfl (by decide) _ ys.length (layV.flat ys) rfl ((HH.out.alloc _).alloc _).1 ⟨wr.heap.size + 1, 0, none⟩ 1 1 [.int .u16 x, .int .u32 y] rfl rfl (Vec.cells_pair 75 (by simp) (by simp)) (layV.one (x, y)) (by unfold maxLen; omega) (by omega) (by have := HH.out.2.size; simp; omega) ?_))
      intro v' w7 hown hgrow _
      have HH7 : Hid (Hold layV w 75 v' (ys ++ [(x, y)]) w7) := ((HH.out.alloc _).alloc _).onto (ys := [(x, y)]) (by rw [layV.flat_one]; rfl) (by simp) hown hgrow
      clear hown hgrow HH
      go_wp2
      go_roundg (xs.length - (k + 1))
      case measure => omega
      case rel => exact ⟨k + 1, by omega, Nat.le_refl _, by go_num, by rw [HNX.out]; exact HH7.out⟩
    · have : k = xs.length := by omega
      subst this
      rw [List.take_length] at HH
      obtain ⟨p', c', rfl, hG, -, -⟩ := HH.out.gave layV_pos
      have HG := Lib.hid (vrow hG)
      clear hG
      go_wp2
      go_ret
      exact ⟨p', c', rfl, HG.out, kind_owns HH.out.1, HH.out.2⟩

/-- An envelope as the document has it, in blocks of their kinds. -/
def MadeEK (e : Em) (w : World) (r : Ending) (w' : World) : Prop := ∃ ys p c q d, r = .returned (ev e p c q d) ∧ Vec.Row w' p e.deps ∧ KindAt 75 w' p ∧ RowT e.txn ys q d w' ∧ Below w.heap.size w w' ∧ KindAt 108 w' q ∧ ∀ y ∈ ys, KindAt 136 w' y.2.1
set_option maxHeartbeats 6400000 in
set_option maxRecDepth 20000 in
theorem senv_any (e : Em) (xs : List OV) (p q : Option Addr) (c d : Nat) (w : World) (hR : Vec.Row w p e.deps) (hm : e.deps.length ≤ 17592186043904) (H : RowT e.txn xs q d w) (hl : e.txn.ops.length ≤ 1954687338211) (hs : ∀ x ∈ xs, x.1.spans.length ≤ 8796093021952) :
    Calls Tryz.prog 8 #[ev e p c q d] w (MadeEK e w) := by
  have H1 : Hid (∀ W, Below w.heap.size w W → Calls Tryz.prog 7 #[.slice p e.deps.length c] W (MadeD e.deps W)) := fun W hb => svec_any e.deps p c W (hR.below hb) hm
  have H2 : Hid (∀ W, Below w.heap.size w W → Calls Tryz.prog 24 #[.agg #[.int .u16 e.txn.r, .int .u32 e.txn.seq, .int .u64 e.txn.clock, .int .i64 e.txn.user, .slice q e.txn.ops.length d]] W (MadeTK e.txn W)) := fun W hb => mtxn_kind e.txn xs q d W (H.below hb) hl hs
  clear hR H hl hs
  unfold MadeTK tv at H2
  unfold MadeD at H1
  unfold ev
  obtain ⟨deps, t⟩ := e
  simp only at *
  generalize hLL : deps.length = L at H1 hm ⊢
  have HLL : Hid (deps.length = L) := hLL
  clear hLL
  have HX1 := Lib.hid (heap_alloc2_old w (.cells #[.slice p L c, .int .u16 t.r, .int .u32 t.seq, .int .u64 t.clock, .int .i64 t.user, .slice q t.ops.length d] 38) (.cells #[.slice none 0 0, .int .u16 0, .int .u32 0, .int .u64 0, .int .i64 0, .slice none 0 0] 48))
  have HX2 := Lib.hid (heap_alloc2_new w (.cells #[.slice p L c, .int .u16 t.r, .int .u32 t.seq, .int .u64 t.clock, .int .i64 t.user, .slice q t.ops.length d] 38) (.cells #[.slice none 0 0, .int .u16 0, .int .u32 0, .int .u64 0, .int .i64 0, .slice none 0 0] 48))
  have HB0 : Hid (Below w.heap.size w ((w.alloc (.cells #[.slice p L c, .int .u16 t.r, .int .u32 t.seq, .int .u64 t.clock, .int .i64 t.user, .slice q t.ops.length d] 38)).alloc (.cells #[.slice none 0 0, .int .u16 0, .int .u32 0, .int .u64 0, .int .i64 0, .slice none 0 0] 48))) := below_alloc (below_alloc (Below.refl _ _) _) _
  go_enter Tryz.func8, Tryz.ntmps8
  go_wp2_with fail
  generalize ((w.alloc (.cells #[.slice p L c, .int .u16 t.r, .int .u32 t.seq, .int .u64 t.clock, .int .i64 t.user, .slice q t.ops.length d] 38)).alloc (.cells #[.slice none 0 0, .int .u16 0, .int .u32 0, .int .u64 0, .int .i64 0, .slice none 0 0] 48)) = w0 at HX1 HX2 HB0 ⊢
  have HC : Hid (∀ W, Below w0.heap.size w0 W → _) := fun W hb => six_cells (kept_box HX1.out hb)
  have HD : Hid (∀ W, Below w0.heap.size w0 W → W.heap[w.heap.size + 1]? = some (.cells #[.slice none 0 0, .int .u16 0, .int .u32 0, .int .u64 0, .int .i64 0, .slice none 0 0] 48 (0, 0))) := fun W hb => kept_box HX2.out hb
  have L0 : Below w0.heap.size w0 w0.drew := (Below.refl _ _).drew
  obtain ⟨x0, x1, x2, x3, x4, x5⟩ := HC.out _ L0
  go_region_with (first
    | (go_at_call 7; refine (H1.out _ (by first | exact below_step HB0.out L0 | exact below_step HB0.out T1)).mono ?_; rintro e w3 ⟨p3, c3, rfl, hv3, hk3, hb3⟩
       have D1 := (by first | exact below_step T1 hb3 | exact below_step L0 hb3 : Below w0.heap.size w0 w3)
       obtain ⟨y0, y1, y2, y3, y4, y5⟩ := HC.out _ D1
       obtain ⟨r0, r1, r2, r3, r4, r5⟩ := six_cells (HD.out _ D1)
       have fD := fun o => frozen_of_block (o := o) (HD.out _ D1))
    | (go_at_call 24; refine (H2.out _ (by first | exact below_step HB0.out D1 | exact below_step HB0.out L0)).mono ?_; rintro e w4 ⟨us, p4, c4, rfl, hT4, hb4, hko4, hks4⟩
       have T1 := (by first | exact below_step D1 hb4 | exact below_step L0 hb4 : Below w0.heap.size w0 w4)
       obtain ⟨z0, z1, z2, z3, z4, z5⟩ := HC.out _ T1
       obtain ⟨s0, s1, s2, s3, s4, s5⟩ := six_cells (HD.out _ T1)
       have fT := fun o => frozen_of_block (o := o) (HD.out _ T1)))
  all_goals first
    | (have hX := HD.out _ T1
       have hv := hv3.below hb4
       have hk := hk3.below hb4
       have hT := hT4
       have hko := hko4
       have hks := hks4
       have hB := below_step HB0.out T1
       have HXX := Lib.hid hX
       have HVV := Lib.hid hv
       have HKK := Lib.hid hk
       have HTT := Lib.hid hT
       have HBB := Lib.hid hB
       have HKO := Lib.hid hko
       have HKS := Lib.hid hks
       clear hX hv hk hT hB hko hks
       go_wp2
       (try simp only [Exit.inBlock, Exit.then])
       have hS := only_six w4 (w.heap.size + 1) (.slice p3 L c3) (.int .u16 t.r) (.int .u32 t.seq) (.int .u64 t.clock) (.int .i64 t.user) (.slice p4 t.ops.length c4)
       have hap := HKK.out.apart (by decide) HXX.out
       refine bodyPost_ret (results_cell_row rfl _ _ (w.heap.size + 1) 48 #[.slice p3 L c3, .int .u16 t.r, .int .u32 t.seq, .int .u64 t.clock, .int .i64 t.user, .slice p4 t.ops.length c4] (0, 0) _ rfl (box_six HXX.out) Tryz.underlying48 rfl szE) rfl ?_
       unfold MadeEK ev
       exact ⟨us, p3, c3, p4, c4, by simp only [HLL.out], vrow_kept HVV.out hS hap, HKK.out.kept hS hap, HTT.out.only HXX.out hS, HBB.out.trans (hS.below HBB.out.size (fun i ei => by have ei : i = w.heap.size + 1 := ei; omega)), HKO.out.kept hS (HKO.out.apart (by decide) HXX.out), fun y hy => (HKS.out y hy).kept hS ((HKS.out y hy).apart (by decide) HXX.out)⟩)
    | (have hX := HD.out _ D1
       have hv := hv3
       have hk := hk3
       have hT := hT4.below hb3
       have hko := hko4.below hb3
       have hks := (fun y hy => (hks4 y hy).below hb3 : ∀ y ∈ us, KindAt 136 w3 y.2.1)
       have hB := below_step HB0.out D1
       have HXX := Lib.hid hX
       have HVV := Lib.hid hv
       have HKK := Lib.hid hk
       have HTT := Lib.hid hT
       have HBB := Lib.hid hB
       have HKO := Lib.hid hko
       have HKS := Lib.hid hks
       clear hX hv hk hT hB hko hks
       go_wp2
       (try simp only [Exit.inBlock, Exit.then])
       have hS := only_six w3 (w.heap.size + 1) (.slice p3 L c3) (.int .u16 t.r) (.int .u32 t.seq) (.int .u64 t.clock) (.int .i64 t.user) (.slice p4 t.ops.length c4)
       have hap := HKK.out.apart (by decide) HXX.out
       refine bodyPost_ret (results_cell_row rfl _ _ (w.heap.size + 1) 48 #[.slice p3 L c3, .int .u16 t.r, .int .u32 t.seq, .int .u64 t.clock, .int .i64 t.user, .slice p4 t.ops.length c4] (0, 0) _ rfl (box_six HXX.out) Tryz.underlying48 rfl szE) rfl ?_
       unfold MadeEK ev
       exact ⟨us, p3, c3, p4, c4, by simp only [HLL.out], vrow_kept HVV.out hS hap, HKK.out.kept hS hap, HTT.out.only HXX.out hS, HBB.out.trans (hS.below HBB.out.size (fun i ei => by have ei : i = w.heap.size + 1 := ei; omega)), HKO.out.kept hS (HKO.out.apart (by decide) HXX.out), fun y hy => (HKS.out y hy).kept hS ((HKS.out y hy).apart (by decide) HXX.out)⟩)
end Go.Proofs.YtjkdcpalgfakhaaGreat
/-
  Envelopes in rows: how they lie in memory. No conditions beyond what each theorem states.
-/
namespace Go.Proofs.YtjkdcpalgfakhaaGreat
open Go.ChangeShapes Go.WideShapes Go.ChangeAt Go.RowKit Go.Lib
set_option linter.unusedVariables false
set_option linter.unusedSimpArgs false

/-- An envelope as it lies in memory: what it is, and where its rows lie. -/
structure EV where
  e : Em
  ys : List OV
  p : Option Addr
  c : Nat
  q : Option Addr
  d : Nat
def x0E : EV := ⟨e0, [], none, 0, none, 0⟩
def layE : Lay EV := ⟨6, fun x => [.slice x.p x.e.deps.length x.c, .int .u16 x.e.txn.r, .int .u32 x.e.txn.seq, .int .u64 x.e.txn.clock, .int .i64 x.e.txn.user, .slice x.q x.e.txn.ops.length x.d], fun _ => rfl, fun x u hu => by
  simp at hu
  rcases hu with rfl | rfl | rfl | rfl | rfl | rfl <;> rfl⟩
theorem layE_pos : 0 < layE.k := by decide
theorem erow_at {w : World} {p : Option Addr} {xs : List EV} (h : GRow layE w p xs) {i : Nat} (hi : i < xs.length) : ∃ b o, p = some ⟨b, o, none⟩ ∧ w.cell? ⟨b, o + i * 6, none⟩ = some (.slice (xs.getD i x0E).p (xs.getD i x0E).e.deps.length (xs.getD i x0E).c) ∧ w.cell? ⟨b, o + i * 6 + 1, none⟩ = some (.int .u16 (xs.getD i x0E).e.txn.r) ∧ w.cell? ⟨b, o + i * 6 + 2, none⟩ = some (.int .u32 (xs.getD i x0E).e.txn.seq) ∧ w.cell? ⟨b, o + i * 6 + 3, none⟩ = some (.int .u64 (xs.getD i x0E).e.txn.clock) ∧ w.cell? ⟨b, o + i * 6 + 4, none⟩ = some (.int .i64 (xs.getD i x0E).e.txn.user) ∧ w.cell? ⟨b, o + i * 6 + 5, none⟩ = some (.slice (xs.getD i x0E).q (xs.getD i x0E).e.txn.ops.length (xs.getD i x0E).d) := by
  obtain ⟨b, o, rfl, h0⟩ := h.cell x0E (j := 0) hi rfl
  obtain ⟨b1, o1, e1, h1⟩ := h.cell x0E (j := 1) hi rfl
  obtain ⟨b2, o2, e2, h2⟩ := h.cell x0E (j := 2) hi rfl
  obtain ⟨b3, o3, e3, h3⟩ := h.cell x0E (j := 3) hi rfl
  obtain ⟨b4, o4, e4, h4⟩ := h.cell x0E (j := 4) hi rfl
  obtain ⟨b5, o5, e5, h5⟩ := h.cell x0E (j := 5) hi rfl
  cases e1; cases e2; cases e3; cases e4; cases e5
  exact ⟨b, o, rfl, h0, h1, h2, h3, h4, h5⟩
/-- An envelope's rows. -/
structure RowE (w : World) (x : EV) : Prop where
  deps : Vec.Row w x.p x.e.deps
  txn : RowT x.e.txn x.ys x.q x.d w
theorem RowE.below {w w' : World} {x : EV} (h : RowE w x) (hb : Below w.heap.size w w') : RowE w' x := ⟨h.deps.below hb, h.txn.below hb⟩
/-- .. in blocks of the document's kinds. -/
structure KindE (w : World) (x : EV) : Prop where
  deps : KindAt 75 w x.p
  ops : KindAt 108 w x.q
  spans : ∀ y ∈ x.ys, KindAt 136 w y.2.1
theorem KindE.below {w w' : World} {x : EV} (h : KindE w x) (hb : Below w.heap.size w w') : KindE w' x := ⟨h.deps.below hb, h.ops.below hb, fun y hy => (h.spans y hy).below hb⟩
/-- No block of S is of one of the document's kinds. -/
def Others (S : Nat → Prop) (w : World) : Prop := ∀ k, S k → ∀ cs t f, w.heap[k]? = some (.cells cs t f) → t ≠ 48 ∧ t ≠ 75 ∧ t ≠ 108 ∧ t ≠ 136 ∧ t ≠ 74
theorem Others.apart {S : Nat → Prop} {w : World} (h : Others S w) {t : TypeId} (ht : t = 48 ∨ t = 75 ∨ t = 108 ∨ t = 136 ∨ t = 74) {p : Option Addr} (hk : KindAt t w p) : ∀ q, p = some q → ¬ S q.block := fun q e hs => by
  obtain ⟨cs', f', hq⟩ := hk q e
  obtain ⟨h1, h2, h3, h4, h5⟩ := h _ hs _ _ _ hq
  rcases ht with rfl | rfl | rfl | rfl | rfl
  · exact h1 rfl
  · exact h2 rfl
  · exact h3 rfl
  · exact h4 rfl
  · exact h5 rfl
theorem KindE.kept {S : Nat → Prop} {w w' : World} {x : EV} (h : KindE w x) (hS : Others S w) (hk : Kept S w w') : KindE w' x :=
  ⟨h.deps.kept hk (hS.apart (Or.inr (Or.inl rfl)) h.deps), h.ops.kept hk (hS.apart (Or.inr (Or.inr (Or.inl rfl))) h.ops), fun y hy => (h.spans y hy).kept hk (hS.apart (Or.inr (Or.inr (Or.inr (Or.inl rfl)))) (h.spans y hy))⟩
theorem RowE.kept {S : Nat → Prop} {w w' : World} {x : EV} (h : RowE w x) (hx : KindE w x) (hS : Others S w) (hk : Kept S w w') : RowE w' x :=
  ⟨vrow_kept h.deps hk (hS.apart (Or.inr (Or.inl rfl)) hx.deps), ⟨h.txn.ops, h.txn.row.kept hk (hS.apart (Or.inr (Or.inr (Or.inl rfl))) hx.ops), fun y hy => ⟨(h.txn.each y hy).1.kept hk (hS.apart (Or.inr (Or.inr (Or.inr (Or.inl rfl)))) (hx.spans y hy)), (h.txn.each y hy).2⟩, h.txn.cap, h.txn.nil⟩⟩
/-- The document's envelopes, in a row. -/
structure ListE (w : World) (p : Option Addr) (xs : List EV) : Prop where
  row : GRow layE w p xs
  kind : KindAt 48 w p
  each : ∀ x ∈ xs, RowE w x ∧ KindE w x
theorem ListE.below {w w' : World} {p : Option Addr} {xs : List EV} (h : ListE w p xs) (hb : Below w.heap.size w w') : ListE w' p xs := ⟨h.row.below hb, h.kind.below hb, fun x hx => ⟨(h.each x hx).1.below hb, (h.each x hx).2.below hb⟩⟩
theorem ListE.kept {S : Nat → Prop} {w w' : World} {p : Option Addr} {xs : List EV} (h : ListE w p xs) (hS : Others S w) (hk : Kept S w w') : ListE w' p xs :=
  ⟨h.row.kept hk (hS.apart (Or.inl rfl) h.kind), h.kind.kept hk (hS.apart (Or.inl rfl) h.kind), fun x hx => ⟨(h.each x hx).1.kept (h.each x hx).2 hS hk, (h.each x hx).2.kept hS hk⟩⟩
theorem ListE.nil (w : World) : ListE w none [] := ⟨GRow.nil _ _ _, KindAt.nil _ _, fun x hx => (by cases hx)⟩
/-- A row of the document's envelopes that a call has made, of rows that there were. -/
def GaveE (l : List EV) (w : World) (e : Ending) (w' : World) : Prop := ∃ p c, e = .returned (.slice p l.length c) ∧ GRow layE w' p l ∧ KindAt 48 w' p ∧ Below w.heap.size w w'
theorem infoE10 : (Tryz.prog.info? 48).map (fun i => (i.zero, i.size, i.bytes)) = some (some (.agg #[.slice none 0 0, .int .u16 0, .int .u32 0, .int .u64 0, .int .i64 0, .slice none 0 0]), 6, 72) := by kernel_rfl
theorem filt_take {α : Type} (d : α) (f : α → Bool) {xs : List α} {k : Nat} (h : k < xs.length) : (xs.take (k + 1)).filter f = (xs.take k).filter f ++ (if f (xs.getD k d) = true then [xs.getD k d] else []) := by
  rw [take_getD d h, List.filter_append]
  congr 1
  by_cases hf : f (xs.getD k d) = true
  · rw [if_pos hf, List.filter_cons, if_pos hf]; rfl
  · rw [if_neg hf, List.filter_cons, if_neg hf]; rfl
theorem filt_len {α : Type} (f : α → Bool) (xs : List α) (k : Nat) : ((xs.take k).filter f).length ≤ xs.length := Nat.le_trans (List.length_filter_le _ _) (by rw [List.length_take]; omega)
end Go.Proofs.YtjkdcpalgfakhaaGreat
/-
  What must be known ahead of all that wait, and what it does to be told it; what waits once all are put. Of no program; no conditions beyond what each theorem states.
-/
namespace Go.Proofs.YtjkdcpalgfakhaaGreat
open Go.ChangeShapes Go.WideShapes Go.ChangeAt Go.RowKit Go.Lib
set_option linter.unusedVariables false
set_option linter.unusedSimpArgs false

/-- Fit, and in the types' ranges. -/
structure FairE (e : Em) : Prop where
  fit : fitE e = 0
  deps : Vec.Fits e.deps
  r0 : 0 ≤ e.txn.r
  r1 : e.txn.r ≤ 65535
theorem FairE.seq {e : Em} (h : FairE e) : 1 ≤ e.txn.seq ∧ e.txn.seq ≤ 268435456 := by
  have := fitT_ok (fitE_ok h.fit).2.2
  exact ⟨this.1, this.2.1⟩
theorem FairE.right {e : Em} (h : FairE e) : Vec.RightP e.deps := (fitE_ok h.fit).1
theorem sp_with {xs : List Vec.En} (h : Vec.SP xs) {r s : Int} : Vec.SP (Vec.withL xs r s) := by
  unfold Vec.withL
  refine List.pairwise_append.2 ⟨List.pairwise_append.2 ⟨h.filter _, ?_, ?_⟩, h.filter _, ?_⟩
  · unfold Vec.mid; split <;> simp
  · intro a ha b hb
    simp only [Vec.lo, List.mem_filter, decide_eq_true_eq] at ha
    unfold Vec.mid at hb
    split at hb
    · simp only [List.mem_singleton] at hb; subst hb; exact ha.2
    · cases hb
  · intro a ha b hb
    simp only [Vec.hi, List.mem_filter, decide_eq_true_eq] at hb
    rcases List.mem_append.1 ha with ha | ha
    · simp only [Vec.lo, List.mem_filter, decide_eq_true_eq] at ha; omega
    · unfold Vec.mid at ha
      split at ha
      · simp only [List.mem_singleton] at ha; subst ha; exact hb.2
      · cases ha
theorem mem_with {xs : List Vec.En} {r s : Int} {x : Vec.En} (h : x ∈ Vec.withL xs r s) : x ∈ xs ∨ x = (r, s) ∧ 0 < s := by
  unfold Vec.withL Vec.lo Vec.hi at h
  simp only [List.mem_append, List.mem_filter] at h
  rcases h with (h | h) | h
  · exact Or.inl h.1
  · unfold Vec.mid at h
    split at h
    · rename_i hs; exact Or.inr ⟨List.mem_singleton.1 h, hs⟩
    · cases h
  · exact Or.inl h.1
theorem right_sp {xs : List Vec.En} (h : Vec.RightP xs) : Vec.SP xs := Vec.sp_of_srt (Vec.srt_of_right h)
theorem right_with {xs : List Vec.En} (h : Vec.RightP xs) {r s : Int} (h2 : s ≤ 268435456) : Vec.RightP (Vec.withL xs r s) := by
  refine (Vec.right_iff _).2 ⟨Vec.srt_of_sp (sp_with (right_sp h)), fun x hx => ?_⟩
  rcases mem_with hx with hx | ⟨rfl, hs⟩
  · exact right_mem h x hx
  · exact ⟨by omega, h2⟩
theorem fits_with {xs : List Vec.En} (h : Vec.Fits xs) {r s : Int} (hr : 0 ≤ r ∧ r ≤ 65535) (h2 : s ≤ 4294967295) : Vec.Fits (Vec.withL xs r s) := fun x hx => by
  rcases mem_with hx with hx | ⟨rfl, hs⟩
  · exact h x hx
  · exact ⟨hr.1, hr.2, by show 0 ≤ s; omega, h2⟩

/-- What must be known ahead of one. -/
def needsOf (e : Em) : List Vec.En := e.deps ++ (if 1 < e.txn.seq then [(e.txn.r, e.txn.seq - 1)] else [])
theorem step_join {m v : List Vec.En} {e : Em} (hv : Vec.IsJoin m v) (h : FairE e) : Vec.IsJoin (m ++ needsOf e) (allStep v e) := by
  have h1 := hv.fold (ys := e.deps) (fun y hy => (right_mem h.right y hy).1)
  unfold allStep needsOf
  by_cases hq : 1 < e.txn.seq
  · rw [if_pos hq, if_pos hq, ← List.append_assoc]
    exact h1.fold (ys := [(e.txn.r, e.txn.seq - 1)]) (fun y hy => by rw [List.mem_singleton.1 hy]; show 1 ≤ e.txn.seq - 1; omega)
  · rw [if_neg hq, if_neg hq, List.append_nil]
    exact h1
theorem all_join {l : List Em} : ∀ {m v : List Vec.En}, Vec.IsJoin m v → (∀ x ∈ l, FairE x) → Vec.IsJoin (m ++ l.flatMap needsOf) (l.foldl allStep v) := by
  induction l with
  | nil => intro m v hv _; simpa using hv
  | cons x l ih =>
    intro m v hv h
    have := ih (step_join hv (h x (by simp))) (fun y hy => h y (by simp [hy]))
    rw [List.flatMap_cons, ← List.append_assoc, List.foldl_cons]
    exact this
theorem allM_join {l : List Em} (h : ∀ x ∈ l, FairE x) : Vec.IsJoin (l.flatMap needsOf) (allM l) := by
  have := all_join (l := l) (Vec.IsJoin.self (z := []) (by unfold Vec.SP; simp)) h
  rw [List.nil_append] at this
  exact this
theorem allM_sp {l : List Em} (h : ∀ x ∈ l, FairE x) : Vec.SP (allM l) := (allM_join h).sp
theorem mem_allM {l : List Em} (h : ∀ x ∈ l, FairE x) {y : Vec.En} (hy : y ∈ allM l) : 0 ≤ y.1 ∧ y.1 ≤ 65535 ∧ 1 ≤ y.2 ∧ y.2 ≤ 268435456 := by
  obtain ⟨x, hx, hm⟩ := List.mem_flatMap.1 ((allM_join h).sub y hy)
  have hf := h x hx
  have hs := hf.seq
  unfold needsOf at hm
  rcases List.mem_append.1 hm with hm | hm
  · have h1 := hf.deps y hm
    have h2 := right_mem hf.right y hm
    exact ⟨h1.1, h1.2.1, h2.1, h2.2⟩
  · split at hm
    · rw [List.mem_singleton.1 hm]
      have h0 := hf.r0
      have h1 := hf.r1
      refine ⟨h0, h1, ?_, ?_⟩
      · show 1 ≤ x.txn.seq - 1; omega
      · show x.txn.seq - 1 ≤ 268435456; omega
    · cases hm
theorem allM_fits {l : List Em} (h : ∀ x ∈ l, FairE x) : Vec.Fits (allM l) := fun y hy => by
  have := mem_allM h hy
  exact ⟨this.1, this.2.1, by omega, by omega⟩
theorem allM_right {l : List Em} (h : ∀ x ∈ l, FairE x) : Vec.RightP (allM l) := (Vec.right_iff _).2 ⟨Vec.srt_of_sp (allM_sp h), fun y hy => by
  have := mem_allM h hy
  exact ⟨this.2.2.1, this.2.2.2⟩⟩

/-- What is told, taken as known. -/
def raised (h : List Vec.En) (gs : List Vec.Gp) : List Vec.En := gs.foldl (fun v g => Vec.withL v g.1 g.2.2) h
theorem raised_other {gs : List Vec.Gp} {q : Int} : ∀ {h : List Vec.En}, (∀ g ∈ gs, 0 < g.2.2) → (∀ g ∈ gs, g.1 ≠ q) → Vec.getL (raised h gs) q = Vec.getL h q := by
  induction gs with
  | nil => intro h _ _; rfl
  | cons g gs ih =>
    intro h h1 h2
    have := ih (h := Vec.withL h g.1 g.2.2) (fun x hx => h1 x (by simp [hx])) (fun x hx => h2 x (by simp [hx]))
    show Vec.getL (raised (Vec.withL h g.1 g.2.2) gs) q = _
    rw [this, getL_with (h1 g (by simp)), if_neg (fun e => h2 g (by simp) e.symm)]
theorem raised_at {gs : List Vec.Gp} : ∀ {h : List Vec.En}, (∀ g ∈ gs, 0 < g.2.2) → gs.Pairwise (fun a b => a.1 < b.1) → ∀ g ∈ gs, Vec.getL (raised h gs) g.1 = g.2.2 := by
  induction gs with
  | nil => intro h _ _ g hg; cases hg
  | cons x gs ih =>
    intro h h1 h2 g hg
    obtain ⟨ha, hb⟩ := List.pairwise_cons.1 h2
    show Vec.getL (raised (Vec.withL h x.1 x.2.2) gs) g.1 = _
    rcases List.mem_cons.1 hg with rfl | hg
    · rw [raised_other (fun y hy => h1 y (by simp [hy])) (fun y hy e => by have := ha y hy; omega), getL_with (h1 g (by simp)), if_pos rfl]
    · exact ih (fun y hy => h1 y (by simp [hy])) hb g hg
theorem lacks_pair {xs ys : List Vec.En} (h : Vec.SP ys) : (Vec.lacksL xs ys).Pairwise (fun a b => a.1 < b.1) := by
  induction ys with
  | nil => exact List.Pairwise.nil
  | cons y ys ih =>
    obtain ⟨ha, hb⟩ := List.pairwise_cons.1 h
    show (Vec.lackAt xs y ++ Vec.lacksL xs ys).Pairwise _
    refine List.pairwise_append.2 ⟨?_, ih hb, ?_⟩
    · unfold Vec.lackAt; split <;> simp
    · intro a hA b hB
      have hb' := mem_lacksL hB
      have := ha _ hb'.1
      unfold Vec.lackAt at hA
      split at hA
      · rw [List.mem_singleton.1 hA]; exact this
      · cases hA
theorem lacks_pos {xs ys : List Vec.En} (h : Vec.RightP ys) : ∀ g ∈ Vec.lacksL xs ys, 1 ≤ g.2.2 ∧ g.2.2 ≤ 268435456 := fun g hg => right_mem h (g.1, g.2.2) (mem_lacksL hg).1
/-- Whoever is told all that is lacked, lacks none of it. -/
theorem raised_covers {h ys : List Vec.En} (hy : Vec.RightP ys) : ∀ y ∈ ys, y.2 ≤ Vec.getL (raised h (Vec.lacksL h ys)) y.1 := fun y hm => by
  have hp : ∀ g ∈ Vec.lacksL h ys, 0 < g.2.2 := fun g hg => by have := lacks_pos hy g hg; omega
  by_cases hl : Vec.getL h y.1 < y.2
  · have hg : (y.1, Vec.getL h y.1 + 1, y.2) ∈ Vec.lacksL h ys := List.mem_flatMap.2 ⟨y, hm, by unfold Vec.lackAt; rw [if_pos hl]; exact List.mem_singleton.2 rfl⟩
    have := raised_at (h := h) hp (lacks_pair (right_sp hy)) _ hg
    simp only at this
    omega
  · rw [raised_other hp (fun g hg e => ?_)]
    · omega
    · obtain ⟨h1, h2, h3⟩ := mem_lacksL hg
      have := Vec.sp_inj (right_sp hy) h1 hm e
      rw [← this] at hl
      exact hl h3
theorem raised_right {gs : List Vec.Gp} : ∀ {h : List Vec.En}, Vec.RightP h → (∀ g ∈ gs, g.2.2 ≤ 268435456) → Vec.RightP (raised h gs) := by
  induction gs with
  | nil => intro h hh _; exact hh
  | cons g gs ih =>
    intro h hh hg
    exact ih (h := Vec.withL h g.1 g.2.2) (right_with hh (hg g (by simp))) (fun y hy => hg y (by simp [hy]))

theorem wants_nil {l : List Em} {h : List Vec.En} : wantsM l h = [] ↔ ∀ y ∈ allM l, y.2 ≤ Vec.getL h y.1 := lacksL_nil
/-- Where all is known that must be ahead, each is ready or known. -/
theorem covered_each {l : List Em} {h : List Vec.En} (hl : ∀ x ∈ l, FairE x) (hr : Vec.RightP h) (hc : ∀ y ∈ allM l, y.2 ≤ Vec.getL h y.1) : ∀ x ∈ l, readyE x h = true ∨ pastE x h = true := fun x hx => by
  have key : ∀ y ∈ needsOf x, y.2 ≤ Vec.getL h y.1 := fun y hy => by
    obtain ⟨z, hz, e, le⟩ := (allM_join hl).dom y (List.mem_flatMap.2 ⟨x, hx, hy⟩)
    have := hc z hz
    rw [e] at this
    omega
  have hs := (hl x hx).seq
  have hg := (getL_right hr x.txn.r).1
  have hd : Vec.coversL h x.deps = true := coversL_iff.2 fun y hy => key y (List.mem_append_left _ hy)
  have hq : x.txn.seq - 1 ≤ Vec.getL h x.txn.r := by
    by_cases h1 : 1 < x.txn.seq
    · exact key (x.txn.r, x.txn.seq - 1) (List.mem_append_right _ (by rw [if_pos h1]; exact List.mem_singleton.2 rfl))
    · omega
  unfold readyE pastE
  rw [hd, Bool.and_true]
  simp only [decide_eq_true_eq]
  omega
theorem ready_seq {x : Em} {h : List Vec.En} (hr : readyE x h = true) : Vec.getL h x.txn.r + 1 = x.txn.seq := by
  unfold readyE at hr
  rw [Bool.and_eq_true] at hr
  exact of_decide_eq_true hr.1
/-- One that was ready, taken as known: nothing is known less. -/
theorem ready_more {x : Em} {h : List Vec.En} (hx : FairE x) (hr : readyE x h = true) (q : Int) : Vec.getL h q ≤ Vec.getL (Vec.withL h x.txn.r x.txn.seq) q := by
  have hs := hx.seq
  have := ready_seq hr
  rw [getL_with (by omega)]
  by_cases e : q = x.txn.r
  · rw [if_pos e, e]; omega
  · rw [if_neg e]; exact Int.le_refl _
theorem drop_nil {l : List Em} {h : List Vec.En} (hl : ∀ x ∈ l, pastE x h = true) : dropM l h = [] := by
  unfold dropM
  exact List.filter_eq_nil_iff.2 fun x hx => by rw [hl x hx]; simp

/-- All but the one at a place. -/
def withoutM (l : List Em) (i : Nat) : List Em := l.take i ++ l.drop (i + 1)
theorem withoutM_erase (l : List Em) (i : Nat) : withoutM l i = l.eraseIdx i := (List.eraseIdx_eq_take_drop_succ l i).symm
theorem withoutM_sub (l : List Em) (i : Nat) : (withoutM l i).Sublist l := by rw [withoutM_erase]; exact List.eraseIdx_sublist ..
theorem withoutM_mem {l : List Em} {i : Nat} {x : Em} (h : x ∈ withoutM l i) : x ∈ l := (withoutM_sub l i).subset h
theorem withoutM_len {l : List Em} {i : Nat} (h : i < l.length) : (withoutM l i).length + 1 = l.length := by rw [withoutM_erase, List.length_eraseIdx, if_pos h]; omega
theorem OnceM.sub {l m : List Em} (h : OnceM l) (hs : m.Sublist l) : OnceM m := h.sublist hs
/-- What waits once all are put. -/
def putsM (l : List Em) : List Em := l.foldl (fun b e => if hasM b e = true then b else putM b e) []
def putStep (b : List Em) (e : Em) : List Em := if hasM b e = true then b else putM b e
theorem putsM_take (l : List Em) {k : Nat} (d : Em) (h : k < l.length) : putsM (l.take (k + 1)) = putStep (putsM (l.take k)) (l.getD k d) := by
  rw [take_getD d h]
  unfold putsM
  rw [List.foldl_append]
  rfl
structure PutsOK (l b : List Em) : Prop where
  once : OnceM b
  sub : ∀ x ∈ b, x ∈ l
  has : ∀ e, hasM b e = l.any (fun x => nameM x e)
  first : ∀ x ∈ b, ∀ y, l.find? (fun z => nameM z x) = some y → y = x
  len : b.length ≤ l.length
theorem hasM_put {b : List Em} {e f : Em} (hn : hasM b e = false) : hasM (putM b e) f = (hasM b f || nameM e f) := by
  rw [Bool.eq_iff_iff, Bool.or_eq_true]
  constructor
  · intro h
    obtain ⟨x, hx, h1⟩ := hasM_iff.1 h
    rcases (mem_putM hn).1 hx with rfl | hx
    · exact Or.inr (nameM_iff.2 h1)
    · exact Or.inl (hasM_iff.2 ⟨x, hx, h1⟩)
  · rintro (h | h)
    · obtain ⟨x, hx, h1⟩ := hasM_iff.1 h
      exact hasM_iff.2 ⟨x, (mem_putM hn).2 (Or.inr hx), h1⟩
    · exact hasM_iff.2 ⟨e, (mem_putM hn).2 (Or.inl rfl), nameM_iff.1 h⟩
theorem PutsOK.nil : PutsOK [] [] := ⟨List.Pairwise.nil, fun x hx => hx, fun e => rfl, fun x hx => (by cases hx), Nat.le_refl _⟩
theorem name_trans {a b c : Em} (h : nameM a b = true) (k : nameM b c = true) : nameM a c = true := by
  have h1 := nameM_iff.1 h
  have h2 := nameM_iff.1 k
  exact nameM_iff.2 ⟨by omega, by omega⟩
theorem PutsOK.step {l b : List Em} (h : PutsOK l b) (e : Em) : PutsOK (l ++ [e]) (putStep b e) := by
  have hfind : ∀ x y, (∃ z ∈ l, nameM z x = true) → (l ++ [e]).find? (fun z => nameM z x) = some y → l.find? (fun z => nameM z x) = some y := fun x y ⟨z, hz, hzx⟩ hy => by
    rw [List.find?_append] at hy
    cases hf : l.find? (fun z => nameM z x) with
    | none => exact absurd hzx (List.find?_eq_none.1 hf z hz)
    | some w => rw [hf] at hy; exact hy
  unfold putStep
  by_cases hh : hasM b e = true
  · rw [if_pos hh]
    refine ⟨h.once, fun x hx => List.mem_append_left _ (h.sub x hx), fun f => ?_, fun x hx y hy => ?_, by rw [List.length_append]; have := h.len; omega⟩
    · rw [h.has f, List.any_append]
      cases hc : nameM e f with
      | false => simp [hc]
      | true =>
        have : l.any (fun x => nameM x f) = true := by
          rw [h.has e] at hh
          obtain ⟨z, hz, hze⟩ := List.any_eq_true.1 hh
          exact List.any_eq_true.2 ⟨z, hz, name_trans hze hc⟩
        rw [this]; rfl
    · exact h.first x hx y (hfind x y ⟨x, h.sub x hx, nameM_iff.2 ⟨rfl, rfl⟩⟩ hy)
  · have hn : hasM b e = false := by simpa using hh
    rw [if_neg hh]
    refine ⟨h.once.put hn, fun x hx => ?_, fun f => ?_, fun x hx y hy => ?_, by rw [putM_length hn, List.length_append]; have := h.len; simp; omega⟩
    · rcases (mem_putM hn).1 hx with rfl | hx
      · simp
      · exact List.mem_append_left _ (h.sub x hx)
    · rw [hasM_put hn, h.has f, List.any_append]
      simp
    · rcases (mem_putM hn).1 hx with rfl | hx
      · rw [List.find?_append] at hy
        have hno : l.find? (fun z => nameM z x) = none := by
          rw [h.has x] at hn
          refine List.find?_eq_none.2 fun z hz hzx => ?_
          have : l.any (fun y => nameM y x) = true := List.any_eq_true.2 ⟨z, hz, hzx⟩
          rw [hn] at this; cases this
        rw [hno] at hy
        simp only [Option.none_or, List.find?_cons, nameM_iff.2 ⟨rfl, rfl⟩] at hy
        exact (Option.some.inj hy).symm
      · exact h.first x hx y (hfind x y ⟨x, h.sub x hx, nameM_iff.2 ⟨rfl, rfl⟩⟩ hy)
theorem puts_ok (l : List Em) : ∀ k, k ≤ l.length → PutsOK (l.take k) (putsM (l.take k))
  | 0, _ => PutsOK.nil
  | k + 1, h => by
    have := (puts_ok l k (by omega)).step (l.getD k e0)
    rw [putsM_take l e0 (by omega), take_getD e0 (by omega)]
    exact this
end Go.Proofs.YtjkdcpalgfakhaaGreat
