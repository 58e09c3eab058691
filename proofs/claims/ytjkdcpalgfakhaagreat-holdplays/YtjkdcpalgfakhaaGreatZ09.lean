/-
  Several texts of one proof, joined: each part says at its head what it proves. No conditions beyond what each theorem states.
-/
import Derived.Test.YtjkdcpalgfakhaaGreatZ08
import Derived.Test.YtjkdcpalgfakhaaGreatZ03
import Derived.Test.YtjkdcpalgfakhaaGreatZ06
import Derived.Test.YtjkdcpalgfakhaaGreatZ05
import Derived.Test.YtjkdcpalgfakhaaGreatZ04
import Derived.Test.YtjkdcpalgfakhaaGreatZ02
/-
  What the laws' own copyistmade.Txn hands back. No conditions beyond what each theorem states.
-/
namespace Go.Proofs.YtjkdcpalgfakhaaGreat
open Go.ChangeShapes Go.WideShapes Go.ChangeAt Go.RowKit Go.Lib
set_option linter.unusedVariables false
set_option linter.unusedSimpArgs false

theorem szR9 : (Tryz.prog.info? 46).map (·.size) = some 5 := by kernel_rfl
theorem infoR8 : (Tryz.prog.info? 108).map (fun i => (i.zero, i.size, i.bytes)) = some (some (.agg #[.int .i64 0, .int .u16 0, .int .u32 0, .int .u32 0, .string ⟨#[]⟩, .slice none 0 0, .int .u32 0]), 7, 72) := by kernel_rfl
theorem five_cells {w : World} {B : Nat} {a b c d e : Value} {t : TypeId} (h : w.heap[B]? = some (.cells #[a, b, c, d, e] t (0, 0))) : w.cell? ⟨B, 0, none⟩ = some a ∧ w.cell? ⟨B, 1, none⟩ = some b ∧ w.cell? ⟨B, 2, none⟩ = some c ∧ w.cell? ⟨B, 3, none⟩ = some d ∧ w.cell? ⟨B, 4, none⟩ = some e :=
  ⟨by rw [cell_of_block h]; rfl, by rw [cell_of_block h]; rfl, by rw [cell_of_block h]; rfl, by rw [cell_of_block h]; rfl, by rw [cell_of_block h]; rfl⟩
theorem box_five {w : World} {B : Nat} {a b c d e a' b' c' d' e' : Value} {t : TypeId} (h : w.heap[B]? = some (.cells #[a, b, c, d, e] t (0, 0))) :
    (((((w.setCell ⟨B, 0, none⟩ a').setCell ⟨B, 1, none⟩ b').setCell ⟨B, 2, none⟩ c').setCell ⟨B, 3, none⟩ d').setCell ⟨B, 4, none⟩ e').heap[B]? = some (.cells #[a', b', c', d', e'] t (0, 0)) := by
  have h1 := heap_setCell_same w B 0 _ t a' h
  have h2 := heap_setCell_same _ B 1 _ t b' h1
  have h3 := heap_setCell_same _ B 2 _ t c' h2
  have h4 := heap_setCell_same _ B 3 _ t d' h3
  have h5 := heap_setCell_same _ B 4 _ t e' h4
  simpa using h5
theorem only_five (w : World) (B : Nat) (a b c d e : Value) :
    Only B w (((((w.setCell ⟨B, 0, none⟩ a).setCell ⟨B, 1, none⟩ b).setCell ⟨B, 2, none⟩ c).setCell ⟨B, 3, none⟩ d).setCell ⟨B, 4, none⟩ e) :=
  ((((only_set w B 0 a).trans (only_set _ B 1 b)).trans (only_set _ B 2 c)).trans (only_set _ B 3 d)).trans (only_set _ B 4 e)
/-- An operation's spans, where they lie. -/
def RowO (w : World) (y : OV) : Prop := GRow layS w y.2.1 y.1.spans ∧ y.1.spans.length ≤ y.2.2 ∧ (y.2.1 = none → y.2.2 = 0)
/-- .. in a block of their kind. -/
def OwnO (s : TypeId) (w : World) (y : OV) : Prop := RowO w y ∧ KindAt s w y.2.1
theorem OwnO.below {s : TypeId} {w w' : World} {y : OV} (h : OwnO s w y) (hb : Below w.heap.size w w') : OwnO s w' y := ⟨⟨h.1.1.below hb, h.1.2⟩, h.2.below hb⟩
theorem OwnO.only {s : TypeId} {w w' : World} {y : OV} {X : Nat} {cs : Array Value} {t : TypeId} {f : Nat × Nat} (h : OwnO s w y) (ht : t ≠ s) (hX : w.heap[X]? = some (.cells cs t f)) (ho : Only X w w') : OwnO s w' y :=
  ⟨⟨h.1.1.kept ho (h.2.apart ht hX), h.1.2⟩, h.2.kept ho (h.2.apart ht hX)⟩
theorem OwnO.grown {s : TypeId} {w w' : World} {y : OV} {base size n : Nat} {v : Value} {xs : List Value} {t : TypeId} (h : OwnO s w y) (ht : t ≠ s) (hown : w.ownsRow base t size v n xs) (hg : w.grownBy w' v.ownBlock) : OwnO s w' y := by
  have hk : Kept (fun k => v.ownBlock = some k) w w' := Kept.ofGrown hg (fun k e => e)
  have hn : ∀ q, y.2.1 = some q → ¬ v.ownBlock = some q.block := fun q e ee => by
    obtain ⟨c, f, hc⟩ := Lib.ownsRow_kind hown _ ee
    exact h.2.apart ht hc q e rfl
  exact ⟨⟨h.1.1.kept hk hn, h.1.2⟩, h.2.kept hk hn⟩
/-- A transaction's rows. -/
structure RowT (t : Tm) (xs : List OV) (p : Option Addr) (c : Nat) (w : World) : Prop where
  ops : t.ops = xs.map (·.1)
  row : GRow layO w p xs
  each : ∀ x ∈ xs, RowO w x
  cap : t.ops.length ≤ c
  nil : p = none → c = 0
theorem RowT.below {t : Tm} {xs : List OV} {p : Option Addr} {c : Nat} {w w' : World} (h : RowT t xs p c w) (hb : Below w.heap.size w w') : RowT t xs p c w' := ⟨h.ops, h.row.below hb, fun x hx => ⟨(h.each x hx).1.below hb, (h.each x hx).2⟩, h.cap, h.nil⟩
theorem InT.rows {t : Tm} {xs : List OV} {p : Option Addr} {c : Nat} {w : World} (h : InT t xs p c w) : RowT t xs p c w := ⟨h.ops, h.row.row, fun x hx => ⟨(h.row.each x hx).row, (h.row.each x hx).cap, (h.row.each x hx).nil⟩, h.cap, h.nil⟩
theorem RowT.inT {t : Tm} {xs : List OV} {p : Option Addr} {c : Nat} {w : World} (h : RowT t xs p c w) (hf : FitTm t) : InT t xs p c w := ⟨hf, h.ops, ⟨h.row, fun x hx => ⟨hf.2.2.2.2.2.2.2.2 x.1 (by rw [h.ops]; exact List.mem_map.2 ⟨x, hx, rfl⟩), (h.each x hx).1, (h.each x hx).2.1, (h.each x hx).2.2⟩⟩, h.cap, h.nil⟩
theorem RowT.at {t : Tm} {xs : List OV} {p : Option Addr} {c : Nat} {w : World} (h : RowT t xs p c w) {k : Nat} (hk : k < xs.length) : RowO w (xs.getD k ov0) := h.each _ (getD_mem ov0 hk)
/-- A transaction that a call hands back, with operations and spans of its own. -/
def MadeT (t : Tm) (w : World) (e : Ending) (w' : World) : Prop := ∃ ys p c, e = .returned (tv t p c) ∧ RowT t ys p c w' ∧ Below w.heap.size w w'
/-- .. in blocks of their kinds. -/
def MadeTK (t : Tm) (w : World) (e : Ending) (w' : World) : Prop := ∃ ys p c, e = .returned (tv t p c) ∧ RowT t ys p c w' ∧ Below w.heap.size w w' ∧ KindAt 108 w' p ∧ ∀ y ∈ ys, KindAt 136 w' y.2.1
set_option maxHeartbeats 6400000 in
set_option maxRecDepth 20000 in
theorem mtxn_kind (t : Tm) (xs : List OV) (p : Option Addr) (c : Nat) (w : World) (H : RowT t xs p c w) (hl : t.ops.length ≤ 1954687338211) (hs : ∀ x ∈ xs, x.1.spans.length ≤ 8796093021952) :
    Calls Tryz.prog 24 #[tv t p c] w (MadeTK t w) := by
  obtain ⟨i0, hi, hz0, hz1, hz2⟩ := info_parts infoR8
  have hlen : t.ops.length = xs.length := by rw [H.ops, List.length_map]
  have HIN := Lib.hid H
  have HOP : Hid (∀ k, k < xs.length → ∀ W, Below w.heap.size w W → Calls Tryz.prog 48 #[ov (xs.getD k ov0).1 (xs.getD k ov0).2.1 (xs.getD k ov0).2.2] W (MadeO (xs.getD k ov0).1 W)) := fun k hk W hb => mop_any _ _ _ W ((H.at hk).1.below hb) (hs _ (getD_mem ov0 hk))
  have HR := Lib.hid H.row
  clear H
  have HTV : Hid (∀ p c, tv t p c = .agg #[.int .u16 t.r, .int .u32 t.seq, .int .u64 t.clock, .int .i64 t.user, .slice p xs.length c]) := fun p c => by unfold tv; rw [hlen]
  rw [HTV.out]
  rw [hlen] at hl
  go_enter Tryz.func24, Tryz.ntmps24
  go_wp2
  have HX := Lib.hid (fun A B C => three_blocks8 w A B C)
  go_loopg [18] xs.length (fun g i wr => ∃ (k : Nat) (v : Value) (ys : List OV), k ≤ xs.length ∧ xs.length - k ≤ g ∧ i = .int .i64 (k : Int) ∧ Hold layO w 108 v ys wr ∧ ys.map (·.1) = (xs.take k).map (·.1) ∧ (∀ y ∈ ys, OwnO 136 wr y) ∧ wr.heap[w.heap.size + 1]? = some (.cells #[.int .u16 0, .int .u32 0, .int .u64 0, .int .i64 0, .slice none 0 0] 46 (0, 0)) ∧ wr.heap[w.heap.size + 2]? = some (.cells #[.int .u16 t.r, .int .u32 t.seq, .int .u64 t.clock, .int .i64 t.user, v] 46 (0, 0)))
  case atStart => exact ⟨0, .slice none 0 0, [], Nat.zero_le _, by omega, rfl, ((Hold.nil _ _ _).alloc _ |>.alloc _ |>.alloc _), rfl, (fun y hy => by cases hy), (HX.out _ _ _).1, (HX.out _ _ _).2⟩
  case round =>
    obtain ⟨k, v, ys, hk, hg, rfl, hO, hys, hE, h1, h2⟩ := hrel
    have HO := Lib.hid hO
    have HYS := Lib.hid hys
    have HE := Lib.hid hE
    have H1 := Lib.hid h1
    have H2 := Lib.hid h2
    have hyl : ys.length = k := by have := congrArg List.length hys; simp only [List.length_map, List.length_take] at this; omega
    clear hO hys hE h1 h2
    by_cases hlt : k < xs.length
    · obtain ⟨b, o, rfl, c0', c1', c2', c3', c4', c5', c6'⟩ := orow_at HR.out hlt
      have c0 := cellU c0' HO.out.2
      have c1 := cellU c1' HO.out.2
      have c2 := cellU c2' HO.out.2
      have c3 := cellU c3' HO.out.2
      have c4 := cellU c4' HO.out.2
      have c5 := cellU c5' HO.out.2
      have c6 := cellU c6' HO.out.2
      clear c0' c1' c2' c3' c4' c5' c6'
      have hkl : (k : Int) < (xs.length : Int) := by omega
      have HNX : Hid ((xs.take (k + 1)).map (·.1) = (xs.take k).map (·.1) ++ [(xs.getD k ov0).1]) := by show _ = _; rw [take_getD ov0 hlt]; simp
      have HOK : Hid (∀ o : Obj, Calls Tryz.prog 48 #[ov (xs.getD k ov0).1 (xs.getD k ov0).2.1 (xs.getD k ov0).2.2] ((wr.alloc o).drew) (MadeO (xs.getD k ov0).1 ((wr.alloc o).drew))) := fun o => HOP.out k hlt _ (below_step HO.out.2 (below_drewN (below_alloc (Below.refl _ _) o) 1))
      generalize xs.getD k ov0 = x at c0 c1 c2 c3 c4 c5 c6 HNX HOK
      obtain ⟨om, px, cx⟩ := x
      simp only at c0 c1 c2 c3 c4 c5 c6 HNX HOK
      have HOM : Hid (∀ p c, ov om p c = .agg #[.int .i64 om.kind, .int .u16 om.r, .int .u32 om.n, .int .u32 om.num, .string ⟨om.text.toArray⟩, .slice p om.spans.length c, .int .u32 om.seq]) := fun p c => rfl
      unfold MadeO at HOK
      generalize hcc : (⟨om.text.toArray⟩ : ByteArray) = bt at c4 HOM
      rw [HOM.out] at HOK
      obtain ⟨z0, z1, z2, z3, z4⟩ := five_cells H2.out
      have hX2 : w.heap.size + 2 < wr.heap.size := lt_of_block H2.out
      have hne1 : ¬ w.heap.size + 2 = wr.heap.size := by omega
      have hne2 : ¬ wr.heap.size = w.heap.size + 2 := by omega
      have HBX : Hid ((wr.alloc (.cells #[.int .i64 om.kind, .int .u16 om.r, .int .u32 om.n, .int .u32 om.num, .string bt, .slice px om.spans.length cx, .int .u32 om.seq] 99)).heap[wr.heap.size]? = some (.cells #[.int .i64 om.kind, .int .u16 om.r, .int .u32 om.n, .int .u32 om.num, .string bt, .slice px om.spans.length cx, .int .u32 om.seq] 99 (0, 0))) := heap_alloc_new wr _
      have y4 : (wr.alloc (.cells #[.int .i64 om.kind, .int .u16 om.r, .int .u32 om.n, .int .u32 om.num, .string bt, .slice px om.spans.length cx, .int .u32 om.seq] 99)).cell? ⟨w.heap.size + 2, 4, none⟩ = some v := cellU z4 (below_alloc (Below.refl wr.heap.size wr) _)
      have HY4' := Lib.hid y4
      go_wp2_with fail
      go_region_law (first
        | (refine step_append_own rfl (.tmp 23) (.tmp 26) 44 rfl w.heap.size 108 i0 (.agg #[.int .i64 0, .int .u16 0, .int .u32 0, .int .u32 0, .string ⟨#[]⟩, .slice none 0 0, .int .u32 0]) 7 72 Tryz.underlying44 hi hz0 hz1 hz2 rfl (by decide) v ys.length (layO.flat ys) (by simp [Act.eval, Act.put]) HO5.out.1 ⟨w4.heap.size, 0, none⟩ 1 1 [.int .i64 om.kind, .int .u16 om.r, .int .u32 om.n, .int .u32 om.num, .string bt, .slice p4 om.spans.length c4, .int .u32 om.seq] (by simp [Act.eval, Act.put]) rfl (by have := @cells_new w4 [.int .i64 om.kind, .int .u16 om.r, .int .u32 om.n, .int .u32 om.num, .string bt, .slice p4 om.spans.length c4, .int .u32 om.seq] 108; simpa using this) (by have := layO.one (om, p4, c4); rw [← hcc]; exact this) (by unfold maxLen; omega) (by omega) HO5.out.2.size ?_; intro v' w6 hown' hgrow; obtain ⟨pv, cv, rfl⟩ := owns_slice hown'; have H26 := Lib.hid (box_grown (by decide) H25.out HO5.out.1 hgrow); have z6 := (five_cells H26.out).2.2.2.2; have f6 : w6.frozen? ⟨w.heap.size + 2, 4, none⟩ = false := frozen_of_block H26.out)
        | (go_simp; go_wp2_with (go_at_call 48; refine (HOK.out _).mono ?_; rintro e w4 ⟨p4, c4, rfl, hG, hc4, hp4, hS, hb4⟩; rw [HOM.out]; have HB4 := Lib.hid (below_of_drew hb4); have HY4 : Hid (OwnO 136 w4 (om, p4, c4)) := ⟨⟨hG, hc4, hp4⟩, hS⟩; have k4 := cellU HY4'.out HB4.out; have k5 := cellU k4 (below_alloc (Below.refl _ _) (.cells #[.int .i64 om.kind, .int .u16 om.r, .int .u32 om.n, .int .u32 om.num, .string bt, .slice p4 om.spans.length c4, .int .u32 om.seq] 108)); have k4' : w4.cell? ⟨w.heap.size + 1 + 1, 4, none⟩ = some v := k4; have k5' : (w4.alloc (.cells #[.int .i64 om.kind, .int .u16 om.r, .int .u32 om.n, .int .u32 om.num, .string bt, .slice p4 om.spans.length c4, .int .u32 om.seq] 108)).cell? ⟨w.heap.size + 1 + 1, 4, none⟩ = some v := k5; have hX4 : ¬ w.heap.size + 2 = w4.heap.size := (by have := HB4.out.size; simp only [World.alloc, Array.size_push] at this; omega); have HO5 : Hid (Hold layO w 108 v ys (w4.alloc (.cells #[.int .i64 om.kind, .int .u16 om.r, .int .u32 om.n, .int .u32 om.num, .string bt, .slice p4 om.spans.length c4, .int .u32 om.seq] 108))) := ((HO.out.alloc _).below HB4.out).alloc _; have H25 := Lib.hid (kept_box (kept_box (kept_box H2.out (below_alloc (Below.refl _ _) (.cells #[.int .i64 om.kind, .int .u16 om.r, .int .u32 om.n, .int .u32 om.num, .string bt, .slice px om.spans.length cx, .int .u32 om.seq] 99))) HB4.out) (below_alloc (Below.refl _ _) (.cells #[.int .i64 om.kind, .int .u16 om.r, .int .u32 om.n, .int .u32 om.num, .string bt, .slice p4 om.spans.length c4, .int .u32 om.seq] 108))); clear hG hS hb4)))
      all_goals
        have H15 := Lib.hid (kept_box (kept_box (kept_box H1.out (below_alloc (Below.refl _ _) (.cells #[.int .i64 om.kind, .int .u16 om.r, .int .u32 om.n, .int .u32 om.num, .string bt, .slice px om.spans.length cx, .int .u32 om.seq] 99))) HB4.out) (below_alloc (Below.refl _ _) (.cells #[.int .i64 om.kind, .int .u16 om.r, .int .u32 om.n, .int .u32 om.num, .string bt, .slice p4 om.spans.length c4, .int .u32 om.seq] 108)))
        have HE5 : Hid (∀ y ∈ ys ++ [(om, p4, c4)], OwnO 136 (w4.alloc (.cells #[.int .i64 om.kind, .int .u16 om.r, .int .u32 om.n, .int .u32 om.num, .string bt, .slice p4 om.spans.length c4, .int .u32 om.seq] 108)) y) := fun y hy => by
          rcases List.mem_append.1 hy with hy | hy
          · exact (((HE.out y hy).below (below_alloc (Below.refl _ _) _)).below HB4.out).below (below_alloc (Below.refl _ _) _)
          · rw [List.mem_singleton.1 hy]; exact HY4.out.below (below_alloc (Below.refl _ _) _)
        have HO6 : Hid (Hold layO w 108 (.slice pv (ys.length + 1) cv) (ys ++ [(om, p4, c4)]) w6) := HO5.out.onto (ys := [(om, p4, c4)]) (by rw [layO.flat_one, ← hcc]; rfl) (by simp) hown' hgrow
        have H16 := Lib.hid (box_grown (by decide) H15.out HO5.out.1 hgrow)
        have HE6 : Hid (∀ y ∈ ys ++ [(om, p4, c4)], OwnO 136 w6 y) := fun y hy => (HE5.out y hy).grown (by decide) HO5.out.1 hgrow
        clear hown' hgrow HO5 HE5 HO HE H15 H25 H1 H2
        have HEND : Hid (Hold layO w 108 (.slice pv (ys.length + 1) cv) (ys ++ [(om, p4, c4)]) (w6.setCell ⟨w.heap.size + 2, 4, none⟩ (.slice pv (ys.length + 1) cv)) ∧ (∀ y ∈ ys ++ [(om, p4, c4)], OwnO 136 (w6.setCell ⟨w.heap.size + 2, 4, none⟩ (.slice pv (ys.length + 1) cv)) y) ∧ (w6.setCell ⟨w.heap.size + 2, 4, none⟩ (.slice pv (ys.length + 1) cv)).heap[w.heap.size + 1]? = some (.cells #[.int .u16 0, .int .u32 0, .int .u64 0, .int .i64 0, .slice none 0 0] 46 (0, 0)) ∧ (w6.setCell ⟨w.heap.size + 2, 4, none⟩ (.slice pv (ys.length + 1) cv)).heap[w.heap.size + 2]? = some (.cells #[.int .u16 t.r, .int .u32 t.seq, .int .u64 t.clock, .int .i64 t.user, .slice pv (ys.length + 1) cv] 46 (0, 0))) := by
          refine ⟨HO6.out.other (kind_apart (by decide) H26.out HO6.out.1) (by omega) 4 _, fun y hy => (HE6.out y hy).only (by decide) H26.out (only_set w6 _ 4 _), ?_, ?_⟩
          · rw [heap_setCell_other _ _ _ _ (by simp)]; exact H16.out
          · have := heap_setCell_same w6 (w.heap.size + 2) 4 _ _ (.slice pv (ys.length + 1) cv) H26.out
            simpa using this
        rw [hyl] at HEND
        have HMY : Hid ((ys ++ [(om, p4, c4)]).map (·.1) = (xs.take (k + 1)).map (·.1)) := by show _ = _; rw [HNX.out, List.map_append, HYS.out]; rfl
        go_wp2
        go_roundg (xs.length - (k + 1))
        case measure => omega
        case rel => exact ⟨k + 1, _, ys ++ [(om, p4, c4)], by omega, Nat.le_refl _, by go_num, HEND.out.1, HMY.out, HEND.out.2.1, HEND.out.2.2.1, HEND.out.2.2.2⟩
    · have : k = xs.length := by omega
      subst this
      have hkl : ¬ (xs.length : Int) < (xs.length : Int) := by omega
      rw [List.take_length] at HYS
      obtain ⟨y0, y1, y2, y3, y4⟩ := five_cells H1.out
      obtain ⟨z0, z1, z2, z3, z4⟩ := five_cells H2.out
      have f1 : ∀ o, wr.frozen? ⟨w.heap.size + 1, o, none⟩ = false := fun o => frozen_of_block H1.out
      obtain ⟨pv, cv, rfl, hG, hcv, hpv⟩ := HO.out.gave layO_pos
      have HG := Lib.hid hG
      have HAP := Lib.hid (kind_apart (by decide) H1.out HO.out.1)
      clear hG
      rw [hyl] at *
      go_wp2
      (try simp only [Exit.inBlock, Exit.then])
      have hS := only_five wr (w.heap.size + 1) (.int .u16 t.r) (.int .u32 t.seq) (.int .u64 t.clock) (.int .i64 t.user) (.slice pv xs.length cv)
      refine bodyPost_ret (results_cell_row rfl _ _ (w.heap.size + 1) 46 #[.int .u16 t.r, .int .u32 t.seq, .int .u64 t.clock, .int .i64 t.user, .slice pv xs.length cv] (0, 0) _ rfl (box_five H1.out) Tryz.underlying46 rfl szR9) rfl ?_
      unfold MadeTK
      refine ⟨ys, pv, cv, by rw [HTV.out], ⟨by rw [HIN.out.ops]; exact HYS.out.symm, HG.out.kept hS (fun q e ee => ?_), fun y hy => ((HE.out y hy).only (by decide) H1.out hS).1, by omega, hpv⟩, HO.out.2.trans (hS.below (Nat.le_trans HO.out.2.size (Nat.le_refl _)) ?_), (kind_owns HO.out.1).kept hS ((kind_owns HO.out.1).apart (by decide) H1.out), fun y hy => ((HE.out y hy).only (by decide) H1.out hS).2⟩
      · apply HAP.out
        rw [e]
        have ee : q.block = w.heap.size + 1 := ee
        simp [Value.ownBlock, ee]
      · intro k ek
        have ek : k = w.heap.size + 1 := ek
        omega
theorem mtxn_any (t : Tm) (xs : List OV) (p : Option Addr) (c : Nat) (w : World) (H : RowT t xs p c w) (hl : t.ops.length ≤ 1954687338211) (hs : ∀ x ∈ xs, x.1.spans.length ≤ 8796093021952) :
    Calls Tryz.prog 24 #[tv t p c] w (MadeT t w) := (mtxn_kind t xs p c w H hl hs).mono (by rintro e w' ⟨ys, p', c', h1, h2, h3, -, -⟩; exact ⟨ys, p', c', h1, h2, h3⟩)
end Go.Proofs.YtjkdcpalgfakhaaGreat
/-
  What the document's Atoms and Fit of layer 9 hand back. No conditions beyond what each theorem states.
-/
namespace Go.Proofs.YtjkdcpalgfakhaaGreat
open Go.ChangeShapes Go.WideShapes Go.ChangeAt Go.RowKit Go.Lib
set_option linter.unusedVariables false
set_option linter.unusedSimpArgs false

/-- Operations that are few, and short. -/
def SmallX (xs : List OV) : Prop := ∀ x ∈ xs, x.1.text.length ≤ 300 ∧ x.1.spans.length ≤ 1024
/-- .. and shorter ones. -/
def SmallP (xs : List OV) : Prop := ∀ x ∈ xs, x.1.text.length ≤ 300 ∧ x.1.spans.length ≤ 60
theorem SmallP.wide {xs : List OV} (h : SmallP xs) : SmallX xs := fun x hx => ⟨(h x hx).1, by have := (h x hx).2; omega⟩
theorem SmallP.at {xs : List OV} (h : SmallP xs) {k : Nat} (hk : k < xs.length) : (xs.getD k ov0).1.text.length ≤ 300 ∧ (xs.getD k ov0).1.spans.length ≤ 60 := h _ (getD_mem ov0 hk)
theorem SmallX.at {xs : List OV} (h : SmallX xs) {k : Nat} (hk : k < xs.length) : (xs.getD k ov0).1.text.length ≤ 300 ∧ (xs.getD k ov0).1.spans.length ≤ 1024 := h _ (getD_mem ov0 hk)
theorem bne_int {a b : Int} (h : ¬ a = b) : (a != b) = true := by simpa using h
theorem atoms_range {o : Om} (h : fitO o = 0) (hf : FitOm o) : 0 ≤ atomsO o ∧ atomsO o ≤ 1024 ∧ (3 < o.kind → atomsO o = 0) ∧ (0 < atomsO o → o.kind = 1 ∨ o.kind = 3) ∧ (o.kind = 1 ∨ o.kind = 3 → 1 ≤ o.num ∧ o.num ≤ 268435456 ∧ o.num + atomsO o - 1 ≤ 268435456) := by
  rcases fitO_cases h with c | c | c | c
  · obtain ⟨k, -, -, ht, -, hl, hn⟩ := c
    have hn := of_decide_eq_true hn
    have ha : atomsO o = (o.text.length : Int) := by unfold atomsO; rw [if_pos k]
    rw [ha] at hn ⊢
    refine ⟨by omega, by omega, fun h => by omega, fun h => by omega, fun _ => by omega⟩
  · obtain ⟨k, -, -, -, -⟩ := c
    have ha : atomsO o = 0 := by unfold atomsO; rw [if_neg (by omega), if_neg (by omega)]
    rw [ha]
    refine ⟨by omega, by omega, fun h => by omega, fun h => by omega, fun _ => by omega⟩
  · obtain ⟨k, -, -, hfl, hn⟩ := c
    have hn := of_decide_eq_true hn
    have ha : atomsO o = (totalL o.spans : Int) := by unfold atomsO; rw [if_neg (by omega), if_pos k]
    have := (fitL_ok hfl).2.1
    rw [ha] at hn ⊢
    refine ⟨by omega, by omega, fun h => by omega, fun h => by omega, fun _ => by omega⟩
  · obtain ⟨k, -, -, -, -⟩ := c
    have ha : atomsO o = 0 := by unfold atomsO; rw [if_neg (by omega), if_neg (by omega)]
    rw [ha]
    refine ⟨by omega, by omega, fun h => by omega, fun h => by omega, fun _ => by omega⟩
theorem counts_of_fit {o : Om} (h : fitO o = 0) : Counts o := fun hk => by
  rcases fitO_cases h with c | c | c | c
  · have := c.1; omega
  · have := c.1; omega
  · exact counts_fit c.2.2.2.1 hk
  · have := c.1; omega
theorem getD_map1 (xs : List OV) {k : Nat} (h : k < xs.length) : (xs.map (·.1)).getD k o0 = (xs.getD k ov0).1 := by
  rw [List.getD_eq_getElem?_getD, List.getD_eq_getElem?_getD, List.getElem?_map, List.getElem?_eq_getElem h]; rfl
theorem drop_ops {t : Tm} {xs : List OV} (h : t.ops = xs.map (·.1)) {k : Nat} (hk : k < xs.length) : t.ops.drop k = (xs.getD k ov0).1 :: t.ops.drop (k + 1) := by
  have hk' : k < t.ops.length := by rw [h, List.length_map]; exact hk
  rw [drop_getD o0 hk', h, getD_map1 xs hk]

end Go.Proofs.YtjkdcpalgfakhaaGreat
/-
  What the document's Fit of layer 9 hands back. No conditions beyond what each theorem states.
-/
namespace Go.Proofs.YtjkdcpalgfakhaaGreat
open Go.ChangeShapes Go.WideShapes Go.ChangeAt Go.RowKit Go.Lib
set_option linter.unusedVariables false
set_option linter.unusedSimpArgs false

set_option maxHeartbeats 6400000 in
set_option maxRecDepth 20000 in
theorem reffitT_any (t : Tm) (xs : List OV) (p : Option Addr) (c : Nat) (w : World) (H : LieT t xs p w) (hs : SmallX xs) :
    Calls Tryz.prog 47 #[tv t p c] w fun e w' => e = .returned (.int .i64 (fitT t)) ∧ Below w.heap.size w w' := by
  have hlen : t.ops.length = xs.length := by rw [H.ops, List.length_map]
  have HR := Lib.hid H.row
  have HDR : Hid (∀ k, k < xs.length → t.ops.drop k = (xs.getD k ov0).1 :: t.ops.drop (k + 1)) := fun k hk => drop_ops H.ops hk
  have HFI : Hid (∀ k, k < xs.length → FitOm (xs.getD k ov0).1) := fun k hk => (H.fitAt hk)
  have HTV : Hid (∀ p c, tv t p c = .agg #[.int .u16 t.r, .int .u32 t.seq, .int .u64 t.clock, .int .i64 t.user, .slice p xs.length c]) := fun p c => by unfold tv; rw [hlen]
  have hfi := H.fit
  have HFO : Hid (∀ k, k < xs.length → ∀ W, Below w.heap.size w W → Calls Tryz.prog 69 #[ov (xs.getD k ov0).1 (xs.getD k ov0).2.1 (xs.getD k ov0).2.2] W fun e w' => e = .returned (.int .i64 (fitO (xs.getD k ov0).1)) ∧ Below W.heap.size W w') := fun k hk W hb => reffit8_any _ _ _ W ⟨(H.fitAt hk), (H.rowAt hk).below hb, by have := (hs.at hk).2; omega, by have := (hs.at hk).1; omega⟩
  have HAT : Hid (∀ k, k < xs.length → fitO (xs.getD k ov0).1 = 0 → ∀ W, Below w.heap.size w W → Calls Tryz.prog 70 #[ov (xs.getD k ov0).1 (xs.getD k ov0).2.1 (xs.getD k ov0).2.2] W fun e w' => e = .returned (.int .i64 (atomsO (xs.getD k ov0).1)) ∧ Below W.heap.size W w') := fun k hk h0 W hb => refatoms_any _ _ _ W ((H.rowAt hk).below hb) (counts_of_fit h0) (by have := (hs.at hk).2; omega) (by have := (hs.at hk).1; omega)
  have HT : Hid (fitT t = if t.seq < 1 ∨ 268435456 < t.seq ∨ t.clock < 1 ∨ 1099511627776 < t.clock ∨ t.user < 0 ∨ 7 < t.user ∨ xs.length = 0 then 11 else if 16 < xs.length then 13 else fitOs xs.length t.seq (-1) t.ops) := by show _ = _; rw [← hlen]; rfl
  clear H
  unfold FitTm at hfi
  obtain ⟨f1, f2, f3, f4, f5, f6, f7, f8, -⟩ := hfi
  rw [HTV.out]
  generalize fitT t = FT at HT ⊢
  have HX := Lib.hid (heap_alloc_new w (.cells #[.int .u16 t.r, .int .u32 t.seq, .int .u64 t.clock, .int .i64 t.user, .slice p xs.length c] 46))
  by_cases g0 : t.seq < 1
  · have HE : Hid (FT = 11) := by show _ = _; rw [HT.out, if_pos (Or.inl g0)]
    clear HT HFO HAT HR HDR HFI HX
    go_enter Tryz.func47, Tryz.ntmps47
    go_wp2
    go_ret
    exact ⟨by rw [HE.out]; rfl, below_alloc (Below.refl _ _) _⟩
  by_cases g1 : 268435456 < t.seq
  · have HE : Hid (FT = 11) := by show _ = _; rw [HT.out, if_pos (Or.inr (Or.inl g1))]
    clear HT HFO HAT HR HDR HFI HX
    go_enter Tryz.func47, Tryz.ntmps47
    go_wp2
    go_ret
    exact ⟨by rw [HE.out]; rfl, below_alloc (Below.refl _ _) _⟩
  by_cases g2 : t.clock < 1
  · have HE : Hid (FT = 11) := by show _ = _; rw [HT.out, if_pos (Or.inr (Or.inr (Or.inl g2)))]
    clear HT HFO HAT HR HDR HFI HX
    go_enter Tryz.func47, Tryz.ntmps47
    go_wp2
    go_ret
    exact ⟨by rw [HE.out]; rfl, below_alloc (Below.refl _ _) _⟩
  by_cases g3 : 1099511627776 < t.clock
  · have HE : Hid (FT = 11) := by show _ = _; rw [HT.out, if_pos (Or.inr (Or.inr (Or.inr (Or.inl g3))))]
    clear HT HFO HAT HR HDR HFI HX
    go_enter Tryz.func47, Tryz.ntmps47
    go_wp2
    go_ret
    exact ⟨by rw [HE.out]; rfl, below_alloc (Below.refl _ _) _⟩
  by_cases g4 : t.user < 0
  · have HE : Hid (FT = 11) := by show _ = _; rw [HT.out, if_pos (Or.inr (Or.inr (Or.inr (Or.inr (Or.inl g4)))))]
    clear HT HFO HAT HR HDR HFI HX
    go_enter Tryz.func47, Tryz.ntmps47
    go_wp2
    go_ret
    exact ⟨by rw [HE.out]; rfl, below_alloc (Below.refl _ _) _⟩
  by_cases g5 : 7 < t.user
  · have HE : Hid (FT = 11) := by show _ = _; rw [HT.out, if_pos (Or.inr (Or.inr (Or.inr (Or.inr (Or.inr (Or.inl g5))))))]
    clear HT HFO HAT HR HDR HFI HX
    go_enter Tryz.func47, Tryz.ntmps47
    go_wp2
    go_ret
    exact ⟨by rw [HE.out]; rfl, below_alloc (Below.refl _ _) _⟩
  by_cases g6 : xs.length = 0
  · have HE : Hid (FT = 11) := by show _ = _; rw [HT.out, if_pos (Or.inr (Or.inr (Or.inr (Or.inr (Or.inr (Or.inr g6))))))]
    have g6' : ((xs.length : Int) == 0) = true := by rw [g6]; rfl
    clear HT HFO HAT HR HDR HFI HX
    go_enter Tryz.func47, Tryz.ntmps47
    go_wp2
    go_ret
    exact ⟨by rw [HE.out]; rfl, below_alloc (Below.refl _ _) _⟩
  have g6' : ((xs.length : Int) == 0) = false := beq_no (by omega)
  have HT2 : Hid (FT = if 16 < xs.length then 13 else fitOs xs.length t.seq (-1) t.ops) := by show _ = _; rw [HT.out, if_neg (by rintro (a | a | a | a | a | a | a); exact g0 a; exact g1 a; exact g2 a; exact g3 a; exact g4 a; exact g5 a; exact g6 a)]
  clear HT
  by_cases g7 : 16 < xs.length
  · have HE : Hid (FT = 13) := by show _ = _; rw [HT2.out, if_pos g7]
    have g7' : (16 : Int) < (xs.length : Int) := by omega
    clear HT2 HFO HAT HR HDR HFI HX
    go_enter Tryz.func47, Tryz.ntmps47
    go_wp2
    go_ret
    exact ⟨by rw [HE.out]; rfl, below_alloc (Below.refl _ _) _⟩
  have g7' : ¬ (16 : Int) < (xs.length : Int) := by omega
  have HT3 : Hid (FT = fitOs xs.length t.seq (-1) t.ops) := by show _ = _; rw [HT2.out, if_neg g7]
  clear HT2
  go_enter Tryz.func47, Tryz.ntmps47
  go_wp2
  go_loopg [3, 4] xs.length (fun g a i wr => ∃ (k : Nat) (last : Int), k ≤ xs.length ∧ xs.length - k ≤ g ∧ i = .int .i64 (k : Int) ∧ a = .int .i64 last ∧ -1 ≤ last ∧ last ≤ 268435456 ∧ FT = fitOs xs.length t.seq last (t.ops.drop k) ∧ Below (w.alloc (.cells #[.int .u16 t.r, .int .u32 t.seq, .int .u64 t.clock, .int .i64 t.user, .slice p xs.length c] 46)).heap.size (w.alloc (.cells #[.int .u16 t.r, .int .u32 t.seq, .int .u64 t.clock, .int .i64 t.user, .slice p xs.length c] 46)) wr)
  case atStart => exact ⟨0, -1, Nat.zero_le _, by omega, rfl, rfl, by omega, by omega, by rw [List.drop_zero]; exact HT3.out, Below.refl _ _⟩
  case round =>
    clear HT3
    obtain ⟨k, last, hk, hg, rfl, rfl, hl0, hl1, hFT, hB⟩ := hrel
    have HB := Lib.hid hB
    have HFT := Lib.hid hFT
    have HBW : Hid (Below w.heap.size w wr) := below_step (below_alloc (Below.refl _ _) _) HB.out
    have HXK := Lib.hid (kept_box HX.out HB.out)
    obtain ⟨z0, z1, z2, z3, z4⟩ := five_cells HXK.out
    clear hB hFT
    by_cases hlt : k < xs.length
    · have hkl : (k : Int) < (xs.length : Int) := by omega
      have HFOk := Lib.hid (HFO.out k hlt)
      have HATk := Lib.hid (HAT.out k hlt)
      have hfk := HFI.out k hlt
      rw [HDR.out k hlt, fitOs] at HFT
      obtain ⟨b, o, rfl, c0, c1, c2, c3, c4, c5, c6⟩ := orow_at (HR.out.below HBW.out) hlt
      generalize xs.getD k ov0 = x at c0 c1 c2 c3 c4 c5 c6 HFOk HATk HFT hfk
      obtain ⟨om, px, cx⟩ := x
      simp only at c0 c1 c2 c3 c4 c5 c6 HFOk HATk HFT hfk
      have hrg := fun h => atoms_range (o := om) h hfk
      have HOM : Hid (∀ p c, ov om p c = .agg #[.int .i64 om.kind, .int .u16 om.r, .int .u32 om.n, .int .u32 om.num, .string ⟨om.text.toArray⟩, .slice p om.spans.length c, .int .u32 om.seq]) := fun p c => rfl
      rw [HOM.out] at HFOk HATk
      generalize (⟨om.text.toArray⟩ : ByteArray) = bt at c4 HFOk HATk HOM
      unfold FitOm at hfk
      obtain ⟨q1, q2, q3, q4, q5, q6, q7, q8, -, q10, q11⟩ := hfk
      generalize fitO om = FO at HFOk HATk HFT hrg
      generalize atomsO om = AO at HATk HFT hrg
      go_wp2_with fail
      refine (HFOk.out _ (below_alloc HBW.out _)).mono ?_
      rintro e w1 ⟨rfl, hb1⟩
      have HB1 := Lib.hid (below_step (below_alloc HB.out (.cells #[.int .i64 om.kind, .int .u16 om.r, .int .u32 om.n, .int .u32 om.num, .string bt, .slice px om.spans.length cx, .int .u32 om.seq] 108)) hb1)
      have HBW1 := Lib.hid (below_step (below_alloc HBW.out (.cells #[.int .i64 om.kind, .int .u16 om.r, .int .u32 om.n, .int .u32 om.num, .string bt, .slice px om.spans.length cx, .int .u32 om.seq] 108)) hb1)
      have HY1 := Lib.hid (kept_box (heap_alloc_new wr (.cells #[.int .i64 om.kind, .int .u16 om.r, .int .u32 om.n, .int .u32 om.num, .string bt, .slice px om.spans.length cx, .int .u32 om.seq] 108)) hb1)
      have HX1 := Lib.hid (kept_box HX.out HB1.out)
      clear hb1 z0 z1 z2 z3 z4 c0 c1 c2 c3 c4 c5 c6 HXK
      obtain ⟨z0, z1, z2, z3, z4⟩ := five_cells HX1.out
      obtain ⟨y0, y1, y2, y3, y4, y5, y6⟩ := seven_cells HY1.out
      by_cases e0 : FO = 0
      · subst e0
        rw [if_neg (show ¬ (0 : Int) ≠ 0 by simp)] at HFT
        obtain ⟨r1, r2, r3, r4, r5⟩ := hrg rfl
        have HAT1 := Lib.hid (HATk.out rfl w1 HBW1.out)
        clear HFOk HATk hrg
        by_cases k3 : 3 < om.kind
        · have a0 : AO = 0 := r3 k3
          subst a0
          by_cases n1 : xs.length = 1
          · have n1' : ((xs.length : Int) != 1) = false := by rw [n1]; rfl
            have N1 := Lib.hid n1
            clear n1
            by_cases s1 : t.seq ≤ om.seq
            · rw [if_pos ⟨k3, Or.inr s1⟩] at HFT
              go_wp2
              go_ret
              exact ⟨by rw [HFT.out]; rfl, HBW1.out⟩
            · rw [if_neg (by rintro ⟨_, a | a⟩; exact a N1.out; exact s1 a), if_neg (by omega), if_neg (by omega)] at HFT
              go_wp2_with fail
              refine HAT1.out.mono ?_
              rintro e w2 ⟨rfl, hb2⟩
              have HB2 := Lib.hid (below_step HB1.out hb2)
              clear hb2
              go_wp2
              go_roundg (xs.length - (k + 1))
              case measure => omega
              case rel => exact ⟨k + 1, last, by omega, Nat.le_refl _, by go_num, rfl, hl0, hl1, HFT.out, HB2.out⟩
          · have n1' : ((xs.length : Int) != 1) = true := bne_int (by omega)
            rw [if_pos ⟨k3, Or.inl n1⟩] at HFT
            go_wp2
            go_ret
            exact ⟨by rw [HFT.out]; rfl, HBW1.out⟩
        · rw [if_neg (fun h => k3 h.1)] at HFT
          by_cases a0 : 0 < AO
          · by_cases l0 : 0 ≤ last
            · by_cases m0 : om.num = last + 1
              · rw [if_neg (fun h => h.2.2 m0), if_pos a0] at HFT
                have M0 := Lib.hid m0
                have hw1 : IntKind.i64.wrap (last + 1) = last + 1 := by rw [IntKind.wrap_i64]; omega
                have hw2 : IntKind.i64.wrap om.num = om.num := by rw [IntKind.wrap_i64]; omega
                have hw3 : IntKind.i64.wrap (om.num + AO) = om.num + AO := by rw [IntKind.wrap_i64]; omega
                have hw4 : IntKind.i64.wrap (om.num + AO - 1) = om.num + AO - 1 := by rw [IntKind.wrap_i64]; omega
                have hm : (om.num != last + 1) = false := by rw [m0]; simp
                clear m0
                have hkk : om.kind = 1 ∨ om.kind = 3 := r4 a0
                go_wp2_with fail
                refine HAT1.out.mono ?_
                rintro e w2 ⟨rfl, hb2⟩
                have HB2 := Lib.hid (below_step HB1.out hb2)
                have HY2 := Lib.hid (kept_box HY1.out hb2)
                clear hb2 y0 y1 y2 y3 y4 y5 y6
                obtain ⟨y0, y1, y2, y3, y4, y5, y6⟩ := seven_cells HY2.out
                go_wp2
                go_roundg (xs.length - (k + 1))
                case measure => omega
                case rel => exact ⟨k + 1, om.num + AO - 1, by omega, Nat.le_refl _, by go_num, rfl, by have := r5 hkk; omega, by have := r5 hkk; omega, HFT.out, HB2.out⟩
              · rw [if_pos ⟨a0, l0, m0⟩] at HFT
                have hw1 : IntKind.i64.wrap (last + 1) = last + 1 := by rw [IntKind.wrap_i64]; omega
                have hw2 : IntKind.i64.wrap om.num = om.num := by rw [IntKind.wrap_i64]; omega
                have hm : (om.num != last + 1) = true := bne_int m0
                go_wp2_with fail
                refine HAT1.out.mono ?_
                rintro e w2 ⟨rfl, hb2⟩
                have HB2 := Lib.hid (below_step HB1.out hb2)
                have HY2 := Lib.hid (kept_box HY1.out hb2)
                have HBW2 := Lib.hid (below_step HBW1.out hb2)
                clear hb2 y0 y1 y2 y3 y4 y5 y6
                obtain ⟨y0, y1, y2, y3, y4, y5, y6⟩ := seven_cells HY2.out
                go_wp2
                go_ret
                exact ⟨by rw [HFT.out]; rfl, HBW2.out⟩
            · rw [if_neg (fun h => l0 h.2.1), if_pos a0] at HFT
              have hw2 : IntKind.i64.wrap om.num = om.num := by rw [IntKind.wrap_i64]; omega
              have hw3 : IntKind.i64.wrap (om.num + AO) = om.num + AO := by rw [IntKind.wrap_i64]; omega
              have hw4 : IntKind.i64.wrap (om.num + AO - 1) = om.num + AO - 1 := by rw [IntKind.wrap_i64]; omega
              have hkk : om.kind = 1 ∨ om.kind = 3 := r4 a0
              go_wp2_with fail
              refine HAT1.out.mono ?_
              rintro e w2 ⟨rfl, hb2⟩
              have HB2 := Lib.hid (below_step HB1.out hb2)
              have HY2 := Lib.hid (kept_box HY1.out hb2)
              have HBW2 := Lib.hid (below_step HBW1.out hb2)
              clear hb2 y0 y1 y2 y3 y4 y5 y6
              obtain ⟨y0, y1, y2, y3, y4, y5, y6⟩ := seven_cells HY2.out
              go_wp2
              go_roundg (xs.length - (k + 1))
              case measure => omega
              case rel => exact ⟨k + 1, om.num + AO - 1, by omega, Nat.le_refl _, by go_num, rfl, by have := r5 hkk; omega, by have := r5 hkk; omega, HFT.out, HB2.out⟩
          · rw [if_neg (fun h => a0 h.1), if_neg a0] at HFT
            go_wp2_with fail
            refine HAT1.out.mono ?_
            rintro e w2 ⟨rfl, hb2⟩
            have HB2 := Lib.hid (below_step HB1.out hb2)
            have HY2 := Lib.hid (kept_box HY1.out hb2)
            have HBW2 := Lib.hid (below_step HBW1.out hb2)
            clear hb2 y0 y1 y2 y3 y4 y5 y6
            obtain ⟨y0, y1, y2, y3, y4, y5, y6⟩ := seven_cells HY2.out
            go_wp2
            go_roundg (xs.length - (k + 1))
            case measure => omega
            case rel => exact ⟨k + 1, last, by omega, Nat.le_refl _, by go_num, rfl, hl0, hl1, HFT.out, HB2.out⟩
      · rw [if_pos e0] at HFT
        have e0' := beq_no e0
        have e0'' := bne_int e0
        go_wp2
        go_ret
        exact ⟨by rw [HFT.out]; rfl, HBW1.out⟩
    · have : k = xs.length := by omega
      subst this
      have hkl : ¬ (xs.length : Int) < (xs.length : Int) := by omega
      have HE : Hid (FT = 0) := by show _ = _; rw [HFT.out, ← hlen, List.drop_length]; rfl
      go_wp2
      go_ret
      exact ⟨by rw [HE.out]; rfl, HBW.out⟩

end Go.Proofs.YtjkdcpalgfakhaaGreat
/-
  What the document's Fit, Ready, Past and Needs of layer 10 hand back. No conditions beyond what each theorem states.
-/
namespace Go.Proofs.YtjkdcpalgfakhaaGreat
open Go.ChangeShapes Go.WideShapes Go.ChangeAt Go.RowKit Go.Lib
set_option linter.unusedVariables false
set_option linter.unusedSimpArgs false

/-- An envelope as a value: its parts, and where its entries and its operations lie. -/
def ev (e : Em) (p : Option Addr) (c : Nat) (q : Option Addr) (d : Nat) : Value := .agg #[.slice p e.deps.length c, .int .u16 e.txn.r, .int .u32 e.txn.seq, .int .u64 e.txn.clock, .int .i64 e.txn.user, .slice q e.txn.ops.length d]
theorem six_cells {w : World} {B : Nat} {a b c d e f : Value} {t : TypeId} (h : w.heap[B]? = some (.cells #[a, b, c, d, e, f] t (0, 0))) : w.cell? ⟨B, 0, none⟩ = some a ∧ w.cell? ⟨B, 1, none⟩ = some b ∧ w.cell? ⟨B, 2, none⟩ = some c ∧ w.cell? ⟨B, 3, none⟩ = some d ∧ w.cell? ⟨B, 4, none⟩ = some e ∧ w.cell? ⟨B, 5, none⟩ = some f :=
  ⟨by rw [cell_of_block h]; rfl, by rw [cell_of_block h]; rfl, by rw [cell_of_block h]; rfl, by rw [cell_of_block h]; rfl, by rw [cell_of_block h]; rfl, by rw [cell_of_block h]; rfl⟩
set_option maxHeartbeats 3200000 in
set_option maxRecDepth 20000 in
theorem reffitE_any (e : Em) (xs : List OV) (p q : Option Addr) (c d : Nat) (w : World) (hR : Vec.Row w p e.deps) (hl : e.deps.length ≤ 1000000) (H : LieT e.txn xs q w) (hs : SmallX xs) :
    Calls Tryz.prog 23 #[ev e p c q d] w fun r w' => r = .returned (.int .i64 (fitE e)) ∧ Below w.heap.size w w' := by
  have H1 : Hid (∀ W, Below w.heap.size w W → Calls Tryz.prog 21 #[.slice p e.deps.length c] W fun r w' => r = .returned (.bool (Vec.rightB e.deps)) ∧ Below W.heap.size W w') := fun W hb => Vec.refright_any e.deps p c W (hR.below hb) (by omega)
  have H2 : Hid (∀ W, Below w.heap.size w W → Calls Tryz.prog 46 #[.slice p e.deps.length c, .int .u16 e.txn.r] W fun r w' => r = .returned (.int .u32 (Vec.getL e.deps e.txn.r)) ∧ w' = W) := fun W hb => Vec.refget_any e.deps e.txn.r p c W (hR.below hb) (by omega)
  have H3 : Hid (∀ W, Below w.heap.size w W → Calls Tryz.prog 47 #[.agg #[.int .u16 e.txn.r, .int .u32 e.txn.seq, .int .u64 e.txn.clock, .int .i64 e.txn.user, .slice q e.txn.ops.length d]] W fun r w' => r = .returned (.int .i64 (fitT e.txn)) ∧ Below W.heap.size W w') := fun W hb => reffitT_any e.txn xs q d W (H.below hb) hs
  have HF : Hid (fitE e = if Vec.rightB e.deps = false ∨ Vec.getL e.deps e.txn.r ≠ 0 then 11 else fitT e.txn) := rfl
  clear hR H hs
  obtain ⟨deps, ⟨r, seq, clock, user, ops⟩⟩ := e
  unfold ev
  simp only at *
  generalize fitE (⟨deps, ⟨r, seq, clock, user, ops⟩⟩ : Em) = F at HF ⊢
  generalize Vec.rightB deps = B at H1 HF
  generalize fitT (⟨r, seq, clock, user, ops⟩ : Tm) = FT at H3 HF
  generalize Vec.getL deps r = G at H2 HF
  generalize ops.length = TL at H3 ⊢
  generalize deps.length = L at H1 H2 hl ⊢
  have HX := Lib.hid (heap_alloc_new w (.cells #[.slice p L c, .int .u16 r, .int .u32 seq, .int .u64 clock, .int .i64 user, .slice q TL d] 48))
  have HB0 : Hid (Below w.heap.size w (w.alloc (.cells #[.slice p L c, .int .u16 r, .int .u32 seq, .int .u64 clock, .int .i64 user, .slice q TL d] 48))) := below_alloc (Below.refl _ _) _
  go_enter Tryz.func23, Tryz.ntmps23
  go_wp2_with fail
  generalize (w.alloc (.cells #[.slice p L c, .int .u16 r, .int .u32 seq, .int .u64 clock, .int .i64 user, .slice q TL d] 48)) = w0 at HX HB0 ⊢
  refine (H1.out _ HB0.out).mono ?_
  rintro e w1 ⟨rfl, hb1⟩
  have HB1 : Hid (Below w.heap.size w w1) := below_step HB0.out hb1
  obtain ⟨x0, x1, x2, x3, x4, x5⟩ := six_cells (kept_box HX.out hb1)
  clear hb1 HB0 H1
  cases B with
  | false =>
    have HF2 : Hid (F = 11) := by show _ = _; rw [HF.out]; rfl
    go_wp2
    go_ret
    exact ⟨by rw [HF2.out]; rfl, HB1.out⟩
  | true =>
    go_wp2_with fail
    refine (H2.out _ HB1.out).mono ?_
    rintro e w2 ⟨rfl, hw⟩
    obtain rfl := Eq.symm hw
    clear hw H2
    by_cases hG : G = 0
    · subst hG
      have HF2 : Hid (F = FT) := by show _ = _; rw [HF.out]; rfl
      go_wp2_with fail
      refine (H3.out _ HB1.out).mono ?_
      rintro e w3 ⟨rfl, hb3⟩
      have HB3 : Hid (Below w.heap.size w w3) := below_step HB1.out hb3
      clear hb3 H3
      go_wp2
      go_ret
      exact ⟨by rw [HF2.out]; rfl, HB3.out⟩
    · have hG' : (G != 0) = true := bne_int hG
      have HF2 : Hid (F = 11) := by show _ = _; rw [HF.out, if_pos (Or.inr hG)]
      go_wp2
      go_ret
      exact ⟨by rw [HF2.out]; rfl, HB1.out⟩

set_option maxHeartbeats 3200000 in
set_option maxRecDepth 20000 in
theorem refpastE_any (e : Em) (h : List Vec.En) (p q s : Option Addr) (c d f : Nat) (w : World) (hH : Vec.Row w s h) (hl : h.length ≤ 1000000) :
    Calls Tryz.prog 35 #[ev e p c q d, .slice s h.length f] w fun r w' => r = .returned (.bool (pastE e h)) ∧ Below w.heap.size w w' := by
  have H2 : Hid (∀ W, Below w.heap.size w W → Calls Tryz.prog 46 #[.slice s h.length f, .int .u16 e.txn.r] W fun r w' => r = .returned (.int .u32 (Vec.getL h e.txn.r)) ∧ w' = W) := fun W hb => Vec.refget_any h e.txn.r s f W (hH.below hb) (by omega)
  have HF : Hid (pastE e h = decide (e.txn.seq ≤ Vec.getL h e.txn.r)) := rfl
  clear hH
  obtain ⟨deps, ⟨r, seq, clock, user, ops⟩⟩ := e
  unfold ev
  simp only at *
  generalize pastE (⟨deps, ⟨r, seq, clock, user, ops⟩⟩ : Em) h = F at HF ⊢
  generalize Vec.getL h r = G at H2 HF
  generalize ops.length = TL
  generalize deps.length = L
  generalize h.length = HL at H2 hl ⊢
  have HX := Lib.hid (heap_alloc_new w (.cells #[.slice p L c, .int .u16 r, .int .u32 seq, .int .u64 clock, .int .i64 user, .slice q TL d] 48))
  have HB0 : Hid (Below w.heap.size w (w.alloc (.cells #[.slice p L c, .int .u16 r, .int .u32 seq, .int .u64 clock, .int .i64 user, .slice q TL d] 48))) := below_alloc (Below.refl _ _) _
  go_enter Tryz.func35, Tryz.ntmps35
  go_wp2_with fail
  generalize hw0 : (w.alloc (.cells #[.slice p L c, .int .u16 r, .int .u32 seq, .int .u64 clock, .int .i64 user, .slice q TL d] 48)) = w0 at HX HB0 ⊢
  clear hw0
  obtain ⟨x0', x1', x2', x3', x4', x5'⟩ := six_cells HX.out
  have x1 := cell_regrown x1'
  have x2 := cell_regrown x2'
  have HG : Hid (∀ dd os, Calls Tryz.prog 46 #[.slice s HL f, .int .u16 r] (Go.Sort.grow (redrawn w0 dd) os) fun e w' => e = .returned (.int .u32 G) ∧ Below (Go.Sort.grow (redrawn w0 dd) os).heap.size (Go.Sort.grow (redrawn w0 dd) os) w') := fun dd os => (H2.out _ (below_step HB0.out (below_regrown _ _ _))).mono (by rintro r w' ⟨h, rfl⟩; exact ⟨h, Below.refl _ _⟩)
  clear x0' x1' x2' x3' x4' x5'
  refine wp_region_quiet_below (by kernel_rfl) (by kernel_rfl) ?_
  repeat (first | go_big_quiet_step ((go_at_call 46; exact Calls.regrown_of (HG.out _ _))) | quiet_step ((go_at_call 46; exact Calls.regrown_of (HG.out _ _))))
  refine wpQuiet_nil ?_
  intro w3 hw'
  have HB3 : Hid (Below w.heap.size w w3) := by obtain ⟨⟨dq, osq⟩, rfl⟩ := hw'; exact below_step HB0.out (below_regrown _ _ _)
  clear hw' HG
  go_wp2
  go_ret
  exact ⟨by rw [HF.out]; rfl, HB3.out⟩

set_option maxHeartbeats 3200000 in
set_option maxRecDepth 20000 in
theorem refreadyE_any (e : Em) (h : List Vec.En) (p q s : Option Addr) (c d f : Nat) (w : World) (hR : Vec.Row w p e.deps) (hH : Vec.Row w s h) (hl : h.length ≤ 40000) (hm : e.deps.length ≤ 1000) (hfx : Vec.Fits h) (hfy : Vec.Fits e.deps) (hr : Vec.RightP h) :
    Calls Tryz.prog 32 #[ev e p c q d, .slice s h.length f] w fun r w' => r = .returned (.bool (readyE e h)) ∧ Below w.heap.size w w' := by
  have H2 : Hid (∀ W, Below w.heap.size w W → Calls Tryz.prog 46 #[.slice s h.length f, .int .u16 e.txn.r] W fun r w' => r = .returned (.int .u32 (Vec.getL h e.txn.r)) ∧ w' = W) := fun W hb => Vec.refget_any h e.txn.r s f W (hH.below hb) (by omega)
  have H3 : Hid (∀ W, Below w.heap.size w W → Calls Tryz.prog 59 #[.slice s h.length f, .slice p e.deps.length c] W fun r w' => r = .returned (.bool (Vec.coversL h e.deps)) ∧ Below W.heap.size W w') := fun W hb => Vec.refcovers_any h e.deps s p f c W (hH.below hb) (hR.below hb) hfx hfy (by omega) (by omega)
  have HF : Hid (readyE e h = (decide (Vec.getL h e.txn.r + 1 = e.txn.seq) && Vec.coversL h e.deps)) := rfl
  obtain ⟨g1, g2⟩ := getL_right hr e.txn.r
  clear hH hR hfx hfy hr
  obtain ⟨deps, ⟨r, seq, clock, user, ops⟩⟩ := e
  unfold ev
  simp only at *
  generalize readyE (⟨deps, ⟨r, seq, clock, user, ops⟩⟩ : Em) h = F at HF ⊢
  generalize Vec.getL h r = G at H2 HF g1 g2
  generalize Vec.coversL h deps = C at H3 HF
  generalize ops.length = TL
  generalize deps.length = L at H3 hm ⊢
  generalize h.length = HL at H2 H3 hl ⊢
  have HX := Lib.hid (heap_alloc_new w (.cells #[.slice p L c, .int .u16 r, .int .u32 seq, .int .u64 clock, .int .i64 user, .slice q TL d] 48))
  have HB0 : Hid (Below w.heap.size w (w.alloc (.cells #[.slice p L c, .int .u16 r, .int .u32 seq, .int .u64 clock, .int .i64 user, .slice q TL d] 48))) := below_alloc (Below.refl _ _) _
  have hwr : IntKind.u32.wrap (G + 1) = G + 1 := by rw [IntKind.wrap_u32]; omega
  have hwr' : (G + 1) % 4294967296 = G + 1 := by omega
  go_enter Tryz.func32, Tryz.ntmps32
  go_wp2_with fail
  generalize hw0 : (w.alloc (.cells #[.slice p L c, .int .u16 r, .int .u32 seq, .int .u64 clock, .int .i64 user, .slice q TL d] 48)) = w0 at HX HB0 ⊢
  clear hw0
  obtain ⟨x0', x1', x2', x3', x4', x5'⟩ := six_cells HX.out
  have x0 := cell_regrown x0'
  have x1 := cell_regrown x1'
  have x2 := cell_regrown x2'
  have HG : Hid (∀ dd os, Calls Tryz.prog 46 #[.slice s HL f, .int .u16 r] (Go.Sort.grow (redrawn w0 dd) os) fun e w' => e = .returned (.int .u32 G) ∧ Below (Go.Sort.grow (redrawn w0 dd) os).heap.size (Go.Sort.grow (redrawn w0 dd) os) w') := fun dd os => (H2.out _ (below_step HB0.out (below_regrown _ _ _))).mono (by rintro r w' ⟨h, rfl⟩; exact ⟨h, Below.refl _ _⟩)
  have HC : Hid (∀ dd os, Calls Tryz.prog 59 #[.slice s HL f, .slice p L c] (Go.Sort.grow (redrawn w0 dd) os) fun e w' => e = .returned (.bool C) ∧ Below (Go.Sort.grow (redrawn w0 dd) os).heap.size (Go.Sort.grow (redrawn w0 dd) os) w') := fun dd os => H3.out _ (below_step HB0.out (below_regrown _ _ _))
  clear x0' x1' x2' x3' x4' x5'
  by_cases hE : G + 1 = seq
  · have hE' : (G + 1 == seq) = true := by simp [hE]
    have HF2 : Hid (F = C) := by show _ = _; rw [HF.out, decide_eq_true hE, Bool.true_and]
    clear hE
    refine wp_region_quiet_below (by kernel_rfl) (by kernel_rfl) ?_
    repeat (first | go_big_quiet_step (first | (go_at_call 46; exact Calls.regrown_of (HG.out _ _)) | (go_at_call 59; exact Calls.regrown_of (HC.out _ _))) | quiet_step (first | (go_at_call 46; exact Calls.regrown_of (HG.out _ _)) | (go_at_call 59; exact Calls.regrown_of (HC.out _ _))))
    refine wpQuiet_nil ?_
    intro w3 hw'
    have HB3 : Hid (Below w.heap.size w w3) := by obtain ⟨⟨dq, osq⟩, rfl⟩ := hw'; exact below_step HB0.out (below_regrown _ _ _)
    clear hw' HG HC
    go_wp2
    go_ret
    exact ⟨by rw [HF2.out]; rfl, HB3.out⟩
  · have hE' : (G + 1 == seq) = false := by simp [hE]
    have HF2 : Hid (F = false) := by show _ = _; rw [HF.out, decide_eq_false hE, Bool.false_and]
    clear hE
    refine wp_region_quiet_below (by kernel_rfl) (by kernel_rfl) ?_
    repeat (first | go_big_quiet_step (first | (go_at_call 46; exact Calls.regrown_of (HG.out _ _)) | (go_at_call 59; exact Calls.regrown_of (HC.out _ _))) | quiet_step (first | (go_at_call 46; exact Calls.regrown_of (HG.out _ _)) | (go_at_call 59; exact Calls.regrown_of (HC.out _ _))))
    refine wpQuiet_nil ?_
    intro w3 hw'
    have HB3 : Hid (Below w.heap.size w w3) := by obtain ⟨⟨dq, osq⟩, rfl⟩ := hw'; exact below_step HB0.out (below_regrown _ _ _)
    clear hw' HG HC
    go_wp2
    go_ret
    exact ⟨by rw [HF2.out]; rfl, HB3.out⟩

theorem withL_fits {xs : List Vec.En} {r s : Int} (h : Vec.Fits xs) (hr : 0 ≤ r ∧ r ≤ 65535) (hs : 0 ≤ s ∧ s ≤ 4294967295) : Vec.Fits (Vec.withL xs r s) := fun x hx => by
  unfold Vec.withL at hx
  rcases List.mem_append.1 hx with hx | hx
  · rcases List.mem_append.1 hx with hx | hx
    · exact h x (List.mem_filter.1 hx).1
    · unfold Vec.mid at hx
      split at hx
      · rw [List.mem_singleton.1 hx]; exact ⟨hr.1, hr.2, hs.1, hs.2⟩
      · cases hx
  · exact h x (List.mem_filter.1 hx).1
theorem withL_len (xs : List Vec.En) (r s : Int) : (Vec.withL xs r s).length ≤ 2 * xs.length + 1 := by
  have h1 := Vec.lo_le xs r
  have h2 := Vec.hi_le xs r
  have h3 : (Vec.mid r s).length ≤ 1 := by unfold Vec.mid; split <;> simp
  unfold Vec.withL
  rw [List.length_append, List.length_append]
  omega
end Go.Proofs.YtjkdcpalgfakhaaGreat
/-
  What the document's Read of layer 8 hands back: where an anchor and a number stand behind the kind. No conditions beyond what each theorem states.
-/
namespace Go.Proofs.YtjkdcpalgfakhaaGreat
open Go.ChangeShapes Go.WideShapes Go.ChangeAt Go.RowKit Go.Lib
set_option linter.unusedVariables false
set_option linter.unusedSimpArgs false

end Go.Proofs.YtjkdcpalgfakhaaGreat
/-
  What the document's Read of layer 9 hands back, of any bytes, at any place. No conditions beyond what each theorem states.
-/
namespace Go.Proofs.YtjkdcpalgfakhaaGreat
open Go.ChangeShapes Go.WideShapes Go.ChangeAt Go.RowKit Go.Lib
set_option linter.unusedVariables false
set_option linter.unusedSimpArgs false

/-- What the document's Read tells, at a place. -/
def Read9At (bs : List UInt8) (Q : Nat) (w : World) (r : Ending) (w' : World) : Prop := ∃ ys p c q', r = .returned (.tuple #[tv (readTx bs Q 0).1 p c, .int .i64 q', .int .i64 ((readTx bs Q 0).2.2 : Int)]) ∧ (readTx bs Q 0).1.ops = ys.map (·.1) ∧ GRow layO w' p ys ∧ (∀ y ∈ ys, GRow layS w' y.2.1 y.1.spans) ∧ ((readTx bs Q 0).2.2 = 0 → q' = ((readTx bs Q 0).2.1 : Int)) ∧ Below w.heap.size w w'
/-- An operation's spans, in a block of their kind. -/
def OwnG (w : World) (y : OV) : Prop := GRow layS w y.2.1 y.1.spans ∧ KindAt 136 w y.2.1
theorem OwnG.below {w w' : World} {y : OV} (h : OwnG w y) (hb : Below w.heap.size w w') : OwnG w' y := ⟨h.1.below hb, h.2.below hb⟩
theorem OwnG.only {w w' : World} {y : OV} {X : Nat} {cs : Array Value} {t : TypeId} {f : Nat × Nat} (h : OwnG w y) (ht : t ≠ 136) (hX : w.heap[X]? = some (.cells cs t f)) (ho : Only X w w') : OwnG w' y :=
  ⟨h.1.kept ho (h.2.apart ht hX), h.2.kept ho (h.2.apart ht hX)⟩
theorem OwnG.grown {w w' : World} {y : OV} {base size n : Nat} {v : Value} {xs : List Value} {t : TypeId} (h : OwnG w y) (ht : t ≠ 136) (hown : w.ownsRow base t size v n xs) (hg : w.grownBy w' v.ownBlock) : OwnG w' y := by
  have hk : Kept (fun k => v.ownBlock = some k) w w' := Kept.ofGrown hg (fun k e => e)
  have hn : ∀ q, y.2.1 = some q → ¬ v.ownBlock = some q.block := fun q e ee => by
    obtain ⟨c, f, hc⟩ := Lib.ownsRow_kind hown _ ee
    exact h.2.apart ht hc q e rfl
  exact ⟨h.1.kept hk hn, h.2.kept hk hn⟩
theorem Hold.only {α : Type} {L : Lay α} {w wr w1 : World} {e : TypeId} {v : Value} {xs : List α} {Y : Nat} (h : Hold L w e v xs wr) (ho : Only Y wr w1) (hv : v.ownBlock ≠ some Y) (hY : w.heap.size ≤ Y) : Hold L w e v xs w1 :=
  ⟨h.1.kept (row := some Y) ⟨ho.os, ho.tape, ho.output, ho.size, fun k hk hn => ho.block k hk (fun e => hn (by rw [e]))⟩ (Or.inr hv), h.2.trans (ho.below h.2.size (fun k ek => by have ek : k = Y := ek; omega))⟩
theorem load9 {w : World} {B : Nat} {cs : Array Value} {t : TypeId} (h : w.heap[B]? = some (.cells cs t (0, 0))) (hs : cs.size = 5) : (loadVar 46 ⟨B, 0, none⟩).run Tryz.prog w = .ok (.agg cs) w :=
  run_loadVar_row w B t 46 _ (0, 0) _ h Tryz.underlying46 rfl (by rw [hs]; exact szR9)

end Go.Proofs.YtjkdcpalgfakhaaGreat
/-
  What the document's reading of a frame's inner bytes, layer 10, hands back, of any bytes. No conditions beyond what each theorem states.
-/
namespace Go.Proofs.YtjkdcpalgfakhaaGreat
open Go.ChangeShapes Go.WideShapes Go.ChangeAt Go.RowKit Go.Lib
set_option linter.unusedVariables false
set_option linter.unusedSimpArgs false

/-- Entries of a vector, two cells each. -/
def layV : Lay Vec.En := ⟨2, fun x => [.int .u16 x.1, .int .u32 x.2], fun _ => rfl, fun x u hu => by
  simp at hu
  rcases hu with rfl | rfl <;> rfl⟩
theorem layV_pos : 0 < layV.k := by decide
theorem vrow {w : World} {p : Option Addr} {xs : List Vec.En} (h : GRow layV w p xs) : Vec.Row w p xs := fun i hi => by
  obtain ⟨b, o, rfl, h0⟩ := h.cell (0, 0) (j := 0) hi rfl
  obtain ⟨b1, o1, e1, h1⟩ := h.cell (0, 0) (j := 1) hi rfl
  cases e1
  exact ⟨b, o, rfl, h0, h1⟩
theorem vrow_kept {S : Nat → Prop} {a b : World} {p : Option Addr} {xs : List Vec.En} (h : Vec.Row a p xs) (hk : Kept S a b) (hn : ∀ q, p = some q → ¬ S q.block) : Vec.Row b p xs := fun i hi => by
  obtain ⟨g, o, e, h1, h2⟩ := h i hi
  refine ⟨g, o, e, ?_, ?_⟩
  · rw [World.cell?_of_block (w := a) (hk.block g (block_lt_of_cell h1) (hn _ e))]; exact h1
  · rw [World.cell?_of_block (w := a) (hk.block g (block_lt_of_cell h2) (hn _ e))]; exact h2
theorem infoE2 : (Tryz.prog.info? 75).map (fun i => (i.zero, i.size, i.bytes)) = some (some (.agg #[.int .u16 0, .int .u32 0]), 2, 8) := by kernel_rfl
theorem szE : (Tryz.prog.info? 48).map (·.size) = some 6 := by kernel_rfl
theorem loadE {w : World} {B : Nat} {cs : Array Value} {t : TypeId} (h : w.heap[B]? = some (.cells cs t (0, 0))) (hs : cs.size = 6) : (loadVar 48 ⟨B, 0, none⟩).run Tryz.prog w = .ok (.agg cs) w :=
  run_loadVar_row w B t 48 _ (0, 0) _ h Tryz.underlying48 rfl (by rw [hs]; exact szE)
theorem results_ct {P : Program} {fn : Func} {p t : Tmp} {ty : TypeId} (h : fn.results = #[.cell p ty, .tmp t]) (tmps : Array Value) (w : World) (a : Addr) (va : Value)
    (hp : tmps.getD p undef = .pointer (some a)) (la : (loadVar ty a).run P w = .ok va w) :
    (results fn tmps).run P w = .ok (.tuple #[va, tmps.getD t undef]) w := by
  have hp' : tmps[p]?.getD undef = .pointer (some a) := by simpa using hp
  simp [results, h, hp', asAddr, la]
theorem box_six {w : World} {B : Nat} {a b c d e f a' b' c' d' e' f' : Value} {t : TypeId} (h : w.heap[B]? = some (.cells #[a, b, c, d, e, f] t (0, 0))) :
    ((((((w.setCell ⟨B, 0, none⟩ a').setCell ⟨B, 1, none⟩ b').setCell ⟨B, 2, none⟩ c').setCell ⟨B, 3, none⟩ d').setCell ⟨B, 4, none⟩ e').setCell ⟨B, 5, none⟩ f').heap[B]? = some (.cells #[a', b', c', d', e', f'] t (0, 0)) := by
  have h1 := heap_setCell_same w B 0 _ t a' h
  have h2 := heap_setCell_same _ B 1 _ t b' h1
  have h3 := heap_setCell_same _ B 2 _ t c' h2
  have h4 := heap_setCell_same _ B 3 _ t d' h3
  have h5 := heap_setCell_same _ B 4 _ t e' h4
  have h6 := heap_setCell_same _ B 5 _ t f' h5
  simpa using h6
theorem only_six (w : World) (B : Nat) (a b c d e f : Value) :
    Only B w ((((((w.setCell ⟨B, 0, none⟩ a).setCell ⟨B, 1, none⟩ b).setCell ⟨B, 2, none⟩ c).setCell ⟨B, 3, none⟩ d).setCell ⟨B, 4, none⟩ e).setCell ⟨B, 5, none⟩ f) :=
  (((((only_set w B 0 a).trans (only_set _ B 1 b)).trans (only_set _ B 2 c)).trans (only_set _ B 3 d)).trans (only_set _ B 4 e)).trans (only_set _ B 5 f)
/-- The transaction in a box of six, set. -/
theorem box_txn {w : World} {B : Nat} {a b c d e f b' c' d' e' f' : Value} {t : TypeId} (h : w.heap[B]? = some (.cells #[a, b, c, d, e, f] t (0, 0))) :
    (((((w.setCell ⟨B, 1, none⟩ b').setCell ⟨B, 2, none⟩ c').setCell ⟨B, 3, none⟩ d').setCell ⟨B, 4, none⟩ e').setCell ⟨B, 5, none⟩ f').heap[B]? = some (.cells #[a, b', c', d', e', f'] t (0, 0)) := by
  have h2 := heap_setCell_same w B 1 _ t b' h
  have h3 := heap_setCell_same _ B 2 _ t c' h2
  have h4 := heap_setCell_same _ B 3 _ t d' h3
  have h5 := heap_setCell_same _ B 4 _ t e' h4
  have h6 := heap_setCell_same _ B 5 _ t f' h5
  simpa using h6
theorem only_txn (w : World) (B : Nat) (b c d e f : Value) :
    Only B w (((((w.setCell ⟨B, 1, none⟩ b).setCell ⟨B, 2, none⟩ c).setCell ⟨B, 3, none⟩ d).setCell ⟨B, 4, none⟩ e).setCell ⟨B, 5, none⟩ f) :=
  ((((only_set w B 1 b).trans (only_set _ B 2 c)).trans (only_set _ B 3 d)).trans (only_set _ B 4 e)).trans (only_set _ B 5 f)
theorem grow_apartO {w w' : World} {p : Option Addr} {us : List OV} {X m m2 : Nat} {k k2 : Nat} {pv qv : Option Addr} {a b c d : Int} {t : TypeId} (h : GRow layO w p us) (hX : w.heap[X]? = some (.cells #[.slice pv m k, .int .u16 a, .int .u32 b, .int .u64 c, .int .i64 d, .slice qv m2 k2] t (0, 0))) (ho : Only X w w') : GRow layO w' p us := by
  cases us with
  | nil => exact GRow.nil _ _ _
  | cons u us =>
    refine h.kept ho (fun r ea ee => ?_)
    obtain ⟨g, o, e1, c0, c1, -⟩ := orow_at h (i := 0) (by simp)
    rw [e1] at ea
    cases ea
    have ee : g = X := ee
    subst ee
    rw [cell_of_block hX] at c0 c1
    simp only [Nat.zero_mul, Nat.add_zero] at c0 c1
    match o, c0, c1 with
    | 0, c0, c1 => simp at c0
    | 1, c0, c1 => simp at c0
    | 2, c0, c1 => simp at c0
    | 3, c0, c1 => simp at c0
    | 4, c0, c1 => simp at c1
    | 5, c0, c1 => simp at c0
    | o + 6, c0, c1 => simp at c0
theorem grow_apartS {w w' : World} {p : Option Addr} {us : List Sp} {X m m2 : Nat} {k k2 : Nat} {pv qv : Option Addr} {a b c d : Int} {t : TypeId} (h : GRow layS w p us) (hX : w.heap[X]? = some (.cells #[.slice pv m k, .int .u16 a, .int .u32 b, .int .u64 c, .int .i64 d, .slice qv m2 k2] t (0, 0))) (ho : Only X w w') : GRow layS w' p us := by
  cases us with
  | nil => exact GRow.nil _ _ _
  | cons u us =>
    refine h.kept ho (fun r ea ee => ?_)
    obtain ⟨g, o, e1, c0, c1, c2⟩ := srow_at h (i := 0) (by simp)
    rw [e1] at ea
    cases ea
    have ee : g = X := ee
    subst ee
    rw [cell_of_block hX] at c0 c1 c2
    simp only [Nat.zero_mul, Nat.add_zero] at c0 c1 c2
    match o, c0, c1, c2 with
    | 0, c0, c1, c2 => simp at c0
    | 1, c0, c1, c2 => simp at c2
    | 2, c0, c1, c2 => simp at c0
    | 3, c0, c1, c2 => simp at c0
    | 4, c0, c1, c2 => simp at c0
    | 5, c0, c1, c2 => simp at c0
    | o + 6, c0, c1, c2 => simp at c0
theorem LieT.only {w w' : World} {t : Tm} {us : List OV} {p : Option Addr} {X m m2 : Nat} {k k2 : Nat} {pv qv : Option Addr} {a b c d : Int} {ty : TypeId} (h : LieT t us p w) (hX : w.heap[X]? = some (.cells #[.slice pv m k, .int .u16 a, .int .u32 b, .int .u64 c, .int .i64 d, .slice qv m2 k2] ty (0, 0))) (ho : Only X w w') : LieT t us p w' :=
  ⟨h.fit, h.ops, grow_apartO h.row hX ho, fun x hx => grow_apartS (h.each x hx) hX ho⟩
/-- What the document tells of bytes: an envelope, where its parts lie, and an error. -/
def ReadAtE (e : Em) (f : Int) (w : World) (r : Ending) (w' : World) : Prop := ∃ ys p c q d, r = .returned (.tuple #[ev e p c q d, .int .i64 f]) ∧ Vec.Row w' p e.deps ∧ KindAt 75 w' p ∧ LieT e.txn ys q w' ∧ Below w.heap.size w w'
theorem fitTm_none : FitTm t0 := fitTm_zero
theorem lie_none (w : World) : LieT t0 [] none w := ⟨fitTm_zero, rfl, GRow.nil _ _ _, fun x hx => by cases hx⟩
theorem row_none_nil (w : World) : Vec.Row w none [] := fun i hi => by simp at hi

end Go.Proofs.YtjkdcpalgfakhaaGreat
