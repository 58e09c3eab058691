
/-
  What the laws' own copyistmade.Txn hands back. No conditions beyond what each theorem states.
-/
import Derived.Test.YtedlmngfkkpmgaaMade2
import Derived.Test.YtedlmngfkkpmgaaTxnArgs
namespace Go.Proofs.Ytedlmngfkkpmgaa
open Go.ChangeShapes Go.WideShapes Go.ChangeAt Go.RowKit Go.Lib
set_option linter.unusedVariables false
set_option linter.unusedSimpArgs false

theorem szR9 : (Try.prog.info? 32).map (·.size) = some 5 := by kernel_rfl
theorem infoR8 : (Try.prog.info? 49).map (fun i => (i.zero, i.size, i.bytes)) = some (some (.agg #[.int .i64 0, .int .u16 0, .int .u32 0, .int .u32 0, .string ⟨#[]⟩, .slice none 0 0, .int .u32 0]), 7, 72) := by kernel_rfl
theorem five_cells {w : World} {B : Nat} {a b c d e : Value} {t : TypeId} (h : w.heap[B]? = some (.cells #[a, b, c, d, e] t (0, 0))) : w.cell? ⟨B, 0, none⟩ = some a ∧ w.cell? ⟨B, 1, none⟩ = some b ∧ w.cell? ⟨B, 2, none⟩ = some c ∧ w.cell? ⟨B, 3, none⟩ = some d ∧ w.cell? ⟨B, 4, none⟩ = some e :=
  ⟨by rw [cell_of_block h]; rfl, by rw [cell_of_block h]; rfl, by rw [cell_of_block h]; rfl, by rw [cell_of_block h]; rfl, by rw [cell_of_block h]; rfl⟩
theorem box_five {w : World} {B : Nat} {a b c d e a' b' c' d' e' : Value} {t : TypeId} (h : w.heap[B]? = some (.cells #[a, b, c, d, e] t (0, 0))) :
    (((((w.setCell ⟨B, 0, none⟩ a').setCell ⟨B, 1, none⟩ b').setCell ⟨B, 2, none⟩ c').setCell ⟨B, 3, none⟩ d').setCell ⟨B, 4, none⟩ e').heap[B]? = some (.cells #[a', b', c', d', e'] t (0, 0)) := by
  have h1 := heap_setCell_same w B 0 _ t a' h
  have h2 := heap_setCell_same _ B 1 _ t b' h1
  have h3 := heap_setCell_same _ B 2 _ t c' h2
  have h4 := heap_setCell_same _ B 3 _ t d' h3
  have h5 := heap_setCell_same _ B 4 _ t e' h4
  simpa using h5
theorem only_five (w : World) (B : Nat) (a b c d e : Value) :
    Only B w (((((w.setCell ⟨B, 0, none⟩ a).setCell ⟨B, 1, none⟩ b).setCell ⟨B, 2, none⟩ c).setCell ⟨B, 3, none⟩ d).setCell ⟨B, 4, none⟩ e) :=
  ((((only_set w B 0 a).trans (only_set _ B 1 b)).trans (only_set _ B 2 c)).trans (only_set _ B 3 d)).trans (only_set _ B 4 e)
/-- An operation's spans, where they lie. -/
def RowO (w : World) (y : OV) : Prop := GRow layS w y.2.1 y.1.spans ∧ y.1.spans.length ≤ y.2.2 ∧ (y.2.1 = none → y.2.2 = 0)
/-- .. in a block of their kind. -/
def OwnO (s : TypeId) (w : World) (y : OV) : Prop := RowO w y ∧ KindAt s w y.2.1
theorem OwnO.below {s : TypeId} {w w' : World} {y : OV} (h : OwnO s w y) (hb : Below w.heap.size w w') : OwnO s w' y := ⟨⟨h.1.1.below hb, h.1.2⟩, h.2.below hb⟩
theorem OwnO.only {s : TypeId} {w w' : World} {y : OV} {X : Nat} {cs : Array Value} {t : TypeId} {f : Nat × Nat} (h : OwnO s w y) (ht : t ≠ s) (hX : w.heap[X]? = some (.cells cs t f)) (ho : Only X w w') : OwnO s w' y :=
  ⟨⟨h.1.1.kept ho (h.2.apart ht hX), h.1.2⟩, h.2.kept ho (h.2.apart ht hX)⟩
theorem OwnO.grown {s : TypeId} {w w' : World} {y : OV} {base size n : Nat} {v : Value} {xs : List Value} {t : TypeId} (h : OwnO s w y) (ht : t ≠ s) (hown : w.ownsRow base t size v n xs) (hg : w.grownBy w' v.ownBlock) : OwnO s w' y := by
  have hk : Kept (fun k => v.ownBlock = some k) w w' := Kept.ofGrown hg (fun k e => e)
  have hn : ∀ q, y.2.1 = some q → ¬ v.ownBlock = some q.block := fun q e ee => by
    obtain ⟨c, f, hc⟩ := Lib.ownsRow_kind hown _ ee
    exact h.2.apart ht hc q e rfl
  exact ⟨⟨h.1.1.kept hk hn, h.1.2⟩, h.2.kept hk hn⟩
/-- A transaction's rows. -/
structure RowT (t : Tm) (xs : List OV) (p : Option Addr) (c : Nat) (w : World) : Prop where
  ops : t.ops = xs.map (·.1)
  row : GRow layO w p xs
  each : ∀ x ∈ xs, RowO w x
  cap : t.ops.length ≤ c
  nil : p = none → c = 0
theorem RowT.below {t : Tm} {xs : List OV} {p : Option Addr} {c : Nat} {w w' : World} (h : RowT t xs p c w) (hb : Below w.heap.size w w') : RowT t xs p c w' := ⟨h.ops, h.row.below hb, fun x hx => ⟨(h.each x hx).1.below hb, (h.each x hx).2⟩, h.cap, h.nil⟩
theorem InT.rows {t : Tm} {xs : List OV} {p : Option Addr} {c : Nat} {w : World} (h : InT t xs p c w) : RowT t xs p c w := ⟨h.ops, h.row.row, fun x hx => ⟨(h.row.each x hx).row, (h.row.each x hx).cap, (h.row.each x hx).nil⟩, h.cap, h.nil⟩
theorem RowT.inT {t : Tm} {xs : List OV} {p : Option Addr} {c : Nat} {w : World} (h : RowT t xs p c w) (hf : FitTm t) : InT t xs p c w := ⟨hf, h.ops, ⟨h.row, fun x hx => ⟨hf.2.2.2.2.2.2.2.2 x.1 (by rw [h.ops]; exact List.mem_map.2 ⟨x, hx, rfl⟩), (h.each x hx).1, (h.each x hx).2.1, (h.each x hx).2.2⟩⟩, h.cap, h.nil⟩
theorem RowT.at {t : Tm} {xs : List OV} {p : Option Addr} {c : Nat} {w : World} (h : RowT t xs p c w) {k : Nat} (hk : k < xs.length) : RowO w (xs.getD k ov0) := h.each _ (getD_mem ov0 hk)
/-- A transaction that a call hands back, with operations and spans of its own. -/
def MadeT (t : Tm) (w : World) (e : Ending) (w' : World) : Prop := ∃ ys p c, e = .returned (tv t p c) ∧ RowT t ys p c w' ∧ Below w.heap.size w w'
set_option maxHeartbeats 6400000 in
set_option maxRecDepth 20000 in
theorem mtxn_any (t : Tm) (xs : List OV) (p : Option Addr) (c : Nat) (w : World) (H : RowT t xs p c w) (hl : t.ops.length ≤ 1954687338211) (hs : ∀ x ∈ xs, x.1.spans.length ≤ 8796093021952) :
    Calls Try.prog 8 #[tv t p c] w (MadeT t w) := by
  obtain ⟨i0, hi, hz0, hz1, hz2⟩ := info_parts infoR8
  have hlen : t.ops.length = xs.length := by rw [H.ops, List.length_map]
  have HIN := Lib.hid H
  have HOP : Hid (∀ k, k < xs.length → ∀ W, Below w.heap.size w W → Calls Try.prog 26 #[ov (xs.getD k ov0).1 (xs.getD k ov0).2.1 (xs.getD k ov0).2.2] W (MadeO (xs.getD k ov0).1 W)) := fun k hk W hb => mop_any _ _ _ W ((H.at hk).1.below hb) (hs _ (getD_mem ov0 hk))
  have HR := Lib.hid H.row
  clear H
  unfold MadeT
  have HTV : Hid (∀ p c, tv t p c = .agg #[.int .u16 t.r, .int .u32 t.seq, .int .u64 t.clock, .int .i64 t.user, .slice p xs.length c]) := fun p c => by unfold tv; rw [hlen]
  rw [HTV.out]
  rw [hlen] at hl
  go_enter Try.func8, Try.ntmps8
  go_wp2
  have HX := Lib.hid (fun A B C => three_blocks8 w A B C)
  go_loopg [18] xs.length (fun g i wr => ∃ (k : Nat) (v : Value) (ys : List OV), k ≤ xs.length ∧ xs.length - k ≤ g ∧ i = .int .i64 (k : Int) ∧ Hold layO w 49 v ys wr ∧ ys.map (·.1) = (xs.take k).map (·.1) ∧ (∀ y ∈ ys, OwnO 101 wr y) ∧ wr.heap[w.heap.size + 1]? = some (.cells #[.int .u16 0, .int .u32 0, .int .u64 0, .int .i64 0, .slice none 0 0] 32 (0, 0)) ∧ wr.heap[w.heap.size + 2]? = some (.cells #[.int .u16 t.r, .int .u32 t.seq, .int .u64 t.clock, .int .i64 t.user, v] 32 (0, 0)))
  case atStart => exact ⟨0, .slice none 0 0, [], Nat.zero_le _, by omega, rfl, ((Hold.nil _ _ _).alloc _ |>.alloc _ |>.alloc _), rfl, (fun y hy => by cases hy), (HX.out _ _ _).1, (HX.out _ _ _).2⟩
  case round =>
    obtain ⟨k, v, ys, hk, hg, rfl, hO, hys, hE, h1, h2⟩ := hrel
    have HO := Lib.hid hO
    have HYS := Lib.hid hys
    have HE := Lib.hid hE
    have H1 := Lib.hid h1
    have H2 := Lib.hid h2
    have hyl : ys.length = k := by have := congrArg List.length hys; simp only [List.length_map, List.length_take] at this; omega
    clear hO hys hE h1 h2
    by_cases hlt : k < xs.length
    · obtain ⟨b, o, rfl, c0', c1', c2', c3', c4', c5', c6'⟩ := orow_at HR.out hlt
      have c0 := cellU c0' HO.out.2
      have c1 := cellU c1' HO.out.2
      have c2 := cellU c2' HO.out.2
      have c3 := cellU c3' HO.out.2
      have c4 := cellU c4' HO.out.2
      have c5 := cellU c5' HO.out.2
      have c6 := cellU c6' HO.out.2
      clear c0' c1' c2' c3' c4' c5' c6'
      have hkl : (k : Int) < (xs.length : Int) := by omega
      have HNX : Hid ((xs.take (k + 1)).map (·.1) = (xs.take k).map (·.1) ++ [(xs.getD k ov0).1]) := by show _ = _; rw [take_getD ov0 hlt]; simp
      have HOK : Hid (∀ o : Obj, Calls Try.prog 26 #[ov (xs.getD k ov0).1 (xs.getD k ov0).2.1 (xs.getD k ov0).2.2] ((wr.alloc o).drew) (MadeO (xs.getD k ov0).1 ((wr.alloc o).drew))) := fun o => HOP.out k hlt _ (below_step HO.out.2 (below_drewN (below_alloc (Below.refl _ _) o) 1))
      generalize xs.getD k ov0 = x at c0 c1 c2 c3 c4 c5 c6 HNX HOK
      obtain ⟨om, px, cx⟩ := x
      simp only at c0 c1 c2 c3 c4 c5 c6 HNX HOK
      have HOM : Hid (∀ p c, ov om p c = .agg #[.int .i64 om.kind, .int .u16 om.r, .int .u32 om.n, .int .u32 om.num, .string ⟨om.text.toArray⟩, .slice p om.spans.length c, .int .u32 om.seq]) := fun p c => rfl
      unfold MadeO at HOK
      generalize hcc : (⟨om.text.toArray⟩ : ByteArray) = bt at c4 HOM
      rw [HOM.out] at HOK
      obtain ⟨z0, z1, z2, z3, z4⟩ := five_cells H2.out
      have hX2 : w.heap.size + 2 < wr.heap.size := lt_of_block H2.out
      have hne1 : ¬ w.heap.size + 2 = wr.heap.size := by omega
      have hne2 : ¬ wr.heap.size = w.heap.size + 2 := by omega
      have HBX : Hid ((wr.alloc (.cells #[.int .i64 om.kind, .int .u16 om.r, .int .u32 om.n, .int .u32 om.num, .string bt, .slice px om.spans.length cx, .int .u32 om.seq] 69)).heap[wr.heap.size]? = some (.cells #[.int .i64 om.kind, .int .u16 om.r, .int .u32 om.n, .int .u32 om.num, .string bt, .slice px om.spans.length cx, .int .u32 om.seq] 69 (0, 0))) := heap_alloc_new wr _
      have y4 : (wr.alloc (.cells #[.int .i64 om.kind, .int .u16 om.r, .int .u32 om.n, .int .u32 om.num, .string bt, .slice px om.spans.length cx, .int .u32 om.seq] 69)).cell? ⟨w.heap.size + 2, 4, none⟩ = some v := cellU z4 (below_alloc (Below.refl wr.heap.size wr) _)
      have HY4' := Lib.hid y4
      go_wp2_with fail
      go_region_law (first
        | (refine step_append_own rfl (.tmp 23) (.tmp 26) 30 rfl w.heap.size 49 i0 (.agg #[.int .i64 0, .int .u16 0, .int .u32 0, .int .u32 0, .string ⟨#[]⟩, .slice none 0 0, .int .u32 0]) 7 72 Try.underlying30 hi hz0 hz1 hz2 rfl (by decide) v ys.length (layO.flat ys) (by simp [Act.eval, Act.put]) HO5.out.1 ⟨w4.heap.size, 0, none⟩ 1 1 [.int .i64 om.kind, .int .u16 om.r, .int .u32 om.n, .int .u32 om.num, .string bt, .slice p4 om.spans.length c4, .int .u32 om.seq] (by simp [Act.eval, Act.put]) rfl (by have := @cells_new w4 [.int .i64 om.kind, .int .u16 om.r, .int .u32 om.n, .int .u32 om.num, .string bt, .slice p4 om.spans.length c4, .int .u32 om.seq] 49; simpa using this) (by have := layO.one (om, p4, c4); rw [← hcc]; exact this) (by unfold maxLen; omega) (by omega) HO5.out.2.size ?_; intro v' w6 hown' hgrow; obtain ⟨pv, cv, rfl⟩ := owns_slice hown'; have H26 := Lib.hid (box_grown (by decide) H25.out HO5.out.1 hgrow); have z6 := (five_cells H26.out).2.2.2.2; have f6 : w6.frozen? ⟨w.heap.size + 2, 4, none⟩ = false := frozen_of_block H26.out)
        | (go_simp; go_wp2_with (go_at_call 26; refine (HOK.out _).mono ?_; rintro e w4 ⟨p4, c4, rfl, hG, hc4, hp4, hS, hb4⟩; rw [HOM.out]; have HB4 := Lib.hid (below_of_drew hb4); have HY4 : Hid (OwnO 101 w4 (om, p4, c4)) := ⟨⟨hG, hc4, hp4⟩, hS⟩; have k4 := cellU HY4'.out HB4.out; have k5 := cellU k4 (below_alloc (Below.refl _ _) (.cells #[.int .i64 om.kind, .int .u16 om.r, .int .u32 om.n, .int .u32 om.num, .string bt, .slice p4 om.spans.length c4, .int .u32 om.seq] 49)); have k4' : w4.cell? ⟨w.heap.size + 1 + 1, 4, none⟩ = some v := k4; have k5' : (w4.alloc (.cells #[.int .i64 om.kind, .int .u16 om.r, .int .u32 om.n, .int .u32 om.num, .string bt, .slice p4 om.spans.length c4, .int .u32 om.seq] 49)).cell? ⟨w.heap.size + 1 + 1, 4, none⟩ = some v := k5; have hX4 : ¬ w.heap.size + 2 = w4.heap.size := (by have := HB4.out.size; simp only [World.alloc, Array.size_push] at this; omega); have HO5 : Hid (Hold layO w 49 v ys (w4.alloc (.cells #[.int .i64 om.kind, .int .u16 om.r, .int .u32 om.n, .int .u32 om.num, .string bt, .slice p4 om.spans.length c4, .int .u32 om.seq] 49))) := ((HO.out.alloc _).below HB4.out).alloc _; have H25 := Lib.hid (kept_box (kept_box (kept_box H2.out (below_alloc (Below.refl _ _) (.cells #[.int .i64 om.kind, .int .u16 om.r, .int .u32 om.n, .int .u32 om.num, .string bt, .slice px om.spans.length cx, .int .u32 om.seq] 69))) HB4.out) (below_alloc (Below.refl _ _) (.cells #[.int .i64 om.kind, .int .u16 om.r, .int .u32 om.n, .int .u32 om.num, .string bt, .slice p4 om.spans.length c4, .int .u32 om.seq] 49))); clear hG hS hb4)))
      all_goals
        have H15 := Lib.hid (kept_box (kept_box (kept_box H1.out (below_alloc (Below.refl _ _) (.cells #[.int .i64 om.kind, .int .u16 om.r, .int .u32 om.n, .int .u32 om.num, .string bt, .slice px om.spans.length cx, .int .u32 om.seq] 69))) HB4.out) (below_alloc (Below.refl _ _) (.cells #[.int .i64 om.kind, .int .u16 om.r, .int .u32 om.n, .int .u32 om.num, .string bt, .slice p4 om.spans.length c4, .int .u32 om.seq] 49)))
        have HE5 : Hid (∀ y ∈ ys ++ [(om, p4, c4)], OwnO 101 (w4.alloc (.cells #[.int .i64 om.kind, .int .u16 om.r, .int .u32 om.n, .int .u32 om.num, .string bt, .slice p4 om.spans.length c4, .int .u32 om.seq] 49)) y) := fun y hy => by
          rcases List.mem_append.1 hy with hy | hy
          · exact (((HE.out y hy).below (below_alloc (Below.refl _ _) _)).below HB4.out).below (below_alloc (Below.refl _ _) _)
          · rw [List.mem_singleton.1 hy]; exact HY4.out.below (below_alloc (Below.refl _ _) _)
        have HO6 : Hid (Hold layO w 49 (.slice pv (ys.length + 1) cv) (ys ++ [(om, p4, c4)]) w6) := HO5.out.onto (ys := [(om, p4, c4)]) (by rw [layO.flat_one, ← hcc]; rfl) (by simp) hown' hgrow
        have H16 := Lib.hid (box_grown (by decide) H15.out HO5.out.1 hgrow)
        have HE6 : Hid (∀ y ∈ ys ++ [(om, p4, c4)], OwnO 101 w6 y) := fun y hy => (HE5.out y hy).grown (by decide) HO5.out.1 hgrow
        clear hown' hgrow HO5 HE5 HO HE H15 H25 H1 H2
        have HEND : Hid (Hold layO w 49 (.slice pv (ys.length + 1) cv) (ys ++ [(om, p4, c4)]) (w6.setCell ⟨w.heap.size + 2, 4, none⟩ (.slice pv (ys.length + 1) cv)) ∧ (∀ y ∈ ys ++ [(om, p4, c4)], OwnO 101 (w6.setCell ⟨w.heap.size + 2, 4, none⟩ (.slice pv (ys.length + 1) cv)) y) ∧ (w6.setCell ⟨w.heap.size + 2, 4, none⟩ (.slice pv (ys.length + 1) cv)).heap[w.heap.size + 1]? = some (.cells #[.int .u16 0, .int .u32 0, .int .u64 0, .int .i64 0, .slice none 0 0] 32 (0, 0)) ∧ (w6.setCell ⟨w.heap.size + 2, 4, none⟩ (.slice pv (ys.length + 1) cv)).heap[w.heap.size + 2]? = some (.cells #[.int .u16 t.r, .int .u32 t.seq, .int .u64 t.clock, .int .i64 t.user, .slice pv (ys.length + 1) cv] 32 (0, 0))) := by
          refine ⟨HO6.out.other (kind_apart (by decide) H26.out HO6.out.1) (by omega) 4 _, fun y hy => (HE6.out y hy).only (by decide) H26.out (only_set w6 _ 4 _), ?_, ?_⟩
          · rw [heap_setCell_other _ _ _ _ (by simp)]; exact H16.out
          · have := heap_setCell_same w6 (w.heap.size + 2) 4 _ _ (.slice pv (ys.length + 1) cv) H26.out
            simpa using this
        rw [hyl] at HEND
        have HMY : Hid ((ys ++ [(om, p4, c4)]).map (·.1) = (xs.take (k + 1)).map (·.1)) := by show _ = _; rw [HNX.out, List.map_append, HYS.out]; rfl
        go_wp2
        go_roundg (xs.length - (k + 1))
        case measure => omega
        case rel => exact ⟨k + 1, _, ys ++ [(om, p4, c4)], by omega, Nat.le_refl _, by go_num, HEND.out.1, HMY.out, HEND.out.2.1, HEND.out.2.2.1, HEND.out.2.2.2⟩
    · have : k = xs.length := by omega
      subst this
      have hkl : ¬ (xs.length : Int) < (xs.length : Int) := by omega
      rw [List.take_length] at HYS
      obtain ⟨y0, y1, y2, y3, y4⟩ := five_cells H1.out
      obtain ⟨z0, z1, z2, z3, z4⟩ := five_cells H2.out
      have f1 : ∀ o, wr.frozen? ⟨w.heap.size + 1, o, none⟩ = false := fun o => frozen_of_block H1.out
      obtain ⟨pv, cv, rfl, hG, hcv, hpv⟩ := HO.out.gave layO_pos
      have HG := Lib.hid hG
      have HAP := Lib.hid (kind_apart (by decide) H1.out HO.out.1)
      clear hG
      rw [hyl] at *
      go_wp2
      (try simp only [Exit.inBlock, Exit.then])
      have hS := only_five wr (w.heap.size + 1) (.int .u16 t.r) (.int .u32 t.seq) (.int .u64 t.clock) (.int .i64 t.user) (.slice pv xs.length cv)
      refine bodyPost_ret (results_cell_row rfl _ _ (w.heap.size + 1) 32 #[.int .u16 t.r, .int .u32 t.seq, .int .u64 t.clock, .int .i64 t.user, .slice pv xs.length cv] (0, 0) _ rfl (box_five H1.out) Try.underlying32 rfl szR9) rfl ?_
      refine ⟨ys, pv, cv, by rw [HTV.out], ⟨by rw [HIN.out.ops]; exact HYS.out.symm, HG.out.kept hS (fun q e ee => ?_), fun y hy => ((HE.out y hy).only (by decide) H1.out hS).1, by omega, hpv⟩, HO.out.2.trans (hS.below (Nat.le_trans HO.out.2.size (Nat.le_refl _)) ?_)⟩
      · apply HAP.out
        rw [e]
        have ee : q.block = w.heap.size + 1 := ee
        simp [Value.ownBlock, ee]
      · intro k ek
        have ek : k = w.heap.size + 1 := ek
        omega
end Go.Proofs.Ytedlmngfkkpmgaa
