/-
  Several texts of one proof, joined: each part says at its head what it proves. No conditions beyond what each theorem states.
-/
import Derived.Test.YtedlmngfkkpmgaaZ06
import Derived.Test.YtedlmngfkkpmgaaZ07
import Derived.Test.YtedlmngfkkpmgaaZ05
/-
  What the laws' own copyistmade.Txn hands back. No conditions beyond what each theorem states.
-/
namespace Go.Proofs.Ytedlmngfkkpmgaa
open Go.ChangeShapes Go.WideShapes Go.ChangeAt Go.RowKit Go.Lib
set_option linter.unusedVariables false
set_option linter.unusedSimpArgs false

theorem szR9 : (Try.prog.info? 32).map (·.size) = some 5 := by kernel_rfl
theorem infoR8 : (Try.prog.info? 49).map (fun i => (i.zero, i.size, i.bytes)) = some (some (.agg #[.int .i64 0, .int .u16 0, .int .u32 0, .int .u32 0, .string ⟨#[]⟩, .slice none 0 0, .int .u32 0]), 7, 72) := by kernel_rfl
theorem five_cells {w : World} {B : Nat} {a b c d e : Value} {t : TypeId} (h : w.heap[B]? = some (.cells #[a, b, c, d, e] t (0, 0))) : w.cell? ⟨B, 0, none⟩ = some a ∧ w.cell? ⟨B, 1, none⟩ = some b ∧ w.cell? ⟨B, 2, none⟩ = some c ∧ w.cell? ⟨B, 3, none⟩ = some d ∧ w.cell? ⟨B, 4, none⟩ = some e :=
  ⟨by rw [cell_of_block h]; rfl, by rw [cell_of_block h]; rfl, by rw [cell_of_block h]; rfl, by rw [cell_of_block h]; rfl, by rw [cell_of_block h]; rfl⟩
theorem box_five {w : World} {B : Nat} {a b c d e a' b' c' d' e' : Value} {t : TypeId} (h : w.heap[B]? = some (.cells #[a, b, c, d, e] t (0, 0))) :
    (((((w.setCell ⟨B, 0, none⟩ a').setCell ⟨B, 1, none⟩ b').setCell ⟨B, 2, none⟩ c').setCell ⟨B, 3, none⟩ d').setCell ⟨B, 4, none⟩ e').heap[B]? = some (.cells #[a', b', c', d', e'] t (0, 0)) := by
  have h1 := heap_setCell_same w B 0 _ t a' h
  have h2 := heap_setCell_same _ B 1 _ t b' h1
  have h3 := heap_setCell_same _ B 2 _ t c' h2
  have h4 := heap_setCell_same _ B 3 _ t d' h3
  have h5 := heap_setCell_same _ B 4 _ t e' h4
  simpa using h5
theorem only_five (w : World) (B : Nat) (a b c d e : Value) :
    Only B w (((((w.setCell ⟨B, 0, none⟩ a).setCell ⟨B, 1, none⟩ b).setCell ⟨B, 2, none⟩ c).setCell ⟨B, 3, none⟩ d).setCell ⟨B, 4, none⟩ e) :=
  ((((only_set w B 0 a).trans (only_set _ B 1 b)).trans (only_set _ B 2 c)).trans (only_set _ B 3 d)).trans (only_set _ B 4 e)
/-- An operation's spans, where they lie. -/
def RowO (w : World) (y : OV) : Prop := GRow layS w y.2.1 y.1.spans ∧ y.1.spans.length ≤ y.2.2 ∧ (y.2.1 = none → y.2.2 = 0)
/-- .. in a block of their kind. -/
def OwnO (s : TypeId) (w : World) (y : OV) : Prop := RowO w y ∧ KindAt s w y.2.1
theorem OwnO.below {s : TypeId} {w w' : World} {y : OV} (h : OwnO s w y) (hb : Below w.heap.size w w') : OwnO s w' y := ⟨⟨h.1.1.below hb, h.1.2⟩, h.2.below hb⟩
theorem OwnO.only {s : TypeId} {w w' : World} {y : OV} {X : Nat} {cs : Array Value} {t : TypeId} {f : Nat × Nat} (h : OwnO s w y) (ht : t ≠ s) (hX : w.heap[X]? = some (.cells cs t f)) (ho : Only X w w') : OwnO s w' y :=
  ⟨⟨h.1.1.kept ho (h.2.apart ht hX), h.1.2⟩, h.2.kept ho (h.2.apart ht hX)⟩
theorem OwnO.grown {s : TypeId} {w w' : World} {y : OV} {base size n : Nat} {v : Value} {xs : List Value} {t : TypeId} (h : OwnO s w y) (ht : t ≠ s) (hown : w.ownsRow base t size v n xs) (hg : w.grownBy w' v.ownBlock) : OwnO s w' y := by
  have hk : Kept (fun k => v.ownBlock = some k) w w' := Kept.ofGrown hg (fun k e => e)
  have hn : ∀ q, y.2.1 = some q → ¬ v.ownBlock = some q.block := fun q e ee => by
    obtain ⟨c, f, hc⟩ := Lib.ownsRow_kind hown _ ee
    exact h.2.apart ht hc q e rfl
  exact ⟨⟨h.1.1.kept hk hn, h.1.2⟩, h.2.kept hk hn⟩
/-- A transaction's rows. -/
structure RowT (t : Tm) (xs : List OV) (p : Option Addr) (c : Nat) (w : World) : Prop where
  ops : t.ops = xs.map (·.1)
  row : GRow layO w p xs
  each : ∀ x ∈ xs, RowO w x
  cap : t.ops.length ≤ c
  nil : p = none → c = 0
theorem RowT.below {t : Tm} {xs : List OV} {p : Option Addr} {c : Nat} {w w' : World} (h : RowT t xs p c w) (hb : Below w.heap.size w w') : RowT t xs p c w' := ⟨h.ops, h.row.below hb, fun x hx => ⟨(h.each x hx).1.below hb, (h.each x hx).2⟩, h.cap, h.nil⟩
theorem InT.rows {t : Tm} {xs : List OV} {p : Option Addr} {c : Nat} {w : World} (h : InT t xs p c w) : RowT t xs p c w := ⟨h.ops, h.row.row, fun x hx => ⟨(h.row.each x hx).row, (h.row.each x hx).cap, (h.row.each x hx).nil⟩, h.cap, h.nil⟩
theorem RowT.inT {t : Tm} {xs : List OV} {p : Option Addr} {c : Nat} {w : World} (h : RowT t xs p c w) (hf : FitTm t) : InT t xs p c w := ⟨hf, h.ops, ⟨h.row, fun x hx => ⟨hf.2.2.2.2.2.2.2.2 x.1 (by rw [h.ops]; exact List.mem_map.2 ⟨x, hx, rfl⟩), (h.each x hx).1, (h.each x hx).2.1, (h.each x hx).2.2⟩⟩, h.cap, h.nil⟩
theorem RowT.at {t : Tm} {xs : List OV} {p : Option Addr} {c : Nat} {w : World} (h : RowT t xs p c w) {k : Nat} (hk : k < xs.length) : RowO w (xs.getD k ov0) := h.each _ (getD_mem ov0 hk)
/-- A transaction that a call hands back, with operations and spans of its own. -/
def MadeT (t : Tm) (w : World) (e : Ending) (w' : World) : Prop := ∃ ys p c, e = .returned (tv t p c) ∧ RowT t ys p c w' ∧ Below w.heap.size w w'
set_option maxHeartbeats 6400000 in
set_option maxRecDepth 20000 in
theorem mtxn_any (t : Tm) (xs : List OV) (p : Option Addr) (c : Nat) (w : World) (H : RowT t xs p c w) (hl : t.ops.length ≤ 1954687338211) (hs : ∀ x ∈ xs, x.1.spans.length ≤ 8796093021952) :
    Calls Try.prog 8 #[tv t p c] w (MadeT t w) := by
  obtain ⟨i0, hi, hz0, hz1, hz2⟩ := info_parts infoR8
  have hlen : t.ops.length = xs.length := by rw [H.ops, List.length_map]
  have HIN := Lib.hid H
  have HOP : Hid (∀ k, k < xs.length → ∀ W, Below w.heap.size w W → Calls Try.prog 26 #[ov (xs.getD k ov0).1 (xs.getD k ov0).2.1 (xs.getD k ov0).2.2] W (MadeO (xs.getD k ov0).1 W)) := fun k hk W hb => mop_any _ _ _ W ((H.at hk).1.below hb) (hs _ (getD_mem ov0 hk))
  have HR := Lib.hid H.row
  clear H
  unfold MadeT
  have HTV : Hid (∀ p c, tv t p c = .agg #[.int .u16 t.r, .int .u32 t.seq, .int .u64 t.clock, .int .i64 t.user, .slice p xs.length c]) := fun p c => by unfold tv; rw [hlen]
  rw [HTV.out]
  rw [hlen] at hl
  go_enter Try.func8, Try.ntmps8
  go_wp2
  have HX := Lib.hid (fun A B C => three_blocks8 w A B C)
  go_loopg [18] xs.length (fun g i wr => ∃ (k : Nat) (v : Value) (ys : List OV), k ≤ xs.length ∧ xs.length - k ≤ g ∧ i = .int .i64 (k : Int) ∧ Hold layO w 49 v ys wr ∧ ys.map (·.1) = (xs.take k).map (·.1) ∧ (∀ y ∈ ys, OwnO 101 wr y) ∧ wr.heap[w.heap.size + 1]? = some (.cells #[.int .u16 0, .int .u32 0, .int .u64 0, .int .i64 0, .slice none 0 0] 32 (0, 0)) ∧ wr.heap[w.heap.size + 2]? = some (.cells #[.int .u16 t.r, .int .u32 t.seq, .int .u64 t.clock, .int .i64 t.user, v] 32 (0, 0)))
  case atStart => exact ⟨0, .slice none 0 0, [], Nat.zero_le _, by omega, rfl, ((Hold.nil _ _ _).alloc _ |>.alloc _ |>.alloc _), rfl, (fun y hy => by cases hy), (HX.out _ _ _).1, (HX.out _ _ _).2⟩
  case round =>
    obtain ⟨k, v, ys, hk, hg, rfl, hO, hys, hE, h1, h2⟩ := hrel
    have HO := Lib.hid hO
    have HYS := Lib.hid hys
    have HE := Lib.hid hE
    have H1 := Lib.hid h1
    have H2 := Lib.hid h2
    have hyl : ys.length = k := by have := congrArg List.length hys; simp only [List.length_map, List.length_take] at this; omega
    clear hO hys hE h1 h2
    by_cases hlt : k < xs.length
    · obtain ⟨b, o, rfl, c0', c1', c2', c3', c4', c5', c6'⟩ := orow_at HR.out hlt
      have c0 := cellU c0' HO.out.2
      have c1 := cellU c1' HO.out.2
      have c2 := cellU c2' HO.out.2
      have c3 := cellU c3' HO.out.2
      have c4 := cellU c4' HO.out.2
      have c5 := cellU c5' HO.out.2
      have c6 := cellU c6' HO.out.2
      clear c0' c1' c2' c3' c4' c5' c6'
      have hkl : (k : Int) < (xs.length : Int) := by omega
      have HNX : Hid ((xs.take (k + 1)).map (·.1) = (xs.take k).map (·.1) ++ [(xs.getD k ov0).1]) := by show _ = _; rw [take_getD ov0 hlt]; simp
      have HOK : Hid (∀ o : Obj, Calls Try.prog 26 #[ov (xs.getD k ov0).1 (xs.getD k ov0).2.1 (xs.getD k ov0).2.2] ((wr.alloc o).drew) (MadeO (xs.getD k ov0).1 ((wr.alloc o).drew))) := fun o => HOP.out k hlt _ (below_step HO.out.2 (below_drewN (below_alloc (Below.refl _ _) o) 1))
      generalize xs.getD k ov0 = x at c0 c1 c2 c3 c4 c5 c6 HNX HOK
      obtain ⟨om, px, cx⟩ := x
      simp only at c0 c1 c2 c3 c4 c5 c6 HNX HOK
      have HOM : Hid (∀ p c, ov om p c = .agg #[.int .i64 om.kind, .int .u16 om.r, .int .u32 om.n, .int .u32 om.num, .string ⟨om.text.toArray⟩, .slice p om.spans.length c, .int .u32 om.seq]) := fun p c => rfl
      unfold MadeO at HOK
      generalize hcc : (⟨om.text.toArray⟩ : ByteArray) = bt at c4 HOM
      rw [HOM.out] at HOK
      obtain ⟨z0, z1, z2, z3, z4⟩ := five_cells H2.out
      have hX2 : w.heap.size + 2 < wr.heap.size := lt_of_block H2.out
      have hne1 : ¬ w.heap.size + 2 = wr.heap.size := by omega
      have hne2 : ¬ wr.heap.size = w.heap.size + 2 := by omega
      have HBX : Hid ((wr.alloc (.cells #[.int .i64 om.kind, .int .u16 om.r, .int .u32 om.n, .int .u32 om.num, .string bt, .slice px om.spans.length cx, .int .u32 om.seq] 69)).heap[wr.heap.size]? = some (.cells #[.int .i64 om.kind, .int .u16 om.r, .int .u32 om.n, .int .u32 om.num, .string bt, .slice px om.spans.length cx, .int .u32 om.seq] 69 (0, 0))) := heap_alloc_new wr _
      have y4 : (wr.alloc (.cells #[.int .i64 om.kind, .int .u16 om.r, .int .u32 om.n, .int .u32 om.num, .string bt, .slice px om.spans.length cx, .int .u32 om.seq] 69)).cell? ⟨w.heap.size + 2, 4, none⟩ = some v := cellU z4 (below_alloc (Below.refl wr.heap.size wr) _)
      have HY4' := Lib.hid y4
      go_wp2_with fail
      go_region_law (first
        | (refine step_append_own rfl (.tmp 23) (.tmp 26) 30 rfl w.heap.size 49 i0 (.agg #[.int .i64 0, .int .u16 0, .int .u32 0, .int .u32 0, .string ⟨#[]⟩, .slice none 0 0, .int .u32 0]) 7 72 Try.underlying30 hi hz0 hz1 hz2 rfl (by decide) v ys.length (layO.flat ys) (by simp [Act.eval, Act.put]) HO5.out.1 ⟨w4.heap.size, 0, none⟩ 1 1 [.int .i64 om.kind, .int .u16 om.r, .int .u32 om.n, .int .u32 om.num, .string bt, .slice p4 om.spans.length c4, .int .u32 om.seq] (by simp [Act.eval, Act.put]) rfl (by have := @cells_new w4 [.int .i64 om.kind, .int .u16 om.r, .int .u32 om.n, .int .u32 om.num, .string bt, .slice p4 om.spans.length c4, .int .u32 om.seq] 49; simpa using this) (by have := layO.one (om, p4, c4); rw [← hcc]; exact this) (by unfold maxLen; omega) (by omega) HO5.out.2.size ?_; intro v' w6 hown' hgrow; obtain ⟨pv, cv, rfl⟩ := owns_slice hown'; have H26 := Lib.hid (box_grown (by decide) H25.out HO5.out.1 hgrow); have z6 := (five_cells H26.out).2.2.2.2; have f6 : w6.frozen? ⟨w.heap.size + 2, 4, none⟩ = false := frozen_of_block H26.out)
        | (go_simp; go_wp2_with (go_at_call 26; refine (HOK.out _).mono ?_; rintro e w4 ⟨p4, c4, rfl, hG, hc4, hp4, hS, hb4⟩; rw [HOM.out]; have HB4 := Lib.hid (below_of_drew hb4); have HY4 : Hid (OwnO 101 w4 (om, p4, c4)) := ⟨⟨hG, hc4, hp4⟩, hS⟩; have k4 := cellU HY4'.out HB4.out; have k5 := cellU k4 (below_alloc (Below.refl _ _) (.cells #[.int .i64 om.kind, .int .u16 om.r, .int .u32 om.n, .int .u32 om.num, .string bt, .slice p4 om.spans.length c4, .int .u32 om.seq] 49)); have k4' : w4.cell? ⟨w.heap.size + 1 + 1, 4, none⟩ = some v := k4; have k5' : (w4.alloc (.cells #[.int .i64 om.kind, .int .u16 om.r, .int .u32 om.n, .int .u32 om.num, .string bt, .slice p4 om.spans.length c4, .int .u32 om.seq] 49)).cell? ⟨w.heap.size + 1 + 1, 4, none⟩ = some v := k5; have hX4 : ¬ w.heap.size + 2 = w4.heap.size := (by have := HB4.out.size; simp only [World.alloc, Array.size_push] at this; omega); have HO5 : Hid (Hold layO w 49 v ys (w4.alloc (.cells #[.int .i64 om.kind, .int .u16 om.r, .int .u32 om.n, .int .u32 om.num, .string bt, .slice p4 om.spans.length c4, .int .u32 om.seq] 49))) := ((HO.out.alloc _).below HB4.out).alloc _; have H25 := Lib.hid (kept_box (kept_box (kept_box H2.out (below_alloc (Below.refl _ _) (.cells #[.int .i64 om.kind, .int .u16 om.r, .int .u32 om.n, .int .u32 om.num, .string bt, .slice px om.spans.length cx, .int .u32 om.seq] 69))) HB4.out) (below_alloc (Below.refl _ _) (.cells #[.int .i64 om.kind, .int .u16 om.r, .int .u32 om.n, .int .u32 om.num, .string bt, .slice p4 om.spans.length c4, .int .u32 om.seq] 49))); clear hG hS hb4)))
      all_goals
        have H15 := Lib.hid (kept_box (kept_box (kept_box H1.out (below_alloc (Below.refl _ _) (.cells #[.int .i64 om.kind, .int .u16 om.r, .int .u32 om.n, .int .u32 om.num, .string bt, .slice px om.spans.length cx, .int .u32 om.seq] 69))) HB4.out) (below_alloc (Below.refl _ _) (.cells #[.int .i64 om.kind, .int .u16 om.r, .int .u32 om.n, .int .u32 om.num, .string bt, .slice p4 om.spans.length c4, .int .u32 om.seq] 49)))
        have HE5 : Hid (∀ y ∈ ys ++ [(om, p4, c4)], OwnO 101 (w4.alloc (.cells #[.int .i64 om.kind, .int .u16 om.r, .int .u32 om.n, .int .u32 om.num, .string bt, .slice p4 om.spans.length c4, .int .u32 om.seq] 49)) y) := fun y hy => by
          rcases List.mem_append.1 hy with hy | hy
          · exact (((HE.out y hy).below (below_alloc (Below.refl _ _) _)).below HB4.out).below (below_alloc (Below.refl _ _) _)
          · rw [List.mem_singleton.1 hy]; exact HY4.out.below (below_alloc (Below.refl _ _) _)
        have HO6 : Hid (Hold layO w 49 (.slice pv (ys.length + 1) cv) (ys ++ [(om, p4, c4)]) w6) := HO5.out.onto (ys := [(om, p4, c4)]) (by rw [layO.flat_one, ← hcc]; rfl) (by simp) hown' hgrow
        have H16 := Lib.hid (box_grown (by decide) H15.out HO5.out.1 hgrow)
        have HE6 : Hid (∀ y ∈ ys ++ [(om, p4, c4)], OwnO 101 w6 y) := fun y hy => (HE5.out y hy).grown (by decide) HO5.out.1 hgrow
        clear hown' hgrow HO5 HE5 HO HE H15 H25 H1 H2
        have HEND : Hid (Hold layO w 49 (.slice pv (ys.length + 1) cv) (ys ++ [(om, p4, c4)]) (w6.setCell ⟨w.heap.size + 2, 4, none⟩ (.slice pv (ys.length + 1) cv)) ∧ (∀ y ∈ ys ++ [(om, p4, c4)], OwnO 101 (w6.setCell ⟨w.heap.size + 2, 4, none⟩ (.slice pv (ys.length + 1) cv)) y) ∧ (w6.setCell ⟨w.heap.size + 2, 4, none⟩ (.slice pv (ys.length + 1) cv)).heap[w.heap.size + 1]? = some (.cells #[.int .u16 0, .int .u32 0, .int .u64 0, .int .i64 0, .slice none 0 0] 32 (0, 0)) ∧ (w6.setCell ⟨w.heap.size + 2, 4, none⟩ (.slice pv (ys.length + 1) cv)).heap[w.heap.size + 2]? = some (.cells #[.int .u16 t.r, .int .u32 t.seq, .int .u64 t.clock, .int .i64 t.user, .slice pv (ys.length + 1) cv] 32 (0, 0))) := by
          refine ⟨HO6.out.other (kind_apart (by decide) H26.out HO6.out.1) (by omega) 4 _, fun y hy => (HE6.out y hy).only (by decide) H26.out (only_set w6 _ 4 _), ?_, ?_⟩
          · rw [heap_setCell_other _ _ _ _ (by simp)]; exact H16.out
          · have := heap_setCell_same w6 (w.heap.size + 2) 4 _ _ (.slice pv (ys.length + 1) cv) H26.out
            simpa using this
        rw [hyl] at HEND
        have HMY : Hid ((ys ++ [(om, p4, c4)]).map (·.1) = (xs.take (k + 1)).map (·.1)) := by show _ = _; rw [HNX.out, List.map_append, HYS.out]; rfl
        go_wp2
        go_roundg (xs.length - (k + 1))
        case measure => omega
        case rel => exact ⟨k + 1, _, ys ++ [(om, p4, c4)], by omega, Nat.le_refl _, by go_num, HEND.out.1, HMY.out, HEND.out.2.1, HEND.out.2.2.1, HEND.out.2.2.2⟩
    · have : k = xs.length := by omega
      subst this
      have hkl : ¬ (xs.length : Int) < (xs.length : Int) := by omega
      rw [List.take_length] at HYS
      obtain ⟨y0, y1, y2, y3, y4⟩ := five_cells H1.out
      obtain ⟨z0, z1, z2, z3, z4⟩ := five_cells H2.out
      have f1 : ∀ o, wr.frozen? ⟨w.heap.size + 1, o, none⟩ = false := fun o => frozen_of_block H1.out
      obtain ⟨pv, cv, rfl, hG, hcv, hpv⟩ := HO.out.gave layO_pos
      have HG := Lib.hid hG
      have HAP := Lib.hid (kind_apart (by decide) H1.out HO.out.1)
      clear hG
      rw [hyl] at *
      go_wp2
      (try simp only [Exit.inBlock, Exit.then])
      have hS := only_five wr (w.heap.size + 1) (.int .u16 t.r) (.int .u32 t.seq) (.int .u64 t.clock) (.int .i64 t.user) (.slice pv xs.length cv)
      refine bodyPost_ret (results_cell_row rfl _ _ (w.heap.size + 1) 32 #[.int .u16 t.r, .int .u32 t.seq, .int .u64 t.clock, .int .i64 t.user, .slice pv xs.length cv] (0, 0) _ rfl (box_five H1.out) Try.underlying32 rfl szR9) rfl ?_
      refine ⟨ys, pv, cv, by rw [HTV.out], ⟨by rw [HIN.out.ops]; exact HYS.out.symm, HG.out.kept hS (fun q e ee => ?_), fun y hy => ((HE.out y hy).only (by decide) H1.out hS).1, by omega, hpv⟩, HO.out.2.trans (hS.below (Nat.le_trans HO.out.2.size (Nat.le_refl _)) ?_)⟩
      · apply HAP.out
        rw [e]
        have ee : q.block = w.heap.size + 1 := ee
        simp [Value.ownBlock, ee]
      · intro k ek
        have ek : k = w.heap.size + 1 := ek
        omega
end Go.Proofs.Ytedlmngfkkpmgaa
/-
  What the document's Atoms and Fit of layer 9 hand back. No conditions beyond what each theorem states.
-/
namespace Go.Proofs.Ytedlmngfkkpmgaa
open Go.ChangeShapes Go.WideShapes Go.ChangeAt Go.RowKit Go.Lib
set_option linter.unusedVariables false
set_option linter.unusedSimpArgs false

/-- Operations that are few, and short. -/
def SmallX (xs : List OV) : Prop := ∀ x ∈ xs, x.1.text.length ≤ 300 ∧ x.1.spans.length ≤ 60
theorem SmallX.at {xs : List OV} (h : SmallX xs) {k : Nat} (hk : k < xs.length) : (xs.getD k ov0).1.text.length ≤ 300 ∧ (xs.getD k ov0).1.spans.length ≤ 60 := h _ (getD_mem ov0 hk)
theorem bne_int {a b : Int} (h : ¬ a = b) : (a != b) = true := by simpa using h
theorem atoms_range {o : Om} (h : fitO o = 0) (hf : FitOm o) : 0 ≤ atomsO o ∧ atomsO o ≤ 1024 ∧ (3 < o.kind → atomsO o = 0) ∧ (0 < atomsO o → o.kind = 1 ∨ o.kind = 3) ∧ (o.kind = 1 ∨ o.kind = 3 → 1 ≤ o.num ∧ o.num ≤ 268435456 ∧ o.num + atomsO o - 1 ≤ 268435456) := by
  rcases fitO_cases h with c | c | c | c
  · obtain ⟨k, -, -, ht, -, hl, hn⟩ := c
    have hn := of_decide_eq_true hn
    have ha : atomsO o = (o.text.length : Int) := by unfold atomsO; rw [if_pos k]
    rw [ha] at hn ⊢
    refine ⟨by omega, by omega, fun h => by omega, fun h => by omega, fun _ => by omega⟩
  · obtain ⟨k, -, -, -, -⟩ := c
    have ha : atomsO o = 0 := by unfold atomsO; rw [if_neg (by omega), if_neg (by omega)]
    rw [ha]
    refine ⟨by omega, by omega, fun h => by omega, fun h => by omega, fun _ => by omega⟩
  · obtain ⟨k, -, -, hfl, hn⟩ := c
    have hn := of_decide_eq_true hn
    have ha : atomsO o = (totalL o.spans : Int) := by unfold atomsO; rw [if_neg (by omega), if_pos k]
    have := (fitL_ok hfl).2.1
    rw [ha] at hn ⊢
    refine ⟨by omega, by omega, fun h => by omega, fun h => by omega, fun _ => by omega⟩
  · obtain ⟨k, -, -, -, -⟩ := c
    have ha : atomsO o = 0 := by unfold atomsO; rw [if_neg (by omega), if_neg (by omega)]
    rw [ha]
    refine ⟨by omega, by omega, fun h => by omega, fun h => by omega, fun _ => by omega⟩
theorem counts_of_fit {o : Om} (h : fitO o = 0) : Counts o := fun hk => by
  rcases fitO_cases h with c | c | c | c
  · have := c.1; omega
  · have := c.1; omega
  · exact counts_fit c.2.2.2.1 hk
  · have := c.1; omega
theorem getD_map1 (xs : List OV) {k : Nat} (h : k < xs.length) : (xs.map (·.1)).getD k o0 = (xs.getD k ov0).1 := by
  rw [List.getD_eq_getElem?_getD, List.getD_eq_getElem?_getD, List.getElem?_map, List.getElem?_eq_getElem h]; rfl
theorem drop_ops {t : Tm} {xs : List OV} (h : t.ops = xs.map (·.1)) {k : Nat} (hk : k < xs.length) : t.ops.drop k = (xs.getD k ov0).1 :: t.ops.drop (k + 1) := by
  have hk' : k < t.ops.length := by rw [h, List.length_map]; exact hk
  rw [drop_getD o0 hk', h, getD_map1 xs hk]

set_option maxHeartbeats 6400000 in
set_option maxRecDepth 20000 in
theorem refatomsT_any (t : Tm) (xs : List OV) (p : Option Addr) (c : Nat) (w : World) (H : InT t xs p c w) (hs : SmallX xs) (h0 : fitT t = 0) :
    Calls Try.prog 15 #[tv t p c] w fun e w' => e = .returned (.int .i64 (atomsL t.ops)) ∧ Below w.heap.size w w' := by
  have hlen : t.ops.length = xs.length := by rw [H.ops, List.length_map]
  have HR := Lib.hid H.row.row
  have HDR : Hid (∀ k, k < xs.length → t.ops.drop k = (xs.getD k ov0).1 :: t.ops.drop (k + 1)) := fun k hk => drop_ops H.ops hk
  have HFI : Hid (∀ k, k < xs.length → FitOm (xs.getD k ov0).1) := fun k hk => (H.row.at hk).fit
  have HTV : Hid (∀ p c, tv t p c = .agg #[.int .u16 t.r, .int .u32 t.seq, .int .u64 t.clock, .int .i64 t.user, .slice p xs.length c]) := fun p c => by unfold tv; rw [hlen]
  have HOK := fitOs_ok t.ops (-1) (fitT_ok h0).2.2.2.2.2.2.2.2
  have hl16 : xs.length ≤ 16 := by have := (fitT_ok h0).2.2.2.2.2.2.2.1; omega
  have HFO : Hid (∀ k, k < xs.length → fitO (xs.getD k ov0).1 = 0) := fun k hk => (HOK _ (by rw [H.ops]; exact List.mem_map.2 ⟨_, getD_mem ov0 hk, rfl⟩)).1
  have HAT : Hid (∀ k, k < xs.length → ∀ W, Below w.heap.size w W → Calls Try.prog 28 #[ov (xs.getD k ov0).1 (xs.getD k ov0).2.1 (xs.getD k ov0).2.2] W fun e w' => e = .returned (.int .i64 (atomsO (xs.getD k ov0).1)) ∧ Below W.heap.size W w') := fun k hk W hb => refatoms_any _ _ _ W ((H.row.at hk).row.below hb) (counts_of_fit (HFO.out k hk)) (by have := (hs.at hk).2; omega) (by have := (hs.at hk).1; omega)
  have HTK : Hid (∀ k, k < xs.length → atomsL (t.ops.take (k + 1)) = atomsL (t.ops.take k) + atomsO (xs.getD k ov0).1) := fun k hk => by
    have hk' : k < t.ops.length := by omega
    rw [take_getD o0 hk', atomsL_append, H.ops, getD_map1 xs hk, atomsL_cons, atomsL_nil, Int.add_zero]
  have HRG : Hid (∀ k, k ≤ xs.length → 0 ≤ atomsL (t.ops.take k) ∧ atomsL (t.ops.take k) ≤ k * 1024) := fun k => by
    induction k with
    | zero => intro _; rw [List.take_zero, atomsL_nil]; exact ⟨Int.le_refl _, by omega⟩
    | succ k ih =>
      intro hk
      have i := ih (by omega)
      have r := atoms_range (HFO.out k (by omega)) (HFI.out k (by omega))
      rw [HTK.out k (by omega)]
      omega
  clear H HOK h0
  rw [HTV.out]
  go_enter Try.func15, Try.ntmps15
  go_wp2
  have HX := Lib.hid (heap_alloc_new w (.cells #[.int .u16 t.r, .int .u32 t.seq, .int .u64 t.clock, .int .i64 t.user, .slice p xs.length c] 32))
  go_loopg [3, 4] xs.length (fun g a i wr => ∃ k : Nat, k ≤ xs.length ∧ xs.length - k ≤ g ∧ i = .int .i64 (k : Int) ∧ a = .int .i64 (atomsL (t.ops.take k)) ∧ Below (w.alloc (.cells #[.int .u16 t.r, .int .u32 t.seq, .int .u64 t.clock, .int .i64 t.user, .slice p xs.length c] 32)).heap.size (w.alloc (.cells #[.int .u16 t.r, .int .u32 t.seq, .int .u64 t.clock, .int .i64 t.user, .slice p xs.length c] 32)) wr)
  case atStart => exact ⟨0, Nat.zero_le _, by omega, rfl, by rw [List.take_zero, atomsL_nil], Below.refl _ _⟩
  case round =>
    obtain ⟨k, hk, hg, rfl, rfl, hB⟩ := hrel
    have HB := Lib.hid hB
    have HBW : Hid (Below w.heap.size w wr) := below_step (below_alloc (Below.refl _ _) _) HB.out
    obtain ⟨z0, z1, z2, z3, z4⟩ := five_cells (kept_box HX.out HB.out)
    clear hB
    have hrg := HRG.out k hk
    by_cases hlt : k < xs.length
    · have hkl : (k : Int) < (xs.length : Int) := by omega
      have HTKk := Lib.hid (HTK.out k hlt)
      have HATk := Lib.hid (HAT.out k hlt wr HBW.out)
      have hrk := atoms_range (HFO.out k hlt) (HFI.out k hlt)
      obtain ⟨b, o, rfl, c0, c1, c2, c3, c4, c5, c6⟩ := orow_at (HR.out.below HBW.out) hlt
      generalize atomsL (t.ops.take k) = A at HTKk hrg
      generalize xs.getD k ov0 = x at c0 c1 c2 c3 c4 c5 c6 HTKk HATk hrk
      obtain ⟨om, px, cx⟩ := x
      simp only at c0 c1 c2 c3 c4 c5 c6 HTKk HATk hrk
      have HOM : Hid (∀ p c, ov om p c = .agg #[.int .i64 om.kind, .int .u16 om.r, .int .u32 om.n, .int .u32 om.num, .string ⟨om.text.toArray⟩, .slice p om.spans.length c, .int .u32 om.seq]) := fun p c => rfl
      rw [HOM.out] at HATk
      generalize (⟨om.text.toArray⟩ : ByteArray) = bt at c4 HATk HOM
      have hw : IntKind.i64.wrap (A + atomsO om) = A + atomsO om := by rw [IntKind.wrap_i64]; omega
      generalize atomsO om = AO at HTKk HATk hrk hw
      go_wp2_with fail
      refine HATk.out.mono ?_
      rintro e w1 ⟨rfl, hb1⟩
      have HB1 := Lib.hid (below_step HB.out hb1)
      clear hb1
      go_wp2
      go_roundg (xs.length - (k + 1))
      case measure => omega
      case rel => exact ⟨k + 1, by omega, Nat.le_refl _, by go_num, by rw [HTKk.out], HB1.out⟩
    · have : k = xs.length := by omega
      subst this
      have hkl : ¬ (xs.length : Int) < (xs.length : Int) := by omega
      have HLA : Hid (t.ops.take xs.length = t.ops) := by show _ = _; rw [← hlen, List.take_length]
      rw [HLA.out]
      go_wp2
      go_ret
      exact ⟨rfl, HBW.out⟩

end Go.Proofs.Ytedlmngfkkpmgaa
/-
  What the laws' own copyistmade.Small, SameOp and SameTxn tell (the two of one thing twice). No conditions beyond what each theorem states.
-/
namespace Go.Proofs.Ytedlmngfkkpmgaa
open Go.ChangeShapes Go.WideShapes Go.ChangeAt Go.RowKit Go.Lib
set_option linter.unusedVariables false
set_option linter.unusedSimpArgs false

def smallO (o : Om) : Bool := decide (o.text.length ≤ 300) && decide (o.spans.length ≤ 60)
def smallT (t : Tm) : Bool := decide (t.ops.length ≤ 40) && t.ops.all smallO
theorem smallT_x {t : Tm} {xs : List OV} (h : t.ops = xs.map (·.1)) (hs : smallT t = true) : SmallX xs ∧ xs.length ≤ 40 := by
  unfold smallT at hs
  rw [Bool.and_eq_true, h, List.length_map] at hs
  refine ⟨fun x hx => ?_, of_decide_eq_true hs.1⟩
  have := List.all_eq_true.1 hs.2 x.1 (List.mem_map.2 ⟨x, hx, rfl⟩)
  unfold smallO at this
  rw [Bool.and_eq_true] at this
  exact ⟨of_decide_eq_true this.1, of_decide_eq_true this.2⟩
set_option maxHeartbeats 3200000 in
set_option maxRecDepth 20000 in
theorem msmall_any (t : Tm) (xs : List OV) (p : Option Addr) (c : Nat) (w : World) (H : InT t xs p c w) (hl : t.ops.length ≤ 9223372036854775807) (hq : ∀ x ∈ xs, x.1.text.length ≤ 9223372036854775807 ∧ x.1.spans.length ≤ 9223372036854775807) :
    Calls Try.prog 7 #[tv t p c] w fun e w' => e = .returned (.bool (smallT t)) ∧ Below w.heap.size w w' := by
  have hlen : t.ops.length = xs.length := by rw [H.ops, List.length_map]
  have HR := Lib.hid H.row.row
  have HTV : Hid (∀ p c, tv t p c = .agg #[.int .u16 t.r, .int .u32 t.seq, .int .u64 t.clock, .int .i64 t.user, .slice p xs.length c]) := fun p c => by unfold tv; rw [hlen]
  have HQ : Hid (∀ k, k < xs.length → (xs.getD k ov0).1.text.length ≤ 9223372036854775807 ∧ (xs.getD k ov0).1.spans.length ≤ 9223372036854775807) := fun k hk => hq _ (getD_mem ov0 hk)
  have HS : Hid (smallT t = (decide (xs.length ≤ 40) && (xs.map (·.1)).all smallO)) := by show _ = _; unfold smallT; rw [hlen, H.ops]
  have HALL : Hid (∀ k, k < xs.length → ((xs.take (k + 1)).map (·.1)).all smallO = (((xs.take k).map (·.1)).all smallO && smallO (xs.getD k ov0).1)) := fun k hk => by rw [take_getD ov0 hk, List.map_append, List.all_append]; simp
  have HNO : Hid (∀ k, k < xs.length → smallO (xs.getD k ov0).1 = false → (xs.map (·.1)).all smallO = false) := fun k hk h => by
    rw [List.all_eq_false]
    exact ⟨_, List.mem_map.2 ⟨_, getD_mem ov0 hk, rfl⟩, by rw [h]; simp⟩
  clear H hq
  rw [HTV.out]
  generalize smallT t = S at HS ⊢
  rw [hlen] at hl
  have HX := Lib.hid (heap_alloc_new w (.cells #[.int .u16 t.r, .int .u32 t.seq, .int .u64 t.clock, .int .i64 t.user, .slice p xs.length c] 27))
  by_cases g : xs.length ≤ 40
  · have g' : ¬ (40 : Int) < (xs.length : Int) := by omega
    have HS2 : Hid (S = (xs.map (·.1)).all smallO) := by show _ = _; rw [HS.out, decide_eq_true g, Bool.true_and]
    clear HS
    go_enter Try.func7, Try.ntmps7
    go_wp2
    go_loopg [12] xs.length (fun g i wr => ∃ k : Nat, k ≤ xs.length ∧ xs.length - k ≤ g ∧ i = .int .i64 (k : Int) ∧ ((xs.take k).map (·.1)).all smallO = true ∧ Below w.heap.size w wr)
    case atStart => exact ⟨0, Nat.zero_le _, by omega, rfl, rfl, below_alloc (Below.refl _ _) _⟩
    case round =>
      obtain ⟨k, hk, hg, rfl, ha, hB⟩ := hrel
      have HA := Lib.hid ha
      have HB := Lib.hid hB
      clear ha hB
      by_cases hlt : k < xs.length
      · have hkl : (k : Int) < (xs.length : Int) := by omega
        have HAK := Lib.hid (HALL.out k hlt)
        rw [HA.out, Bool.true_and] at HAK
        have HNK := Lib.hid (HNO.out k hlt)
        have hqk := HQ.out k hlt
        obtain ⟨b, o, rfl, c0, c1, c2, c3, c4, c5, c6⟩ := orow_at (HR.out.below HB.out) hlt
        generalize xs.getD k ov0 = x at c0 c1 c2 c3 c4 c5 c6 HAK HNK hqk
        obtain ⟨om, px, cx⟩ := x
        simp only at c0 c1 c2 c3 c4 c5 c6 HAK HNK hqk
        have hbt : (⟨om.text.toArray⟩ : ByteArray).size = om.text.length := rfl
        have HSO : Hid (smallO om = (decide (om.text.length ≤ 300) && decide (om.spans.length ≤ 60))) := rfl
        generalize (⟨om.text.toArray⟩ : ByteArray) = bt at c4 hbt
        by_cases t1 : om.text.length ≤ 300
        · have t1' : ¬ (300 : Int) < (bt.size : Int) := by omega
          by_cases s1 : om.spans.length ≤ 60
          · have s1' : ¬ (60 : Int) < (om.spans.length : Int) := by omega
            have HY : Hid (((xs.take (k + 1)).map (·.1)).all smallO = true) := by show _ = _; rw [HAK.out, HSO.out, decide_eq_true t1, decide_eq_true s1]; rfl
            go_wp2
            go_roundg (xs.length - (k + 1))
            case measure => omega
            case rel => exact ⟨k + 1, by omega, Nat.le_refl _, by go_num, HY.out, below_alloc HB.out _⟩
          · have s1' : (60 : Int) < (om.spans.length : Int) := by omega
            have HE : Hid (S = false) := by show _ = _; rw [HS2.out]; exact HNK.out (by rw [HSO.out, decide_eq_false s1, Bool.and_false])
            go_wp2
            go_ret
            exact ⟨by rw [HE.out]; rfl, below_alloc HB.out _⟩
        · have t1' : (300 : Int) < (bt.size : Int) := by omega
          have HE : Hid (S = false) := by show _ = _; rw [HS2.out]; exact HNK.out (by rw [HSO.out, decide_eq_false t1, Bool.false_and])
          go_wp2
          go_ret
          exact ⟨by rw [HE.out]; rfl, below_alloc HB.out _⟩
      · have : k = xs.length := by omega
        subst this
        have hkl : ¬ (xs.length : Int) < (xs.length : Int) := by omega
        have HE : Hid (S = true) := by show _ = _; rw [HS2.out]; have := HA.out; rwa [List.take_length] at this
        go_wp2
        go_ret
        exact ⟨by rw [HE.out]; rfl, HB.out⟩
  · have g' : (40 : Int) < (xs.length : Int) := by omega
    have HE : Hid (S = false) := by show _ = _; rw [HS.out, decide_eq_false g, Bool.false_and]
    go_enter Try.func7, Try.ntmps7
    go_wp2
    go_ret
    exact ⟨by rw [HE.out]; rfl, below_alloc (Below.refl _ _) _⟩

set_option maxHeartbeats 6400000 in
set_option maxRecDepth 20000 in
theorem msameop_yes (o : Om) (p q : Option Addr) (c d : Nat) (w : World) (hR : GRow layS w p o.spans) (hS : GRow layS w q o.spans) (hl : o.spans.length ≤ 8796093021952) :
    Calls Try.prog 38 #[ov o p c, ov o q d] w fun e w' => e = .returned (.bool true) ∧ Below w.heap.size w w' := by
  have HR := Lib.hid hR
  have HS := Lib.hid hS
  obtain ⟨kind, r, n, num, text, spans, seq⟩ := o
  have HOV : Hid (∀ p c, ov ⟨kind, r, n, num, text, spans, seq⟩ p c = .agg #[.int .i64 kind, .int .u16 r, .int .u32 n, .int .u32 num, .string ⟨text.toArray⟩, .slice p spans.length c, .int .u32 seq]) := fun p c => rfl
  simp only [HOV.out] at HR HS hl ⊢
  clear hR hS HOV
  generalize (⟨text.toArray⟩ : ByteArray) = bt
  have H1 := Lib.hid (heap_alloc2_old w (.cells #[.int .i64 kind, .int .u16 r, .int .u32 n, .int .u32 num, .string bt, .slice p spans.length c, .int .u32 seq] 49) (.cells #[.int .i64 kind, .int .u16 r, .int .u32 n, .int .u32 num, .string bt, .slice q spans.length d, .int .u32 seq] 49))
  have H2 := Lib.hid (heap_alloc2_new w (.cells #[.int .i64 kind, .int .u16 r, .int .u32 n, .int .u32 num, .string bt, .slice p spans.length c, .int .u32 seq] 49) (.cells #[.int .i64 kind, .int .u16 r, .int .u32 n, .int .u32 num, .string bt, .slice q spans.length d, .int .u32 seq] 49))
  go_enter Try.func38, Try.ntmps38
  go_wp2_with fail
  have HRW : Hid (GRow layS ((w.alloc (.cells #[.int .i64 kind, .int .u16 r, .int .u32 n, .int .u32 num, .string bt, .slice p spans.length c, .int .u32 seq] 49)).alloc (.cells #[.int .i64 kind, .int .u16 r, .int .u32 n, .int .u32 num, .string bt, .slice q spans.length d, .int .u32 seq] 49)) p spans) := (HR.out.alloc _).alloc _
  have HSW : Hid (GRow layS ((w.alloc (.cells #[.int .i64 kind, .int .u16 r, .int .u32 n, .int .u32 num, .string bt, .slice p spans.length c, .int .u32 seq] 49)).alloc (.cells #[.int .i64 kind, .int .u16 r, .int .u32 n, .int .u32 num, .string bt, .slice q spans.length d, .int .u32 seq] 49)) q spans) := (HS.out.alloc _).alloc _
  have HBW : Hid (Below w.heap.size w ((w.alloc (.cells #[.int .i64 kind, .int .u16 r, .int .u32 n, .int .u32 num, .string bt, .slice p spans.length c, .int .u32 seq] 49)).alloc (.cells #[.int .i64 kind, .int .u16 r, .int .u32 n, .int .u32 num, .string bt, .slice q spans.length d, .int .u32 seq] 49))) := below_alloc (below_alloc (Below.refl _ _) _) _
  generalize (w.alloc (.cells #[.int .i64 kind, .int .u16 r, .int .u32 n, .int .u32 num, .string bt, .slice p spans.length c, .int .u32 seq] 49)).alloc (.cells #[.int .i64 kind, .int .u16 r, .int .u32 n, .int .u32 num, .string bt, .slice q spans.length d, .int .u32 seq] 49) = W at H1 H2 HRW HSW HBW ⊢
  clear HR HS
  go_loopg [51] spans.length (fun g i wr => ∃ k : Nat, k ≤ spans.length ∧ spans.length - k ≤ g ∧ i = .int .i64 (k : Int) ∧ Below W.heap.size W wr)
  case atStart => exact ⟨0, Nat.zero_le _, by omega, rfl, Below.refl _ _⟩
  case round =>
    obtain ⟨k, hk, hg, rfl, hB⟩ := hrel
    have HB := Lib.hid hB
    clear hB
    by_cases hlt : k < spans.length
    · have hkl : (k : Int) < (spans.length : Int) := by omega
      have hk0 : (0 : Int) ≤ (k : Int) := by omega
      obtain ⟨b1, o1, rfl, a0, a1, a2⟩ := srow_at (HRW.out.below HB.out) hlt
      obtain ⟨b2, o2, rfl, e0, e1, e2⟩ := srow_at (HSW.out.below HB.out) hlt
      have x5 := (seven_cells (kept_box H1.out HB.out)).2.2.2.2.2.1
      have y5 := (seven_cells (kept_box H2.out HB.out)).2.2.2.2.2.1
      generalize spans.getD k s0 = s at a0 a1 a2 e0 e1 e2
      obtain ⟨r', n', m'⟩ := s
      simp only at a0 a1 a2 e0 e1 e2
      go_wp2_with fail
      go_quiet (fail)
      go_wp2
      go_roundg (spans.length - (k + 1))
      case measure => omega
      case rel => exact ⟨k + 1, by omega, Nat.le_refl _, by go_num, below_drewN HB.out _⟩
    · have : k = spans.length := by omega
      subst this
      have hkl : ¬ (spans.length : Int) < (spans.length : Int) := by omega
      go_wp2
      go_ret
      exact ⟨rfl, below_step HBW.out HB.out⟩

set_option maxHeartbeats 6400000 in
set_option maxRecDepth 20000 in
theorem msametxn_yes (t : Tm) (xs ys : List OV) (p q : Option Addr) (c d : Nat) (w : World) (H : RowT t xs p c w) (Gops : t.ops = ys.map (·.1)) (Grow : GRow layO w q ys) (Geach : ∀ y ∈ ys, GRow layS w y.2.1 y.1.spans) (hl : t.ops.length ≤ 9223372036854775807) (hs : ∀ x ∈ xs, x.1.spans.length ≤ 8796093021952) :
    Calls Try.prog 20 #[tv t p c, tv t q d] w fun e w' => e = .returned (.bool true) ∧ Below w.heap.size w w' := by
  have hx : xs.length = t.ops.length := by rw [H.ops, List.length_map]
  have hy : ys.length = t.ops.length := by rw [Gops, List.length_map]
  have HEQ : Hid (∀ k, k < t.ops.length → (ys.getD k ov0).1 = (xs.getD k ov0).1) := fun k hk => by rw [← getD_map1 xs (by omega), ← getD_map1 ys (by omega), ← H.ops, ← Gops]
  have HSO : Hid (∀ k, k < t.ops.length → ∀ W, Below w.heap.size w W → Calls Try.prog 38 #[ov (xs.getD k ov0).1 (xs.getD k ov0).2.1 (xs.getD k ov0).2.2, ov (ys.getD k ov0).1 (ys.getD k ov0).2.1 (ys.getD k ov0).2.2] W fun e w' => e = .returned (.bool true) ∧ Below W.heap.size W w') := fun k hk W hb => by
    have h1 := (H.at (k := k) (by omega)).1.below hb
    have h2 := (Geach _ (getD_mem ov0 (i := k) (by omega))).below hb
    rw [HEQ.out k hk] at h2 ⊢
    exact msameop_yes _ _ _ _ _ W h1 h2 (hs _ (getD_mem ov0 (by omega)))
  have HR := Lib.hid H.row
  have HS := Lib.hid Grow
  clear H Gops Grow Geach HEQ
  unfold tv
  generalize t.ops.length = L at hl hx hy HSO ⊢
  obtain ⟨r, seq, clock, user, ops⟩ := t
  simp only
  have H1 := Lib.hid (heap_alloc2_old w (.cells #[.int .u16 r, .int .u32 seq, .int .u64 clock, .int .i64 user, .slice p L c] 32) (.cells #[.int .u16 r, .int .u32 seq, .int .u64 clock, .int .i64 user, .slice q L d] 32))
  have H2 := Lib.hid (heap_alloc2_new w (.cells #[.int .u16 r, .int .u32 seq, .int .u64 clock, .int .i64 user, .slice p L c] 32) (.cells #[.int .u16 r, .int .u32 seq, .int .u64 clock, .int .i64 user, .slice q L d] 32))
  go_enter Try.func20, Try.ntmps20
  go_wp2_with fail
  have HBW : Hid (Below w.heap.size w ((w.alloc (.cells #[.int .u16 r, .int .u32 seq, .int .u64 clock, .int .i64 user, .slice p L c] 32)).alloc (.cells #[.int .u16 r, .int .u32 seq, .int .u64 clock, .int .i64 user, .slice q L d] 32))) := below_alloc (below_alloc (Below.refl _ _) _) _
  generalize (w.alloc (.cells #[.int .u16 r, .int .u32 seq, .int .u64 clock, .int .i64 user, .slice p L c] 32)).alloc (.cells #[.int .u16 r, .int .u32 seq, .int .u64 clock, .int .i64 user, .slice q L d] 32) = W at H1 H2 HBW ⊢
  go_loopg [44] L (fun g i wr => ∃ k : Nat, k ≤ L ∧ L - k ≤ g ∧ i = .int .i64 (k : Int) ∧ Below W.heap.size W wr)
  case atStart => exact ⟨0, Nat.zero_le _, by omega, rfl, Below.refl _ _⟩
  case round =>
    obtain ⟨k, hk, hg, rfl, hB⟩ := hrel
    have HB := Lib.hid hB
    have HBB : Hid (Below w.heap.size w wr) := below_step HBW.out HB.out
    clear hB
    by_cases hlt : k < L
    · have hkl : (k : Int) < (L : Int) := by omega
      have hk0 : (0 : Int) ≤ (k : Int) := by omega
      have HSK : Hid (∀ dd os, Calls Try.prog 38 #[ov (xs.getD k ov0).1 (xs.getD k ov0).2.1 (xs.getD k ov0).2.2, ov (ys.getD k ov0).1 (ys.getD k ov0).2.1 (ys.getD k ov0).2.2] (Go.Sort.grow (redrawn wr dd) os) fun e w' => e = .returned (.bool true) ∧ Below (Go.Sort.grow (redrawn wr dd) os).heap.size (Go.Sort.grow (redrawn wr dd) os) w') := fun dd os => HSO.out k hlt _ (below_step HBB.out (below_regrown _ _ _))
      obtain ⟨b1, o1, rfl, a0', a1', a2', a3', a4', a5', a6'⟩ := orow_at (HR.out.below HBB.out) (by omega : k < xs.length)
      obtain ⟨b2, o2, rfl, e0', e1', e2', e3', e4', e5', e6'⟩ := orow_at (HS.out.below HBB.out) (by omega : k < ys.length)
      have x5' := (five_cells (kept_box H1.out HB.out)).2.2.2.2
      have y5' := (five_cells (kept_box H2.out HB.out)).2.2.2.2
      have a0 := cell_regrown a0'
      have a1 := cell_regrown a1'
      have a2 := cell_regrown a2'
      have a3 := cell_regrown a3'
      have a4 := cell_regrown a4'
      have a5 := cell_regrown a5'
      have a6 := cell_regrown a6'
      have e0 := cell_regrown e0'
      have e1 := cell_regrown e1'
      have e2 := cell_regrown e2'
      have e3 := cell_regrown e3'
      have e4 := cell_regrown e4'
      have e5 := cell_regrown e5'
      have e6 := cell_regrown e6'
      have x5 := cell_regrown x5'
      have y5 := cell_regrown y5'
      clear a0' a1' a2' a3' a4' a5' a6' e0' e1' e2' e3' e4' e5' e6' x5' y5'
      generalize xs.getD k ov0 = x at a0 a1 a2 a3 a4 a5 a6 HSK
      generalize ys.getD k ov0 = y at e0 e1 e2 e3 e4 e5 e6 HSK
      obtain ⟨ox, px, cx⟩ := x
      obtain ⟨oy, py, cy⟩ := y
      unfold ov at HSK
      simp only at a0 a1 a2 a3 a4 a5 a6 e0 e1 e2 e3 e4 e5 e6 HSK
      generalize (⟨ox.text.toArray⟩ : ByteArray) = btx at a4 HSK
      generalize (⟨oy.text.toArray⟩ : ByteArray) = bty at e4 HSK
      go_wp2_with fail
      refine wp_region_quiet_below (by kernel_rfl) (by kernel_rfl) ?_
      repeat (first | go_big_quiet_step ((go_at_call 38; exact Calls.regrown_of (HSK.out _ _))) | quiet_step ((go_at_call 38; exact Calls.regrown_of (HSK.out _ _))))
      refine wpQuiet_nil ?_
      intro _ hw'
      obtain ⟨⟨dq, osq⟩, hw''⟩ := hw'
      subst hw''
      clear a0 a1 a2 a3 a4 a5 a6 e0 e1 e2 e3 e4 e5 e6 x5 y5
      go_wp2
      go_roundg (L - (k + 1))
      case measure => omega
      case rel => exact ⟨k + 1, by omega, Nat.le_refl _, by go_num, below_step HB.out (below_regrown _ _ _)⟩
    · have : k = L := by omega
      subst this
      have hkl : ¬ (k : Int) < (k : Int) := by omega
      go_wp2
      go_ret
      exact ⟨rfl, HBB.out⟩
end Go.Proofs.Ytedlmngfkkpmgaa
/-
  A transaction that is written is read again, by the document. Of no program; no conditions beyond what each theorem states.
-/
namespace Go.Proofs.Ytedlmngfkkpmgaa
open Go.ChangeShapes Go.WideShapes Go.ChangeAt Go.RowKit Go.Lib
set_option linter.unusedVariables false
set_option linter.unusedSimpArgs false

theorem readS_atp {pre post : List UInt8} {l : List Sp} (hr : RightS l) (hf : FitSs l) (hl : l.length ≤ 1024) : readS (pre ++ (bytesL l ++ post)) pre.length 0 = (l, pre.length + (bytesL l).length, 0) := by
  unfold readS bytesL
  have e1 := rdN_at (pre := pre) (post := l.flatMap bytesS ++ post) (n := l.length) (limit := 1024) (by omega) (by omega)
  rw [List.append_assoc, e1]
  have e2 := rdL_at l (pre ++ encN l.length) post hr hf
  rw [List.append_assoc, List.length_append] at e2
  simp only
  rw [e2]
  simp
  omega
theorem readO_at {o : Om} {pre post : List UInt8} (hf : FitOm o) (h0 : fitO o = 0) : readO (pre ++ (bytesO o ++ post)) pre.length 0 = (o, pre.length + (bytesO o).length, 0) := by
  have hc := fitO_cases h0
  unfold FitOm at hf
  obtain ⟨f1, f2, f3, f4, f5, f6, f7, f8, f9, f10, f11⟩ := hf
  obtain ⟨kind, r, n, num, text, spans, seq⟩ := o
  simp only at f1 f2 f3 f4 f5 f6 f7 f8 f9 f10 f11
  rcases hc with h | h | h | h
  · obtain ⟨rfl, rfl, rfl, -, -, ht, hn⟩ := h
    obtain ⟨R, rfl⟩ := nat_of f3
    obtain ⟨N, rfl⟩ := nat_of f5
    obtain ⟨M, rfl⟩ := nat_of f7
    have hn := of_decide_eq_true hn
    simp only at hn ht
    have hk := rdN_at (pre := pre) (post := (encN R ++ (encN N ++ encN M)) ++ (encT text ++ post)) (n := 1) (limit := 5) (by decide) (by decide)
    have hp := rdP_at (pre := pre ++ encN 1) (post := encT text ++ post) (R := R) (N := N) (M := M) (by omega) (by omega) (by omega)
    have hx := rdT_at (pre := pre ++ encN 1 ++ (encN R ++ (encN N ++ encN M))) (post := post) (s := text) (limit := 64) ht (by decide)
    have hb : bytesO ⟨1, (R : Int), (N : Int), (M : Int), text, [], 0⟩ = encN 1 ++ ((encN R ++ (encN N ++ encN M)) ++ encT text) := by unfold bytesO; simp
    rw [hb]
    simp only [List.append_assoc, List.length_append] at hk hp hx ⊢
    unfold readO
    rw [hk]
    simp only [true_or, if_true]
    rw [hp]
    simp only
    unfold readB
    rw [if_pos rfl]
    simp only [Nat.add_assoc] at hx ⊢
    rw [hx]
    simp [Nat.add_assoc]
  · obtain ⟨rfl, rfl, rfl, hp, hfl⟩ := h
    have hp := of_decide_eq_true hp
    simp only at hp
    obtain ⟨rfl, rfl, rfl⟩ := hp
    obtain ⟨a1, a2, a3⟩ := fitL_ok hfl
    simp only at a1 a2 a3
    have hk := rdN_at (pre := pre) (post := bytesL spans ++ post) (n := 2) (limit := 5) (by decide) (by decide)
    have hx := readS_atp (pre := pre ++ encN 2) (post := post) a1 f9 a3
    have hb : bytesO ⟨2, 0, 0, 0, [], spans, 0⟩ = encN 2 ++ bytesL spans := by unfold bytesO; simp
    rw [hb]
    simp only [List.append_assoc, List.length_append] at hk hx ⊢
    unfold readO
    rw [hk]
    rw [if_neg (by simp)]
    unfold readB
    simp only
    rw [if_neg (by decide), if_pos (Or.inl trivial), hx]
    simp
    omega
  · obtain ⟨rfl, rfl, rfl, hfl, hn⟩ := h
    obtain ⟨R, rfl⟩ := nat_of f3
    obtain ⟨N, rfl⟩ := nat_of f5
    obtain ⟨M, rfl⟩ := nat_of f7
    have hn := of_decide_eq_true hn
    simp only at hn
    obtain ⟨a1, a2, a3⟩ := fitL_ok hfl
    simp only at a1 a2 a3
    have hk := rdN_at (pre := pre) (post := (encN R ++ (encN N ++ encN M)) ++ (bytesL spans ++ post)) (n := 3) (limit := 5) (by decide) (by decide)
    have hat : 0 ≤ atomsO ⟨3, (R : Int), (N : Int), (M : Int), [], spans, 0⟩ := by unfold atomsO; simp
    have hp := rdP_at (pre := pre ++ encN 3) (post := bytesL spans ++ post) (R := R) (N := N) (M := M) (by omega) (by omega) (by omega)
    have hx := readS_atp (pre := pre ++ encN 3 ++ (encN R ++ (encN N ++ encN M))) (post := post) a1 f9 a3
    have hb : bytesO ⟨3, (R : Int), (N : Int), (M : Int), [], spans, 0⟩ = encN 3 ++ ((encN R ++ (encN N ++ encN M)) ++ bytesL spans) := by unfold bytesO; simp
    rw [hb]
    simp only [List.append_assoc, List.length_append] at hk hp hx ⊢
    unfold readO
    rw [hk]
    simp only [or_true, if_true]
    rw [hp]
    simp only
    unfold readB
    rw [if_neg (by decide), if_pos (Or.inr rfl)]
    simp only [Nat.add_assoc] at hx ⊢
    rw [hx]
    simp [Nat.add_assoc]
  · obtain ⟨hk, rfl, rfl, hp, hs1, hs2⟩ := h
    have hp := of_decide_eq_true hp
    simp only at hp hk hs1 hs2
    obtain ⟨rfl, rfl, rfl⟩ := hp
    obtain ⟨S, rfl⟩ := nat_of f10
    have hx := fun k => rdN_at (pre := pre ++ encN k) (post := post) (n := S) (limit := 268435456) (by omega) (by omega)
    simp only [List.append_assoc, List.length_append] at hx
    rcases hk with rfl | rfl
    · have hk := rdN_at (pre := pre) (post := encN S ++ post) (n := 4) (limit := 5) (by decide) (by decide)
      have hb : bytesO ⟨4, 0, 0, 0, [], [], (S : Int)⟩ = encN 4 ++ encN S := by unfold bytesO; simp
      rw [hb]
      simp only [List.append_assoc, List.length_append] at hk ⊢
      unfold readO
      rw [hk]
      rw [if_neg (by simp)]
      unfold readB
      simp only
      rw [if_neg (by decide), if_neg (by decide), hx 4]
      simp
      omega
    · have hk := rdN_at (pre := pre) (post := encN S ++ post) (n := 5) (limit := 5) (by decide) (by decide)
      have hb : bytesO ⟨5, 0, 0, 0, [], [], (S : Int)⟩ = encN 5 ++ encN S := by unfold bytesO; simp
      rw [hb]
      simp only [List.append_assoc, List.length_append] at hk ⊢
      unfold readO
      rw [hk]
      rw [if_neg (by simp)]
      unfold readB
      simp only
      rw [if_neg (by decide), if_neg (by decide), hx 5]
      simp
      omega
theorem rdOs_at : ∀ (l : List Om) (pre post : List UInt8), (∀ o ∈ l, FitOm o) → (∀ o ∈ l, fitO o = 0) → rdOs (pre ++ (l.flatMap bytesO ++ post)) l.length pre.length 0 = (l, pre.length + (l.flatMap bytesO).length, 0) := by
  intro l
  induction l with
  | nil => intro pre post _ _; simp [rdOs]
  | cons o l ih =>
    intro pre post hf h0
    have e1 := readO_at (pre := pre) (post := l.flatMap bytesO ++ post) (hf o (by simp)) (h0 o (by simp))
    have e2 := ih (pre ++ bytesO o) post (fun x hx => hf x (by simp [hx])) (fun x hx => h0 x (by simp [hx]))
    rw [List.flatMap_cons, List.length_cons, rdOs, if_pos rfl]
    simp only [List.append_assoc, List.length_append] at e1 e2 ⊢
    rw [e1]
    simp only
    rw [e2]
    simp
    omega
theorem readTx_all {t : Tm} (hf : FitTm t) (h0 : fitT t = 0) : readTx (bytesT t) 0 0 = (t, (bytesT t).length, 0) := by
  obtain ⟨g1, g2, g3, g4, g5, g6, g7, g8, g9⟩ := fitT_ok h0
  have hO := fitOs_ok t.ops (-1) g9
  unfold FitTm at hf
  obtain ⟨f1, f2, f3, f4, f5, f6, f7, f8, f9⟩ := hf
  obtain ⟨r, seq, clock, user, ops⟩ := t
  simp only at f1 f2 f3 f4 f5 f6 f7 f8 f9 g1 g2 g3 g4 g5 g6 g7 g8 g9 hO
  obtain ⟨R, rfl⟩ := nat_of f1
  obtain ⟨S, rfl⟩ := nat_of f3
  obtain ⟨C, rfl⟩ := nat_of f5
  obtain ⟨U, rfl⟩ := nat_of g5
  have e1 := rdN_at (pre := []) (post := encN S ++ (encN C ++ (encN U ++ (encN ops.length ++ ops.flatMap bytesO)))) (n := R) (limit := 65535) (by omega) (by omega)
  have e2 := rdN_at (pre := encN R) (post := encN C ++ (encN U ++ (encN ops.length ++ ops.flatMap bytesO))) (n := S) (limit := 268435456) (by omega) (by omega)
  have e3 := rdN_at (pre := encN R ++ encN S) (post := encN U ++ (encN ops.length ++ ops.flatMap bytesO)) (n := C) (limit := 1099511627776) (by omega) (by omega)
  have e4 := rdN_at (pre := encN R ++ (encN S ++ encN C)) (post := encN ops.length ++ ops.flatMap bytesO) (n := U) (limit := 7) (by omega) (by omega)
  have e5 := rdN_at (pre := encN R ++ (encN S ++ (encN C ++ encN U))) (post := ops.flatMap bytesO) (n := ops.length) (limit := 16) (by omega) (by omega)
  have e6 := rdOs_at ops (encN R ++ (encN S ++ (encN C ++ (encN U ++ encN ops.length)))) [] f9 (fun o ho => (hO o ho).1)
  have hb : bytesT ⟨(R : Int), (S : Int), (C : Int), (U : Int), ops⟩ = encN R ++ (encN S ++ (encN C ++ (encN U ++ (encN ops.length ++ ops.flatMap bytesO)))) := by unfold bytesT; simp
  rw [hb]
  rw [List.append_nil] at e6
  simp only [List.append_assoc, List.length_append, List.nil_append, List.length_nil, Nat.zero_add, Nat.add_assoc] at e1 e2 e3 e4 e5 e6 ⊢
  unfold readTx
  simp only
  rw [e1]
  simp only
  rw [e2]
  simp only
  rw [e3]
  simp only [Nat.add_assoc]
  rw [e4]
  simp only [Nat.add_assoc]
  rw [e5]
  simp only [Nat.add_assoc]
  rw [e6]
  simp [Nat.add_assoc]
end Go.Proofs.Ytedlmngfkkpmgaa
/-
  Reading's ground for layer 8: the operation that is read, as a variable of the call, and three numbers behind so many of them. No conditions beyond what each theorem states.
-/
namespace Go.Proofs.Ytedlmngfkkpmgaa
open Go.ChangeShapes Go.WideShapes Go.ChangeAt Go.RowKit Go.Lib
set_option linter.unusedVariables false
set_option linter.unusedSimpArgs false

/-- What Read holds: its result (still nothing), and what it has read so far. -/
structure RS (w : World) (k a b c : Int) (s : ByteArray) (v : Value) (q : Int) (W : World) : Prop where
  res : W.heap[w.heap.size]? = some (.cells #[.int .i64 0, .int .u16 0, .int .u32 0, .int .u32 0, .string ⟨#[]⟩, .slice none 0 0, .int .u32 0] 49 (0, 0))
  box : W.heap[w.heap.size + 1]? = some (.cells #[.int .i64 k, .int .u16 a, .int .u32 b, .int .u32 c, .string s, v, .int .u32 q] 49 (0, 0))
  bel : Below w.heap.size w W
theorem RS.new (w : World) : RS w 0 0 0 0 ⟨#[]⟩ (.slice none 0 0) 0 ((w.alloc (.cells #[.int .i64 0, .int .u16 0, .int .u32 0, .int .u32 0, .string ⟨#[]⟩, .slice none 0 0, .int .u32 0] 49)).alloc (.cells #[.int .i64 0, .int .u16 0, .int .u32 0, .int .u32 0, .string ⟨#[]⟩, .slice none 0 0, .int .u32 0] 49)) :=
  ⟨heap_alloc2_old w _ _, heap_alloc2_new w _ _, below_alloc (below_alloc (Below.refl _ _) _) _⟩
theorem RS.below {w W W' : World} {k a b c q : Int} {s : ByteArray} {v : Value} (h : RS w k a b c s v q W) (hb : Below W.heap.size W W') : RS w k a b c s v q W' := ⟨kept_box h.res hb, kept_box h.box hb, below_step h.bel hb⟩
theorem RS.set {w W : World} {k a b c q : Int} {s : ByteArray} {v : Value} (h : RS w k a b c s v q W) (i : Nat) (u : Value) {k' a' b' c' q' : Int} {s' : ByteArray} {v' : Value}
    (e : (#[.int .i64 k, .int .u16 a, .int .u32 b, .int .u32 c, .string s, v, .int .u32 q] : Array Value).setIfInBounds i u = #[.int .i64 k', .int .u16 a', .int .u32 b', .int .u32 c', .string s', v', .int .u32 q']) : RS w k' a' b' c' s' v' q' (W.setCell ⟨w.heap.size + 1, i, none⟩ u) :=
  ⟨by rw [heap_setCell_other _ _ _ _ (by simp)]; exact h.res, by rw [heap_setCell_same W _ i _ _ u h.box, e], h.bel.setCell (p := ⟨w.heap.size + 1, i, none⟩) (by simp) _⟩
theorem RS.other {w W : World} {k a b c q : Int} {s : ByteArray} {v : Value} (h : RS w k a b c s v q W) {V o : Nat} (hV : w.heap.size + 1 < V) (u : Value) : RS w k a b c s v q (W.setCell ⟨V, o, none⟩ u) :=
  ⟨by rw [heap_setCell_other _ _ _ _ (by simp; omega)]; exact h.res, by rw [heap_setCell_other _ _ _ _ (by simp; omega)]; exact h.box, h.bel.setCell (p := ⟨V, o, none⟩) (by simp; omega) _⟩
theorem RS.frozen {w W : World} {k a b c q : Int} {s : ByteArray} {v : Value} (h : RS w k a b c s v q W) : (∀ o, W.frozen? ⟨w.heap.size, o, none⟩ = false) ∧ (∀ o, W.frozen? ⟨w.heap.size + 1, o, none⟩ = false) := ⟨fun o => frozen_of_block h.res, fun o => frozen_of_block h.box⟩
theorem results_ctt {P : Program} {fn : Func} {p t u : Tmp} {ty : TypeId} (h : fn.results = #[.cell p ty, .tmp t, .tmp u]) (tmps : Array Value) (w : World) (a : Addr) (va : Value)
    (hp : tmps.getD p undef = .pointer (some a)) (la : (loadVar ty a).run P w = .ok va w) :
    (results fn tmps).run P w = .ok (.tuple #[va, tmps.getD t undef, tmps.getD u undef]) w := by
  have hp' : tmps[p]?.getD undef = .pointer (some a) := by simpa using hp
  simp [results, h, hp', asAddr, la]
theorem load8 {w : World} {B : Nat} {cs : Array Value} {t : TypeId} (h : w.heap[B]? = some (.cells cs t (0, 0))) (hs : cs.size = 7) : (loadVar 49 ⟨B, 0, none⟩).run Try.prog w = .ok (.agg cs) w :=
  run_loadVar_row w B t 49 _ (0, 0) _ h Try.underlying49 rfl (by rw [hs]; exact sz8)
/-- Three numbers behind so many of them: anchor and number. -/
def St8 (bs : List UInt8) (q0 : Nat) (i : Nat) (a b c q e : Nat) : Prop :=
  match i with
  | 0 => a = 0 ∧ b = 0 ∧ c = 0 ∧ q = q0 ∧ e = 0
  | 1 => (a, q, e) = rdN bs q0 0 65535 ∧ b = 0 ∧ c = 0
  | 2 => ∃ q1 e1, (a, q1, e1) = rdN bs q0 0 65535 ∧ (b, q, e) = rdN bs q1 e1 268435456 ∧ c = 0
  | _ => ∃ q1 e1 q2 e2, (a, q1, e1) = rdN bs q0 0 65535 ∧ (b, q2, e2) = rdN bs q1 e1 268435456 ∧ (c, q, e) = rdN bs q2 e2 268435456
theorem St8.done {bs : List UInt8} {q0 i a b c q e : Nat} (h : St8 bs q0 i a b c q e) (hi : i ≤ 3) (hd : i = 3 ∨ e ≠ 0) : rdP bs q0 0 = ((a, b, c), q, e) := by
  have : i = 0 ∨ i = 1 ∨ i = 2 ∨ i = 3 := by omega
  unfold rdP
  rcases this with rfl | rfl | rfl | rfl
  · obtain ⟨_, _, _, _, rfl⟩ := h
    rcases hd with hd | hd
    · cases hd
    · exact absurd rfl hd
  · obtain ⟨h1, rfl, rfl⟩ := h
    have he : e ≠ 0 := by rcases hd with hd | hd; cases hd; exact hd
    rw [← h1]
    simp only
    rw [rdN_err he]
    simp only
    rw [rdN_err he]
  · obtain ⟨q1, e1, h1, h2, rfl⟩ := h
    have he : e ≠ 0 := by rcases hd with hd | hd; cases hd; exact hd
    rw [← h1]
    simp only
    rw [← h2]
    simp only
    rw [rdN_err he]
  · obtain ⟨q1, e1, q2, e2, h1, h2, h3⟩ := h
    rw [← h1]
    simp only
    rw [← h2]
    simp only
    rw [← h3]
theorem St8.next0 {bs : List UInt8} {q0 a b c q : Nat} (h : St8 bs q0 0 a b c q 0) : St8 bs q0 1 (rdN bs q 0 65535).1 b c (rdN bs q 0 65535).2.1 (rdN bs q 0 65535).2.2 := by
  obtain ⟨rfl, rfl, rfl, rfl, _⟩ := h; exact ⟨rfl, rfl, rfl⟩
theorem St8.next1 {bs : List UInt8} {q0 a b c q : Nat} (h : St8 bs q0 1 a b c q 0) : St8 bs q0 2 a (rdN bs q 0 268435456).1 c (rdN bs q 0 268435456).2.1 (rdN bs q 0 268435456).2.2 := by
  obtain ⟨h1, rfl, rfl⟩ := h; exact ⟨q, 0, h1, rfl, rfl⟩
theorem St8.next2 {bs : List UInt8} {q0 a b c q : Nat} (h : St8 bs q0 2 a b c q 0) : St8 bs q0 3 a b (rdN bs q 0 268435456).1 (rdN bs q 0 268435456).2.1 (rdN bs q 0 268435456).2.2 := by
  obtain ⟨q1, e1, h1, h2, rfl⟩ := h; exact ⟨q1, e1, q, 0, h1, h2, rfl⟩
/-- What the document's Read tells, at a place. -/
def Read8At (bs : List UInt8) (Q : Nat) (w : World) (r : Ending) (w' : World) : Prop := ∃ p c q', r = .returned (.tuple #[ov (readO bs Q 0).1 p c, .int .i64 (q' : Int), .int .i64 ((readO bs Q 0).2.2 : Int)]) ∧ GRow layS w' p (readO bs Q 0).1.spans ∧ ((readO bs Q 0).2.2 = 0 → q' = ((readO bs Q 0).2.1 : Nat)) ∧ Below w.heap.size w w' ∧ KindAt 101 w' p
def Read8 (bs : List UInt8) (w : World) (r : Ending) (w' : World) : Prop := ∃ p c q', r = .returned (.tuple #[ov (readO bs 0 0).1 p c, .int .i64 (q' : Int), .int .i64 ((readO bs 0 0).2.2 : Int)]) ∧ GRow layS w' p (readO bs 0 0).1.spans ∧ ((readO bs 0 0).2.2 = 0 → q' = ((readO bs 0 0).2.1 : Nat)) ∧ Below w.heap.size w w'
/-- Nothing is told behind an error. -/
theorem read8_zero {bs : List UInt8} {Q : Nat} {w W : World} {k a b c q : Int} {s : ByteArray} {v : Value} {qq e pos : Nat} (h : RS w k a b c s v q W) (he : readO bs Q 0 = (o0, qq, e)) (h0 : e ≠ 0) :
    Read8At bs Q w (.returned (.tuple #[.agg #[.int .i64 0, .int .u16 0, .int .u32 0, .int .u32 0, .string ⟨#[]⟩, .slice none 0 0, .int .u32 0], .int .i64 (pos : Int), .int .i64 (e : Int)])) (((((((W.setCell ⟨w.heap.size, 0, none⟩ (.int .i64 0)).setCell ⟨w.heap.size, 1, none⟩ (.int .u16 0)).setCell ⟨w.heap.size, 2, none⟩ (.int .u32 0)).setCell ⟨w.heap.size, 3, none⟩ (.int .u32 0)).setCell ⟨w.heap.size, 4, none⟩ (.string ⟨#[]⟩)).setCell ⟨w.heap.size, 5, none⟩ (.slice none 0 0)).setCell ⟨w.heap.size, 6, none⟩ (.int .u32 0)) := by
  have hS := only_seven W w.heap.size (.int .i64 0) (.int .u16 0) (.int .u32 0) (.int .u32 0) (.string ⟨#[]⟩) (.slice none 0 0) (.int .u32 0)
  refine ⟨none, 0, pos, by rw [he]; rfl, by rw [he]; exact GRow.nil _ _ _, fun h => by rw [he] at h; exact absurd h h0, ?_, KindAt.nil _ _⟩
  exact h.bel.trans (hS.below (Nat.le_trans h.bel.size (Nat.le_refl _)) (by intro k ek; have ek : k = w.heap.size := ek; omega))
/-- What was read is told. -/
theorem read8_some {bs : List UInt8} {Q : Nat} {w W : World} {o : Om} {p : Option Addr} {cc : Nat} {q pos : Nat} (h : RS w o.kind o.r o.n o.num ⟨o.text.toArray⟩ (.slice p o.spans.length cc) o.seq W) (hG : GRow layS W p o.spans) (hp : ∀ a, p = some a → a.block ≠ w.heap.size) (hk : KindAt 101 W p) (he : readO bs Q 0 = (o, pos, 0)) :
    Read8At bs Q w (.returned (.tuple #[.agg #[.int .i64 o.kind, .int .u16 o.r, .int .u32 o.n, .int .u32 o.num, .string ⟨o.text.toArray⟩, .slice p o.spans.length cc, .int .u32 o.seq], .int .i64 (pos : Int), .int .i64 0])) (((((((W.setCell ⟨w.heap.size, 0, none⟩ (.int .i64 o.kind)).setCell ⟨w.heap.size, 1, none⟩ (.int .u16 o.r)).setCell ⟨w.heap.size, 2, none⟩ (.int .u32 o.n)).setCell ⟨w.heap.size, 3, none⟩ (.int .u32 o.num)).setCell ⟨w.heap.size, 4, none⟩ (.string ⟨o.text.toArray⟩)).setCell ⟨w.heap.size, 5, none⟩ (.slice p o.spans.length cc)).setCell ⟨w.heap.size, 6, none⟩ (.int .u32 o.seq)) := by
  have hS := only_seven W w.heap.size (.int .i64 o.kind) (.int .u16 o.r) (.int .u32 o.n) (.int .u32 o.num) (.string ⟨o.text.toArray⟩) (.slice p o.spans.length cc) (.int .u32 o.seq)
  refine ⟨p, cc, pos, by rw [he]; rfl, by rw [he]; exact hG.kept hS (fun a ea => hp a ea), fun _ => by rw [he], ?_, hk.kept hS (fun a ea => hp a ea)⟩
  exact h.bel.trans (hS.below (Nat.le_trans h.bel.size (Nat.le_refl _)) (by intro k ek; have ek : k = w.heap.size := ek; omega))
end Go.Proofs.Ytedlmngfkkpmgaa
