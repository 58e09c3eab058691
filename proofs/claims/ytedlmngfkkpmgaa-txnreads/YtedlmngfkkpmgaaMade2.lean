
/-
  What the laws' own copyistmade.Op hands back. No conditions beyond what each theorem states.
-/
import Derived.Test.YtedlmngfkkpmgaaMade1
import Derived.Test.YtedlmngfkkpmgaaOpLaw1
import Derived.Test.YtedlmngfkkpmgaaMix
import Derived.Test.YtedlmngfkkpmgaaKinds
namespace Go.Proofs.Ytedlmngfkkpmgaa
open Go.ChangeShapes Go.WideShapes Go.ChangeAt Go.RowKit Go.Lib
set_option linter.unusedVariables false
set_option linter.unusedSimpArgs false

theorem Hold.skind {w wr : World} {v : Value} {l : List Sp} (h : Hold layS w 101 v l wr) : ∃ p c, v = .slice p l.length c ∧ GRow layS wr p l ∧ l.length ≤ c ∧ (p = none → c = 0) ∧ KindAt 101 wr p := by
  obtain ⟨p, c, rfl, h1, h2, h3⟩ := h.gave layS_pos
  exact ⟨p, c, rfl, h1, h2, h3, kind_owns h.1⟩
/-- An operation that a call hands back, with spans of its own in a block of their kind. -/
def MadeO (o : Om) (w : World) (e : Ending) (w' : World) : Prop := ∃ p c, e = .returned (ov o p c) ∧ GRow layS w' p o.spans ∧ o.spans.length ≤ c ∧ (p = none → c = 0) ∧ KindAt 101 w' p ∧ Below w.heap.size w w'
theorem szR8 : (Try.prog.info? 49).map (·.size) = some 7 := by kernel_rfl
set_option maxHeartbeats 3200000 in
set_option maxRecDepth 20000 in
theorem mop_any (o : Om) (p : Option Addr) (c : Nat) (w : World) (hR : GRow layS w p o.spans) (hl : o.spans.length ≤ 8796093021952) :
    Calls Try.prog 26 #[ov o p c] w (MadeO o w) := by
  have HM : Hid (∀ W, Below w.heap.size w W → Calls Try.prog 44 #[.slice p o.spans.length c] W (Made layS 101 W o.spans)) := fun W hb => mspans_any o.spans p c W (hR.below hb) hl
  clear hR
  obtain ⟨kind, r, n, num, text, spans, seq⟩ := o
  unfold MadeO ov
  simp only at HM hl ⊢
  generalize (⟨text.toArray⟩ : ByteArray) = bt
  go_enter Try.func26, Try.ntmps26
  go_wp2_with fail
  have HX := Lib.hid (heap_alloc2_new w (.cells #[.int .i64 kind, .int .u16 r, .int .u32 n, .int .u32 num, .string bt, .slice p spans.length c, .int .u32 seq] 69) (.cells #[.int .i64 0, .int .u16 0, .int .u32 0, .int .u32 0, .string ⟨#[]⟩, .slice none 0 0, .int .u32 0] 49))
  have HY := Lib.hid (heap_alloc2_old w (.cells #[.int .i64 kind, .int .u16 r, .int .u32 n, .int .u32 num, .string bt, .slice p spans.length c, .int .u32 seq] 69) (.cells #[.int .i64 0, .int .u16 0, .int .u32 0, .int .u32 0, .string ⟨#[]⟩, .slice none 0 0, .int .u32 0] 49))
  obtain ⟨s0, s1, s2, s3, s4, s5, s6⟩ := seven_cells HY.out
  have t0 := cell_regrown s0
  have t1 := cell_regrown s1
  have t2 := cell_regrown s2
  have t3 := cell_regrown s3
  have t4 := cell_regrown s4
  have t5 := cell_regrown s5
  have t6 := cell_regrown s6
  clear s0 s1 s2 s3 s4 s5 s6
  refine wp_region_mix_below [0, 1, 2, 3, 4, 5, 6, 7, 8, 9, 11, 12] [10, 13] [14] (by kernel_rfl) (by kernel_rfl) (fun _ _ d _ _ h => by cases d <;> exact h) ?_
  simp only [pickOps, List.filterMap_cons, List.filterMap_nil, List.getElem?_cons_zero, List.getElem?_cons_succ]
  repeat (first | go_big_quiet_step (fail) | quiet_step (fail))
  refine wpQuiet_nil ?_
  clear t0 t1 t2 t3 t4 t5 t6
  refine seqM_step fun K hK => ?_
  go_wp2_with fail
  refine (HM.out _ (below_drewN (below_alloc (below_alloc (Below.refl _ _) _) _) 1)).mono ?_
  rintro e w4 ⟨v4, rfl, hH⟩
  obtain ⟨p4, c4, rfl, hG, hc4, hp4, hS⟩ := hH.skind
  have HB := Lib.hid (below_of_drew hH.2)
  have HG := Lib.hid hG
  have HS := Lib.hid hS
  have HX4 := Lib.hid (kept_box HX.out HB.out)
  clear hH hG hS
  go_wp2_with fail
  refine hK _ _ (regrown_of_below HB.out) ?_
  clear hK K
  refine seqM_step fun K hK => ?_
  go_wp2_with fail
  refine hK _ _ (regrown_of_below HB.out) ?_
  clear hK K
  refine seqM_nil ?_
  obtain ⟨x0, x1, x2, x3, x4, x5, x6⟩ := seven_cells HX4.out
  have fx : ∀ o, w4.frozen? ⟨w.heap.size + 1, o, none⟩ = false := fun o => frozen_of_block HX4.out
  go_wp2
  (try simp only [Exit.inBlock, Exit.then])
  have hS7 := only_seven w4 (w.heap.size + 1) (.int .i64 kind) (.int .u16 r) (.int .u32 n) (.int .u32 num) (.string bt) (.slice p4 spans.length c4) (.int .u32 seq)
  refine bodyPost_ret (results_cell_row rfl _ _ (w.heap.size + 1) 49 #[.int .i64 kind, .int .u16 r, .int .u32 n, .int .u32 num, .string bt, .slice p4 spans.length c4, .int .u32 seq] (0, 0) _ rfl (box_seven HX4.out) Try.underlying49 rfl szR8) rfl ?_
  have hap := HS.out.apart (by decide) HX4.out
  refine ⟨p4, c4, rfl, HG.out.kept hS7 hap, hc4, hp4, HS.out.kept hS7 hap, ?_⟩
  have hB4 : Below w.heap.size w w4 := below_step (below_alloc (below_alloc (Below.refl _ _) _) _) HB.out
  exact hB4.trans (hS7.below (Nat.le_trans hB4.size (Nat.le_refl _)) (fun k ek => by have ek : k = w.heap.size + 1 := ek; omega))
end Go.Proofs.Ytedlmngfkkpmgaa
