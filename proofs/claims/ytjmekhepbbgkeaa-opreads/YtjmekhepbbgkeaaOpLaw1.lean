
/-
  What the laws' own ref of layer 8 hands back. No conditions beyond what each theorem states.
-/
import Derived.Test.YtjmekhepbbgkeaaOpRef3
import Derived.Test.YtjmekhepbbgkeaaSpanProg5
import Derived.Test.YtjmekhepbbgkeaaSpanPack3
namespace Go.Proofs.Ytjmekhepbbgkeaa
open Go.ChangeShapes Go.WideShapes Go.ChangeAt Go.RowKit Go.Lib
set_option linter.unusedVariables false
set_option linter.unusedSimpArgs false

theorem sz8 : (Try.prog.info? 33).map (·.size) = some 7 := by kernel_rfl
theorem box_seven {w : World} {B : Nat} {a b c d e f g a' b' c' d' e' f' g' : Value} {t : TypeId} (h : w.heap[B]? = some (.cells #[a, b, c, d, e, f, g] t (0, 0))) :
    (((((((w.setCell ⟨B, 0, none⟩ a').setCell ⟨B, 1, none⟩ b').setCell ⟨B, 2, none⟩ c').setCell ⟨B, 3, none⟩ d').setCell ⟨B, 4, none⟩ e').setCell ⟨B, 5, none⟩ f').setCell ⟨B, 6, none⟩ g').heap[B]? = some (.cells #[a', b', c', d', e', f', g'] t (0, 0)) := by
  have h1 := heap_setCell_same w B 0 _ t a' h
  have h2 := heap_setCell_same _ B 1 _ t b' h1
  have h3 := heap_setCell_same _ B 2 _ t c' h2
  have h4 := heap_setCell_same _ B 3 _ t d' h3
  have h5 := heap_setCell_same _ B 4 _ t e' h4
  have h6 := heap_setCell_same _ B 5 _ t f' h5
  have h7 := heap_setCell_same _ B 6 _ t g' h6
  simpa using h7
theorem only_set (w : World) (B o : Nat) (u : Value) : Only B w (w.setCell ⟨B, o, none⟩ u) := ⟨rfl, rfl, rfl, by simp [World.setCell], fun k _ hn => Below.heap_setCell _ _ _ _ hn⟩
theorem Only.trans {K : Nat} {a b c : World} (h : Only K a b) (k : Only K b c) : Only K a c := Kept.trans h k (fun _ _ e => e)
theorem only_seven (w : World) (B : Nat) (a b c d e f g : Value) :
    Only B w (((((((w.setCell ⟨B, 0, none⟩ a).setCell ⟨B, 1, none⟩ b).setCell ⟨B, 2, none⟩ c).setCell ⟨B, 3, none⟩ d).setCell ⟨B, 4, none⟩ e).setCell ⟨B, 5, none⟩ f).setCell ⟨B, 6, none⟩ g) :=
  (((((((only_set w B 0 a).trans (only_set _ B 1 b)).trans (only_set _ B 2 c)).trans (only_set _ B 3 d)).trans (only_set _ B 4 e)).trans (only_set _ B 5 f)).trans (only_set _ B 6 g))
/-- A variable of another kind is no part of a row of the call's own. -/
theorem kind_apart {w : World} {B base size n : Nat} {cs : Array Value} {t e : TypeId} {v : Value} {xs : List Value} {f : Nat × Nat} (hne : t ≠ e) (h : w.heap[B]? = some (.cells cs t f)) (hown : w.ownsRow base e size v n xs) : v.ownBlock ≠ some B := by
  intro ee
  obtain ⟨c, fz, hc⟩ := Lib.ownsRow_kind hown B ee
  rw [h] at hc
  injection hc with hc
  injection hc with h1 h2 h3
  exact hne h2
theorem three_blocks8 (w : World) (A B C : Obj) : (((w.alloc A).alloc B).alloc C).heap[w.heap.size + 1]? = some B ∧ (((w.alloc A).alloc B).alloc C).heap[w.heap.size + 2]? = some C := by
  have h2 : ((w.alloc A).alloc B).heap.size = w.heap.size + 2 := by simp
  refine ⟨?_, ?_⟩
  · rw [Go.heap_alloc_old ((w.alloc A).alloc B) C (by omega)]; exact heap_alloc2_new w A B
  · rw [← h2]; exact heap_alloc_new _ _
/-- An operation that a call hands back, with spans of its own. -/
def GaveO (o : Om) (w : World) (e : Ending) (w' : World) : Prop := ∃ p c, e = .returned (ov o p c) ∧ GRow layS w' p o.spans ∧ o.spans.length ≤ c ∧ (p = none → c = 0) ∧ Below w.heap.size w w'

set_option maxHeartbeats 6400000 in
set_option maxRecDepth 20000 in
theorem ref8_any (o : Om) (p : Option Addr) (c : Nat) (w : World) (hR : GRow layS w p o.spans) (hl : o.spans.length ≤ 100000) :
    Calls Try.prog 7 #[ov o p c] w (GaveO o w) := by
  obtain ⟨i0, hi, hz0, hz1, hz2⟩ := info_parts infoRS
  obtain ⟨kind, r, n, num, text, spans, seq⟩ := o
  have HR := Lib.hid hR
  clear hR
  unfold GaveO
  unfold ov
  simp only at HR hl ⊢
  generalize (⟨text.toArray⟩ : ByteArray) = bt
  go_enter Try.func7, Try.ntmps7
  go_wp2
  have HX := Lib.hid (fun A B C => three_blocks8 w A B C)
  go_loopg [20] spans.length (fun g i wr => ∃ (k : Nat) (v : Value), k ≤ spans.length ∧ spans.length - k ≤ g ∧ i = .int .i64 (k : Int) ∧ Hold layS w 58 v (spans.take k) wr ∧ wr.heap[w.heap.size + 1]? = some (.cells #[.int .i64 0, .int .u16 0, .int .u32 0, .int .u32 0, .string ⟨#[]⟩, .slice none 0 0, .int .u32 0] 33 (0, 0)) ∧ wr.heap[w.heap.size + 2]? = some (.cells #[.int .i64 kind, .int .u16 r, .int .u32 n, .int .u32 num, .string bt, v, .int .u32 seq] 33 (0, 0)))
  case atStart => exact ⟨0, .slice none 0 0, Nat.zero_le _, by omega, rfl, ((Hold.nil _ _ _).alloc _ |>.alloc _ |>.alloc _), (HX.out _ _ _).1, (HX.out _ _ _).2⟩
  case round =>
    obtain ⟨k, v, hk, hg, rfl, hO, h1, h2⟩ := hrel
    have HO := Lib.hid hO
    have H1 := Lib.hid h1
    have H2 := Lib.hid h2
    obtain ⟨x0, x1, x2, x3, x4, x5, x6⟩ := seven_cells h2
    clear hO h1 h2
    by_cases hlt : k < spans.length
    · obtain ⟨b, o, rfl, c0', c1', c2'⟩ := srow_at HR.out hlt
      have c0 := cellU c0' HO.out.2
      have c1 := cellU c1' HO.out.2
      have c2 := cellU c2' HO.out.2
      have hkl : (k : Int) < (spans.length : Int) := by omega
      have HNX : Hid (spans.take (k + 1) = spans.take k ++ [spans.getD k s0]) := take_getD s0 hlt
      have hlk : (spans.take k).length = k := by rw [List.length_take]; omega
      have hX2 : w.heap.size + 2 < wr.heap.size := lt_of_block H2.out
      have hb2 := fun (A B : Obj) => below_alloc (below_alloc (Below.refl wr.heap.size wr) A) B
      have y5 : ∀ A B, ((wr.alloc A).alloc B).cell? ⟨w.heap.size + 2, 5, none⟩ = some v := fun A B => cellU x5 (hb2 A B)
      have y5' : ∀ A, (wr.alloc A).cell? ⟨w.heap.size + 2, 5, none⟩ = some v := fun A => cellU x5 (below_alloc (Below.refl wr.heap.size wr) A)
      generalize spans.take k = A at HO HNX hlk
      have HLK := Lib.hid hlk
      clear hlk
      generalize spans.getD k s0 = s at c0 c1 c2 HNX
      obtain ⟨r', n', m'⟩ := s
      simp only at c0 c1 c2
      clear c0' c1' c2'
      have hne1 : ¬ w.heap.size + 2 = wr.heap.size := by omega
      have hne2 : ¬ w.heap.size + 2 = wr.heap.size + 1 := by omega
      go_wp2_with (first
        | (at_builtin; refine wpList_append_own _ rfl (.tmp 25) (.tmp 31) 31 rfl w.heap.size 58 i0 (.agg #[.int .u16 0, .int .u32 0, .int .i64 0]) 3 16 Try.underlying31 hi hz0 hz1 hz2 rfl (by decide) _ A.length (layS.flat A) rfl ((HO.out.alloc _).alloc _).1 ⟨wr.heap.size + 1, 0, none⟩ 1 1 [.int .u16 r', .int .u32 n', .int .i64 m'] rfl rfl (by have := @cells_new (wr.alloc (Obj.cells #[Value.int IntKind.u16 r', Value.int IntKind.u32 n', Value.int IntKind.i64 m'] 56)) [.int .u16 r', .int .u32 n', .int .i64 m'] 58; simpa using this) (layS.one (r', n', m')) (by unfold maxLen; have := HLK.out; omega) (by have := HLK.out; omega) (by have := HO.out.2.size; simp; omega) ?_))
      intro v' w4 hown' hgrow _
      have HO4 : Hid (Hold layS w 58 v' (spans.take (k + 1)) w4) := by
        rw [HNX.out]
        exact ((HO.out.alloc _).alloc _).onto rfl (by simp) hown' hgrow
      have H14 := Lib.hid (box_grown (by decide) (kept_box H1.out (hb2 _ _)) ((HO.out.alloc _).alloc _).1 hgrow)
      have H24 := Lib.hid (box_grown (by decide) (kept_box H2.out (hb2 _ _)) ((HO.out.alloc _).alloc _).1 hgrow)
      have z5 := (seven_cells H24.out).2.2.2.2.2.1
      have f5 : w4.frozen? ⟨w.heap.size + 2, 5, none⟩ = false := frozen_of_block H24.out
      have HE : Hid (Hold layS w 58 v' (spans.take (k + 1)) (w4.setCell ⟨w.heap.size + 2, 5, none⟩ v') ∧ (w4.setCell ⟨w.heap.size + 2, 5, none⟩ v').heap[w.heap.size + 1]? = some (.cells #[.int .i64 0, .int .u16 0, .int .u32 0, .int .u32 0, .string ⟨#[]⟩, .slice none 0 0, .int .u32 0] 33 (0, 0)) ∧ (w4.setCell ⟨w.heap.size + 2, 5, none⟩ v').heap[w.heap.size + 2]? = some (.cells #[.int .i64 kind, .int .u16 r, .int .u32 n, .int .u32 num, .string bt, v', .int .u32 seq] 33 (0, 0))) := by
        refine ⟨HO4.out.other (kind_apart (by decide) H24.out HO4.out.1) (by omega) 5 v', ?_, ?_⟩
        · rw [heap_setCell_other _ _ _ _ (by simp)]; exact H14.out
        · have := heap_setCell_same w4 (w.heap.size + 2) 5 _ _ v' H24.out
          simpa using this
      obtain ⟨pv, cv, ev, -, -, -⟩ := HO4.out.gave layS_pos
      generalize (spans.take (k + 1)).length = LL at ev
      subst ev
      clear hown' hgrow HO HO4 H14 H24 H1 H2 y5 y5' x0 x1 x2 x3 x4 x5 x6 hb2
      go_wp2
      go_roundg (spans.length - (k + 1))
      case measure => omega
      case rel => exact ⟨k + 1, _, by omega, Nat.le_refl _, by go_num, HE.out.1, HE.out.2.1, HE.out.2.2⟩
    · have : k = spans.length := by omega
      subst this
      have hkl : ¬ (spans.length : Int) < (spans.length : Int) := by omega
      rw [List.take_length] at HO
      obtain ⟨y0, y1, y2, y3, y4, y5, y6⟩ := seven_cells H1.out
      have f1 : ∀ o, wr.frozen? ⟨w.heap.size + 1, o, none⟩ = false := fun o => frozen_of_block H1.out
      obtain ⟨pv, cv, rfl, hG, hcv, hpv⟩ := HO.out.gave layS_pos
      have HG := Lib.hid hG
      have HAP := Lib.hid (kind_apart (by decide) H1.out HO.out.1)
      clear hG
      go_wp2
      (try simp only [Exit.inBlock, Exit.then])
      have hS := only_seven wr (w.heap.size + 1) (.int .i64 kind) (.int .u16 r) (.int .u32 n) (.int .u32 num) (.string bt) (.slice pv spans.length cv) (.int .u32 seq)
      refine bodyPost_ret (results_cell_row rfl _ _ (w.heap.size + 1) 33 #[.int .i64 kind, .int .u16 r, .int .u32 n, .int .u32 num, .string bt, .slice pv spans.length cv, .int .u32 seq] (0, 0) _ rfl (box_seven H1.out) Try.underlying33 rfl sz8) rfl ?_
      refine ⟨pv, cv, rfl, HG.out.kept hS (fun q e ee => ?_), hcv, hpv, HO.out.2.trans (hS.below (Nat.le_trans HO.out.2.size (Nat.le_refl _)) ?_)⟩
      · apply HAP.out
        rw [e]
        have ee : q.block = w.heap.size + 1 := ee
        simp [Value.ownBlock, ee]
      · intro k ek
        have ek : k = w.heap.size + 1 := ek
        omega
end Go.Proofs.Ytjmekhepbbgkeaa
