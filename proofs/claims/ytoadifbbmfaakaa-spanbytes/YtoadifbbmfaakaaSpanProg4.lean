
/-
  What the program's join of layer 7 hands back. No conditions beyond what each theorem states.
-/
import Derived.Test.YtoadifbbmfaakaaSpanProg3
import Derived.Lib.QuietBelow
namespace Go.Proofs.Ytoadifbbmfaakaa
open Go.ChangeShapes Go.WideShapes Go.ChangeAt Go.RowKit Go.Lib
set_option linter.unusedVariables false
set_option linter.unusedSimpArgs false

/-- What join leaves: the row with one name more, all else as it was. -/
def Joined (w0 : World) (v : Value) (A : List Sp) (a : Nm) (w : World) (e : Ending) (w' : World) : Prop :=
  ∃ v', e = .returned v' ∧ Hold layS w0 43 v' (joinL A a) w' ∧ Kept (fun i => v.ownBlock = some i) w w' ∧ (∀ j, v'.ownBlock = some j → v.ownBlock = some j ∨ w.heap.size ≤ j)
theorem kept_grown {w w' : World} {v : Value} (h : w.grownBy w' v.ownBlock) : Kept (fun i => v.ownBlock = some i) w w' := ⟨h.os, h.tape, h.output, h.size, fun k hk hn => h.block k hk (fun e => hn e.symm)⟩

theorem joined_append {w0 w W w1 : World} {v v' : Value} {A : List Sp} {x y : Int} (hO : Hold layS w0 43 v A W) (hb : Below w.heap.size w W) (hown : w1.ownsRow w0.heap.size 43 3 v' (A.length + 1) (layS.flat A ++ [.int .u16 x, .int .u32 y, .int .i64 1])) (hg : W.grownBy w1 v.ownBlock) (hw : ∀ j, v'.ownBlock = some j → v.ownBlock = some j ∨ W.heap.size ≤ j) (hj : joinL A (x, y) = A ++ [(x, y, 1)]) : Joined w0 v A (x, y) w (.returned v') w1 := by
  refine ⟨v', rfl, ?_, ?_, ?_⟩
  · rw [hj]; exact hO.onto (ys := [(x, y, 1)]) (by rw [layS.flat_one]; rfl) rfl hown hg
  · exact (Kept.ofBelow (S := fun i => v.ownBlock = some i) hb).trans (T := fun i => v.ownBlock = some i) (kept_grown hg) (fun i _ e => e)
  · intro j hj
    rcases hw j hj with h | h
    · exact Or.inl h
    · have := hb.size; exact Or.inr (by omega)
set_option maxHeartbeats 3200000 in
set_option maxRecDepth 20000 in
theorem join_none (a : Nm) (v : Value) (w0 w : World) (hO : Hold layS w0 43 v [] w) :
    Calls Try.prog 44 #[v, nv a] w (Joined w0 v [] a w) := by
  obtain ⟨i0, hi, hz0, hz1, hz2⟩ := info_parts infoSp
  obtain ⟨p, c, rfl, -, -, -⟩ := hO.gave layS_pos
  obtain ⟨x, y⟩ := a
  have HO := Lib.hid hO
  clear hO
  unfold nv
  simp only [List.length_nil] at HO ⊢
  go_enter Try.func44, Try.ntmps44
  go_wp2_with fail
  go_quiet (fail)
  have HOD : Hid (∀ n o o', Hold layS w0 43 (.slice p 0 c) [] (((w.alloc o).drewN n).alloc o')) := fun n o o' => ((HO.out.alloc o).drewN n).alloc o'
  have HBD : Hid (∀ n o o', Below w.heap.size w (((w.alloc o).drewN n).alloc o')) := fun n o o' => below_alloc (below_drewN (below_alloc (Below.refl _ _) o) n) o'
  go_wp2_with (first
    | (at_builtin; refine wpList_append_where _ rfl (.tmp 38) (.tmp 41) 22 rfl w0.heap.size 43 i0 (.agg #[.int .u16 0, .int .u32 0, .int .i64 0]) 3 16 Try.underlying22 hi hz0 hz1 hz2 rfl (by decide) _ 0 [] rfl (HOD.out _ _ _).1 ⟨w.heap.size + 1, 0, none⟩ 1 1 [.int .u16 x, .int .u32 y, .int .i64 1] rfl rfl (by have := @cells_new ((w.alloc (Obj.cells #[Value.int IntKind.u16 x, Value.int IntKind.u32 y] 26)).drewN nq) [.int .u16 x, .int .u32 y, .int .i64 1] 43; simpa using this) (layS.one (x, y, 1)) (by unfold maxLen; omega) (by omega) (by have := HO.out.2.size; simp; omega) (by decide) ?_))
  intro v' w1 hown' hgrow hwh
  have HJ : Hid (Joined w0 (.slice p 0 c) [] (x, y) w (.returned v') w1) := joined_append (HOD.out _ _ _) (HBD.out _ _ _) hown' hgrow (fun j hj => (hwh j hj).imp id fun h => by simp; omega) (joinL_nil _)
  clear hown' hgrow hwh
  go_wp2
  go_ret
  exact HJ.out
set_option maxHeartbeats 3200000 in
set_option maxRecDepth 20000 in
theorem join_some (D : List Sp) (s : Sp) (a : Nm) (v : Value) (w0 w : World) (hO : Hold layS w0 43 v (D ++ [s]) w) (hs : rightS s = true) (hl : D.length ≤ 100000) :
    Calls Try.prog 44 #[v, nv a] w (Joined w0 v (D ++ [s]) a w) := by
  obtain ⟨i0, hi, hz0, hz1, hz2⟩ := info_parts infoSp
  have hlen : (D ++ [s]).length = D.length + 1 := by simp
  obtain ⟨gg, cap, rfl, hgg, hfr⟩ := owns_head hO.1 (by simp)
  obtain ⟨p, c, ep, hG, -, -⟩ := hO.gave layS_pos
  cases ep
  obtain ⟨b, o, eb, c0, c1, c2⟩ := srow_at hG (i := D.length) (by simp)
  cases eb
  have hgd : (D ++ [s]).getD D.length s0 = s := by simp
  rw [hgd] at c0 c1 c2
  obtain ⟨r, n, l⟩ := s
  obtain ⟨x, y⟩ := a
  obtain ⟨n1, l1, l2, n2, nl⟩ := rightS_iff.1 hs
  simp only at c0 c1 c2 n1 l1 l2 n2 nl
  simp only [Nat.zero_add] at c0 c1 c2
  have HO := Lib.hid hO
  rw [hlen] at HO ⊢
  have HL := Lib.hid hlen
  have HLT : Hid (gg < w.heap.size) := block_lt_of_cell c0
  clear hO hlen hG hgd hs
  unfold nv
  simp only
  have hix : ((D.length + 1 : Nat) : Int) - 1 = (D.length : Int) := by omega
  have hge : (0 : Int) ≤ (D.length : Int) := by omega
  have hgd : decide ((0 : Int) ≤ (D.length : Int)) = true := decide_eq_true hge
  have hil : (D.length : Int) < (D.length : Int) + 1 := by omega
  have hil' : (D.length : Int) < ((D.length + 1 : Nat) : Int) := by omega
  have k0 := fun o => cellU c0 (below_alloc (Below.refl w.heap.size w) o)
  have k1 := fun o => cellU c1 (below_alloc (Below.refl w.heap.size w) o)
  have k2 := fun o => cellU c2 (below_alloc (Below.refl w.heap.size w) o)
  by_cases h3 : l < 1024
  · have HL1 := Lib.hid (fun W => last_any (r, n, l) W (by simp only; omega) (by simp only; omega) (by simp only; omega))
    have HP1 := Lib.hid (fun W => plus_any (r, n + l - 1) 1 (n + l) W (by simp only; omega))
    unfold sv nv at HL1
    unfold nv at HP1
    simp only at HL1 HP1
    have q0 := cell_regrown (k0 (.cells #[.int .u16 x, .int .u32 y] 26))
    have q1 := cell_regrown (k1 (.cells #[.int .u16 x, .int .u32 y] 26))
    have q2 := cell_regrown (k2 (.cells #[.int .u16 x, .int .u32 y] 26))
    have HX : Hid ((w.alloc (.cells #[.int .u16 x, .int .u32 y] 26)).heap[w.heap.size]? = some (.cells #[.int .u16 x, .int .u32 y] 26 (0, 0))) := heap_alloc_new w _
    have t0 := cell_regrown (two_cells HX.out).1
    have t1 := cell_regrown (two_cells HX.out).2
    clear c0 c1 c2 k0 k1 k2
    by_cases he : r = x ∧ n + l = y
    · obtain ⟨rfl, rfl⟩ := he
      have HJ : Hid (joinL (D ++ [(r, n, l)]) (r, n + l) = D ++ [(r, n, l + 1)]) := by show _ = _; rw [joinL_snoc, if_pos ⟨h3, rfl, rfl⟩]
      go_enter Try.func44, Try.ntmps44
      go_wp2_with fail
      refine wp_region_quiet_below (by kernel_rfl) (by kernel_rfl) ?_
      repeat (go_big_quiet_step (first | (go_at_call 22; exact Calls.regrown_of (HL1.out _)) | (go_at_call 40; exact Calls.regrown_of (HP1.out _))))
      refine wpQuiet_nil ?_
      intro _ hw'
      obtain ⟨⟨dq, osq⟩, hw''⟩ := hw'
      subst hw''
      have HX2 : Hid (Hold layS w0 43 (.slice (some ⟨gg, 0, none⟩) (D.length + 1) cap) (D ++ [(r, n, l)]) (Go.Sort.grow (redrawn (w.alloc (.cells #[.int .u16 r, .int .u32 (n + l)] 26)) dq) osq)) := HO.out.below (below_step (below_alloc (Below.refl _ _) _) (below_regrown _ _ _))
      have HBW : Hid (Below w.heap.size w (Go.Sort.grow (redrawn (w.alloc (.cells #[.int .u16 r, .int .u32 (n + l)] 26)) dq) osq)) := below_step (below_alloc (Below.refl _ _) _) (below_regrown _ _ _)
      have z2 := q2 dq osq
      clear q0 q1 q2 t0 t1 HX HL1 HP1
      generalize Go.Sort.grow (redrawn (w.alloc (.cells #[.int .u16 r, .int .u32 (n + l)] 26)) dq) osq = W at HX2 HBW z2 ⊢
      obtain ⟨gg', cap', egg, hgg', hfr'⟩ := owns_head HX2.out.1 (by simp)
      rw [HL.out] at egg
      cases egg
      have HS : Hid (Joined w0 (.slice (some ⟨gg, 0, none⟩) (D.length + 1) cap) (D ++ [(r, n, l)]) (r, n + l) w (.returned (.slice (some ⟨gg, 0, none⟩) (D.length + 1) cap)) (W.setCell ⟨gg, D.length * 3 + 2, none⟩ (.int .i64 (l + 1)))) := by
        refine ⟨_, rfl, ?_, ?_, fun j hj => Or.inl hj⟩
        · rw [HJ.out]
          refine ⟨?_, HX2.out.2.setCell (p := ⟨gg, D.length * 3 + 2, none⟩) hgg _⟩
          have hW := HX2.out.1
          rw [List.length_append] at hW
          have := (hW.stored (D.length * 3 + 2) (.int .i64 (l + 1))).1
          rw [flat_last] at this
          rw [List.length_append]; exact this
        · exact (Kept.ofBelow (S := fun i => Value.ownBlock (.slice (some ⟨gg, 0, none⟩) (D.length + 1) cap) = some i) HBW.out).trans (T := fun i => i = gg) ⟨rfl, rfl, rfl, by simp [World.setCell], fun k _ hn => Below.heap_setCell _ _ _ _ hn⟩ (fun i _ e => by subst e; simp [Value.ownBlock])
      go_wp2
      go_ret
      exact HS.out
    · by_cases hx : r = x
      · subst hx
        have hy : ¬ n + l = y := fun h => he ⟨rfl, h⟩
        have hy' : (n + l == y) = false := by simp [hy]
        have HJ : Hid (joinL (D ++ [(r, n, l)]) (r, y) = (D ++ [(r, n, l)]) ++ [(r, y, 1)]) := by show _ = _; rw [joinL_snoc, if_neg (fun h => he h.2)]
        go_enter Try.func44, Try.ntmps44
        go_wp2_with fail
        refine wp_region_quiet_below (by kernel_rfl) (by kernel_rfl) ?_
        repeat (go_big_quiet_step (first | (go_at_call 22; exact Calls.regrown_of (HL1.out _)) | (go_at_call 40; exact Calls.regrown_of (HP1.out _))))
        refine wpQuiet_nil ?_
        intro _ hw'
        obtain ⟨⟨dq, osq⟩, hw''⟩ := hw'
        subst hw''
        have HX2 : Hid (Hold layS w0 43 (.slice (some ⟨gg, 0, none⟩) (D.length + 1) cap) (D ++ [(r, n, l)]) (Go.Sort.grow (redrawn (w.alloc (.cells #[.int .u16 r, .int .u32 y] 26)) dq) osq)) := HO.out.below (below_step (below_alloc (Below.refl _ _) _) (below_regrown _ _ _))
        have HBW : Hid (Below w.heap.size w (Go.Sort.grow (redrawn (w.alloc (.cells #[.int .u16 r, .int .u32 y] 26)) dq) osq)) := below_step (below_alloc (Below.refl _ _) _) (below_regrown _ _ _)
        have z0 := t0 dq osq
        have z1 := t1 dq osq
        clear q0 q1 q2 t0 t1 HX HL1 HP1
        generalize Go.Sort.grow (redrawn (w.alloc (.cells #[.int .u16 r, .int .u32 y] 26)) dq) osq = W at HX2 HBW z0 z1 ⊢
        have HOW : Hid (∀ o', (W.alloc o').ownsRow w0.heap.size 43 3 (.slice (some ⟨gg, 0, none⟩) (D.length + 1) cap) (D.length + 1) (layS.flat (D ++ [(r, n, l)]))) := fun o' => by have := (HX2.out.alloc o').1; rw [HL.out] at this; exact this
        go_wp2_with (first
          | (at_builtin; refine wpList_append_where _ rfl (.tmp 38) (.tmp 41) 22 rfl w0.heap.size 43 i0 (.agg #[.int .u16 0, .int .u32 0, .int .i64 0]) 3 16 Try.underlying22 hi hz0 hz1 hz2 rfl (by decide) _ (D.length + 1) (layS.flat (D ++ [(r, n, l)])) rfl (HOW.out _) ⟨W.heap.size, 0, none⟩ 1 1 [.int .u16 r, .int .u32 y, .int .i64 1] rfl rfl (cells_new (cs := [.int .u16 r, .int .u32 y, .int .i64 1])) (layS.one (r, y, 1)) (by unfold maxLen; omega) (by omega) (by have := HX2.out.2.size; simp; omega) (by decide) ?_))
        intro v' w1 hown' hgrow hwh
        have HJ : Hid (Joined w0 (.slice (some ⟨gg, 0, none⟩) (D.length + 1) cap) (D ++ [(r, n, l)]) (r, y) w (.returned v') w1) := joined_append (HX2.out.alloc _) (below_alloc HBW.out _) (by rw [HL.out]; exact hown') hgrow (fun j hj => (hwh j hj).imp id fun h => by simp; omega) HJ.out
        clear hown' hgrow hwh
        go_wp2
        go_ret
        exact HJ.out
      · have hx' : (r == x) = false := by simp [hx]
        have HJ : Hid (joinL (D ++ [(r, n, l)]) (x, y) = (D ++ [(r, n, l)]) ++ [(x, y, 1)]) := by show _ = _; rw [joinL_snoc, if_neg (fun h => he h.2)]
        go_enter Try.func44, Try.ntmps44
        go_wp2_with fail
        refine wp_region_quiet_below (by kernel_rfl) (by kernel_rfl) ?_
        repeat (go_big_quiet_step (first | (go_at_call 22; exact Calls.regrown_of (HL1.out _)) | (go_at_call 40; exact Calls.regrown_of (HP1.out _))))
        refine wpQuiet_nil ?_
        intro _ hw'
        obtain ⟨⟨dq, osq⟩, hw''⟩ := hw'
        subst hw''
        have HX2 : Hid (Hold layS w0 43 (.slice (some ⟨gg, 0, none⟩) (D.length + 1) cap) (D ++ [(r, n, l)]) (Go.Sort.grow (redrawn (w.alloc (.cells #[.int .u16 x, .int .u32 y] 26)) dq) osq)) := HO.out.below (below_step (below_alloc (Below.refl _ _) _) (below_regrown _ _ _))
        have HBW : Hid (Below w.heap.size w (Go.Sort.grow (redrawn (w.alloc (.cells #[.int .u16 x, .int .u32 y] 26)) dq) osq)) := below_step (below_alloc (Below.refl _ _) _) (below_regrown _ _ _)
        have z0 := t0 dq osq
        have z1 := t1 dq osq
        clear q0 q1 q2 t0 t1 HX HL1 HP1
        generalize Go.Sort.grow (redrawn (w.alloc (.cells #[.int .u16 x, .int .u32 y] 26)) dq) osq = W at HX2 HBW z0 z1 ⊢
        have HOW : Hid (∀ o', (W.alloc o').ownsRow w0.heap.size 43 3 (.slice (some ⟨gg, 0, none⟩) (D.length + 1) cap) (D.length + 1) (layS.flat (D ++ [(r, n, l)]))) := fun o' => by have := (HX2.out.alloc o').1; rw [HL.out] at this; exact this
        go_wp2_with (first
          | (at_builtin; refine wpList_append_where _ rfl (.tmp 38) (.tmp 41) 22 rfl w0.heap.size 43 i0 (.agg #[.int .u16 0, .int .u32 0, .int .i64 0]) 3 16 Try.underlying22 hi hz0 hz1 hz2 rfl (by decide) _ (D.length + 1) (layS.flat (D ++ [(r, n, l)])) rfl (HOW.out _) ⟨W.heap.size, 0, none⟩ 1 1 [.int .u16 x, .int .u32 y, .int .i64 1] rfl rfl (cells_new (cs := [.int .u16 x, .int .u32 y, .int .i64 1])) (layS.one (x, y, 1)) (by unfold maxLen; omega) (by omega) (by have := HX2.out.2.size; simp; omega) (by decide) ?_))
        intro v' w1 hown' hgrow hwh
        have HJ : Hid (Joined w0 (.slice (some ⟨gg, 0, none⟩) (D.length + 1) cap) (D ++ [(r, n, l)]) (x, y) w (.returned v') w1) := joined_append (HX2.out.alloc _) (below_alloc HBW.out _) (by rw [HL.out]; exact hown') hgrow (fun j hj => (hwh j hj).imp id fun h => by simp; omega) HJ.out
        clear hown' hgrow hwh
        go_wp2
        go_ret
        exact HJ.out
  · have h3' : decide (l < 1024) = false := decide_eq_false h3
    have HJ : Hid (joinL (D ++ [(r, n, l)]) (x, y) = (D ++ [(r, n, l)]) ++ [(x, y, 1)]) := by show _ = _; rw [joinL_snoc, if_neg (fun h => h3 h.1)]
    go_enter Try.func44, Try.ntmps44
    go_wp2_with fail
    go_quiet (fail)
    have HOD : Hid (∀ k o o', Hold layS w0 43 (.slice (some ⟨gg, 0, none⟩) (D.length + 1) cap) (D ++ [(r, n, l)]) (((w.alloc o).drewN k).alloc o')) := fun k o o' => ((HO.out.alloc o).drewN k).alloc o'
    have HOW : Hid (∀ k o o', (((w.alloc o).drewN k).alloc o').ownsRow w0.heap.size 43 3 (.slice (some ⟨gg, 0, none⟩) (D.length + 1) cap) (D.length + 1) (layS.flat (D ++ [(r, n, l)]))) := fun k o o' => by have := (HOD.out k o o').1; rw [HL.out] at this; exact this
    have HBD : Hid (∀ n o o', Below w.heap.size w (((w.alloc o).drewN n).alloc o')) := fun n o o' => below_alloc (below_drewN (below_alloc (Below.refl _ _) o) n) o'
    go_wp2_with (first
      | (at_builtin; refine wpList_append_where _ rfl (.tmp 38) (.tmp 41) 22 rfl w0.heap.size 43 i0 (.agg #[.int .u16 0, .int .u32 0, .int .i64 0]) 3 16 Try.underlying22 hi hz0 hz1 hz2 rfl (by decide) _ (D.length + 1) (layS.flat (D ++ [(r, n, l)])) rfl (HOW.out _ _ _) ⟨w.heap.size + 1, 0, none⟩ 1 1 [.int .u16 x, .int .u32 y, .int .i64 1] rfl rfl (by have := @cells_new ((w.alloc (Obj.cells #[Value.int IntKind.u16 x, Value.int IntKind.u32 y] 26)).drewN nq) [.int .u16 x, .int .u32 y, .int .i64 1] 43; simpa using this) (layS.one (x, y, 1)) (by unfold maxLen; omega) (by omega) (by have := HO.out.2.size; simp; omega) (by decide) ?_))
    intro v' w1 hown' hgrow hwh
    have HJ : Hid (Joined w0 (.slice (some ⟨gg, 0, none⟩) (D.length + 1) cap) (D ++ [(r, n, l)]) (x, y) w (.returned v') w1) := joined_append (HOD.out _ _ _) (HBD.out _ _ _) (by rw [HL.out]; exact hown') hgrow (fun j hj => (hwh j hj).imp id fun h => by simp; omega) HJ.out
    clear hown' hgrow hwh
    go_wp2
    go_ret
    exact HJ.out
theorem join_any (A : List Sp) (a : Nm) (v : Value) (w0 w : World) (hO : Hold layS w0 43 v A w) (hA : RightS A) (hl : A.length ≤ 100000) :
    Calls Try.prog 44 #[v, nv a] w (Joined w0 v A a w) := by
  by_cases h : A = []
  · subst h; exact join_none a v w0 w hO
  · have e := (List.dropLast_concat_getLast h).symm
    generalize A.dropLast = D at e
    generalize A.getLast h = s at e
    subst e
    exact join_some D s a v w0 w hO (hA s (by simp)) (by simp at hl; omega)
end Go.Proofs.Ytoadifbbmfaakaa
