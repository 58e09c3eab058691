
/-
  What the program's Plus, Right of a name, and of a span Last, Right, size, Has and Cut hand back. No conditions beyond what each theorem states.
-/
import Derived.Test.YtedlmngfkkpmgaaSpanSpec
namespace Go.Proofs.Ytedlmngfkkpmgaa
open Go.ChangeShapes Go.WideShapes Go.ChangeAt Go.RowKit Go.Lib
set_option linter.unusedVariables false
set_option linter.unusedSimpArgs false

theorem szI : (Try.prog.info? 66).map (·.size) = some 2 := by kernel_rfl
theorem szS : (Try.prog.info? 114).map (·.size) = some 3 := by kernel_rfl
/-- A variable of a call's, behind another call. -/
theorem kept_box {w w1 : World} {B : Nat} {cs : Array Value} {t : TypeId} (h : w.heap[B]? = some (.cells cs t (0, 0))) (hb : Below w.heap.size w w1) : w1.heap[B]? = some (.cells cs t (0, 0)) := by
  rw [hb.block B (lt_of_block h)]; exact h
theorem box_two {w : World} {B : Nat} {u v u' v' : Value} {t : TypeId} (h : w.heap[B]? = some (.cells #[u, v] t (0, 0))) : ((w.setCell ⟨B, 0, none⟩ u').setCell ⟨B, 1, none⟩ v').heap[B]? = some (.cells #[u', v'] t (0, 0)) := by
  have h1 := heap_setCell_same w B 0 _ t u' h
  have h2 := heap_setCell_same _ B 1 _ t v' h1
  simpa using h2
theorem box_three {w : World} {B : Nat} {u v x u' v' x' : Value} {t : TypeId} (h : w.heap[B]? = some (.cells #[u, v, x] t (0, 0))) : (((w.setCell ⟨B, 0, none⟩ u').setCell ⟨B, 1, none⟩ v').setCell ⟨B, 2, none⟩ x').heap[B]? = some (.cells #[u', v', x'] t (0, 0)) := by
  have h1 := heap_setCell_same w B 0 _ t u' h
  have h2 := heap_setCell_same _ B 1 _ t v' h1
  have h3 := heap_setCell_same _ B 2 _ t x' h2
  simpa using h3

theorem plus_any (a : Nm) (k m : Int) (w : World) (hm : (a.2 + k) % 4294967296 = m) :
    Calls Try.prog 85 #[nv a, .int .i64 k] w fun e w' => e = .returned (nv (a.1, m)) ∧ Below w.heap.size w w' := by
  obtain ⟨r, n⟩ := a
  subst hm
  unfold nv
  simp only
  go_enter Try.func85, Try.ntmps85
  go_wp2
  (try simp only [Exit.inBlock, Exit.then])
  refine bodyPost_ret (results_cell_row rfl _ _ (w.heap.size + 1) 66 #[.int .u16 r, .int .u32 ((n + k) % 4294967296)] (0, 0) _ rfl (heap_alloc2_new w _ _) Try.underlying66 rfl szI) rfl ?_
  exact ⟨rfl, below_alloc (below_alloc (Below.refl _ _) _) _⟩
theorem idright_any (a : Nm) (w : World) :
    Calls Try.prog 78 #[nv a] w fun e w' => e = .returned (.bool (rightN a)) ∧ Below w.heap.size w w' := by
  obtain ⟨r, n⟩ := a
  unfold nv
  simp only
  by_cases h1 : 1 ≤ n
  · by_cases h2 : n ≤ 268435456
    · have HT : Hid (rightN (r, n) = true) := rightN_iff.2 ⟨h1, h2⟩
      go_enter Try.func78, Try.ntmps78
      go_wp2
      go_ret
      exact ⟨by rw [HT.out]; rfl, below_alloc (Below.refl _ _) _⟩
    · have HT : Hid (rightN (r, n) = false) := decide_eq_false fun h => h2 h.2
      go_enter Try.func78, Try.ntmps78
      go_wp2
      go_ret
      exact ⟨by rw [HT.out]; rfl, below_alloc (Below.refl _ _) _⟩
  · have HT : Hid (rightN (r, n) = false) := decide_eq_false fun h => h1 h.1
    go_enter Try.func78, Try.ntmps78
    go_wp2
    go_ret
    exact ⟨by rw [HT.out]; rfl, below_alloc (Below.refl _ _) _⟩
/-- The last name: that of any span whose names don't wrap. -/
theorem last_any (s : Sp) (w : World) (h0 : 0 ≤ s.2.1) (h1 : 1 ≤ s.2.2) (h2 : s.2.1 + s.2.2 ≤ 4294967296) :
    Calls Try.prog 82 #[sv s] w fun e w' => e = .returned (nv (s.1, s.2.1 + s.2.2 - 1)) ∧ Below w.heap.size w w' := by
  obtain ⟨r, n, l⟩ := s
  simp only at h0 h1 h2
  have H := Lib.hid (fun W => plus_any (r, n) (l - 1) (n + l - 1) W (by simp only; omega))
  unfold sv nv
  unfold nv at H
  simp only at H ⊢
  go_enter Try.func82, Try.ntmps82
  go_wp2_with (fail)
  refine (H.out _).mono ?_
  rintro e w1 ⟨rfl, hb1⟩
  have hx := kept_box (heap_alloc2_new w _ _) hb1
  have HB : Hid (Below w.heap.size w w1) := below_step (below_alloc (below_alloc (Below.refl _ _) _) _) hb1
  have HX := Lib.hid hx
  have f0 : ∀ o, w1.frozen? ⟨w.heap.size + 1, o, none⟩ = false := fun o => frozen_of_block hx
  have d0 : w1.cell? ⟨w.heap.size + 1, 0, none⟩ = some (.int .u16 0) := by rw [cell_of_block hx]; rfl
  have d1 : w1.cell? ⟨w.heap.size + 1, 1, none⟩ = some (.int .u32 0) := by rw [cell_of_block hx]; rfl
  clear hx hb1
  go_wp2
  (try simp only [Exit.inBlock, Exit.then])
  refine bodyPost_ret (results_cell_row rfl _ _ (w.heap.size + 1) 66 #[.int .u16 r, .int .u32 (n + l - 1)] (0, 0) _ rfl (box_two HX.out) Try.underlying66 rfl szI) rfl ?_
  exact ⟨rfl, (HB.out.setCell (p := ⟨w.heap.size + 1, 0, none⟩) (by simp) _).setCell (p := ⟨w.heap.size + 1, 1, none⟩) (by simp) _⟩
theorem three_cells {w : World} {B : Nat} {u v x : Value} {t : TypeId} (h : w.heap[B]? = some (.cells #[u, v, x] t (0, 0))) : w.cell? ⟨B, 0, none⟩ = some u ∧ w.cell? ⟨B, 1, none⟩ = some v ∧ w.cell? ⟨B, 2, none⟩ = some x :=
  ⟨by rw [cell_of_block h]; rfl, by rw [cell_of_block h]; rfl, by rw [cell_of_block h]; rfl⟩
theorem two_cells {w : World} {B : Nat} {u v : Value} {t : TypeId} (h : w.heap[B]? = some (.cells #[u, v] t (0, 0))) : w.cell? ⟨B, 0, none⟩ = some u ∧ w.cell? ⟨B, 1, none⟩ = some v :=
  ⟨by rw [cell_of_block h]; rfl, by rw [cell_of_block h]; rfl⟩
set_option maxHeartbeats 800000 in
theorem right_spec : RightSpec := by
  intro s w hf
  obtain ⟨r, n, l⟩ := s
  unfold FitS at hf
  simp only at hf
  obtain ⟨_, _, hn0, hn1, hl0, hl1⟩ := hf
  have HR : Hid (rightS (r, n, l) = decide (1 ≤ n ∧ 1 ≤ l ∧ l ≤ 1024 ∧ n ≤ 268435456 ∧ n + l - 1 ≤ 268435456)) := rfl
  unfold sv
  simp only
  by_cases h2 : 1 ≤ l
  · by_cases h3 : l ≤ 1024
    · by_cases h1 : rightN (r, n) = true
      · obtain ⟨h4, h5⟩ := rightN_iff.1 h1
        simp only at h4 h5
        have H1 : Hid (∀ W : World, Calls Try.prog 78 #[.agg #[.int .u16 r, .int .u32 n]] W fun e w' => e = .returned (.bool true) ∧ Below W.heap.size W w') := fun W => by have := idright_any (r, n) W; rw [h1] at this; exact this
        have H2 := Lib.hid (fun W => last_any (r, n, l) W (by simp only; omega) (by simp only; omega) (by simp only; omega))
        have H3 : Hid (∀ W : World, Calls Try.prog 78 #[.agg #[.int .u16 r, .int .u32 (n + l - 1)]] W fun e w' => e = .returned (.bool (decide (n + l - 1 ≤ 268435456))) ∧ Below W.heap.size W w') := fun W => by
          have := idright_any (r, n + l - 1) W
          rw [show rightN (r, n + l - 1) = decide (n + l - 1 ≤ 268435456) by unfold rightN; simp only; congr 1; apply propext; omega] at this
          exact this
        have HT : Hid (rightS (r, n, l) = decide (n + l - 1 ≤ 268435456)) := by
          show rightS (r, n, l) = _
          rw [HR.out]; congr 1; apply propext; omega
        unfold sv nv at H2
        simp only at H2
        clear HR h1
        go_enter Try.func79, Try.ntmps79
        go_wp2_with fail
        refine (H1.out _).mono ?_
        rintro e w1 ⟨rfl, hb1⟩
        have HX := Lib.hid (kept_box (heap_alloc_new w _) hb1)
        have HB : Hid (Below w.heap.size w w1) := below_step (below_alloc (Below.refl _ _) _) hb1
        obtain ⟨d0, d1, d2⟩ := three_cells HX.out
        clear hb1 H1
        go_wp2_with fail
        refine (H2.out _).mono ?_
        rintro e w2 ⟨rfl, hb2⟩
        have HX := Lib.hid (kept_box HX.out hb2)
        have HB : Hid (Below w.heap.size w w2) := below_step HB.out hb2
        clear hb2 H2 d0 d1 d2
        go_wp2_with fail
        refine (H3.out _).mono ?_
        rintro e w3 ⟨rfl, hb3⟩
        have HB : Hid (Below w.heap.size w w3) := below_step HB.out hb3
        clear hb3 H3 HX
        go_wp2
        go_ret
        exact ⟨by rw [HT.out]; rfl, HB.out⟩
      · have h1' : rightN (r, n) = false := by simpa using h1
        have H1 : Hid (∀ W : World, Calls Try.prog 78 #[.agg #[.int .u16 r, .int .u32 n]] W fun e w' => e = .returned (.bool false) ∧ Below W.heap.size W w') := fun W => by have := idright_any (r, n) W; rw [h1'] at this; exact this
        have HT : Hid (rightS (r, n, l) = false) := by rw [HR.out]; exact decide_eq_false fun h => h1 (rightN_iff.2 ⟨h.1, h.2.2.2.1⟩)
        clear HR h1 h1'
        go_enter Try.func79, Try.ntmps79
        go_wp2_with fail
        refine (H1.out _).mono ?_
        rintro e w1 ⟨rfl, hb1⟩
        have HB : Hid (Below w.heap.size w w1) := below_step (below_alloc (Below.refl _ _) _) hb1
        clear hb1 H1
        go_wp2
        go_ret
        exact ⟨by rw [HT.out]; rfl, HB.out⟩
    · have HT : Hid (rightS (r, n, l) = false) := by rw [HR.out]; exact decide_eq_false fun h => h3 h.2.2.1
      go_enter Try.func79, Try.ntmps79
      go_wp2
      go_ret
      exact ⟨by rw [HT.out]; rfl, below_alloc (Below.refl _ _) _⟩
  · have HT : Hid (rightS (r, n, l) = false) := by rw [HR.out]; exact decide_eq_false fun h => h2 h.2.1
    go_enter Try.func79, Try.ntmps79
    go_wp2
    go_ret
    exact ⟨by rw [HT.out]; rfl, below_alloc (Below.refl _ _) _⟩
theorem last_spec : LastSpec := by
  intro s w hr hf
  have h := rightS_iff.1 hr
  exact last_any s w (by omega) (by omega) (by omega)
theorem size_any (s : Sp) (w : World) (hr : rightS s = true) (hf : FitS s) : Calls Try.prog 72 #[sv s] w fun e w' => e = .returned (.int .i64 s.2.2) ∧ Below w.heap.size w w' := by
  have H := Lib.hid (fun W => right_spec s W hf)
  rw [hr] at H
  clear hr hf
  obtain ⟨r, n, l⟩ := s
  unfold sv at H ⊢
  simp only at H ⊢
  go_enter Try.func72, Try.ntmps72
  go_wp2_with fail
  refine (H.out _).mono ?_
  rintro e w1 ⟨rfl, hb1⟩
  have HX := Lib.hid (kept_box (heap_alloc_new w _) hb1)
  have HB : Hid (Below w.heap.size w w1) := below_step (below_alloc (Below.refl _ _) _) hb1
  obtain ⟨d0, d1, d2⟩ := three_cells HX.out
  clear hb1 H
  go_wp2
  go_ret
  exact ⟨rfl, HB.out⟩
/-- Has, of any span that the kinds hold. -/
theorem has_any (s : Sp) (a : Nm) (w : World) (hf : FitS s) (ha : FitN a) : Calls Try.prog 84 #[sv s, nv a] w fun e w' => e = .returned (.bool (decide (a ∈ idsS s))) ∧ Below w.heap.size w w' := by
  obtain ⟨r, n, l⟩ := s
  obtain ⟨x, y⟩ := a
  unfold FitS at hf
  unfold FitN at ha
  simp only at hf ha
  obtain ⟨_, _, hn0, hn1, hl0, hl1⟩ := hf
  obtain ⟨_, _, hy0, hy1⟩ := ha
  have HM : Hid (decide ((x, y) ∈ idsS (r, n, l)) = decide (x = r ∧ n ≤ y ∧ y - n < l)) := by
    show _ = _
    congr 1
    rw [mem_idsS]
    simp only
    apply propext
    omega
  unfold sv nv
  simp only
  by_cases h1 : x = r
  · subst h1
    by_cases h2 : n ≤ y
    · have q1 : (y - n) % 4294967296 = y - n := by omega
      have HT : Hid (decide ((x, y) ∈ idsS (x, n, l)) = decide (y - n < l)) := by
        show _ = _
        rw [HM.out]; congr 1; apply propext; omega
      clear HM
      go_enter Try.func84, Try.ntmps84
      go_wp2
      go_ret
      exact ⟨by rw [HT.out]; rfl, below_alloc (below_alloc (Below.refl _ _) _) _⟩
    · have HT : Hid (decide ((x, y) ∈ idsS (x, n, l)) = false) := by rw [HM.out]; exact decide_eq_false fun h => h2 h.2.1
      clear HM
      go_enter Try.func84, Try.ntmps84
      go_wp2
      go_ret
      exact ⟨by rw [HT.out]; rfl, below_alloc (below_alloc (Below.refl _ _) _) _⟩
  · have h1' : (x == r) = false := by simp [h1]
    have HT : Hid (decide ((x, y) ∈ idsS (r, n, l)) = false) := by rw [HM.out]; exact decide_eq_false fun h => h1 h.1
    clear HM
    go_enter Try.func84, Try.ntmps84
    go_wp2
    go_ret
    exact ⟨by rw [HT.out]; rfl, below_alloc (below_alloc (Below.refl _ _) _) _⟩
theorem has_spec : HasSpec := fun s a w _ hf ha => has_any s a w hf ha
end Go.Proofs.Ytedlmngfkkpmgaa
