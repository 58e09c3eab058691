
/-
  What the program's Cut of layer 7 hands back. No conditions beyond what each theorem states.
-/
import Derived.Test.YtoadifbbmfaakaaSpanProg1
namespace Go.Proofs.Ytoadifbbmfaakaa
open Go.ChangeShapes Go.WideShapes Go.ChangeAt Go.RowKit Go.Lib
set_option linter.unusedVariables false
set_option linter.unusedSimpArgs false

theorem results_cct {P : Program} {fn : Func} {p q u : Tmp} {ty : TypeId} (h : fn.results = #[.cell p ty, .cell q ty, .tmp u]) (tmps : Array Value) (w : World) (a b : Addr) (va vb : Value)
    (hp : tmps.getD p undef = .pointer (some a)) (hq : tmps.getD q undef = .pointer (some b)) (la : (loadVar ty a).run P w = .ok va w) (lb : (loadVar ty b).run P w = .ok vb w) :
    (results fn tmps).run P w = .ok (.tuple #[va, vb, tmps.getD u undef]) w := by
  have hp' : tmps[p]?.getD undef = .pointer (some a) := by simpa using hp
  have hq' : tmps[q]?.getD undef = .pointer (some b) := by simpa using hq
  simp [results, h, hp', hq', asAddr, la, lb]
theorem load_box {w : World} {B : Nat} {r n l : Int} {t : TypeId} (h : w.heap[B]? = some (.cells #[.int .u16 r, .int .u32 n, .int .i64 l] t (0, 0))) : (loadVar 43 ⟨B, 0, none⟩).run Try.prog w = .ok (sv (r, n, l)) w :=
  run_loadVar_row w B t 43 _ (0, 0) _ h Try.underlying43 rfl szS

theorem three_blocks (w : World) (A B C : Obj) : (((w.alloc A).alloc B).alloc C).heap[w.heap.size]? = some A ∧ (((w.alloc A).alloc B).alloc C).heap[w.heap.size + 1]? = some B ∧ (((w.alloc A).alloc B).alloc C).heap[w.heap.size + 2]? = some C := by
  have h1 : (w.alloc A).heap.size = w.heap.size + 1 := by simp
  have h2 : ((w.alloc A).alloc B).heap.size = w.heap.size + 2 := by simp
  refine ⟨?_, ?_, ?_⟩
  · rw [Go.heap_alloc_old ((w.alloc A).alloc B) C (by omega)]; exact heap_alloc2_old w A B
  · rw [Go.heap_alloc_old ((w.alloc A).alloc B) C (by omega)]; exact heap_alloc2_new w A B
  · rw [← h2]; exact heap_alloc_new _ _
theorem cut_facts {W w1 : World} {B : Nat} {r n l : Value} {t : TypeId} (h : W.heap[B]? = some (.cells #[r, n, l] t (0, 0)) ∧ W.heap[B + 1]? = some (.cells #[.int .u16 0, .int .u32 0, .int .i64 0] t (0, 0)) ∧ W.heap[B + 2]? = some (.cells #[.int .u16 0, .int .u32 0, .int .i64 0] t (0, 0))) (hb : Below W.heap.size W w1) :
    w1.cell? ⟨B, 0, none⟩ = some r ∧ w1.cell? ⟨B, 1, none⟩ = some n ∧ w1.cell? ⟨B, 2, none⟩ = some l ∧
    (∀ o, w1.frozen? ⟨B + 1, o, none⟩ = false) ∧ w1.cell? ⟨B + 1, 0, none⟩ = some (.int .u16 0) ∧ w1.cell? ⟨B + 1, 1, none⟩ = some (.int .u32 0) ∧ w1.cell? ⟨B + 1, 2, none⟩ = some (.int .i64 0) ∧
    (∀ o, w1.frozen? ⟨B + 2, o, none⟩ = false) ∧ w1.cell? ⟨B + 2, 0, none⟩ = some (.int .u16 0) ∧ w1.cell? ⟨B + 2, 1, none⟩ = some (.int .u32 0) ∧ w1.cell? ⟨B + 2, 2, none⟩ = some (.int .i64 0) ∧
    Hid (w1.heap[B + 1]? = some (.cells #[.int .u16 0, .int .u32 0, .int .i64 0] t (0, 0))) ∧ Hid (w1.heap[B + 2]? = some (.cells #[.int .u16 0, .int .u32 0, .int .i64 0] t (0, 0))) ∧ Hid (Below W.heap.size W w1) := by
  have h0 := kept_box h.1 hb
  have h1 := kept_box h.2.1 hb
  have h2 := kept_box h.2.2 hb
  obtain ⟨a1, a2, a3⟩ := three_cells h0
  obtain ⟨b1, b2, b3⟩ := three_cells h1
  obtain ⟨c1, c2, c3⟩ := three_cells h2
  exact ⟨a1, a2, a3, fun _ => frozen_of_block h1, b1, b2, b3, fun _ => frozen_of_block h2, c1, c2, c3, h1, h2, hb⟩
theorem stored2 {w : World} {A B : Nat} {a b c d e f : Value} {t : TypeId} (hne : A ≠ B) (h1 : w.heap[A]? = some (.cells #[a, b, c] t (0, 0))) (h2 : w.heap[B]? = some (.cells #[d, e, f] t (0, 0))) (u v x y z q : Value) :
    ((((((w.setCell ⟨A, 0, none⟩ u).setCell ⟨A, 1, none⟩ v).setCell ⟨A, 2, none⟩ x).setCell ⟨B, 0, none⟩ y).setCell ⟨B, 1, none⟩ z).setCell ⟨B, 2, none⟩ q).heap[A]? = some (.cells #[u, v, x] t (0, 0)) ∧
    ((((((w.setCell ⟨A, 0, none⟩ u).setCell ⟨A, 1, none⟩ v).setCell ⟨A, 2, none⟩ x).setCell ⟨B, 0, none⟩ y).setCell ⟨B, 1, none⟩ z).setCell ⟨B, 2, none⟩ q).heap[B]? = some (.cells #[y, z, q] t (0, 0)) := by
  refine ⟨?_, ?_⟩
  · rw [heap_setCell_other _ _ _ _ hne, heap_setCell_other _ _ _ _ hne, heap_setCell_other _ _ _ _ hne]
    exact box_three h1
  · refine box_three (u := d) (v := e) (x := f) ?_
    rw [heap_setCell_other _ _ _ _ hne.symm, heap_setCell_other _ _ _ _ hne.symm, heap_setCell_other _ _ _ _ hne.symm]
    exact h2
theorem stored2_below {w W : World} {A B : Nat} {u v x y z q : Value} (h : Below w.heap.size w W) (ha : w.heap.size ≤ A) (hb : w.heap.size ≤ B) :
    Below w.heap.size w ((((((W.setCell ⟨A, 0, none⟩ u).setCell ⟨A, 1, none⟩ v).setCell ⟨A, 2, none⟩ x).setCell ⟨B, 0, none⟩ y).setCell ⟨B, 1, none⟩ z).setCell ⟨B, 2, none⟩ q) :=
  (((((h.setCell (p := ⟨A, 0, none⟩) ha _).setCell (p := ⟨A, 1, none⟩) ha _).setCell (p := ⟨A, 2, none⟩) ha _).setCell (p := ⟨B, 0, none⟩) hb _).setCell (p := ⟨B, 1, none⟩) hb _).setCell (p := ⟨B, 2, none⟩) hb _
set_option maxHeartbeats 6400000 in
set_option maxRecDepth 100000 in
theorem cut_in (r n l k : Int) (w : World) (n1 : 1 ≤ n) (l2 : l ≤ 1024) (nl : n + l - 1 ≤ 268435456) (h1 : 1 ≤ k) (h2 : k < l) :
    Calls Try.prog 23 #[.agg #[.int .u16 r, .int .u32 n, .int .i64 l], .int .i64 k] w fun e w' => e = .returned (.tuple #[.agg #[.int .u16 r, .int .u32 n, .int .i64 k], .agg #[.int .u16 r, .int .u32 (n + k), .int .i64 (l - k)], .bool true]) ∧ Below w.heap.size w w' := by
  have hz : IntKind.i64.wrap (l - k) = l - k := by rw [IntKind.wrap_i64]; omega
  have H := Lib.hid (fun W => plus_any (r, n) k (n + k) W (by simp only; omega))
  unfold nv at H
  simp only at H
  have HBW : Hid (∀ A B C, Below w.heap.size w (((w.alloc A).alloc B).alloc C).drew) := fun A B C => below_drewN (below_alloc (below_alloc (below_alloc (Below.refl _ _) _) _) _) 1
  have HA : Hid (∀ A B C : Obj, (((w.alloc A).alloc B).alloc C).heap[w.heap.size]? = some A ∧ (((w.alloc A).alloc B).alloc C).heap[w.heap.size + 1]? = some B ∧ (((w.alloc A).alloc B).alloc C).heap[w.heap.size + 2]? = some C) := fun A B C => three_blocks w A B C
  go_enter Try.func23, Try.ntmps23
  go_wp2_with fail
  go_region_with (go_at_call 40; refine (H.out _).mono ?_; rintro e w1 ⟨rfl, hb1⟩; obtain ⟨c0, c1, c2, f1, d0, d1, d2, f2, e0, e1, e2, hx, hy, hB⟩ := cut_facts (by exact HA.out _ _ _) hb1; clear hb1)
  all_goals
    have HS := Lib.hid (stored2 (A := w.heap.size + 1) (B := w.heap.size + 2) (by omega) hx.out hy.out (.int .u16 r) (.int .u32 n) (.int .i64 k) (.int .u16 r) (.int .u32 (n + k)) (.int .i64 (l - k)))
    have hBW : Below w.heap.size w w1 := (HBW.out _ _ _).trans (hB.out.mono (show w.heap.size ≤ _ by first | (simp; done) | (simp; omega)))
    have HSB := Lib.hid (stored2_below (w := w) (W := w1) (A := w.heap.size + 1) (B := w.heap.size + 2) (u := .int .u16 r) (v := .int .u32 n) (x := .int .i64 k) (y := .int .u16 r) (z := .int .u32 (n + k)) (q := .int .i64 (l - k)) hBW (by omega) (by omega))
    clear c0 c1 c2 f1 d0 d1 d2 f2 e0 e1 e2 hx hy hB H HA HBW hBW
    go_wp2
    (try simp only [Exit.inBlock, Exit.then])
    refine bodyPost_ret (results_cct rfl _ _ ⟨w.heap.size + 1, 0, none⟩ ⟨w.heap.size + 2, 0, none⟩ (sv (r, n, k)) (sv (r, n + k, l - k)) rfl rfl (load_box HS.out.1) (load_box HS.out.2)) rfl ⟨rfl, HSB.out⟩
set_option maxHeartbeats 3200000 in
set_option maxRecDepth 100000 in
theorem cut_out (r n l k : Int) (w : World) (h : ¬ (1 ≤ k ∧ k < l)) :
    Calls Try.prog 23 #[.agg #[.int .u16 r, .int .u32 n, .int .i64 l], .int .i64 k] w fun e w' => e = .returned (.tuple #[sv (0, 0, 0), sv (0, 0, 0), .bool false]) ∧ Below w.heap.size w w' := by
  have HA : Hid (∀ A B C : Obj, (((w.alloc A).alloc B).alloc C).heap[w.heap.size]? = some A ∧ (((w.alloc A).alloc B).alloc C).heap[w.heap.size + 1]? = some B ∧ (((w.alloc A).alloc B).alloc C).heap[w.heap.size + 2]? = some C) := fun A B C => three_blocks w A B C
  by_cases h1 : 1 ≤ k
  · have h2 : l ≤ k := by omega
    clear h
    go_enter Try.func23, Try.ntmps23
    go_wp2
    (try simp only [Exit.inBlock, Exit.then])
    exact bodyPost_ret (results_cct rfl _ _ ⟨w.heap.size + 1, 0, none⟩ ⟨w.heap.size + 2, 0, none⟩ (sv (0, 0, 0)) (sv (0, 0, 0)) rfl rfl (load_box (HA.out _ _ _).2.1) (load_box (HA.out _ _ _).2.2)) rfl ⟨rfl, below_alloc (below_alloc (below_alloc (Below.refl _ _) _) _) _⟩
  · have h2 : k < 1 := by omega
    clear h h1
    go_enter Try.func23, Try.ntmps23
    go_wp2
    (try simp only [Exit.inBlock, Exit.then])
    exact bodyPost_ret (results_cct rfl _ _ ⟨w.heap.size + 1, 0, none⟩ ⟨w.heap.size + 2, 0, none⟩ (sv (0, 0, 0)) (sv (0, 0, 0)) rfl rfl (load_box (HA.out _ _ _).2.1) (load_box (HA.out _ _ _).2.2)) rfl ⟨rfl, below_alloc (below_alloc (below_alloc (Below.refl _ _) _) _) _⟩
theorem cut_spec : CutSpec := by
  intro s k w hr hf hk0 hk1
  obtain ⟨r, n, l⟩ := s
  obtain ⟨n1, l1, l2, n2, nl⟩ := rightS_iff.1 hr
  simp only at n1 l1 l2 n2 nl
  by_cases h : 1 ≤ k ∧ k < l
  · have h3 := cut_in r n l k w n1 l2 nl h.1 h.2
    unfold cutA cutB
    simp only
    rw [if_pos h, if_pos h, decide_eq_true h]
    exact h3
  · have h3 := cut_out r n l k w h
    unfold cutA cutB
    simp only
    rw [if_neg h, if_neg h, decide_eq_false h]
    exact h3
end Go.Proofs.Ytoadifbbmfaakaa
