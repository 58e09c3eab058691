
/-
  What the document's own Byte and Apply of layer 4 hand back: of any byte, and of any walk and place that are not great. No conditions beyond what each theorem states.
-/
import Derived.Test.YtglcihfcnbifcaaDoorWalkText
namespace Go.Proofs.YtglcihfcnbifcaaDoor
open Go.ChangeShapes Go.WideShapes Go.ChangeAt Go.RowKit Go.Sort
set_option linter.unusedVariables false
set_option linter.unusedSimpArgs false

/-- A walk of the document's, as a value, and its block that stays. -/
def iw (w : Wi) : Value := .agg #[.int .i64 w.1.1, .int .i64 w.1.2, .int .i64 w.2.1, .int .i64 w.2.2]
def gv (z : Gi) : Value := .agg #[.int .i64 z.1, .int .i64 z.2]
def IBox (K : Nat) (p : Wi) (w : World) : Prop := w.heap[K]? = some (.cells #[.int .i64 p.1.1, .int .i64 p.1.2, .int .i64 p.2.1, .int .i64 p.2.2] 26 (0, 0))
theorem IBox.lt {K : Nat} {a : Wi} {w : World} (h : IBox K a w) : K < w.heap.size := (Array.getElem?_eq_some_iff.1 h).1
theorem IBox.cell0 {K : Nat} {a : Wi} {w : World} (h : IBox K a w) : w.cell? ⟨K, 0, none⟩ = some (.int .i64 a.1.1) := by unfold IBox at h; simp [World.cell?, h]
theorem IBox.cell1 {K : Nat} {a : Wi} {w : World} (h : IBox K a w) : w.cell? ⟨K, 1, none⟩ = some (.int .i64 a.1.2) := by unfold IBox at h; simp [World.cell?, h]
theorem IBox.cell2 {K : Nat} {a : Wi} {w : World} (h : IBox K a w) : w.cell? ⟨K, 2, none⟩ = some (.int .i64 a.2.1) := by unfold IBox at h; simp [World.cell?, h]
theorem IBox.cell3 {K : Nat} {a : Wi} {w : World} (h : IBox K a w) : w.cell? ⟨K, 3, none⟩ = some (.int .i64 a.2.2) := by unfold IBox at h; simp [World.cell?, h]
theorem IBox.frozen {K : Nat} {a : Wi} {w : World} (h : IBox K a w) (o : Nat) : w.frozen? ⟨K, o, none⟩ = false := by unfold IBox at h; simp [World.frozen?, h]
theorem IBox.alloc {K : Nat} {a : Wi} {w : World} (h : IBox K a w) (o : Obj) : IBox K a (w.alloc o) := by
  have hlt := h.lt
  unfold IBox
  rw [Below.heap_alloc _ _ _ hlt]; exact h
theorem IBox.below {K : Nat} {a : Wi} {w w' : World} (h : IBox K a w) (hb : Below w.heap.size w w') : IBox K a w' := by
  have hlt := h.lt
  unfold IBox
  rw [hb.block _ hlt]; exact h
theorem IBox.new (w : World) (a : Wi) : IBox w.heap.size a (w.alloc (.cells #[.int .i64 a.1.1, .int .i64 a.1.2, .int .i64 a.2.1, .int .i64 a.2.2] 26)) := heap_alloc_new w _
theorem IBox.set {K : Nat} {a : Wi} {w : World} (h : IBox K a w) (x y u v : Int) : IBox K ((x, y), (u, v)) ((((w.setCell ⟨K, 0, none⟩ (.int .i64 x)).setCell ⟨K, 1, none⟩ (.int .i64 y)).setCell ⟨K, 2, none⟩ (.int .i64 u)).setCell ⟨K, 3, none⟩ (.int .i64 v)) := by
  unfold IBox at h ⊢
  simp [World.setCell, Array.getElem?_modify, h]
theorem IBox.apart {K J : Nat} {a : Wi} {w : World} (h : IBox K a w) (hne : K ≠ J) (x y : Value) : IBox K a ((w.setCell ⟨J, 0, none⟩ x).setCell ⟨J, 1, none⟩ y) := by
  unfold IBox at h ⊢
  rw [Below.heap_setCell _ _ _ _ hne, Below.heap_setCell _ _ _ _ hne]; exact h
theorem below_set4 {w W : World} {K : Nat} (h : Below w.heap.size w W) (hK : w.heap.size ≤ K) (a b c d : Value) : Below w.heap.size w ((((W.setCell ⟨K, 0, none⟩ a).setCell ⟨K, 1, none⟩ b).setCell ⟨K, 2, none⟩ c).setCell ⟨K, 3, none⟩ d) := (((h.setCell (p := ⟨K, 0, none⟩) hK a).setCell (p := ⟨K, 1, none⟩) hK b).setCell (p := ⟨K, 2, none⟩) hK c).setCell (p := ⟨K, 3, none⟩) hK d

set_option maxHeartbeats 1600000 in
theorem refbyte_any (n : Nat) (hn : n < 256) (w : World) : Calls Tryd.prog 8 #[.int .u8 n] w fun e w' => e = .returned (iw (wbyte n)) ∧ Below w.heap.size w w' := by
  have H : Hid (∀ W, Calls Tryd.prog 19 #[.int .i64 ((n : Int) % 4)] W fun e w' => e = .returned (.agg #[.int .i64 (tRe ((n % 4 : Nat) : Int)), .int .i64 (tIm ((n % 4 : Nat) : Int))]) ∧ Below W.heap.size W w') := fun W => turned_any (n % 4) (by omega) W
  have HW : Hid (iw (wbyte n) = .agg #[.int .i64 (tRe ((n % 4 : Nat) : Int)), .int .i64 (tIm ((n % 4 : Nat) : Int)), .int .i64 ((n : Int) / 4 % 8 + 1), .int .i64 ((n : Int) / 32 + 1)]) := rfl
  generalize tRe ((n % 4 : Nat) : Int) = X at H HW
  generalize tIm ((n % 4 : Nat) : Int) = Y at H HW
  go_enter Tryd.func8, Tryd.ntmps8
  go_wp2_with fail
  refine (H.out _).mono ?_
  rintro e w1 ⟨rfl, hb1⟩
  have HB1 : Hid (Below w.heap.size w w1) := below_step (below_alloc (Below.refl _ _) _) hb1
  have A := (IBox.new w ((0, 0), (0, 0))).below hb1
  have c0 := A.cell0
  have c1 := A.cell1
  have c2 := A.cell2
  have c3 := A.cell3
  have cf := A.frozen
  have HA : Hid (IBox w.heap.size ((0, 0), (0, 0)) w1) := A
  clear hb1 A
  go_wp2_with fail
  have e0 := (HA.out.set X Y ((n : Int) / 4 % 8 + 1) ((n : Int) / 32 + 1)).cell0
  have e1 := (HA.out.set X Y ((n : Int) / 4 % 8 + 1) ((n : Int) / 32 + 1)).cell1
  have e2 := (HA.out.set X Y ((n : Int) / 4 % 8 + 1) ((n : Int) / 32 + 1)).cell2
  have e3 := (HA.out.set X Y ((n : Int) / 4 % 8 + 1) ((n : Int) / 32 + 1)).cell3
  exact bodyPost_ret (v := .agg #[.int .i64 X, .int .i64 Y, .int .i64 ((n : Int) / 4 % 8 + 1), .int .i64 ((n : Int) / 32 + 1)]) (by simp [results, Tryd.results8, go_sem, e0, e1, e2, e3]) rfl ⟨by rw [HW.out], below_set4 HB1.out (Nat.le_refl _) _ _ _ _⟩

set_option maxHeartbeats 1600000 in
theorem refapply_any (p : Wi) (z : Gi) (hp : Un p.1) (hn : Near 33554432 p.2) (hz : Near 33554432 z) (w : World) :
    Calls Tryd.prog 20 #[iw p, gv z] w fun e w' => e = .returned (gv (wapp p z)) ∧ Below w.heap.size w w' := by
  obtain ⟨⟨a, b⟩, ⟨c, d⟩⟩ := p
  obtain ⟨x, y⟩ := z
  have hu := un_one hp
  have hg := un_near hp hz
  unfold Near at hn hz hu hg
  simp only at hn hz hu hg
  have H : Hid (∀ W, Calls Tryd.prog 27 #[.agg #[.int .i64 a, .int .i64 b], .agg #[.int .i64 x, .int .i64 y]] W fun e w' => e = .returned (.agg #[.int .i64 (gmul (a, b) (x, y)).1, .int .i64 (gmul (a, b) (x, y)).2]) ∧ Below W.heap.size W w') := fun W => times_any (a := a) (b := b) (c := x) (d := y) ⟨by omega, by omega⟩ ⟨by omega, by omega⟩ ⟨by omega, by omega⟩ ⟨by omega, by omega⟩ W
  have HW : Hid (gv (wapp ((a, b), (c, d)) (x, y)) = .agg #[.int .i64 ((gmul (a, b) (x, y)).1 + c), .int .i64 ((gmul (a, b) (x, y)).2 + d)]) := rfl
  generalize (gmul (a, b) (x, y)).1 = P1 at H HW hg
  generalize (gmul (a, b) (x, y)).2 = P2 at H HW hg
  have w1 := wrap_id (n := P1 + c) (by omega) (by omega)
  have w2 := wrap_id (n := P2 + d) (by omega) (by omega)
  clear hp hu
  unfold iw
  rw [show gv (x, y) = .agg #[.int .i64 x, .int .i64 y] from rfl]
  simp only
  go_enter Tryd.func20, Tryd.ntmps20
  go_wp2_with fail
  refine (H.out _).mono ?_
  rintro e w3 ⟨rfl, hb3⟩
  have A := (((IBox.new w ((a, b), (c, d))).alloc (.cells #[.int .i64 x, .int .i64 y] 24)).alloc (.cells #[.int .i64 0, .int .i64 0] 24)).below hb3
  have R : GBox (w.heap.size + 1 + 1) 0 0 w3 := by
    have h := GBox.new ((w.alloc (.cells #[.int .i64 a, .int .i64 b, .int .i64 c, .int .i64 d] 26)).alloc (.cells #[.int .i64 x, .int .i64 y] 24)) 0 0
    have h2 := h.below hb3
    simpa using h2
  have HB3 : Hid (Below w.heap.size w w3) := below_step (below_alloc (below_alloc (below_alloc (Below.refl _ _) _) _) _) hb3
  have A' := A.alloc (.cells #[.int .i64 P1, .int .i64 P2] 24)
  have R' := R.alloc (.cells #[.int .i64 P1, .int .i64 P2] 24)
  have a2 := A'.cell2
  have a3 := A'.cell3
  have r0 := R'.cell0
  have r1 := R'.cell1
  have rf := R'.frozen
  simp only at a2 a3
  have HR : Hid (GBox (w.heap.size + 1 + 1) 0 0 (w3.alloc (.cells #[.int .i64 P1, .int .i64 P2] 24))) := R'
  clear A R A' R' hb3
  go_wp2_with fail
  have e0 := (HR.out.set (P1 + c) (P2 + d)).cell0
  have e1 := (HR.out.set (P1 + c) (P2 + d)).cell1
  exact bodyPost_ret (v := .agg #[.int .i64 (P1 + c), .int .i64 (P2 + d)]) (by simp [results, Tryd.results20, go_sem, e0, e1]) rfl ⟨by rw [HW.out], below_set (below_alloc HB3.out _) (by omega) _ _⟩

end Go.Proofs.YtglcihfcnbifcaaDoor
