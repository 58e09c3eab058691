
/-
  What the document's own Turned hands back at 0 to 3, and the law's 'is' where the number is the one that is asked for. No conditions beyond what each theorem states.
-/
import Derived.Test.YtglcihfcnbifcaaDoorTurn
namespace Go.Proofs.YtglcihfcnbifcaaDoor
open Go.ChangeShapes Go.WideShapes Go.ChangeAt Go.RowKit Go.Sort
set_option linter.unusedVariables false
set_option linter.unusedSimpArgs false

/-- A box of two numbers that stays. -/
def GBox (K : Nat) (x y : Int) (w : World) : Prop := w.heap[K]? = some (.cells #[.int .i64 x, .int .i64 y] 24 (0, 0))
theorem GBox.cell0 {K : Nat} {x y : Int} {w : World} (h : GBox K x y w) : w.cell? ⟨K, 0, none⟩ = some (.int .i64 x) := by unfold GBox at h; simp [World.cell?, h]
theorem GBox.cell1 {K : Nat} {x y : Int} {w : World} (h : GBox K x y w) : w.cell? ⟨K, 1, none⟩ = some (.int .i64 y) := by unfold GBox at h; simp [World.cell?, h]
theorem GBox.alloc {K : Nat} {x y : Int} {w : World} (h : GBox K x y w) (o : Obj) : GBox K x y (w.alloc o) := by
  have hlt := (Array.getElem?_eq_some_iff.1 h).1
  unfold GBox
  rw [Below.heap_alloc _ _ _ hlt]; exact h
theorem GBox.below {K : Nat} {x y : Int} {w w' : World} (h : GBox K x y w) (hb : Below w.heap.size w w') : GBox K x y w' := by
  have hlt := (Array.getElem?_eq_some_iff.1 h).1
  unfold GBox
  rw [hb.block _ hlt]; exact h
theorem GBox.new (w : World) (x y : Int) : GBox w.heap.size x y (w.alloc (.cells #[.int .i64 x, .int .i64 y] 24)) := heap_alloc_new w _

theorem GBox.frozen {K : Nat} {x y : Int} {w : World} (h : GBox K x y w) (o : Nat) : w.frozen? ⟨K, o, none⟩ = false := by unfold GBox at h; simp [World.frozen?, h]
theorem GBox.set {K : Nat} {x y : Int} {w : World} (h : GBox K x y w) (a b : Int) : GBox K a b ((w.setCell ⟨K, 0, none⟩ (.int .i64 a)).setCell ⟨K, 1, none⟩ (.int .i64 b)) := by
  unfold GBox at h ⊢
  simp [World.setCell, Array.getElem?_modify, h]
theorem GBox.apart {K J : Nat} {x y : Int} {w : World} (h : GBox K x y w) (hne : K ≠ J) (a b : Value) : GBox K x y ((w.setCell ⟨J, 0, none⟩ a).setCell ⟨J, 1, none⟩ b) := by
  unfold GBox at h ⊢
  rw [Below.heap_setCell _ _ _ _ hne, Below.heap_setCell _ _ _ _ hne]; exact h
theorem below_set {w W : World} {K : Nat} (h : Below w.heap.size w W) (hK : w.heap.size ≤ K) (a b : Value) : Below w.heap.size w ((W.setCell ⟨K, 0, none⟩ a).setCell ⟨K, 1, none⟩ b) := (h.setCell (p := ⟨K, 0, none⟩) hK a).setCell (p := ⟨K, 1, none⟩) hK b

theorem t_next {k : Nat} (h : k < 3) : tRe (k : Int) * 0 - tIm (k : Int) * 1 = tRe ((k + 1 : Nat) : Int) ∧ tRe (k : Int) * 1 + tIm (k : Int) * 0 = tIm ((k + 1 : Nat) : Int) := by
  have : k = 0 ∨ k = 1 ∨ k = 2 := by omega
  rcases this with rfl | rfl | rfl <;> decide

set_option maxHeartbeats 1600000 in
theorem turned_any (n : Nat) (hn : n ≤ 3) (w : World) :
    Calls Tryd.prog 19 #[.int .i64 n] w fun e w' => e = .returned (.agg #[.int .i64 (tRe n), .int .i64 (tIm n)]) ∧ Below w.heap.size w w' := by
  go_enter Tryd.func19, Tryd.ntmps19
  go_wp2
  go_loopg [4] n (fun g i wr => ∃ k : Nat, k ≤ n ∧ n - k ≤ g ∧ i = .int .i64 k ∧ GBox w.heap.size 0 0 wr ∧ GBox (w.heap.size + 1) (tRe k) (tIm k) wr ∧ Below w.heap.size w wr)
  case atStart => exact ⟨0, Nat.zero_le _, by omega, rfl, (GBox.new w 0 0).alloc _, by
    have h := GBox.new (w.alloc (.cells #[.int .i64 0, .int .i64 0] 24)) 1 0
    rw [show (w.alloc (.cells #[.int .i64 0, .int .i64 0] 24)).heap.size = w.heap.size + 1 by simp] at h
    exact h, below_alloc (below_alloc (Below.refl _ _) _) _⟩
  case round =>
    obtain ⟨k, hk, hg, rfl, hA, hB, hb⟩ := hrel
    by_cases hlt : k < n
    · have h4 : (k : Int) < n := by omega
      obtain ⟨n1, n2⟩ := t_next (show k < 3 by omega)
      have hs := t_sm k
      have H : Hid (∀ W, Calls Tryd.prog 27 #[.agg #[.int .i64 (tRe k), .int .i64 (tIm k)], .agg #[.int .i64 0, .int .i64 1]] W fun e w' => e = .returned (.agg #[.int .i64 (tRe ((k + 1 : Nat) : Int)), .int .i64 (tIm ((k + 1 : Nat) : Int))]) ∧ Below W.heap.size W w') := fun W => by
        have := times_any (a := tRe k) (b := tIm k) (c := 0) (d := 1) ⟨by omega, by omega⟩ ⟨by omega, by omega⟩ ⟨by omega, by omega⟩ ⟨by omega, by omega⟩ W
        rwa [n1, n2] at this
      clear n1 n2 hs
      have c0 := hB.cell0
      have c1 := hB.cell1
      go_wp2_with fail
      refine (H.out _).mono ?_
      rintro e w' ⟨rfl, hb'⟩
      have hA' := hA.below hb'
      have hB' := hB.below hb'
      have hbb := below_step hb hb'
      clear hA hB hb hb' c0 c1
      have c0 := hB'.cell0
      have c1 := hB'.cell1
      have f0 := hB'.frozen 0
      have f1 := hB'.frozen 1
      have HA : Hid (GBox w.heap.size 0 0 w') := hA'
      have HB : Hid (GBox (w.heap.size + 1) (tRe k) (tIm k) w') := hB'
      have HBB : Hid (Below w.heap.size w w') := hbb
      clear hA' hB' hbb
      go_wp2
      go_roundg (n - (k + 1))
      case measure => omega
      case rel => exact ⟨k + 1, by omega, Nat.le_refl _, by go_num, HA.out.apart (by omega) _ _, HB.out.set _ _, below_set HBB.out (by omega) _ _⟩
    · have h4 : ¬ (k : Int) < n := by omega
      have hkn : k = n := by omega
      subst hkn
      have c0 := hB.cell0
      have c1 := hB.cell1
      have d0 := hA.cell0
      have d1 := hA.cell1
      have f0 := hA.frozen 0
      have f1 := hA.frozen 1
      have HA : Hid (GBox w.heap.size (tRe k) (tIm k) ((wr.setCell ⟨w.heap.size, 0, none⟩ (.int .i64 (tRe k))).setCell ⟨w.heap.size, 1, none⟩ (.int .i64 (tIm k)))) := hA.set _ _
      have HB : Hid (Below w.heap.size w wr) := hb
      clear hA hB hb
      go_wp2
      have e0 := HA.out.cell0
      have e1 := HA.out.cell1
      exact bodyPost_ret (v := .agg #[.int .i64 (tRe k), .int .i64 (tIm k)]) (by simp [results, Tryd.results19, go_sem, e0, e1]) rfl ⟨rfl, below_set HB.out (Nat.le_refl _) _ _⟩

end Go.Proofs.YtglcihfcnbifcaaDoor
