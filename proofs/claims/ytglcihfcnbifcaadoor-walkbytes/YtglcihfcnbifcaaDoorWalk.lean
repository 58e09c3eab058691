
/-
  What walk's Stay, Of, Apply and Then hand back: of any byte, and of any walks whose sums are reckoned without fault. No conditions beyond what each theorem states.
-/
import Derived.Test.YtglcihfcnbifcaaDoorWalkMath
import Derived.Test.YtglcihfcnbifcaaDoorTail
import Derived.Deep.RegionHeld3
import Derived.Deep.DrawnRows
import Derived.Deep.DeepCutAuto
import Derived.RegionTactic
import Derived.BigRegion
namespace Go.Proofs.YtglcihfcnbifcaaDoor
open Go.ChangeShapes Go.WideShapes Go.ChangeAt Go.RowKit Go.Sort
set_option linter.unusedVariables false
set_option linter.unusedSimpArgs false

@[go_sem] theorem run_store_cx (P : Program) (w : World) (a : Addr) (m : Mode) (x y : Nat) : (store a (.complex .f64 x y) m).run P w = stored P w a (.complex .f64 x y) m := run_store P w a _ m rfl

@[go_sem] theorem run_equalIn_cx (P : Program) (w : World) (d : Nat) (t : TypeId) (a b a' b' : Nat) (h : P.underlying t = some (.complex .f64)) : (Op.equalIn (d + 1) t (.complex .f64 a b) (.complex .f64 a' b')).run P w = .ok ((FloatKind.f64.format.order a a' == some .eq) && (FloatKind.f64.format.order b b' == some .eq)) w := by
  simp [Op.equalIn, run_underlying h, Op.floatEq]

/-- A walk's value, and its block. -/
def wv (a : Ws) : Value := .agg #[.complex .f64 a.1.1 a.1.2, .complex .f64 a.2.1 a.2.2]
def wobj (a : Ws) : Obj := .cells #[.complex .f64 a.1.1 a.1.2, .complex .f64 a.2.1 a.2.2] 31

theorem stay_any (w : World) : Calls Tryd.prog 13 #[] w fun e w' => e = .returned (wv wstayW) ∧ Below w.heap.size w w' := by
  go_enter Tryd.func13, Tryd.ntmps13
  go_wp2
  exact bodyPost_ret (v := wv wstayW) (by simp [results, Tryd.results13, go_sem, wv, wstayW]) rfl ⟨rfl, below_alloc (Below.refl _ _) _⟩

set_option maxHeartbeats 1600000 in
theorem wof_any (n : Nat) (hn : n < 256) (w : World) : Calls Tryd.prog 6 #[.int .u8 n] w fun e w' => e = .returned (wv (wbyteW n)) ∧ Below w.heap.size w w' := by
  have H : Hid (∀ W, Calls Tryd.prog 17 #[.int .i64 n] W fun e w' => e = .returned (.complex .f64 (turnX ((n % 4 : Nat) : Int)) (turnY ((n % 4 : Nat) : Int))) ∧ w' = W) := fun W => turn_any (n : Int) W
  have H2 : Hid (∀ W, Calls Tryd.prog 18 #[.int .i64 ((n / 4 % 8 + 1 : Nat) : Int), .int .i64 ((n / 32 + 1 : Nat) : Int)] W fun e w' => e = .returned (.complex .f64 (floatOfInt .f64 ((n / 4 % 8 + 1 : Nat) : Int)) (floatOfInt .f64 ((n / 32 + 1 : Nat) : Int))) ∧ w' = W) := fun W => of_any _ _ W
  have HW : Hid (wv (wbyteW n) = .agg #[.complex .f64 (turnX ((n % 4 : Nat) : Int)) (turnY ((n % 4 : Nat) : Int)), .complex .f64 (floatOfInt .f64 ((n / 4 % 8 + 1 : Nat) : Int)) (floatOfInt .f64 ((n / 32 + 1 : Nat) : Int))]) := rfl
  generalize turnX ((n % 4 : Nat) : Int) = X at H HW
  generalize turnY ((n % 4 : Nat) : Int) = Y at H HW
  generalize floatOfInt .f64 ((n / 4 % 8 + 1 : Nat) : Int) = U at H2 HW
  generalize floatOfInt .f64 ((n / 32 + 1 : Nat) : Int) = V at H2 HW
  go_enter Tryd.func6, Tryd.ntmps6
  go_wp2_with fail
  refine (H.out _).mono ?_
  rintro e w' ⟨rfl, rfl⟩
  go_wp2_with fail
  refine (H2.out _).mono ?_
  rintro e w' ⟨rfl, rfl⟩
  go_wp2_with fail
  exact bodyPost_ret (v := .agg #[.complex .f64 X Y, .complex .f64 U V]) (by simp [results, Tryd.results6, go_sem]) rfl ⟨by rw [HW.out], below_alloc (Below.refl _ _) _⟩

theorem apply_raw {p q r s x y m n re im : Nat} (h1 : cMulBits p q x y = some (m, n)) (h2 : cSumBits .add .f64 m n r s = some (re, im)) (w : World) :
    Calls Tryd.prog 26 #[.agg #[.complex .f64 p q, .complex .f64 r s], .complex .f64 x y] w fun e w' => e = .returned (.complex .f64 re im) ∧ w' = w.alloc (.cells #[.complex .f64 p q, .complex .f64 r s] 31) := by
  have f1 := fun W : World => run_complex_mul (P := Tryd.prog) W 29 _ _ _ _ _ _ h1
  have f2 := fun W : World => run_complex_sum (P := Tryd.prog) W .add (.inl rfl) 29 .f64 _ _ _ _ _ _ h2
  clear h1 h2
  go_enter Tryd.func26, Tryd.ntmps26
  go_wp2
  go_ret
  exact ⟨rfl, rfl⟩

/-- A walk's block that stays. -/
def WBox (K : Nat) (a : Ws) (w : World) : Prop := w.heap[K]? = some (.cells #[.complex .f64 a.1.1 a.1.2, .complex .f64 a.2.1 a.2.2] 31 (0, 0))
theorem WBox.lt {K : Nat} {a : Ws} {w : World} (h : WBox K a w) : K < w.heap.size := (Array.getElem?_eq_some_iff.1 h).1
theorem WBox.cell0 {K : Nat} {a : Ws} {w : World} (h : WBox K a w) : w.cell? ⟨K, 0, none⟩ = some (.complex .f64 a.1.1 a.1.2) := by unfold WBox at h; simp [World.cell?, h]
theorem WBox.cell1 {K : Nat} {a : Ws} {w : World} (h : WBox K a w) : w.cell? ⟨K, 1, none⟩ = some (.complex .f64 a.2.1 a.2.2) := by unfold WBox at h; simp [World.cell?, h]
theorem WBox.frozen {K : Nat} {a : Ws} {w : World} (h : WBox K a w) (o : Nat) : w.frozen? ⟨K, o, none⟩ = false := by unfold WBox at h; simp [World.frozen?, h]
theorem WBox.alloc {K : Nat} {a : Ws} {w : World} (h : WBox K a w) (o : Obj) : WBox K a (w.alloc o) := by
  have hlt := h.lt
  unfold WBox
  rw [Below.heap_alloc _ _ _ hlt]; exact h
theorem WBox.below {K : Nat} {a : Ws} {w w' : World} (h : WBox K a w) (hb : Below w.heap.size w w') : WBox K a w' := by
  have hlt := h.lt
  unfold WBox
  rw [hb.block _ hlt]; exact h
theorem WBox.drew {K : Nat} {a : Ws} {w : World} (h : WBox K a w) : WBox K a w.drew := h
theorem WBox.drewN {K : Nat} {a : Ws} {w : World} (h : WBox K a w) (n : Nat) : WBox K a (w.drewN n) := h
theorem WBox.new (w : World) (a : Ws) : WBox w.heap.size a (w.alloc (wobj a)) := heap_alloc_new w _
theorem WBox.set {K : Nat} {a : Ws} {w : World} (h : WBox K a w) (x y u v : Nat) : WBox K ((x, y), (u, v)) ((w.setCell ⟨K, 0, none⟩ (.complex .f64 x y)).setCell ⟨K, 1, none⟩ (.complex .f64 u v)) := by
  unfold WBox at h ⊢
  simp [World.setCell, Array.getElem?_modify, h]
theorem WBox.apart {K J : Nat} {a : Ws} {w : World} (h : WBox K a w) (hne : K ≠ J) (x y : Value) : WBox K a ((w.setCell ⟨J, 0, none⟩ x).setCell ⟨J, 1, none⟩ y) := by
  unfold WBox at h ⊢
  rw [Below.heap_setCell _ _ _ _ hne, Below.heap_setCell _ _ _ _ hne]; exact h
theorem below_set2 {w W : World} {K : Nat} (h : Below w.heap.size w W) (hK : w.heap.size ≤ K) (a b : Value) : Below w.heap.size w ((W.setCell ⟨K, 0, none⟩ a).setCell ⟨K, 1, none⟩ b) := (h.setCell (p := ⟨K, 0, none⟩) hK a).setCell (p := ⟨K, 1, none⟩) hK b
theorem cellU {w W : World} {a : Addr} {v : Value} (h : w.cell? a = some v) (hb : Below w.heap.size w W) : W.cell? a = some v := by rw [hb.cell (block_lt_of_cell h)]; exact h

/-- A slice's address, at which walks lie, two cells each. -/
def WRow (w : World) (p : Option Addr) (l : List Ws) : Prop :=
  ∀ i (h : i < l.length), ∃ b o, p = some ⟨b, o, none⟩ ∧ w.cell? ⟨b, o + i * 2, none⟩ = some (.complex .f64 l[i].1.1 l[i].1.2) ∧ w.cell? ⟨b, o + i * 2 + 1, none⟩ = some (.complex .f64 l[i].2.1 l[i].2.2)
theorem WRow.below {w w' : World} {p : Option Addr} {l : List Ws} (h : WRow w p l) (hb : Below w.heap.size w w') : WRow w' p l := fun i hi => by
  obtain ⟨b, o, e, h1, h2⟩ := h i hi
  exact ⟨b, o, e, cellU h1 hb, cellU h2 hb⟩
theorem WRow.one {w : World} {K : Nat} {a : Ws} (h : WBox K a w) : WRow w (some ⟨K, 0, none⟩) [a] := fun i hi => by
  have : i = 0 := by simp at hi; omega
  subst this
  exact ⟨K, 0, rfl, h.cell0, h.cell1⟩

/-- Walks, one behind the other. -/
def thensW (a : Ws) (l : List Ws) : Ws := l.foldl wthenW a
def ThensOk (a : Ws) (l : List Ws) : Prop := ∀ k (h : k < l.length), ThenOk (thensW a (l.take k)) l[k]
theorem thens_next (a : Ws) (l : List Ws) {k : Nat} (h : k < l.length) : thensW a (l.take (k + 1)) = wthenW (thensW a (l.take k)) l[k] := by
  unfold thensW
  rw [List.take_succ_eq_append_getElem h, List.foldl_append]
  rfl

set_option maxHeartbeats 3200000 in
set_option maxRecDepth 100000 in
theorem then_any (a : Ws) (l : List Ws) (p : Option Addr) (c : Nat) (hok : ThensOk a l) (hl : l.length ≤ 4611686018427387904) (w : World) (hR : WRow w p l) :
    Calls Tryd.prog 14 #[wv a, .slice p l.length c] w fun e w' => e = .returned (wv (thensW a l)) ∧ Below w.heap.size w w' := by
  have HR : Hid (WRow w p l) := hR
  have HO : Hid (ThensOk a l) := hok
  clear hR hok
  unfold wv
  go_enter Tryd.func14, Tryd.ntmps14
  go_wp2
  go_loopg [9] l.length (fun g i wr => ∃ k : Nat, k ≤ l.length ∧ l.length - k ≤ g ∧ i = .int .i64 k ∧ WBox w.heap.size (thensW a (l.take k)) wr ∧ WBox (w.heap.size + 1) ((0, 0), (0, 0)) wr ∧ Below w.heap.size w wr)
  case atStart => exact ⟨0, Nat.zero_le _, by omega, rfl, (WBox.new w a).alloc _, by
    have h := WBox.new (w.alloc (wobj a)) ((0, 0), (0, 0))
    rw [show (w.alloc (wobj a)).heap.size = w.heap.size + 1 by simp] at h
    exact h, below_alloc (below_alloc (Below.refl _ _) _) _⟩
  case round =>
    obtain ⟨k, hk, hg, rfl, hA, hB, hb⟩ := hrel
    by_cases hlt : k < l.length
    · obtain ⟨b, o, rfl, c0', c1'⟩ := HR.out k hlt
      have c0 := cellU c0' hb
      have c1 := cellU c1' hb
      clear c0' c1'
      have HN := Lib.hid (thens_next a l hlt)
      have hT := HO.out k hlt
      generalize thensW a (l.take k) = A at hA HN hT
      generalize l[k] = B at c0 c1 HN hT
      obtain ⟨⟨x, y⟩, ⟨u, v⟩⟩ := A
      obtain ⟨⟨s, t⟩, ⟨m, n⟩⟩ := B
      obtain ⟨t1, t2, t3⟩ := hT
      generalize hC : cmulW ((s, t), (m, n)).1 ((x, y), (u, v)).1 = C at t1
      generalize hD : cmulW ((s, t), (m, n)).1 ((x, y), (u, v)).2 = D at t2 t3
      generalize hE : wappW ((s, t), (m, n)) ((x, y), (u, v)).2 = E at t3
      have HE : Hid (wthenW ((x, y), (u, v)) ((s, t), (m, n)) = (C, E)) := by
        show (cmulW _ _, wappW _ _) = (C, E)
        rw [hC, hE]
      clear hC hD hE
      obtain ⟨C1, C2⟩ := C
      obtain ⟨D1, D2⟩ := D
      obtain ⟨E1, E2⟩ := E
      have H : Hid (∀ W, Calls Tryd.prog 26 #[.agg #[.complex .f64 s t, .complex .f64 m n], .complex .f64 u v] W fun e w' => e = .returned (.complex .f64 E1 E2) ∧ w' = W.alloc (.cells #[.complex .f64 s t, .complex .f64 m n] 31)) := fun W => apply_raw t2 t3 W
      have f1 := fun W : World => run_complex_mul (P := Tryd.prog) W 29 _ _ _ _ _ _ t1
      clear t1 t2 t3
      simp only at c0 c1
      have HA : Hid (WBox w.heap.size ((x, y), (u, v)) wr) := hA
      have HB : Hid (WBox (w.heap.size + 1) ((0, 0), (0, 0)) wr) := hB
      have HBB : Hid (Below w.heap.size w wr) := hb
      clear hA hB hb
      go_wp2_with fail
      clear c0 c1
      have A1 : Hid (WBox w.heap.size ((x, y), (u, v)) (wr.alloc (.cells #[.complex .f64 s t, .complex .f64 m n] 31))) := HA.out.alloc _
      have B1 : Hid (WBox (w.heap.size + 1) ((0, 0), (0, 0)) (wr.alloc (.cells #[.complex .f64 s t, .complex .f64 m n] 31))) := HB.out.alloc _
      have G1 : Hid (WBox wr.heap.size ((s, t), (m, n)) (wr.alloc (.cells #[.complex .f64 s t, .complex .f64 m n] 31))) := WBox.new wr ((s, t), (m, n))
      have HB1 : Hid (Below w.heap.size w (wr.alloc (.cells #[.complex .f64 s t, .complex .f64 m n] 31))) := below_alloc HBB.out _
      have A0 := HA.out.lt
      clear HA HB HBB
      have hne : wr.heap.size ≠ w.heap.size := Nat.ne_of_gt A0
      clear A0
      generalize wr.heap.size = J at G1 hne ⊢
      generalize wr.alloc (.cells #[.complex .f64 s t, .complex .f64 m n] 31) = W1 at A1 B1 G1 HB1 ⊢
      have a0 := cell_regrown A1.out.cell0
      have a1 := cell_regrown A1.out.cell1
      have g0 := cell_regrown G1.out.cell0
      have g1 := cell_regrown G1.out.cell1
      simp only at a0 a1 g0 g1
      have H' : Hid (∀ W, Calls Tryd.prog 26 #[.agg #[.complex .f64 s t, .complex .f64 m n], .complex .f64 u v] W fun e w' => e = .returned (.complex .f64 E1 E2) ∧ Below W.heap.size W w') := fun W => (H.out W).mono fun e w' h => ⟨h.1, by rw [h.2]; exact below_alloc (Below.refl _ _) _⟩
      clear H
      refine wp_region_tail_below 10 (by kernel_rfl) (by kernel_rfl) ?_
      simp only [List.take_succ_cons, List.take_zero, List.drop_succ_cons, List.drop_zero]
      repeat (first | go_big_quiet_step ((go_at_call 26; exact Calls.regrown_of (H'.out _))) | quiet_step ((go_at_call 26; exact Calls.regrown_of (H'.out _))))
      refine wpQuiet_nil ?_
      intro w3 hw'
      have bW : Below W1.heap.size W1 w3 := by obtain ⟨⟨dq, osq⟩, rfl⟩ := hw'; exact below_regrown _ _ _
      have A3 : Hid (WBox w.heap.size ((x, y), (u, v)) w3) := A1.out.below bW
      have B3 : Hid (WBox (w.heap.size + 1) ((0, 0), (0, 0)) w3) := B1.out.below bW
      have HB3 : Hid (Below w.heap.size w w3) := below_step HB1.out bW
      clear a0 a1 g0 g1 bW hw' A1 B1 G1 HB1 H'
      have a0 := A3.out.cell0
      have a1 := A3.out.cell1
      have a2 := A3.out.frozen
      go_wp2
      go_roundg (l.length - (k + 1))
      case measure => omega
      case rel => exact ⟨k + 1, by omega, Nat.le_refl _, by go_num, by rw [HN.out, HE.out]; exact A3.out.set _ _ _ _, B3.out.apart (by omega) _ _, below_set2 HB3.out (Nat.le_refl _) _ _⟩
    · have hkl : k = l.length := by omega
      subst hkl
      rw [List.take_length] at hA
      generalize hT : thensW a l = A at hA
      obtain ⟨⟨x, y⟩, ⟨u, v⟩⟩ := A
      have HT : Hid (thensW a l = ((x, y), (u, v))) := hT
      clear hT
      have a0 := hA.cell0
      have a1 := hA.cell1
      have b0 := hB.cell0
      have b1 := hB.cell1
      have b2 := hB.frozen
      have HB : Hid (WBox (w.heap.size + 1) ((x, y), (u, v)) ((wr.setCell ⟨w.heap.size + 1, 0, none⟩ (.complex .f64 x y)).setCell ⟨w.heap.size + 1, 1, none⟩ (.complex .f64 u v))) := hB.set _ _ _ _
      have HBB : Hid (Below w.heap.size w wr) := hb
      clear hA hB hb
      go_wp2
      have e0 := HB.out.cell0
      have e1 := HB.out.cell1
      exact bodyPost_ret (v := .agg #[.complex .f64 x y, .complex .f64 u v]) (by simp [results, Tryd.results14, go_sem, e0, e1]) rfl ⟨by rw [HT.out], below_set2 HBB.out (by omega) _ _⟩

end Go.Proofs.YtglcihfcnbifcaaDoor
