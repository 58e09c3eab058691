
/-
  What the document's own Of, Norm, Times, Minus and near of layer 3 hand back. The conditions: parts from -2^25 to 2^25, where that is said.
-/
import Derived.Test.YtglcihfcnbifcaaDoorParts
namespace Go.Proofs.YtglcihfcnbifcaaDoor
open Go.ChangeShapes Go.WideShapes Go.ChangeAt Go.RowKit Go.Sort
set_option linter.unusedVariables false
set_option linter.unusedSimpArgs false

theorem below_step {w w' w'' : World} (h : Below w.heap.size w w') (k : Below w'.heap.size w' w'') : Below w.heap.size w w'' := h.trans (k.mono h.size)
theorem below_alloc {w W : World} (h : Below w.heap.size w W) (o : Obj) : Below w.heap.size w (W.alloc o) := h.alloc h.size o
theorem ret_bool {a b : Bool} (h : a = b) : Ending.returned (.bool a) = .returned (.bool b) := by rw [h]
theorem ret_int {k : IntKind} {a b : Int} (h : a = b) : Ending.returned (.int k a) = .returned (.int k b) := by rw [h]
theorem ret_str {a b : ByteArray} (h : a = b) : Ending.returned (.string a) = .returned (.string b) := by rw [h]

/-- A part within the bounds: what it is converted to, and whether it is whole. -/
def InB (x : Nat) (t : Int) (ok : Bool) : Prop :=
  (FloatKind.f64.format.order x 13943144446339055616 == some .gt || FloatKind.f64.format.order x 13943144446339055616 == some .eq) = true ∧
  (FloatKind.f64.format.order x 4719772409484279808 == some .lt || FloatKind.f64.format.order x 4719772409484279808 == some .eq) = true ∧
  floatToIntVal .f64 x .i64 = some t ∧ (FloatKind.f64.format.order (floatOfInt .f64 t) x != some .eq) = !ok
def OutB (x : Nat) : Prop :=
  ((FloatKind.f64.format.order x 13943144446339055616 == some .gt || FloatKind.f64.format.order x 13943144446339055616 == some .eq) = false) ∨
  ((FloatKind.f64.format.order x 13943144446339055616 == some .gt || FloatKind.f64.format.order x 13943144446339055616 == some .eq) = true ∧
   (FloatKind.f64.format.order x 4719772409484279808 == some .lt || FloatKind.f64.format.order x 4719772409484279808 == some .eq) = false)
theorem inB_yes {x : Nat} {a : Int} (h : IsW x a) : InB x a true := by
  obtain ⟨h1, h2⟩ := part_in h
  refine ⟨h1, h2, wh_toInt h.1 (by have := h.2; omega) (by have := h.2; omega), ?_⟩
  have e : FloatKind.f64.format.order (floatOfInt .f64 a) x = some (compare a a) := wh_order (wh_ofInt a (by have := h.2; omega)) h.1
  have := eql_iff a a
  rw [e]
  simp only [bne, this]; simp
theorem inB_no {x : Nat} (h : NoW x) : OutB x ∨ ∃ t, InB x t false := by
  rcases part_not h with h1 | ⟨h1, h2⟩ | ⟨h1, h2, s, m, i, t, hr, h3, h4, h5⟩
  · exact .inl (.inl h1)
  · exact .inl (.inr ⟨h1, h2⟩)
  · exact .inr ⟨t, h1, h2, h4, h5⟩

set_option maxHeartbeats 1600000 in
theorem refof_in {x y : Nat} {t u : Int} {p q : Bool} (hx : InB x t p) (hy : InB y u q) (w : World) :
    Calls Tryd.prog 15 #[.complex .f64 x y] w fun e w' => e = .returned (.tuple #[.agg #[.int .i64 (if p && q then t else 0), .int .i64 (if p && q then u else 0)], .bool (p && q)]) ∧ Below w.heap.size w w' := by
  obtain ⟨a1, a2, a3, a4⟩ := hx
  obtain ⟨b1, b2, b3, b4⟩ := hy
  have c1 : ∀ W, (convert 56 3 (.float .f64 x)).run Tryd.prog W = .ok (.int .i64 t) W := fun W => run_convert_float_int W 56 3 .f64 .i64 x t (by simp [Tryd.underlying56]) Tryd.underlying3 a3
  have c2 : ∀ W, (convert 56 3 (.float .f64 y)).run Tryd.prog W = .ok (.int .i64 u) W := fun W => run_convert_float_int W 56 3 .f64 .i64 y u (by simp [Tryd.underlying56]) Tryd.underlying3 b3
  clear a3 b3
  cases p with
  | false =>
    simp only [Bool.not_false] at a4
    go_enter Tryd.func15, Tryd.ntmps15
    go_wp2
    exact bodyPost_ret (v := .tuple #[.agg #[.int .i64 0, .int .i64 0], .bool false]) (by simp [results, Tryd.results15, go_sem]) rfl ⟨rfl, by first | exact below_alloc (below_alloc (Below.refl _ _) _) _ | skip⟩
  | true =>
    simp only [Bool.not_true] at a4
    cases q with
    | false =>
      simp only [Bool.not_false] at b4
      go_enter Tryd.func15, Tryd.ntmps15
      go_wp2
      exact bodyPost_ret (v := .tuple #[.agg #[.int .i64 0, .int .i64 0], .bool false]) (by simp [results, Tryd.results15, go_sem]) rfl ⟨rfl, by first | exact below_alloc (below_alloc (Below.refl _ _) _) _ | skip⟩
    | true =>
      simp only [Bool.not_true] at b4
      go_enter Tryd.func15, Tryd.ntmps15
      go_wp2
      exact bodyPost_ret (v := .tuple #[.agg #[.int .i64 t, .int .i64 u], .bool true]) (by simp [results, Tryd.results15, go_sem]) rfl ⟨rfl, by first | exact below_alloc (below_alloc (Below.refl _ _) _) _ | skip⟩

set_option maxHeartbeats 1600000 in
theorem refof_out {x y : Nat} (h : OutB x ∨ ∃ t p, InB x t p ∧ OutB y) (w : World) :
    Calls Tryd.prog 15 #[.complex .f64 x y] w fun e w' => e = .returned (.tuple #[.agg #[.int .i64 0, .int .i64 0], .bool false]) ∧ Below w.heap.size w w' := by
  have h' : (FloatKind.f64.format.order x 13943144446339055616 == some .gt || FloatKind.f64.format.order x 13943144446339055616 == some .eq) = false ∨
    ((FloatKind.f64.format.order x 13943144446339055616 == some .gt || FloatKind.f64.format.order x 13943144446339055616 == some .eq) = true ∧
     (FloatKind.f64.format.order x 4719772409484279808 == some .lt || FloatKind.f64.format.order x 4719772409484279808 == some .eq) = false) ∨
    ((FloatKind.f64.format.order x 13943144446339055616 == some .gt || FloatKind.f64.format.order x 13943144446339055616 == some .eq) = true ∧
     (FloatKind.f64.format.order x 4719772409484279808 == some .lt || FloatKind.f64.format.order x 4719772409484279808 == some .eq) = true ∧
     (FloatKind.f64.format.order y 13943144446339055616 == some .gt || FloatKind.f64.format.order y 13943144446339055616 == some .eq) = false) ∨
    ((FloatKind.f64.format.order x 13943144446339055616 == some .gt || FloatKind.f64.format.order x 13943144446339055616 == some .eq) = true ∧
     (FloatKind.f64.format.order x 4719772409484279808 == some .lt || FloatKind.f64.format.order x 4719772409484279808 == some .eq) = true ∧
     (FloatKind.f64.format.order y 13943144446339055616 == some .gt || FloatKind.f64.format.order y 13943144446339055616 == some .eq) = true ∧
     (FloatKind.f64.format.order y 4719772409484279808 == some .lt || FloatKind.f64.format.order y 4719772409484279808 == some .eq) = false) := by
    rcases h with (h1 | ⟨h1, h2⟩) | ⟨t, p, ⟨h1, h2, -, -⟩, h3 | ⟨h3, h4⟩⟩
    · exact .inl h1
    · exact .inr (.inl ⟨h1, h2⟩)
    · exact .inr (.inr (.inl ⟨h1, h2, h3⟩))
    · exact .inr (.inr (.inr ⟨h1, h2, h3, h4⟩))
  clear h
  rcases h' with h1 | ⟨h1, h2⟩ | ⟨h1, h2, h3⟩ | ⟨h1, h2, h3, h4⟩
  all_goals
    go_enter Tryd.func15, Tryd.ntmps15
    go_wp2
    exact bodyPost_ret (v := .tuple #[.agg #[.int .i64 0, .int .i64 0], .bool false]) (by simp [results, Tryd.results15, go_sem]) rfl ⟨rfl, below_alloc (Below.refl _ _) _⟩

theorem refof_yes {x y : Nat} {a b : Int} (hx : IsW x a) (hy : IsW y b) (w : World) :
    Calls Tryd.prog 15 #[.complex .f64 x y] w fun e w' => e = .returned (.tuple #[.agg #[.int .i64 a, .int .i64 b], .bool true]) ∧ Below w.heap.size w w' := refof_in (inB_yes hx) (inB_yes hy) w
theorem refof_no {x y : Nat} (h : NoW x ∨ NoW y) (w : World) :
    Calls Tryd.prog 15 #[.complex .f64 x y] w fun e w' => e = .returned (.tuple #[.agg #[.int .i64 0, .int .i64 0], .bool false]) ∧ Below w.heap.size w w' := by
  rcases isW_or x with ⟨a, hx⟩ | hx
  · have hy : NoW y := h.resolve_left fun h => h a hx
    rcases inB_no hy with hy | ⟨u, hy⟩
    · exact refof_out (.inr ⟨a, true, inB_yes hx, hy⟩) w
    · exact refof_in (inB_yes hx) hy w
  · rcases inB_no hx with hx | ⟨t, hx⟩
    · exact refof_out (.inl hx) w
    · rcases isW_or y with ⟨b, hy⟩ | hy
      · exact refof_in hx (inB_yes hy) w
      · rcases inB_no hy with hy | ⟨u, hy⟩
        · exact refof_out (.inr ⟨t, false, hx, hy⟩) w
        · exact refof_in hx hy w

/-- A part within the bounds. -/
def Sm (a : Int) : Prop := -33554432 ≤ a ∧ a ≤ 33554432
theorem sm_mul {a b : Int} (ha : Sm a) (hb : Sm b) : -1125899906842624 ≤ a * b ∧ a * b ≤ 1125899906842624 := by
  have h : (a * b).natAbs ≤ 33554432 * 33554432 := by
    rw [Int.natAbs_mul]; exact Nat.mul_le_mul (by have := ha; unfold Sm at this; omega) (by have := hb; unfold Sm at this; omega)
  omega

set_option maxHeartbeats 1600000 in
theorem refnorm_any {a b : Int} (ha : Sm a) (hb : Sm b) (w : World) :
    Calls Tryd.prog 16 #[.agg #[.int .i64 a, .int .i64 b]] w fun e w' => e = .returned (.int .i64 (a * a + b * b)) ∧ Below w.heap.size w w' := by
  have s1 := sm_mul ha ha
  have s2 := sm_mul hb hb
  have w1 := wrap_id (n := a * a) (by omega) (by omega)
  have w2 := wrap_id (n := b * b) (by omega) (by omega)
  have w3 := wrap_id (n := a * a + b * b) (by omega) (by omega)
  clear ha hb
  go_enter Tryd.func16, Tryd.ntmps16
  go_wp2
  go_ret
  exact ⟨rfl, below_alloc (Below.refl _ _) _⟩

set_option maxHeartbeats 1600000 in
theorem times_any {a b c d : Int} (ha : Sm a) (hb : Sm b) (hc : Sm c) (hd : Sm d) (w : World) :
    Calls Tryd.prog 27 #[.agg #[.int .i64 a, .int .i64 b], .agg #[.int .i64 c, .int .i64 d]] w fun e w' => e = .returned (.agg #[.int .i64 (a * c - b * d), .int .i64 (a * d + b * c)]) ∧ Below w.heap.size w w' := by
  have s1 := sm_mul ha hc
  have s2 := sm_mul hb hd
  have s3 := sm_mul ha hd
  have s4 := sm_mul hb hc
  have w1 := wrap_id (n := a * c) (by omega) (by omega)
  have w2 := wrap_id (n := b * d) (by omega) (by omega)
  have w3 := wrap_id (n := a * d) (by omega) (by omega)
  have w4 := wrap_id (n := b * c) (by omega) (by omega)
  have w5 := wrap_id (n := a * c - b * d) (by omega) (by omega)
  have w6 := wrap_id (n := a * d + b * c) (by omega) (by omega)
  clear ha hb hc hd
  go_enter Tryd.func27, Tryd.ntmps27
  go_wp2
  exact bodyPost_ret (v := .agg #[.int .i64 (a * c - b * d), .int .i64 (a * d + b * c)]) (by simp [results, Tryd.results27, go_sem]) rfl ⟨rfl, below_alloc (below_alloc (below_alloc (Below.refl _ _) _) _) _⟩

set_option maxHeartbeats 1600000 in
theorem minus_any {a b c d : Int} (h1 : -4611686018427387904 ≤ a - c ∧ a - c ≤ 4611686018427387904) (h2 : -4611686018427387904 ≤ b - d ∧ b - d ≤ 4611686018427387904) (w : World) :
    Calls Tryd.prog 21 #[.agg #[.int .i64 a, .int .i64 b], .agg #[.int .i64 c, .int .i64 d]] w fun e w' => e = .returned (.agg #[.int .i64 (a - c), .int .i64 (b - d)]) ∧ Below w.heap.size w w' := by
  have w1 := wrap_id (n := a - c) (by omega) (by omega)
  have w2 := wrap_id (n := b - d) (by omega) (by omega)
  clear h1 h2
  go_enter Tryd.func21, Tryd.ntmps21
  go_wp2
  exact bodyPost_ret (v := .agg #[.int .i64 (a - c), .int .i64 (b - d)]) (by simp [results, Tryd.results21, go_sem]) rfl ⟨rfl, below_alloc (below_alloc (below_alloc (Below.refl _ _) _) _) _⟩

end Go.Proofs.YtglcihfcnbifcaaDoor
