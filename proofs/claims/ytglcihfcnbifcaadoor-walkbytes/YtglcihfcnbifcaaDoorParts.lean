
/-
  What math.Trunc, math.Floor, and gauss's wholePart, Right, Parts, Of, Norm and Mirror hand back, for every complex number, whole or not. No conditions beyond what each theorem states.
-/
import Derived.Test.YtglcihfcnbifcaaDoorQuot
import Derived.Test.YtglcihfcnbifcaaDoorProg
import Derived.WalkKit
import Derived.ProofKit
import Derived.OpenShut
import Derived.Below
import Derived.BigQuiet
import Derived.Lib.QuietBelow
import Derived.WalkSpells
import Derived.WalkLawsBesides
import Derived.Lib.Hide
namespace Go.Proofs.YtglcihfcnbifcaaDoor
open Go.ChangeShapes Go.WideShapes Go.ChangeAt Go.RowKit Go.Sort
set_option linter.unusedVariables false
set_option linter.unusedSimpArgs false

/-- The word holds a whole number from -2^25 to 2^25. -/
def IsW (x : Nat) (a : Int) : Prop := Wh x a ∧ -33554432 ≤ a ∧ a ≤ 33554432
def NoW (x : Nat) : Prop := ∀ a, ¬ IsW x a
theorem isW_or (x : Nat) : (∃ a, IsW x a) ∨ NoW x := by
  by_cases h : ∃ a, IsW x a
  · exact .inl h
  · exact .inr fun a ha => h ⟨a, ha⟩

theorem integral_shape (name : String) (way : Ieee.Toward) (x : Nat) : ∃ F : Ieee.Datum → Sem Value, Extern.MathFloor.toIntegral name way #[.float .f64 x] = F (FloatKind.f64.decode x) ∧ ∀ s m i, F (.number s m i) = pure (.float .f64 (FloatKind.f64.encode ((Ieee.Datum.number s m i).integral way))) :=
  ⟨fun d => @Go.Extern.MathFloor.toIntegral.match_1 (fun _ => Sem Value) d _ _, rfl, fun _ _ _ => rfl⟩
theorem run_integral {P : Program} {name : String} {way : Ieee.Toward} {x : Nat} {s : Bool} {m : Nat} {i : Int} (h : Ieee.double.read x = .number s m i) (w : World) :
    (Extern.MathFloor.toIntegral name way #[.float .f64 x]).run P w = .ok (.float .f64 (Ieee.double.write ((Ieee.Datum.number s m i).integral way))) w := by
  have hd : FloatKind.f64.decode x = .number s m i := h
  obtain ⟨F, hF, hN⟩ := integral_shape name way x
  rw [hF, hd, hN]
  rfl

theorem archTrunc_run {x : Nat} {s : Bool} {m : Nat} {i : Int} (h : Ieee.double.read x = .number s m i) (w : World) :
    (callFunc 35 #[.float .f64 x]).run Tryd.prog w = .ok (.value (.float .f64 (truncW s m i))) w := by
  rw [@run_callFunc_extern Tryd.prog 35 _ (Extern.MathFloor.toIntegral "math.archTrunc" .zero) Tryd.func35 (by kernel_rfl) (by kernel_rfl) (by kernel_rfl) (by kernel_rfl), run_integral h]
  rfl
theorem trunc_any {x : Nat} {s : Bool} {m : Nat} {i : Int} (h : Ieee.double.read x = .number s m i) (w : World) :
    Calls Tryd.prog 32 #[.float .f64 x] w fun e w' => e = .returned (.float .f64 (truncW s m i)) ∧ w' = w := by
  have hc := fun W => archTrunc_run h W
  clear h
  go_enter Tryd.func32, Tryd.ntmps32
  go_wp2
  go_ret
  exact ⟨rfl, rfl⟩

/-- The two tests against the bounds. -/
theorem part_in {x : Nat} {a : Int} (h : IsW x a) :
    (FloatKind.f64.format.order x 13943144446339055616 == some .gt || FloatKind.f64.format.order x 13943144446339055616 == some .eq) = true ∧
    (FloatKind.f64.format.order x 4719772409484279808 == some .lt || FloatKind.f64.format.order x 4719772409484279808 == some .eq) = true := by
  have h1 := wh_order h.1 wh_nbound
  have h2 := wh_order h.1 wh_bound
  have e1 : FloatKind.f64.format.order x 13943144446339055616 = some (compare a (-33554432)) := h1
  have e2 : FloatKind.f64.format.order x 4719772409484279808 = some (compare a 33554432) := h2
  rw [e1, e2, geq_iff, leq_iff]
  exact ⟨by simp [h.2.1], by simp [h.2.2]⟩
theorem part_whole {x : Nat} {a : Int} (h : IsW x a) : ∃ s m i, Ieee.double.read x = .number s m i ∧ (FloatKind.f64.format.order x (truncW s m i) == some .eq) = true := by
  have hx := h.1
  obtain ⟨s, m, i, hr, hv⟩ := hx
  refine ⟨s, m, i, hr, ?_⟩
  have hc := cut_whole hv
  have := truncW_wh s m i (by rw [hc]; have := h.2; omega)
  rw [hc] at this
  have e : FloatKind.f64.format.order x (truncW s m i) = some (compare a a) := wh_order h.1 this
  rw [e, eql_iff]; simp

theorem read_of_in {x : Nat} (h : inR x 13943144446339055616 4719772409484279808 = true) : ∃ s m i, Ieee.double.read x = .number s m i := by
  have rN : Ieee.double.read 13943144446339055616 = .number true 4503599627370496 (-27) := by decide
  have rB : Ieee.double.read 4719772409484279808 = .number false 4503599627370496 (-27) := by decide
  unfold inR Ieee.Format.order at h
  rw [rN, rB] at h
  cases hr : Ieee.double.read x with
  | number s m i => exact ⟨s, m, i, rfl⟩
  | infinity s => rw [hr] at h; cases s <;> simp [Ieee.Datum.order] at h
  | nan s f => rw [hr] at h; simp [Ieee.Datum.order] at h

theorem part_not {x : Nat} (h : NoW x) :
    ((FloatKind.f64.format.order x 13943144446339055616 == some .gt || FloatKind.f64.format.order x 13943144446339055616 == some .eq) = false) ∨
    ((FloatKind.f64.format.order x 13943144446339055616 == some .gt || FloatKind.f64.format.order x 13943144446339055616 == some .eq) = true ∧
     (FloatKind.f64.format.order x 4719772409484279808 == some .lt || FloatKind.f64.format.order x 4719772409484279808 == some .eq) = false) ∨
    ((FloatKind.f64.format.order x 13943144446339055616 == some .gt || FloatKind.f64.format.order x 13943144446339055616 == some .eq) = true ∧
     (FloatKind.f64.format.order x 4719772409484279808 == some .lt || FloatKind.f64.format.order x 4719772409484279808 == some .eq) = true ∧
     ∃ s m i t, Ieee.double.read x = .number s m i ∧ (FloatKind.f64.format.order x (truncW s m i) == some .eq) = false ∧ floatToIntVal .f64 x .i64 = some t ∧ (FloatKind.f64.format.order (floatOfInt .f64 t) x != some .eq) = true) := by
  have hin : ∀ b, inR x 13943144446339055616 4719772409484279808 = b → ((FloatKind.f64.format.order x 13943144446339055616 == some .gt || FloatKind.f64.format.order x 13943144446339055616 == some .eq) && (FloatKind.f64.format.order x 4719772409484279808 == some .lt || FloatKind.f64.format.order x 4719772409484279808 == some .eq)) = b := fun b hb => hb
  rcases classify x 13943144446339055616 4719772409484279808 wh_nbound wh_bound with ⟨a, h1, h2, h3⟩ | ⟨h1, h2, t, h3, h4, h5, h6⟩ | ⟨h1, -⟩
  · exact absurd ⟨h1, h2, h3⟩ (h a)
  · have := hin _ h1
    rw [Bool.and_eq_true] at this
    obtain ⟨s, m, i, hr⟩ := read_of_in h1
    have ht : cutTo s m i = t := by
      have e : (FloatKind.f64.decode x).toInt .zero = some (cutTo s m i) := by
        have hd : FloatKind.f64.decode x = .number s m i := hr
        rw [hd]; exact toInt_cut s m i
      unfold floatToIntVal at h3
      rw [e] at h3
      simp only at h3
      split at h3
      · simpa using h3
      · cases h3
    have hw := truncW_wh s m i (by rw [ht]; omega)
    rw [ht] at hw
    have hne := (h6 _ hw).2
    have hne2 := (h6 _ (wh_ofInt t (by omega))).1
    refine .inr (.inr ⟨this.1, this.2, s, m, i, t, hr, ?_, h3, ?_⟩)
    · have : FloatKind.f64.format.order x (truncW s m i) ≠ some .eq := hne
      simp [this]
    · have : FloatKind.f64.format.order (floatOfInt .f64 t) x ≠ some .eq := hne2
      simp [this]
  · have := hin _ h1
    rw [Bool.and_eq_false_iff] at this
    rcases this with e | e
    · exact .inl e
    · by_cases e1 : (FloatKind.f64.format.order x 13943144446339055616 == some .gt || FloatKind.f64.format.order x 13943144446339055616 == some .eq) = true
      · exact .inr (.inl ⟨e1, e⟩)
      · exact .inl (by simpa using e1)

set_option maxHeartbeats 1600000 in
theorem wholePart_yes {x : Nat} {a : Int} (h : IsW x a) (w : World) :
    Calls Tryd.prog 28 #[.float .f64 x] w fun e w' => e = .returned (.bool true) ∧ w' = w := by
  obtain ⟨h1, h2⟩ := part_in h
  obtain ⟨s, m, i, hr, h3⟩ := part_whole h
  have H := Lib.hid (fun W => trunc_any hr W)
  clear h hr
  generalize hT : truncW s m i = T at h3 H
  clear hT
  go_enter Tryd.func28, Tryd.ntmps28
  go_wp2_with (go_at_call 32; refine (H.out _).mono ?_; rintro e w' ⟨rfl, rfl⟩)
  go_ret
  exact ⟨rfl, rfl⟩

set_option maxHeartbeats 1600000 in
theorem wholePart_no {x : Nat} (h : NoW x) (w : World) :
    Calls Tryd.prog 28 #[.float .f64 x] w fun e w' => e = .returned (.bool false) ∧ w' = w := by
  rcases part_not h with h1 | ⟨h1, h2⟩ | ⟨h1, h2, s, m, i, t, hr, h3, -, -⟩
  · clear h
    go_enter Tryd.func28, Tryd.ntmps28
    go_wp2
    go_ret
    exact ⟨rfl, rfl⟩
  · clear h
    go_enter Tryd.func28, Tryd.ntmps28
    go_wp2
    go_ret
    exact ⟨rfl, rfl⟩
  · have H := Lib.hid (fun W => trunc_any hr W)
    clear h hr
    generalize hT : truncW s m i = T at h3 H
    clear hT
    go_enter Tryd.func28, Tryd.ntmps28
    go_wp2_with (go_at_call 32; refine (H.out _).mono ?_; rintro e w' ⟨rfl, rfl⟩)
    go_ret
    exact ⟨rfl, rfl⟩

set_option maxHeartbeats 1600000 in
theorem right_yes {x y : Nat} {a b : Int} (hx : IsW x a) (hy : IsW y b) (w : World) :
    Calls Tryd.prog 23 #[.complex .f64 x y] w fun e w' => e = .returned (.bool true) ∧ w' = w := by
  have H1 := Lib.hid (fun W => wholePart_yes hx W)
  have H2 := Lib.hid (fun W => wholePart_yes hy W)
  clear hx hy
  go_enter Tryd.func23, Tryd.ntmps23
  go_wp2_with fail
  refine (H1.out _).mono ?_
  rintro e w' ⟨rfl, rfl⟩
  go_wp2_with fail
  refine (H2.out _).mono ?_
  rintro e w' ⟨rfl, rfl⟩
  go_wp2
  go_ret
  exact ⟨rfl, rfl⟩

set_option maxHeartbeats 1600000 in
theorem right_no {x y : Nat} (h : NoW x ∨ NoW y) (w : World) :
    Calls Tryd.prog 23 #[.complex .f64 x y] w fun e w' => e = .returned (.bool false) ∧ w' = w := by
  rcases isW_or x with ⟨a, hx⟩ | hx
  · have hy : NoW y := h.resolve_left fun h => h a hx
    have H1 := Lib.hid (fun W => wholePart_yes hx W)
    have H2 := Lib.hid (fun W => wholePart_no hy W)
    clear hx hy h
    go_enter Tryd.func23, Tryd.ntmps23
    go_wp2_with fail
    refine (H1.out _).mono ?_
    rintro e w' ⟨rfl, rfl⟩
    go_wp2_with fail
    refine (H2.out _).mono ?_
    rintro e w' ⟨rfl, rfl⟩
    go_wp2
    go_ret
    exact ⟨rfl, rfl⟩
  · have H1 := Lib.hid (fun W => wholePart_no hx W)
    clear hx h
    go_enter Tryd.func23, Tryd.ntmps23
    go_wp2_with (go_at_call 28; refine (H1.out _).mono ?_; rintro e w' ⟨rfl, rfl⟩)
    go_ret
    exact ⟨rfl, rfl⟩

theorem toInt_run {x : Nat} {a : Int} (h : IsW x a) (W : World) : (convert 56 3 (.float .f64 x)).run Tryd.prog W = .ok (.int .i64 a) W :=
  run_convert_float_int W 56 3 .f64 .i64 x a (by simp [Tryd.underlying56]) Tryd.underlying3 (wh_toInt h.1 (by have := h.2; omega) (by have := h.2; omega))

set_option maxHeartbeats 1600000 in
theorem parts_yes {x y : Nat} {a b : Int} (hx : IsW x a) (hy : IsW y b) (w : World) :
    Calls Tryd.prog 29 #[.complex .f64 x y] w fun e w' => e = .returned (.tuple #[.int .i64 a, .int .i64 b, .bool true]) ∧ w' = w := by
  have H := Lib.hid (fun W => right_yes hx hy W)
  have c1 := fun W => toInt_run hx W
  have c2 := fun W => toInt_run hy W
  clear hx hy
  go_enter Tryd.func29, Tryd.ntmps29
  go_wp2_with (go_at_call 23; refine (H.out _).mono ?_; rintro e w' ⟨rfl, rfl⟩)
  exact bodyPost_ret (v := .tuple #[.int .i64 a, .int .i64 b, .bool true]) (by simp [results, Tryd.results29, go_sem]) rfl ⟨rfl, rfl⟩

set_option maxHeartbeats 1600000 in
theorem parts_no {x y : Nat} (h : NoW x ∨ NoW y) (w : World) :
    Calls Tryd.prog 29 #[.complex .f64 x y] w fun e w' => e = .returned (.tuple #[.int .i64 0, .int .i64 0, .bool false]) ∧ w' = w := by
  have H := Lib.hid (fun W => right_no h W)
  clear h
  go_enter Tryd.func29, Tryd.ntmps29
  go_wp2_with (go_at_call 23; refine (H.out _).mono ?_; rintro e w' ⟨rfl, rfl⟩)
  exact bodyPost_ret (v := .tuple #[.int .i64 0, .int .i64 0, .bool false]) (by simp [results, Tryd.results29, go_sem]) rfl ⟨rfl, rfl⟩

theorem of_any (a b : Int) (w : World) :
    Calls Tryd.prog 18 #[.int .i64 a, .int .i64 b] w fun e w' => e = .returned (.complex .f64 (floatOfInt .f64 a) (floatOfInt .f64 b)) ∧ w' = w := by
  go_enter Tryd.func18, Tryd.ntmps18
  go_wp2
  go_ret
  exact ⟨rfl, rfl⟩

theorem sq_le {a : Int} (h1 : -33554432 ≤ a) (h2 : a ≤ 33554432) : 0 ≤ a * a ∧ a * a ≤ 1125899906842624 := by
  have := Int.mul_self_le_mul_self (a := a.natAbs) (b := 33554432) (by omega) (by omega)
  have e : ((a.natAbs : Int)) * a.natAbs = a * a := by
    rcases Int.le_total 0 a with h | h
    · rw [Int.natAbs_of_nonneg h]
    · rw [show (a.natAbs : Int) = -a by omega, Int.neg_mul_neg]
  have h0 : 0 ≤ (a.natAbs : Int) * a.natAbs := Int.mul_nonneg (by omega) (by omega)
  omega
theorem wrap_id {n : Int} (h1 : -9223372036854775808 ≤ n) (h2 : n ≤ 9223372036854775807) : IntKind.i64.wrap n = n := by rw [IntKind.wrap_i64]; omega

end Go.Proofs.YtglcihfcnbifcaaDoor
