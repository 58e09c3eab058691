/-
  VectorRights returns true for any entries, and writes nothing that was there. The condition: the library's table of powers of ten holds what it was laid with.
-/
import Derived.Test.YthihfigphedomaaDoorAnchor
namespace Go.Proofs.YthihfigphedomaaDoor
open Go.ChangeShapes Go.WideShapes Go.ChangeAt Go.RowKit Go.Lib
open Go.Sort
set_option linter.unusedVariables false
set_option linter.unusedSimpArgs false

set_option maxHeartbeats 1600000 in
set_option maxRecDepth 100000 in
theorem rights_law (xs : List En) (p : Option Addr) (c : Nat) (w : World) (hR : Row w p xs) (hl : xs.length ≤ 9223372036854775807) (hfit : Fit w) :
    Calls Tryd.prog 3 #[.slice p xs.length c] w fun e w' => e = .returned (.bool true) ∧ Below w.heap.size w w' := by
  have HA := Lib.hid (anchor_any w hfit)
  have HR : Hid (Row w p xs) := hR
  clear hfit hR
  by_cases h1 : 1000 < xs.length
  · have h1' : (1000 : Int) < (xs.length : Int) := by omega
    go_enter Tryd.func3, Tryd.ntmps3
    go_wp2_with (go_at_call 7; refine HA.out.mono ?_; rintro e w1 ⟨rfl, hb1⟩)
    go_ret
    exact ⟨rfl, hb1⟩
  · have h1' : ¬ (1000 : Int) < (xs.length : Int) := by omega
    have h1000 : xs.length ≤ 1000 := by omega
    have H8 : Hid (∀ W, Below w.heap.size w W → Calls Tryd.prog 8 #[.slice p xs.length c] W fun e w' => e = .returned (.bool (rightB xs)) ∧ Below W.heap.size W w') := fun W hW => right_any xs p c W (HR.out.below hW) (by omega)
    have H10 : Hid (∀ W, Below w.heap.size w W → Calls Tryd.prog 10 #[.slice p xs.length c] W (Gave W xs)) := fun W hW => refs_any xs p c W (HR.out.below hW) h1000
    have H9 : Hid (∀ p1 c1 W, Row W p1 xs → Calls Tryd.prog 9 #[.slice p1 xs.length c1] W fun e w' => e = .returned (.bool (rightB xs)) ∧ Below W.heap.size W w') := fun p1 c1 W h => refright_any xs p1 c1 W h (by omega)
    generalize rightB xs = b at H8 H9
    go_enter Tryd.func3, Tryd.ntmps3
    go_wp2_with fail
    refine HA.out.mono ?_
    rintro e w1 ⟨rfl, hb1⟩
    have HB1 := Lib.hid hb1
    clear hb1 HA
    go_wp2_with fail
    refine (H8.out _ HB1.out).mono ?_
    rintro e w2 ⟨rfl, hb2⟩
    have HB2 : Hid (Below w.heap.size w w2) := below_step HB1.out hb2
    clear hb2 HB1 H8
    go_wp2_with fail
    refine (H10.out _ HB2.out).mono ?_
    rintro e w3 ⟨p3, c3, rfl, hr3, hb3⟩
    have HB3 : Hid (Below w.heap.size w w3) := below_step HB2.out hb3
    have HR3 := Lib.hid hr3
    clear hb3 hr3 HB2 H10
    go_wp2_with fail
    refine (H9.out _ _ _ HR3.out).mono ?_
    rintro e w4 ⟨rfl, hb4⟩
    have HB4 : Hid (Below w.heap.size w w4) := below_step HB3.out hb4
    clear hb4 HB3 H9
    go_wp2_with fail
    go_ret
    exact ⟨by simp, HB4.out⟩

end Go.Proofs.YthihfigphedomaaDoor
