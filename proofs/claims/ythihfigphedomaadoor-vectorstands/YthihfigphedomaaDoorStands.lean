/-
  VectorStands returns true for any entries, and writes nothing that was there. The condition: the library's table of powers of ten holds what it was laid with.
-/
import Derived.Test.YthihfigphedomaaDoorState
namespace Go.Proofs.YthihfigphedomaaDoor
open Go.ChangeShapes Go.WideShapes Go.ChangeAt Go.RowKit Go.Lib
open Go.Sort
set_option linter.unusedVariables false
set_option linter.unusedSimpArgs false

set_option maxHeartbeats 6400000 in
set_option maxRecDepth 100000 in
theorem stands_law (xs ys : List En) (p q : Option Addr) (c d : Nat) (w : World) (hR : Row w p xs) (hS : Row w q ys) (hfx : Fits xs) (hfy : Fits ys) (hl : xs.length ≤ 9223372036854775807) (hm : ys.length ≤ 9223372036854775807) (hfit : Fit w) :
    Calls Tryd.prog 5 #[.slice p xs.length c, .slice q ys.length d] w fun e w' => e = .returned (.bool true) ∧ Below w.heap.size w w' := by
  have HA := Lib.hid (anchor_any w hfit)
  have S0 : Hid (St w [(p, xs), (q, ys)] w) := St.start w (by intro x hx; simp at hx; rcases hx with rfl | rfl; exact hR; exact hS)
  have H11x : Hid (∀ W, Row W p xs → Calls Tryd.prog 11 #[.slice p xs.length c] W fun e w' => e = .returned (.bool (rightS xs)) ∧ Below W.heap.size W w') := fun W h => rights_any xs p c W h hl
  have H11y : Hid (∀ W, Row W q ys → Calls Tryd.prog 11 #[.slice q ys.length d] W fun e w' => e = .returned (.bool (rightS ys)) ∧ Below W.heap.size W w') := fun W h => rights_any ys q d W h hm
  clear hR hS hfit
  cases ha : rightS xs with
  | false =>
    rw [ha] at H11x
    clear ha
    go_enter Tryd.func5, Tryd.ntmps5
    go_wp2_with fail
    refine HA.out.mono ?_
    rintro e w1 ⟨rfl, hb⟩
    have S1 := Lib.hid (S0.out.step hb)
    clear hb
    go_wp2_with fail
    refine (H11x.out _ (S1.out.row p xs (by simp))).mono ?_
    rintro e w2 ⟨rfl, hb⟩
    have S2 := Lib.hid (S1.out.step hb)
    clear hb
    go_wp2_with fail
    go_ret
    exact ⟨rfl, S2.out.1⟩
  | true =>
    rw [ha] at H11x
    have hx := rightS_true ha
    clear ha
    cases hb : rightS ys with
    | false =>
      rw [hb] at H11y
      clear hb
      go_enter Tryd.func5, Tryd.ntmps5
      go_wp2_with fail
      refine HA.out.mono ?_
      rintro e w1 ⟨rfl, hb⟩
      have S1 := Lib.hid (S0.out.step hb)
      clear hb
      go_wp2_with fail
      refine (H11x.out _ (S1.out.row p xs (by simp))).mono ?_
      rintro e w2 ⟨rfl, hb⟩
      have S2 := Lib.hid (S1.out.step hb)
      clear hb
      go_wp2_with fail
      refine (H11y.out _ (S2.out.row q ys (by simp))).mono ?_
      rintro e w3 ⟨rfl, hb⟩
      have S3 := Lib.hid (S2.out.step hb)
      clear hb
      go_wp2_with fail
      go_ret
      exact ⟨rfl, S3.out.1⟩
    | true =>
      rw [hb] at H11y
      have hy := rightS_true hb
      clear hb
      obtain ⟨lx, sx, -⟩ := hx
      obtain ⟨ly, sy, -⟩ := hy
      have H10x : Hid (∀ W, Row W p xs → Calls Tryd.prog 10 #[.slice p xs.length c] W (Gave W xs)) := fun W h => refs_any xs p c W h (by omega)
      have H10y : Hid (∀ W, Row W q ys → Calls Tryd.prog 10 #[.slice q ys.length d] W (Gave W ys)) := fun W h => refs_any ys q d W h (by omega)
      have H22x : Hid (∀ p1 c1 q1 d1 W, Row W p1 xs → Row W q1 ys → Calls Tryd.prog 22 #[.slice p1 xs.length c1, .slice q1 ys.length d1] W fun e w' => e = .returned (.bool (coversL xs ys)) ∧ Below W.heap.size W w') := fun p1 c1 q1 d1 W h1 h2 => refcovers_any xs ys p1 q1 c1 d1 W h1 h2 hfx hfy (by omega) (by omega)
      have H22y : Hid (∀ p1 c1 q1 d1 W, Row W p1 ys → Row W q1 xs → Calls Tryd.prog 22 #[.slice p1 ys.length c1, .slice q1 xs.length d1] W fun e w' => e = .returned (.bool (coversL ys xs)) ∧ Below W.heap.size W w') := fun p1 c1 q1 d1 W h1 h2 => refcovers_any ys xs p1 q1 c1 d1 W h1 h2 hfy hfx (by omega) (by omega)
      have H23 : Hid (∀ W, Row W p xs → Row W q ys → Calls Tryd.prog 23 #[.slice p xs.length c, .slice q ys.length d] W fun e w' => e = .returned (.bool (coversL xs ys)) ∧ Below W.heap.size W w') := fun W h1 h2 => covers_any xs ys p q c d W h1 h2 sx (by omega) (by omega)
      have H24 : Hid (∀ W, Row W p xs → Row W q ys → Calls Tryd.prog 24 #[.slice p xs.length c, .slice q ys.length d] W fun e w' => e = .returned (.int .i64 (standsL (coversL xs ys) (coversL ys xs))) ∧ Below W.heap.size W w') := fun W h1 h2 => stands_any xs ys p q c d W h1 h2 sx sy (by omega) (by omega)
      have H25 : Hid (∀ W, Row W p xs → Row W q ys → Calls Tryd.prog 25 #[.slice p xs.length c, .slice q ys.length d] W (Gave3 W (lacksL xs ys))) := fun W h1 h2 => lacks_any xs ys p q c d W h1 h2 sx hfx hfy (by omega) (by omega)
      have H26 : Hid (∀ p1 c1 q1 d1 W, Row W p1 xs → Row W q1 ys → Calls Tryd.prog 26 #[.slice p1 xs.length c1, .slice q1 ys.length d1] W (Gave3 W (lacksL xs ys))) := fun p1 c1 q1 d1 W h1 h2 => reflacks_any xs ys p1 q1 c1 d1 W h1 h2 hfx hfy (by omega) (by omega)
      have hgl := lacksL_le xs ys
      generalize coversL xs ys = a at H22x H23 H24
      generalize coversL ys xs = b at H22y H24
      generalize lacksL xs ys = gs at H25 H26 hgl
      clear hfx hfy sx sy hl hm
      cases a <;> cases b
      all_goals
        simp only [standsL, Bool.and_self, Bool.and_true, Bool.and_false, Bool.true_and, Bool.false_and, if_true, if_false, Bool.false_eq_true] at H24
        go_enter Tryd.func5, Tryd.ntmps5
        go_wp2_with fail
        refine HA.out.mono ?_
        rintro e w1 ⟨rfl, hb⟩
        have S1 := Lib.hid (S0.out.step hb)
        clear hb HA S0
        go_wp2_with fail
        refine (H11x.out _ (S1.out.row p xs (by simp))).mono ?_
        rintro e w2 ⟨rfl, hb⟩
        have S2 := Lib.hid (S1.out.step hb)
        clear hb S1 H11x
        go_wp2_with fail
        refine (H11y.out _ (S2.out.row q ys (by simp))).mono ?_
        rintro e w3 ⟨rfl, hb⟩
        have S3 := Lib.hid (S2.out.step hb)
        clear hb S2 H11y
        go_wp2_with fail
        refine (H10x.out _ (S3.out.row p xs (by simp))).mono ?_
        rintro e w4 ⟨p4, c4, rfl, hr, hb⟩
        have S4 := Lib.hid ((S3.out.step hb).add hr)
        clear hb hr S3 H10x
        go_wp2_with fail
        refine (H10y.out _ (S4.out.row q ys (by simp))).mono ?_
        rintro e w5 ⟨q5, d5, rfl, hr, hb⟩
        have S5 := Lib.hid ((S4.out.step hb).add hr)
        clear hb hr S4 H10y
        go_wp2_with fail
        refine (H22x.out _ _ _ _ _ (S5.out.row p4 xs (by simp)) (S5.out.row q5 ys (by simp))).mono ?_
        rintro e w6 ⟨rfl, hb⟩
        have S6 := Lib.hid (S5.out.step hb)
        clear hb S5 H22x
        go_wp2_with fail
        refine (H22y.out _ _ _ _ _ (S6.out.row q5 ys (by simp)) (S6.out.row p4 xs (by simp))).mono ?_
        rintro e w7 ⟨rfl, hb⟩
        have S7 := Lib.hid (S6.out.step hb)
        clear hb S6 H22y
        go_wp2_with fail
        refine (H23.out _ (S7.out.row p xs (by simp)) (S7.out.row q ys (by simp))).mono ?_
        rintro e w8 ⟨rfl, hb⟩
        have S8 := Lib.hid (S7.out.step hb)
        clear hb S7 H23
        go_wp2_with fail
        refine (H24.out _ (S8.out.row p xs (by simp)) (S8.out.row q ys (by simp))).mono ?_
        rintro e w9 ⟨rfl, hb⟩
        have S9 := Lib.hid (S8.out.step hb)
        clear hb S8 H24
        go_wp2_with fail
        refine (H25.out _ (S9.out.row p xs (by simp)) (S9.out.row q ys (by simp))).mono ?_
        rintro e wa ⟨pa, ca, rfl, hra, hb⟩
        have Sa := Lib.hid (S9.out.step hb)
        have Ra := Lib.hid hra
        clear hb hra S9 H25
        go_wp2_with fail
        refine (H26.out _ _ _ _ _ (Sa.out.row p4 xs (by simp)) (Sa.out.row q5 ys (by simp))).mono ?_
        rintro e wb ⟨pb, cb, rfl, hrb, hb⟩
        have Bb : Hid (Below w.heap.size w wb) := (Sa.out.step hb).1
        have Rc := Lib.hid (Ra.out.below hb)
        have Rb := Lib.hid hrb
        clear hb hrb Sa H26 Ra
        go_wp2_with fail
        go_loopg [67] gs.length (fun n i wr => ∃ k nn : Nat, k ≤ gs.length ∧ gs.length - k ≤ n ∧ i = .int .i64 k ∧ wr = wb.drewN nn)
        case atStart => exact ⟨0, 0, Nat.zero_le _, by omega, rfl, rfl⟩
        case round =>
          obtain ⟨k, nn, hk, hg, rfl, rfl⟩ := hrel
          by_cases hlt : k < gs.length
          · obtain ⟨b1, o1, rfl, x0, x1, x2⟩ := Rc.out k hlt
            obtain ⟨b2, o2, rfl, y0, y1, y2⟩ := Rb.out k hlt
            generalize (at3 gs k).1 = g0 at x0 y0
            generalize (at3 gs k).2.1 = g1 at x1 y1
            generalize (at3 gs k).2.2 = g2 at x2 y2
            go_wp2_with fail
            go_quiet (fail)
            go_wp2
            go_roundg (gs.length - (k + 1))
            case measure => omega
            case rel => exact ⟨k + 1, _, by omega, Nat.le_refl _, by go_num, rfl⟩
          · have : k = gs.length := by omega
            subst this
            go_wp2
            go_ret
            exact ⟨rfl, below_drewN Bb.out _⟩

end Go.Proofs.YthihfigphedomaaDoor
