/-
  VectorJoins returns true for any entries, any replica and any number, and writes nothing that was there. The condition: the library's table of powers of ten holds what it was laid with.
-/
import Derived.Test.YthihfigphedomaaDoorLaws
import Derived.Test.YthihfigphedomaaDoorWith
import Derived.Test.YthihfigphedomaaDoorRefShow
namespace Go.Proofs.YthihfigphedomaaDoor
open Go.ChangeShapes Go.WideShapes Go.ChangeAt Go.RowKit Go.Lib
open Go.Sort
set_option linter.unusedVariables false
set_option linter.unusedSimpArgs false

theorem more_nil (W : World) : MoreRow W none [] := fun i hi => by simp at hi

set_option maxHeartbeats 12800000 in
set_option maxRecDepth 100000 in
theorem joins_law (xs ys : List En) (r s : Int) (p q : Option Addr) (c d : Nat) (w : World) (hR : Row w p xs) (hS : Row w q ys) (hfx : Fits xs) (hl : xs.length ≤ 9223372036854775807) (hm : ys.length ≤ 9223372036854775807) (np : p = none → c = 0) (nq : q = none → d = 0) (hc : xs.length ≤ c) (hfit : Fit w) :
    Calls Tryd.prog 4 #[.slice p xs.length c, .slice q ys.length d, .int .u16 r, .int .u32 s] w fun e w' => e = .returned (.bool true) ∧ Below w.heap.size w w' := by
  have HA := Lib.hid (anchor_any w hfit)
  have HFit : Hid (Fit w) := hfit
  have S0 : Hid (St w [(p, xs), (q, ys)] w) := St.start w (by intro x hx; simp at hx; rcases hx with rfl | rfl; exact hR; exact hS)
  have H11x : Hid (∀ W, Row W p xs → Calls Tryd.prog 11 #[.slice p xs.length c] W fun e w' => e = .returned (.bool (rightS xs)) ∧ Below W.heap.size W w') := fun W h => rights_any xs p c W h hl
  have H11y : Hid (∀ W, Row W q ys → Calls Tryd.prog 11 #[.slice q ys.length d] W fun e w' => e = .returned (.bool (rightS ys)) ∧ Below W.heap.size W w') := fun W h => rights_any ys q d W h hm
  clear hR hS hfit
  cases ha : rightS xs with
  | false =>
    rw [ha] at H11x
    clear ha
    go_enter Tryd.func4, Tryd.ntmps4
    go_wp2_with fail
    refine HA.out.mono ?_
    rintro e w1 ⟨rfl, hb⟩
    have S1 := Lib.hid (S0.out.step hb)
    clear hb
    go_wp2_with fail
    refine (H11x.out _ (S1.out.row p xs (by simp))).mono ?_
    rintro e w2 ⟨rfl, hb⟩
    have S2 := Lib.hid (S1.out.step hb)
    clear hb
    go_wp2_with fail
    go_ret
    exact ⟨rfl, S2.out.1⟩
  | true =>
    rw [ha] at H11x
    have hx := rightS_true ha
    clear ha
    cases hb : rightS ys with
    | false =>
      rw [hb] at H11y
      clear hb
      go_enter Tryd.func4, Tryd.ntmps4
      go_wp2_with fail
      refine HA.out.mono ?_
      rintro e w1 ⟨rfl, hb⟩
      have S1 := Lib.hid (S0.out.step hb)
      clear hb
      go_wp2_with fail
      refine (H11x.out _ (S1.out.row p xs (by simp))).mono ?_
      rintro e w2 ⟨rfl, hb⟩
      have S2 := Lib.hid (S1.out.step hb)
      clear hb
      go_wp2_with fail
      refine (H11y.out _ (S2.out.row q ys (by simp))).mono ?_
      rintro e w3 ⟨rfl, hb⟩
      have S3 := Lib.hid (S2.out.step hb)
      clear hb
      go_wp2_with fail
      go_ret
      exact ⟨rfl, S3.out.1⟩
    | true =>
      rw [hb] at H11y
      have hy := rightS_true hb
      clear hb
      by_cases hs : 268435456 < s
      · skip
        go_enter Tryd.func4, Tryd.ntmps4
        go_wp2_with fail
        refine HA.out.mono ?_
        rintro e w1 ⟨rfl, hb⟩
        have S1 := Lib.hid (S0.out.step hb)
        clear hb
        go_wp2_with fail
        refine (H11x.out _ (S1.out.row p xs (by simp))).mono ?_
        rintro e w2 ⟨rfl, hb⟩
        have S2 := Lib.hid (S1.out.step hb)
        clear hb
        go_wp2_with fail
        refine (H11y.out _ (S2.out.row q ys (by simp))).mono ?_
        rintro e w3 ⟨rfl, hb⟩
        have S3 := Lib.hid (S2.out.step hb)
        clear hb
        go_wp2_with fail
        go_ret
        exact ⟨rfl, S3.out.1⟩
      · skip
        obtain ⟨lx, sx, gx⟩ := hx
        obtain ⟨ly, sy, gy⟩ := hy
        have h1 : IsJoin (xs ++ ys) (joinL xs ys) := IsJoin.fold (fun y hy => (gy y hy).1) (IsJoin.self (sp_of_srt sx))
        have h2 : IsJoin (xs ++ (ys ++ xs)) (joinL xs ys) := h1.congr (Dom.app (Dom.refl xs).left (Dom.refl ys).left.right) (Dom.app (Dom.refl xs).left (Dom.app (Dom.refl ys).right (Dom.refl xs).left))
        have h3 : IsJoin (xs ++ flatM []) xs := by simpa [flatM] using IsJoin.self (sp_of_srt sx)
        have hrj : rightB (joinL xs ys) = true := rightB_true ((right_iff _).2 ⟨srt_of_sp h1.sp, fun x hx => by
          rcases List.mem_append.1 (h1.sub x hx) with h | h
          · exact gx x h
          · exact gy x h⟩)
        have l1 := joinL_le xs ys
        have lw := withL_le xs r s
        have H12 : Hid (∀ W, Row W p xs → Calls Tryd.prog 12 #[.slice p xs.length c, .int .u16 r] W fun e w' => e = .returned (.int .u32 (getL xs r)) ∧ Below W.heap.size W w') := fun W h => get_any xs r p c W h sx (by omega)
        have H13 : Hid (∀ p1 c1 W, Row W p1 xs → Calls Tryd.prog 13 #[.slice p1 xs.length c1, .int .u16 r] W fun e w' => e = .returned (.int .u32 (getL xs r)) ∧ Below W.heap.size W w') := fun p1 c1 W h => (refget_any xs r p1 c1 W h (by omega)).mono fun e w' ⟨he, hw⟩ => ⟨he, by rw [hw]; exact Below.refl _ _⟩
        have H15 : Hid (∀ W, Row W p xs → Calls Tryd.prog 15 #[.slice p xs.length c, .int .u16 r, .int .u32 s] W (Gave W (withL xs r s))) := fun W h => with_any xs r s p c W h sx (by omega) hc np
        have H16 : Hid (∀ p1 c1 W, Row W p1 xs → Calls Tryd.prog 16 #[.slice p1 xs.length c1, .int .u16 r, .int .u32 s] W (Gave W (withL xs r s))) := fun p1 c1 W h => refwith_any xs r s p1 c1 W h (by omega)
        have H14w : Hid (∀ p1 c1 p2 c2 W, Row W p1 (withL xs r s) → Row W p2 (withL xs r s) → Calls Tryd.prog 14 #[.slice p1 (withL xs r s).length c1, .slice p2 (withL xs r s).length c2] W fun e w' => e = .returned (.bool true) ∧ Below W.heap.size W w') := fun p1 c1 p2 c2 W a b => by
          have := same_any (withL xs r s) (withL xs r s) p1 p2 c1 c2 W a b (by omega); rwa [decide_eq_true (rfl : withL xs r s = withL xs r s)] at this
        have HJ : Hid (∀ W, Row W p xs → Row W q ys → Calls Tryd.prog 17 #[.slice p xs.length c, .slice (some ⟨W.heap.size, 0, none⟩) 1 1] (W.alloc (.cells #[.slice q ys.length d] 23)) (fun e w' => ∃ p' c', e = .returned (.slice p' (joinL xs ys).length c') ∧ (p' = none → c' = 0) ∧ Row w' p' (joinL xs ys) ∧ Below W.heap.size W w')) := fun W a b => join1 xs ys (joinL xs ys) h1 (by omega) p q c d W a b nq
        have HJ2 : Hid (∀ W, Row W p xs → Row W q ys → Calls Tryd.prog 17 #[.slice p xs.length c, .slice (some ⟨W.heap.size, 0, none⟩) 2 2] (W.alloc (.cells #[.slice q ys.length d, .slice p xs.length c] 23)) (fun e w' => ∃ p' c', e = .returned (.slice p' (joinL xs ys).length c') ∧ (p' = none → c' = 0) ∧ Row w' p' (joinL xs ys) ∧ Below W.heap.size W w')) := fun W a b => join2 xs ys xs (joinL xs ys) h2 (by omega) p q p c d c W a b a nq np
        have HJ0 : Hid (∀ W, Row W p xs → Calls Tryd.prog 17 #[.slice p xs.length c, .slice none 0 0] W (GaveV W xs)) := fun W a => join_to xs [] xs h3 p none c 0 W a (more_nil W) (by simp [flatM]; omega) (by simp)
        have H18 : Hid (∀ p1 c1 p2 c2 W, Row W p1 xs → Row W p2 ys → Calls Tryd.prog 18 #[.slice p1 xs.length c1, .slice p2 ys.length c2] W (Gave W (joinL xs ys))) := fun p1 c1 p2 c2 W a b => refjoin_any xs ys p1 p2 c1 c2 W a b (by omega) (by omega)
        have H14j : Hid (∀ p1 c1 p2 c2 W, Row W p1 (joinL xs ys) → Row W p2 (joinL xs ys) → Calls Tryd.prog 14 #[.slice p1 (joinL xs ys).length c1, .slice p2 (joinL xs ys).length c2] W fun e w' => e = .returned (.bool true) ∧ Below W.heap.size W w') := fun p1 c1 p2 c2 W a b => by
          have := same_any (joinL xs ys) (joinL xs ys) p1 p2 c1 c2 W a b (by omega); rwa [decide_eq_true (rfl : joinL xs ys = joinL xs ys)] at this
        have H14x : Hid (∀ p1 c1 p2 c2 W, Row W p1 xs → Row W p2 xs → Calls Tryd.prog 14 #[.slice p1 xs.length c1, .slice p2 xs.length c2] W fun e w' => e = .returned (.bool true) ∧ Below W.heap.size W w') := fun p1 c1 p2 c2 W a b => by
          have := same_any xs xs p1 p2 c1 c2 W a b (by omega); rwa [decide_eq_true (rfl : xs = xs)] at this
        have H8 : Hid (∀ p1 c1 W, Row W p1 (joinL xs ys) → Calls Tryd.prog 8 #[.slice p1 (joinL xs ys).length c1] W fun e w' => e = .returned (.bool true) ∧ Below W.heap.size W w') := fun p1 c1 W h => by
          have := right_any (joinL xs ys) p1 c1 W h (by omega); rwa [hrj] at this
        have H10x : Hid (∀ W, Row W p xs → Calls Tryd.prog 10 #[.slice p xs.length c] W (Gave W xs)) := fun W h => refs_any xs p c W h (by omega)
        have H10y : Hid (∀ W, Row W q ys → Calls Tryd.prog 10 #[.slice q ys.length d] W (Gave W ys)) := fun W h => refs_any ys q d W h (by omega)
        have H19 : Hid (∀ W, Row W p xs → Calls Tryd.prog 19 #[.slice p xs.length c] W fun e w' => e = .returned (.int .i64 (sumL xs)) ∧ Below W.heap.size W w') := fun W h => sum_any xs p c W h (by omega) (fun i hi => (hfx.at hi).2.2)
        have H20 : Hid (∀ W, Row W p xs → Fit W → Calls Tryd.prog 20 #[.slice p xs.length c] W fun e w' => e = .returned (.string ⟨(showL xs).toArray⟩) ∧ Below W.heap.size W w') := fun W h hf => show_any xs p c W h hfx (by omega) hf
        have H21 : Hid (∀ p1 c1 W, Row W p1 xs → Calls Tryd.prog 21 #[.slice p1 xs.length c1] W fun e w' => e = .returned (.string ⟨(showL xs).toArray⟩) ∧ Below W.heap.size W w') := fun p1 c1 W h => refshow_any xs p1 c1 W h hfx (by omega)
        have HX : Hid (∀ i, i < xs.length → 0 ≤ (atL xs i).2 ∧ (atL xs i).2 ≤ 4294967295) := fun i hi => (hfx.at hi).2.2
        generalize withL xs r s = Zw at H15 H16 H14w
        generalize joinL xs ys = J at HJ HJ2 H18 H14j H8
        generalize getL xs r = gv at H12 H13
        generalize showL xs = T at H20 H21
        have HSm : Hid (∀ z, z = sumL xs → z = sumL xs) := fun _ h => h
        clear h1 h2 h3 hrj l1 lw sx sy gx gy hfx hl hm np nq hc ly
        go_enter Tryd.func4, Tryd.ntmps4
        go_wp2_with fail
        refine HA.out.mono ?_
        rintro e w1 ⟨rfl, hb⟩
        have S1 := Lib.hid (S0.out.step hb)
        clear hb
        go_wp2_with fail
        refine (H11x.out _ (S1.out.row p xs (by simp))).mono ?_
        rintro e w2 ⟨rfl, hb⟩
        have S2 := Lib.hid (S1.out.step hb)
        clear hb
        go_wp2_with fail
        refine (H11y.out _ (S2.out.row q ys (by simp))).mono ?_
        rintro e w3 ⟨rfl, hb⟩
        have S3 := Lib.hid (S2.out.step hb)
        clear hb
        go_wp2_with fail
        refine (H10x.out _ (S3.out.row p xs (by simp))).mono ?_
        rintro e w4 ⟨p4, c4, rfl, hr, hb⟩
        have S4 := Lib.hid ((S3.out.step hb).add hr)
        clear hb hr S3
        go_wp2_with fail
        refine (H10y.out _ (S4.out.row q ys (by simp))).mono ?_
        rintro e w5 ⟨p5, c5, rfl, hr, hb⟩
        have S5 := Lib.hid ((S4.out.step hb).add hr)
        clear hb hr S4
        go_wp2_with fail
        refine (H12.out _ (S5.out.row p xs (by simp))).mono ?_
        rintro e w6 ⟨rfl, hb⟩
        have S6 := Lib.hid (S5.out.step hb)
        clear hb S5
        go_wp2_with fail
        refine (H13.out _ _ _ (S6.out.row p4 xs (by simp))).mono ?_
        rintro e w7 ⟨rfl, hb⟩
        have S7 := Lib.hid (S6.out.step hb)
        clear hb S6
        go_wp2_with fail
        refine (H15.out _ (S7.out.row p xs (by simp))).mono ?_
        rintro e w8 ⟨p8, c8, rfl, hr, hb⟩
        have S8 := Lib.hid ((S7.out.step hb).add hr)
        clear hb hr S7
        go_wp2_with fail
        refine (H16.out _ _ _ (S8.out.row p4 xs (by simp))).mono ?_
        rintro e w9 ⟨p9, c9, rfl, hr, hb⟩
        have S9 := Lib.hid ((S8.out.step hb).add hr)
        clear hb hr S8
        go_wp2_with fail
        refine (H14w.out _ _ _ _ _ (S9.out.row p8 Zw (by simp)) (S9.out.row p9 Zw (by simp))).mono ?_
        rintro e w10 ⟨rfl, hb⟩
        have S10 := Lib.hid (S9.out.step hb)
        clear hb S9
        go_wp2_with fail
        refine (HJ.out _ (S10.out.row p xs (by simp)) (S10.out.row q ys (by simp))).mono ?_
        rintro e w11 ⟨p11, c11, rfl, n11, hr, hb⟩
        have S11 := Lib.hid ((S10.out.step hb).add hr)
        clear hb hr S10 n11
        go_wp2_with fail
        refine (H18.out _ _ _ _ _ (S11.out.row p4 xs (by simp)) (S11.out.row p5 ys (by simp))).mono ?_
        rintro e w12 ⟨p12, c12, rfl, hr, hb⟩
        have S12 := Lib.hid ((S11.out.step hb).add hr)
        clear hb hr S11
        go_wp2_with fail
        refine (H14j.out _ _ _ _ _ (S12.out.row p11 J (by simp)) (S12.out.row p12 J (by simp))).mono ?_
        rintro e w13 ⟨rfl, hb⟩
        have S13 := Lib.hid (S12.out.step hb)
        clear hb S12
        go_wp2_with fail
        refine (HJ0.out _ (S13.out.row p xs (by simp))).mono ?_
        rintro e w14 ⟨p14, c14, rfl, n14, hr, hb⟩
        have S14 := Lib.hid ((S13.out.step hb).add hr)
        clear hb hr S13 n14
        go_wp2_with fail
        refine (H14x.out _ _ _ _ _ (S14.out.row p14 xs (by simp)) (S14.out.row p4 xs (by simp))).mono ?_
        rintro e w15 ⟨rfl, hb⟩
        have S15 := Lib.hid (S14.out.step hb)
        clear hb S14
        go_wp2_with fail
        obtain ⟨LL, hLL⟩ : ∃ LL : List Sl, LL = [(p4, xs), (p5, ys), (p, xs), (q, ys)] := ⟨_, rfl⟩
        have HLL : Hid (LL = [(p4, xs), (p5, ys), (p, xs), (q, ys)]) := hLL
        have S16 : Hid (St w LL w15) := by
          rw [hLL]
          exact ⟨S15.out.1, fun x hx => S15.out.2 x (by simp at hx ⊢; rcases hx with h | h | h | h <;> simp [h])⟩
        clear S15 hLL
        go_loopg [11, 71] xs.length (fun n s i wr => ∃ (k : Nat) (z : Int), k ≤ xs.length ∧ xs.length - k ≤ n ∧ i = .int .i64 k ∧ s = .int .i64 z ∧ z = sumL (xs.take k) ∧ 0 ≤ z ∧ z ≤ 4294967295 * (k : Int) ∧ St w LL wr)
        case atStart => exact ⟨0, 0, Nat.zero_le _, by omega, rfl, rfl, by simp [sumL], by omega, by omega, S16.out⟩
        case round =>
          clear S16
          obtain ⟨k, z, hk, hg, rfl, rfl, hz, z0, z1, hst⟩ := hrel
          have HZ : Hid (z = sumL (xs.take k)) := hz
          have S17 : Hid (St w LL wr) := hst
          clear hst hz
          by_cases hlt : k < xs.length
          · obtain ⟨b, o, rfl, c0, c1⟩ := (S17.out.row p4 xs (by rw [HLL.out]; simp)) k hlt
            obtain ⟨y0, y1⟩ := HX.out k hlt
            generalize (atL xs k).1 = x at c0
            generalize hy : (atL xs k).2 = y at c1 y0 y1
            have B : Hid ((atL xs k).2 = y) := hy
            clear hy
            have hw1 : IntKind.i64.wrap y = y := by rw [IntKind.wrap_i64]; omega
            go_wp2_with fail
            go_roundg (xs.length - (k + 1))
            case measure => omega
            case rel => exact ⟨k + 1, z + y, by omega, Nat.le_refl _, by go_num, by go_num, by rw [sumL_take xs k hlt, B.out, HZ.out], by omega, by omega, S17.out.alloc _⟩
          · have : k = xs.length := by omega
            subst this
            rw [List.take_length] at HZ
            have S18 : Hid (St w [(p4, xs), (p5, ys), (p, xs), (q, ys)] wr) := by rw [← HLL.out]; exact S17.out
            have H19' : Hid (∀ W, Row W p xs → Calls Tryd.prog 19 #[.slice p xs.length c] W fun e w' => e = .returned (.int .i64 z) ∧ Below W.heap.size W w') := by rw [HZ.out]; exact H19.out
            clear S17 HLL H19 HZ
            go_wp2_with fail
            refine (HJ.out _ (S18.out.row p xs (by simp)) (S18.out.row q ys (by simp))).mono ?_
            rintro e w19 ⟨p19, c19, rfl, n19, hr, hb⟩
            have S19 := Lib.hid ((S18.out.step hb).add hr)
            clear hb hr S18 n19
            go_wp2_with fail
            refine (H8.out _ _ _ (S19.out.row p19 J (by simp))).mono ?_
            rintro e w20 ⟨rfl, hb⟩
            have S20 := Lib.hid (S19.out.step hb)
            clear hb S19
            go_wp2_with fail
            refine (HJ2.out _ (S20.out.row p xs (by simp)) (S20.out.row q ys (by simp))).mono ?_
            rintro e w21 ⟨p21, c21, rfl, n21, hr, hb⟩
            have S21 := Lib.hid ((S20.out.step hb).add hr)
            clear hb hr S20 n21
            go_wp2_with fail
            refine (H18.out _ _ _ _ _ (S21.out.row p4 xs (by simp)) (S21.out.row p5 ys (by simp))).mono ?_
            rintro e w22 ⟨p22, c22, rfl, hr, hb⟩
            have S22 := Lib.hid ((S21.out.step hb).add hr)
            clear hb hr S21
            go_wp2_with fail
            refine (H14j.out _ _ _ _ _ (S22.out.row p21 J (by simp)) (S22.out.row p22 J (by simp))).mono ?_
            rintro e w23 ⟨rfl, hb⟩
            have S23 := Lib.hid (S22.out.step hb)
            clear hb S22
            go_wp2_with fail
            refine (H19'.out _ (S23.out.row p xs (by simp))).mono ?_
            rintro e w24 ⟨rfl, hb⟩
            have S24 := Lib.hid (S23.out.step hb)
            clear hb S23
            go_wp2_with fail
            refine (H20.out _ (S24.out.row p xs (by simp)) (HFit.out.below S24.out.1)).mono ?_
            rintro e w25 ⟨rfl, hb⟩
            have S25 := Lib.hid (S24.out.step hb)
            clear hb S24
            go_wp2_with fail
            refine (H21.out _ _ _ (S25.out.row p4 xs (by simp))).mono ?_
            rintro e w26 ⟨rfl, hb⟩
            have S26 := Lib.hid (S25.out.step hb)
            clear hb S25
            go_wp2_with fail
            refine (H14x.out _ _ _ _ _ (S26.out.row p xs (by simp)) (S26.out.row p4 xs (by simp))).mono ?_
            rintro e w27 ⟨rfl, hb⟩
            have S27 := Lib.hid (S26.out.step hb)
            clear hb S26
            go_wp2_with fail
            go_ret
            exact ⟨rfl, S27.out.1⟩

end Go.Proofs.YthihfigphedomaaDoor
