/-
  VectorLaws returns true for any entries, and writes nothing that was there. The condition: the library's table of powers of ten holds what it was laid with.
-/
import Derived.Test.YthihfigphedomaaDoorState
namespace Go.Proofs.YthihfigphedomaaDoor
open Go.ChangeShapes Go.WideShapes Go.ChangeAt Go.RowKit Go.Lib
open Go.Sort
set_option linter.unusedVariables false
set_option linter.unusedSimpArgs false

theorem more_two {W : World} {b c d : Nat} {p q : Option Addr} {xs ys : List En} (h : W.cell? ⟨b, 0, none⟩ = some (.slice p xs.length c)) (h' : W.cell? ⟨b, 1, none⟩ = some (.slice q ys.length d)) (hr : Row W p xs) (hr' : Row W q ys) (hn : p = none → c = 0) (hn' : q = none → d = 0) : MoreRow W (some ⟨b, 0, none⟩) [(p, c, xs), (q, d, ys)] := fun i hi => by
  have : i = 0 ∨ i = 1 := by simp at hi; omega
  rcases this with rfl | rfl
  · exact ⟨⟨b, 0, rfl, by simpa [atM] using h⟩, by simpa [atM] using hr, by simpa [atM] using hn⟩
  · exact ⟨⟨b, 0, rfl, by simpa [atM] using h'⟩, by simpa [atM] using hr', by simpa [atM] using hn'⟩

/-- A slice of one vector, laid by the call; Join of it. -/
theorem join1 (xs ys Z : List En) (hZ : IsJoin (xs ++ ys) Z) (hl : xs.length + ys.length ≤ 4000) (p q : Option Addr) (c d : Nat) (W : World) (hr : Row W p xs) (hs : Row W q ys) (hn : q = none → d = 0) :
    Calls Tryd.prog 17 #[.slice p xs.length c, .slice (some ⟨W.heap.size, 0, none⟩) 1 1] (W.alloc (.cells #[.slice q ys.length d] 23)) (fun e w' => ∃ p' c', e = .returned (.slice p' Z.length c') ∧ (p' = none → c' = 0) ∧ Row w' p' Z ∧ Below W.heap.size W w') :=
  (join_to xs [(q, d, ys)] Z (by simpa [flatM] using hZ) p (some ⟨W.heap.size, 0, none⟩) c 1 _ (hr.below (below_alloc (Below.refl _ _) _)) (more_one (by simp) (hs.below (below_alloc (Below.refl _ _) _)) hn) (by simpa [flatM] using hl) (by simp)).mono
    fun e w' ⟨p', c', h1, h2, h3, h4⟩ => ⟨p', c', h1, h2, h3, below_step (below_alloc (Below.refl _ _) _) h4⟩
theorem join2 (xs ys zs Z : List En) (hZ : IsJoin (xs ++ (ys ++ zs)) Z) (hl : xs.length + (ys.length + zs.length) ≤ 4000) (p q r : Option Addr) (c d e : Nat) (W : World) (hr : Row W p xs) (hs : Row W q ys) (ht : Row W r zs) (hn : q = none → d = 0) (hn' : r = none → e = 0) :
    Calls Tryd.prog 17 #[.slice p xs.length c, .slice (some ⟨W.heap.size, 0, none⟩) 2 2] (W.alloc (.cells #[.slice q ys.length d, .slice r zs.length e] 23)) (fun e w' => ∃ p' c', e = .returned (.slice p' Z.length c') ∧ (p' = none → c' = 0) ∧ Row w' p' Z ∧ Below W.heap.size W w') :=
  (join_to xs [(q, d, ys), (r, e, zs)] Z (by simpa [flatM] using hZ) p (some ⟨W.heap.size, 0, none⟩) c 2 _ (hr.below (below_alloc (Below.refl _ _) _)) (more_two (by simp) (by simp) (hs.below (below_alloc (Below.refl _ _) _)) (ht.below (below_alloc (Below.refl _ _) _)) hn hn') (by simpa [flatM] using hl) (by simp)).mono
    fun e w' ⟨p', c', h1, h2, h3, h4⟩ => ⟨p', c', h1, h2, h3, below_step (below_alloc (Below.refl _ _) _) h4⟩

theorem joinL_le (xs : List En) : ∀ ys : List En, (joinL xs ys).length ≤ xs.length + ys.length := by
  intro ys
  induction ys generalizing xs with
  | nil => simp [joinL]
  | cons y ys ih =>
    have h1 := ih (joinStep xs y)
    have h2 := joinStep_le xs y
    simp only [joinL, List.foldl_cons, List.length_cons] at h1 ⊢
    omega

set_option maxHeartbeats 12800000 in
set_option maxRecDepth 100000 in
theorem laws_law (us vs xs : List En) (p q r : Option Addr) (c d f : Nat) (w : World) (hR : Row w p us) (hS : Row w q vs) (hT : Row w r xs) (hl : us.length ≤ 9223372036854775807) (hm : vs.length ≤ 9223372036854775807) (hn : xs.length ≤ 9223372036854775807) (np : p = none → c = 0) (nq : q = none → d = 0) (nr : r = none → f = 0) (hfit : Fit w) :
    Calls Tryd.prog 6 #[.slice p us.length c, .slice q vs.length d, .slice r xs.length f] w fun e w' => e = .returned (.bool true) ∧ Below w.heap.size w w' := by
  have HA := Lib.hid (anchor_any w hfit)
  have S0 : Hid (St w [(p, us), (q, vs), (r, xs)] w) := St.start w (by intro x hx; simp at hx; rcases hx with rfl | rfl | rfl; exact hR; exact hS; exact hT)
  have H11u : Hid (∀ W, Row W p us → Calls Tryd.prog 11 #[.slice p us.length c] W fun e w' => e = .returned (.bool (rightS us)) ∧ Below W.heap.size W w') := fun W h => rights_any us p c W h hl
  have H11v : Hid (∀ W, Row W q vs → Calls Tryd.prog 11 #[.slice q vs.length d] W fun e w' => e = .returned (.bool (rightS vs)) ∧ Below W.heap.size W w') := fun W h => rights_any vs q d W h hm
  have H11x : Hid (∀ W, Row W r xs → Calls Tryd.prog 11 #[.slice r xs.length f] W fun e w' => e = .returned (.bool (rightS xs)) ∧ Below W.heap.size W w') := fun W h => rights_any xs r f W h hn
  clear hR hS hT hfit
  cases ha : rightS us with
  | false =>
    rw [ha] at H11u
    clear ha
    go_enter Tryd.func6, Tryd.ntmps6
    go_wp2_with fail
    refine HA.out.mono ?_
    rintro e w1 ⟨rfl, hb⟩
    have S1 := Lib.hid (S0.out.step hb)
    clear hb
    go_wp2_with fail
    refine (H11u.out _ (S1.out.row p us (by simp))).mono ?_
    rintro e w2 ⟨rfl, hb⟩
    have S2 := Lib.hid (S1.out.step hb)
    clear hb
    go_wp2_with fail
    go_ret
    exact ⟨rfl, S2.out.1⟩
  | true =>
    rw [ha] at H11u
    have hu := rightS_true ha
    clear ha
    cases hb : rightS vs with
    | false =>
      rw [hb] at H11v
      clear hb
      go_enter Tryd.func6, Tryd.ntmps6
      go_wp2_with fail
      refine HA.out.mono ?_
      rintro e w1 ⟨rfl, hb⟩
      have S1 := Lib.hid (S0.out.step hb)
      clear hb
      go_wp2_with fail
      refine (H11u.out _ (S1.out.row p us (by simp))).mono ?_
      rintro e w2 ⟨rfl, hb⟩
      have S2 := Lib.hid (S1.out.step hb)
      clear hb
      go_wp2_with fail
      refine (H11v.out _ (S2.out.row q vs (by simp))).mono ?_
      rintro e w3 ⟨rfl, hb⟩
      have S3 := Lib.hid (S2.out.step hb)
      clear hb
      go_wp2_with fail
      go_ret
      exact ⟨rfl, S3.out.1⟩
    | true =>
      rw [hb] at H11v
      have hv := rightS_true hb
      clear hb
      cases hc : rightS xs with
      | false =>
        rw [hc] at H11x
        clear hc
        go_enter Tryd.func6, Tryd.ntmps6
        go_wp2_with fail
        refine HA.out.mono ?_
        rintro e w1 ⟨rfl, hb⟩
        have S1 := Lib.hid (S0.out.step hb)
        clear hb
        go_wp2_with fail
        refine (H11u.out _ (S1.out.row p us (by simp))).mono ?_
        rintro e w2 ⟨rfl, hb⟩
        have S2 := Lib.hid (S1.out.step hb)
        clear hb
        go_wp2_with fail
        refine (H11v.out _ (S2.out.row q vs (by simp))).mono ?_
        rintro e w3 ⟨rfl, hb⟩
        have S3 := Lib.hid (S2.out.step hb)
        clear hb
        go_wp2_with fail
        refine (H11x.out _ (S3.out.row r xs (by simp))).mono ?_
        rintro e w4 ⟨rfl, hb⟩
        have S4 := Lib.hid (S3.out.step hb)
        clear hb
        go_wp2_with fail
        go_ret
        exact ⟨rfl, S4.out.1⟩
      | true =>
        rw [hc] at H11x
        have hx := rightS_true hc
        clear hc
        obtain ⟨lu, su, gu⟩ := hu
        obtain ⟨lv, sv, gv⟩ := hv
        obtain ⟨lx, sx, gx⟩ := hx
        have h1 : IsJoin (us ++ vs) (joinL us vs) := IsJoin.fold (fun y hy => (gv y hy).1) (IsJoin.self (sp_of_srt su))
        have h2 : IsJoin (vs ++ xs) (joinL vs xs) := IsJoin.fold (fun y hy => (gx y hy).1) (IsJoin.self (sp_of_srt sv))
        have h3 : IsJoin (joinL us vs ++ xs) (joinL (joinL us vs) xs) := IsJoin.fold (fun y hy => (gx y hy).1) (IsJoin.self h1.sp)
        have l1 := joinL_le us vs
        have l2 := joinL_le vs xs
        have l3 := joinL_le (joinL us vs) xs
        generalize joinL (joinL us vs) xs = A at h3 l3
        generalize joinL us vs = J at h1 h3 l1 l3
        generalize joinL vs xs = K at h2 l2
        have dus : Dom us J := (Dom.of_sub (fun y hy => by simp [hy])).trans h1.dom
        have dvs : Dom vs J := (Dom.of_sub (fun y hy => by simp [hy])).trans h1.dom
        have dvk : Dom vs K := (Dom.of_sub (fun y hy => by simp [hy])).trans h2.dom
        have dxk : Dom xs K := (Dom.of_sub (fun y hy => by simp [hy])).trans h2.dom
        have h4 : IsJoin (us ++ K) A := h3.congr (Dom.app (h1.back.trans (Dom.app (Dom.refl us).left dvk.right)) dxk.right) (Dom.app dus.left (h2.back.trans (Dom.app dvs.left (Dom.refl xs).right)))
        have h5 : IsJoin (xs ++ (vs ++ us)) A := h3.congr (Dom.app (h1.back.trans (Dom.app ((Dom.refl us).right.right) ((Dom.refl vs).left.right))) (Dom.refl xs).left) (Dom.app (Dom.refl xs).right (Dom.app dvs.left dus.left))
        have h6 : IsJoin (us ++ us) us := (IsJoin.self (sp_of_srt su)).congr (Dom.refl us).left (Dom.app (Dom.refl us) (Dom.refl us))
        have k1 : coversL J us = true := covers_of_dom h1 (Dom.refl us).left
        have k2 : coversL J vs = true := covers_of_dom h1 (Dom.refl vs).right
        have k3 := covers_join h1 xs
        have HJuv : Hid (∀ W, Row W p us → Row W q vs → Calls Tryd.prog 17 #[.slice p us.length c, .slice (some ⟨W.heap.size, 0, none⟩) 1 1] (W.alloc (.cells #[.slice q vs.length d] 23)) (fun e w' => ∃ p' c', e = .returned (.slice p' J.length c') ∧ (p' = none → c' = 0) ∧ Row w' p' J ∧ Below W.heap.size W w')) := fun W a b => join1 us vs J h1 (by omega) p q c d W a b nq
        have HJjx : Hid (∀ p1 c1 W, Row W p1 J → Row W r xs → Calls Tryd.prog 17 #[.slice p1 J.length c1, .slice (some ⟨W.heap.size, 0, none⟩) 1 1] (W.alloc (.cells #[.slice r xs.length f] 23)) (fun e w' => ∃ p' c', e = .returned (.slice p' A.length c') ∧ (p' = none → c' = 0) ∧ Row w' p' A ∧ Below W.heap.size W w')) := fun p1 c1 W a b => join1 J xs A h3 (by omega) p1 r c1 f W a b nr
        have HJvx : Hid (∀ W, Row W q vs → Row W r xs → Calls Tryd.prog 17 #[.slice q vs.length d, .slice (some ⟨W.heap.size, 0, none⟩) 1 1] (W.alloc (.cells #[.slice r xs.length f] 23)) (fun e w' => ∃ p' c', e = .returned (.slice p' K.length c') ∧ (p' = none → c' = 0) ∧ Row w' p' K ∧ Below W.heap.size W w')) := fun W a b => join1 vs xs K h2 (by omega) q r d f W a b nr
        have HJuk : Hid (∀ p1 c1 W, Row W p us → Row W p1 K → (p1 = none → c1 = 0) → Calls Tryd.prog 17 #[.slice p us.length c, .slice (some ⟨W.heap.size, 0, none⟩) 1 1] (W.alloc (.cells #[.slice p1 K.length c1] 23)) (fun e w' => ∃ p' c', e = .returned (.slice p' A.length c') ∧ (p' = none → c' = 0) ∧ Row w' p' A ∧ Below W.heap.size W w')) := fun p1 c1 W a b n => join1 us K A h4 (by omega) p p1 c c1 W a b n
        have HJxvu : Hid (∀ W, Row W r xs → Row W q vs → Row W p us → Calls Tryd.prog 17 #[.slice r xs.length f, .slice (some ⟨W.heap.size, 0, none⟩) 2 2] (W.alloc (.cells #[.slice q vs.length d, .slice p us.length c] 23)) (fun e w' => ∃ p' c', e = .returned (.slice p' A.length c') ∧ (p' = none → c' = 0) ∧ Row w' p' A ∧ Below W.heap.size W w')) := fun W a b t => join2 xs vs us A h5 (by omega) r q p f d c W a b t nq np
        have HJuu : Hid (∀ W, Row W p us → Calls Tryd.prog 17 #[.slice p us.length c, .slice (some ⟨W.heap.size, 0, none⟩) 1 1] (W.alloc (.cells #[.slice p us.length c] 23)) (fun e w' => ∃ p' c', e = .returned (.slice p' us.length c') ∧ (p' = none → c' = 0) ∧ Row w' p' us ∧ Below W.heap.size W w')) := fun W a => join1 us us us h6 (by omega) p p c c W a a np
        have H10A : Hid (∀ p1 c1 W, Row W p1 A → Calls Tryd.prog 10 #[.slice p1 A.length c1] W (Gave W A)) := fun p1 c1 W h => refs_any A p1 c1 W h (by omega)
        have H10u : Hid (∀ W, Row W p us → Calls Tryd.prog 10 #[.slice p us.length c] W (Gave W us)) := fun W h => refs_any us p c W h (by omega)
        have H14A : Hid (∀ p1 c1 p2 c2 W, Row W p1 A → Row W p2 A → Calls Tryd.prog 14 #[.slice p1 A.length c1, .slice p2 A.length c2] W fun e w' => e = .returned (.bool true) ∧ Below W.heap.size W w') := fun p1 c1 p2 c2 W a b => by
          have := same_any A A p1 p2 c1 c2 W a b (by omega); rwa [decide_eq_true (rfl : A = A)] at this
        have H14u : Hid (∀ p1 c1 p2 c2 W, Row W p1 us → Row W p2 us → Calls Tryd.prog 14 #[.slice p1 us.length c1, .slice p2 us.length c2] W fun e w' => e = .returned (.bool true) ∧ Below W.heap.size W w') := fun p1 c1 p2 c2 W a b => by
          have := same_any us us p1 p2 c1 c2 W a b (by omega); rwa [decide_eq_true (rfl : us = us)] at this
        have HCju : Hid (∀ p1 c1 W, Row W p1 J → Row W p us → Calls Tryd.prog 23 #[.slice p1 J.length c1, .slice p us.length c] W fun e w' => e = .returned (.bool true) ∧ Below W.heap.size W w') := fun p1 c1 W a b => by
          have := covers_any J us p1 p c1 c W a b (srt_of_sp h1.sp) (by omega) (by omega); rwa [k1] at this
        have HCjv : Hid (∀ p1 c1 W, Row W p1 J → Row W q vs → Calls Tryd.prog 23 #[.slice p1 J.length c1, .slice q vs.length d] W fun e w' => e = .returned (.bool true) ∧ Below W.heap.size W w') := fun p1 c1 W a b => by
          have := covers_any J vs p1 q c1 d W a b (srt_of_sp h1.sp) (by omega) (by omega); rwa [k2] at this
        have HCxj : Hid (∀ p1 c1 W, Row W r xs → Row W p1 J → Calls Tryd.prog 23 #[.slice r xs.length f, .slice p1 J.length c1] W fun e w' => e = .returned (.bool (coversL xs us && coversL xs vs)) ∧ Below W.heap.size W w') := fun p1 c1 W a b => by
          have := covers_any xs J r p1 f c1 W a b sx (by omega) (by omega); rwa [k3] at this
        have HCxu : Hid (∀ W, Row W r xs → Row W p us → Calls Tryd.prog 23 #[.slice r xs.length f, .slice p us.length c] W fun e w' => e = .returned (.bool (coversL xs us)) ∧ Below W.heap.size W w') := fun W a b => covers_any xs us r p f c W a b sx (by omega) (by omega)
        have HCxv : Hid (∀ W, Row W r xs → Row W q vs → Calls Tryd.prog 23 #[.slice r xs.length f, .slice q vs.length d] W fun e w' => e = .returned (.bool (coversL xs vs)) ∧ Below W.heap.size W w') := fun W a b => covers_any xs vs r q f d W a b sx (by omega) (by omega)
        generalize coversL xs us = b1 at HCxj HCxu
        generalize coversL xs vs = b2 at HCxj HCxv
        clear h1 h2 h3 h4 h5 h6 k1 k2 k3 dus dvs dvk dxk su sv sx gu gv gx l1 l2 l3 lu lv lx hl hm hn np nq nr
        go_enter Tryd.func6, Tryd.ntmps6
        go_wp2_with fail
        refine HA.out.mono ?_
        rintro e w1 ⟨rfl, hb⟩
        have S1 := Lib.hid (S0.out.step hb)
        clear hb HA S0
        go_wp2_with fail
        refine (H11u.out _ (S1.out.row p us (by simp))).mono ?_
        rintro e w2 ⟨rfl, hb⟩
        have S2 := Lib.hid (S1.out.step hb)
        clear hb S1 H11u
        go_wp2_with fail
        refine (H11v.out _ (S2.out.row q vs (by simp))).mono ?_
        rintro e w3 ⟨rfl, hb⟩
        have S3 := Lib.hid (S2.out.step hb)
        clear hb S2 H11v
        go_wp2_with fail
        refine (H11x.out _ (S3.out.row r xs (by simp))).mono ?_
        rintro e w4 ⟨rfl, hb⟩
        have S4 := Lib.hid (S3.out.step hb)
        clear hb S3 H11x
        go_wp2_with fail
        refine (HJuv.out _ (S4.out.row p us (by simp)) (S4.out.row q vs (by simp))).mono ?_
        rintro e w5 ⟨p5, c5, rfl, n5, hr, hb⟩
        have S5 := Lib.hid ((S4.out.step hb).add hr)
        clear hb hr S4 n5
        go_wp2_with fail
        refine (HJjx.out _ _ _ (S5.out.row p5 J (by simp)) (S5.out.row r xs (by simp))).mono ?_
        rintro e w6 ⟨p6, c6, rfl, n6, hr, hb⟩
        have S6 := Lib.hid ((S5.out.step hb).add hr)
        clear hb hr S5 n6 HJjx
        go_wp2_with fail
        refine (H10A.out _ _ _ (S6.out.row p6 A (by simp))).mono ?_
        rintro e w7 ⟨p7, c7, rfl, hr, hb⟩
        have S7 := Lib.hid ((S6.out.step hb).add hr)
        clear hb hr S6 H10A
        go_wp2_with fail
        refine (HJuv.out _ (S7.out.row p us (by simp)) (S7.out.row q vs (by simp))).mono ?_
        rintro e w8 ⟨p8, c8, rfl, n8, hr, hb⟩
        have S8 := Lib.hid ((S7.out.step hb).add hr)
        clear hb hr S7 n8 HJuv
        go_wp2_with fail
        refine (HJvx.out _ (S8.out.row q vs (by simp)) (S8.out.row r xs (by simp))).mono ?_
        rintro e w9 ⟨p9, c9, rfl, n9, hr, hb⟩
        have S9 := Lib.hid ((S8.out.step hb).add hr)
        have N9 := Lib.hid n9
        clear hb hr S8 n9 HJvx
        go_wp2_with fail
        refine (HJuk.out _ _ _ (S9.out.row p us (by simp)) (S9.out.row p9 K (by simp)) N9.out).mono ?_
        rintro e wa ⟨pa, ca, rfl, na, hr, hb⟩
        have Sa := Lib.hid ((S9.out.step hb).add hr)
        clear hb hr S9 na N9 HJuk
        go_wp2_with fail
        refine (H14A.out _ _ _ _ _ (Sa.out.row pa A (by simp)) (Sa.out.row p7 A (by simp))).mono ?_
        rintro e wb ⟨rfl, hb⟩
        have Sb := Lib.hid (Sa.out.step hb)
        clear hb Sa
        go_wp2_with fail
        refine (HJxvu.out _ (Sb.out.row r xs (by simp)) (Sb.out.row q vs (by simp)) (Sb.out.row p us (by simp))).mono ?_
        rintro e wc ⟨pc, cc, rfl, nc, hr, hb⟩
        have Sc := Lib.hid ((Sb.out.step hb).add hr)
        clear hb hr Sb nc HJxvu
        go_wp2_with fail
        refine (H14A.out _ _ _ _ _ (Sc.out.row pc A (by simp)) (Sc.out.row p7 A (by simp))).mono ?_
        rintro e wd ⟨rfl, hb⟩
        have Sd := Lib.hid (Sc.out.step hb)
        clear hb Sc H14A
        go_wp2_with fail
        refine (HCju.out _ _ _ (Sd.out.row p8 J (by simp)) (Sd.out.row p us (by simp))).mono ?_
        rintro e we ⟨rfl, hb⟩
        have Se := Lib.hid (Sd.out.step hb)
        clear hb Sd HCju
        go_wp2_with fail
        refine (HCjv.out _ _ _ (Se.out.row p8 J (by simp)) (Se.out.row q vs (by simp))).mono ?_
        rintro e wf ⟨rfl, hb⟩
        have Sf := Lib.hid (Se.out.step hb)
        clear hb Se HCjv
        go_wp2_with fail
        refine (HCxj.out _ _ _ (Sf.out.row r xs (by simp)) (Sf.out.row p8 J (by simp))).mono ?_
        rintro e wg ⟨rfl, hb⟩
        have Sg := Lib.hid (Sf.out.step hb)
        clear hb Sf HCxj
        go_wp2_with fail
        refine (HCxu.out _ (Sg.out.row r xs (by simp)) (Sg.out.row p us (by simp))).mono ?_
        rintro e wh ⟨rfl, hb⟩
        have Sh := Lib.hid (Sg.out.step hb)
        clear hb Sg HCxu
        cases b1 with
        | false =>
          go_wp2_with fail
          refine (HJuu.out _ (Sh.out.row p us (by simp))).mono ?_
          rintro e wj ⟨pj, cj, rfl, nj, hr, hb⟩
          have Sj := Lib.hid ((Sh.out.step hb).add hr)
          clear hb hr Sh nj HJuu
          go_wp2_with fail
          refine (H10u.out _ (Sj.out.row p us (by simp))).mono ?_
          rintro e wk ⟨pk, ck, rfl, hr, hb⟩
          have Sk := Lib.hid ((Sj.out.step hb).add hr)
          clear hb hr Sj H10u
          go_wp2_with fail
          refine (H14u.out _ _ _ _ _ (Sk.out.row pj us (by simp)) (Sk.out.row pk us (by simp))).mono ?_
          rintro e wl ⟨rfl, hb⟩
          have Sl := Lib.hid (Sk.out.step hb)
          clear hb Sk H14u
          go_wp2_with fail
          go_ret
          exact ⟨rfl, Sl.out.1⟩
        | true =>
          go_wp2_with fail
          refine (HCxv.out _ (Sh.out.row r xs (by simp)) (Sh.out.row q vs (by simp))).mono ?_
          rintro e wi ⟨rfl, hb⟩
          have Si := Lib.hid (Sh.out.step hb)
          clear hb Sh HCxv
          cases b2 with
          | false =>
            go_wp2_with fail
            refine (HJuu.out _ (Si.out.row p us (by simp))).mono ?_
            rintro e wj ⟨pj, cj, rfl, nj, hr, hb⟩
            have Sj := Lib.hid ((Si.out.step hb).add hr)
            clear hb hr Si nj HJuu
            go_wp2_with fail
            refine (H10u.out _ (Sj.out.row p us (by simp))).mono ?_
            rintro e wk ⟨pk, ck, rfl, hr, hb⟩
            have Sk := Lib.hid ((Sj.out.step hb).add hr)
            clear hb hr Sj H10u
            go_wp2_with fail
            refine (H14u.out _ _ _ _ _ (Sk.out.row pj us (by simp)) (Sk.out.row pk us (by simp))).mono ?_
            rintro e wl ⟨rfl, hb⟩
            have Sl := Lib.hid (Sk.out.step hb)
            clear hb Sk H14u
            go_wp2_with fail
            go_ret
            exact ⟨rfl, Sl.out.1⟩
          | true =>
            go_wp2_with fail
            refine (HJuu.out _ (Si.out.row p us (by simp))).mono ?_
            rintro e wj ⟨pj, cj, rfl, nj, hr, hb⟩
            have Sj := Lib.hid ((Si.out.step hb).add hr)
            clear hb hr Si nj HJuu
            go_wp2_with fail
            refine (H10u.out _ (Sj.out.row p us (by simp))).mono ?_
            rintro e wk ⟨pk, ck, rfl, hr, hb⟩
            have Sk := Lib.hid ((Sj.out.step hb).add hr)
            clear hb hr Sj H10u
            go_wp2_with fail
            refine (H14u.out _ _ _ _ _ (Sk.out.row pj us (by simp)) (Sk.out.row pk us (by simp))).mono ?_
            rintro e wl ⟨rfl, hb⟩
            have Sl := Lib.hid (Sk.out.step hb)
            clear hb Sk H14u
            go_wp2_with fail
            go_ret
            exact ⟨rfl, Sl.out.1⟩

end Go.Proofs.YthihfigphedomaaDoor
