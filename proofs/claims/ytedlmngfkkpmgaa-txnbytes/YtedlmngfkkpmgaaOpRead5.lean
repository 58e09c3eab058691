
/-
  What the document's Read of layer 8 hands back: where an anchor and a number stand behind the kind. No conditions beyond what each theorem states.
-/
import Derived.Test.YtedlmngfkkpmgaaOpRead4
import Derived.Test.YtedlmngfkkpmgaaPackRefText
namespace Go.Proofs.Ytedlmngfkkpmgaa
open Go.ChangeShapes Go.WideShapes Go.ChangeAt Go.RowKit Go.Lib
set_option linter.unusedVariables false
set_option linter.unusedSimpArgs false

theorem readB_err {bs : List UInt8} {k : Nat} {t : Nat × Nat × Nat} {q e : Nat} (h : e ≠ 0) : readB bs k t q e = (o0, q, e) := by
  have h1 : rdT bs q e 64 = ([], q, e) := by unfold rdT; rw [if_neg h]
  have h2 : readS bs q e = ([], q, e) := by unfold readS; rw [rdN_err h]; simp only; rw [rdL_err _ _ _ _ h]; simp only; rw [if_neg h]
  unfold readB
  rw [h1, h2, rdN_err h]
  simp only
  rw [if_neg h, if_neg h, if_neg h]
  split
  · rfl
  · split <;> rfl
set_option maxHeartbeats 12800000 in
set_option maxRecDepth 20000 in
theorem read8_1 (bs : List UInt8) (Q : Nat) (hQ : Q ≤ bs.length) (p : Option Addr) (c : Nat) (w : World) (hR : BRow w p bs) (hl : bs.length ≤ 1000000) (hcap : bs.length ≤ c) (he0 : (rdN bs Q 0 5).2.2 = 0) (h2 : (rdN bs Q 0 5).1 = 1) :
    Calls Try.prog 43 #[.slice p bs.length c, .int .i64 (Q : Int)] w (Read8At bs Q w) := by
  have H0 := Lib.hid (fun W (hb : Below w.heap.size w W) => readnum_any bs Q 5 p c (by omega) hQ hl W (hR.below hb))
  have hf0 := rdN_fits (bs := bs) (q := Q) (e := 0) (limit := 5) hQ
  have HO : Hid (readO bs Q 0 = readB bs 1 (rdP bs (rdN bs Q 0 5).2.1 0).1 (rdP bs (rdN bs Q 0 5).2.1 0).2.1 (rdP bs (rdN bs Q 0 5).2.1 0).2.2) := by
    show _ = _
    unfold readO
    rw [if_pos (by omega), he0, h2]
  have HBR : Hid (∀ W, Below w.heap.size w W → BRow W p bs) := fun W hb => hR.below hb
  generalize rdN bs Q 0 5 = kk at H0 he0 h2 hf0 HO
  obtain ⟨k, q0, e0⟩ := kk
  simp only at H0 he0 h2 hf0 HO
  subst he0 h2
  clear hR
  have HRS := Lib.hid (RS.new w)
  go_enter Try.func43, Try.ntmps43
  go_wp2_with fail
  generalize (w.alloc (.cells #[.int .i64 0, .int .u16 0, .int .u32 0, .int .u32 0, .string ⟨#[]⟩, .slice none 0 0, .int .u32 0] 49)).alloc (.cells #[.int .i64 0, .int .u16 0, .int .u32 0, .int .u32 0, .string ⟨#[]⟩, .slice none 0 0, .int .u32 0] 49) = W0 at HRS ⊢
  refine (H0.out _ HRS.out.bel).mono ?_
  rintro r w1 ⟨rfl, hw1⟩
  obtain rfl := Eq.symm hw1
  have HRS1 := Lib.hid (HRS.out.set 0 (.int .i64 1) (k' := 1) (a' := 0) (b' := 0) (c' := 0) (s' := ⟨#[]⟩) (v' := .slice none 0 0) (q' := 0) rfl)
  obtain ⟨x0, x1, x2, x3, x4, x5, x6⟩ := seven_cells HRS.out.box
  obtain ⟨y0, y1, y2, y3, y4, y5, y6⟩ := seven_cells HRS.out.res
  obtain ⟨fr, fb⟩ := HRS.out.frozen
  have hne : ¬ w.heap.size + 1 = w.heap.size := by omega
  have hne' : ¬ w.heap.size = w.heap.size + 1 := by omega
  clear hw1 H0
  go_wp2_with fail
  clear x0 x1 x2 x3 x4 x5 x6 y0 y1 y2 y3 y4 y5 y6 fr fb
  have hWs : (W0.setCell ⟨w.heap.size + 1, 0, none⟩ (.int .i64 1)).heap.size = W0.heap.size := by simp
  generalize W0.setCell ⟨w.heap.size + 1, 0, none⟩ (.int .i64 1) = W1 at HRS1 hWs ⊢
  rw [← hWs]
  clear hWs HRS
  have hX1 : w.heap.size + 1 < W1.heap.size := lt_of_block HRS1.out.box
  have hL0 := (B3.new W1 108 65535 268435456 268435456).alloc (.cells #[.int .u64 0, .int .u64 0, .int .u64 0] 108)
  have hV0 : B3 108 (W1.heap.size + 1) 0 0 0 ((W1.alloc (.cells #[.int .u64 65535, .int .u64 268435456, .int .u64 268435456] 108)).alloc (.cells #[.int .u64 0, .int .u64 0, .int .u64 0] 108)) := by
    have := B3.new (W1.alloc (.cells #[.int .u64 65535, .int .u64 268435456, .int .u64 268435456] 108)) 108 0 0 0
    simpa using this
  have hRS := HRS1.out.below (below_alloc (below_alloc (Below.refl _ _) (.cells #[.int .u64 65535, .int .u64 268435456, .int .u64 268435456] 108)) (.cells #[.int .u64 0, .int .u64 0, .int .u64 0] 108))
  clear HRS1
  generalize (W1.alloc (.cells #[.int .u64 65535, .int .u64 268435456, .int .u64 268435456] 108)).alloc (.cells #[.int .u64 0, .int .u64 0, .int .u64 0] 108) = W9 at hL0 hV0 hRS ⊢
  generalize W1.heap.size = V0 at hX1 hL0 hV0 ⊢
  have HL0 := Lib.hid hL0
  have HV0 := Lib.hid hV0
  have HRS0 := Lib.hid hRS
  clear hL0 hV0 hRS
  go_loopg [1, 9, 12] 4 (fun g at' er i wq => ∃ (j a b c' q1 e1 : Nat), j ≤ 3 ∧ 4 - j ≤ g ∧ i = .int .i64 (j : Int) ∧ at' = .int .i64 (q1 : Int) ∧ er = .int .i64 (e1 : Int) ∧ q1 ≤ bs.length ∧ e1 < 16 ∧ St8 bs q0 j a b c' q1 e1 ∧ (a ≤ 65535 ∧ b ≤ 268435456 ∧ c' ≤ 268435456) ∧ B3 108 (V0 + 1) (a : Int) (b : Int) (c' : Int) wq ∧ B3 108 V0 65535 268435456 268435456 wq ∧ RS w 1 0 0 0 ⟨#[]⟩ (.slice none 0 0) 0 wq)
  case atStart => exact ⟨0, 0, 0, 0, q0, 0, by omega, by omega, rfl, rfl, rfl, hf0.1, by omega, ⟨rfl, rfl, rfl, rfl, rfl⟩, ⟨by omega, by omega, by omega⟩, HV0.out, HL0.out, HRS0.out⟩
  case round =>
    clear HL0 HV0 HRS0
    obtain ⟨j, a, b, c', q1, e1, hj, hgj, rfl, rfl, rfl, hq1, he1, hst, ⟨ha, hb, hc⟩, hV, hL, hRQ⟩ := hrel
    have HST := Lib.hid hst
    have HRQ := Lib.hid hRQ
    have HV := Lib.hid hV
    have HL := Lib.hid hL
    obtain ⟨v0, v1, v2⟩ := hV.cells
    obtain ⟨l0, l1, l2⟩ := hL.cells
    clear hst hV hL hRQ
    by_cases hj3 : j = 3
    · subst hj3
      have HD := Lib.hid (HST.out.done (by omega) (Or.inl rfl))
      have HO2 : Hid (readO bs Q 0 = readB bs 1 (a, b, c') q1 e1) := by show _ = _; rw [HO.out, HD.out]
      have z1 : IntKind.u16.wrap (a : Int) = (a : Int) := by rw [IntKind.wrap_u16]; omega
      have z2 : IntKind.u32.wrap (b : Int) = (b : Int) := by rw [IntKind.wrap_u32]; omega
      have z3 : IntKind.u32.wrap (c' : Int) = (c' : Int) := by rw [IntKind.wrap_u32]; omega
      obtain ⟨x0, x1, x2, x3, x4, x5, x6⟩ := seven_cells HRQ.out.box
      obtain ⟨y0, y1, y2, y3, y4, y5, y6⟩ := seven_cells HRQ.out.res
      obtain ⟨fr, fb⟩ := HRQ.out.frozen
      have HRS3 := Lib.hid (((HRQ.out.set 1 (.int .u16 (a : Int)) (k' := 1) (a' := (a : Int)) (b' := 0) (c' := 0) (s' := ⟨#[]⟩) (v' := .slice none 0 0) (q' := 0) rfl).set 2 (.int .u32 (b : Int)) (k' := 1) (a' := (a : Int)) (b' := (b : Int)) (c' := 0) (s' := ⟨#[]⟩) (v' := .slice none 0 0) (q' := 0) rfl).set 3 (.int .u32 (c' : Int)) (k' := 1) (a' := (a : Int)) (b' := (b : Int)) (c' := (c' : Int)) (s' := ⟨#[]⟩) (v' := .slice none 0 0) (q' := 0) rfl)
      have hv1 : ¬ w.heap.size + 1 = V0 + 1 := by omega
      have hv2 : ¬ V0 + 1 = w.heap.size + 1 := by omega
      clear HO HD HST
      by_cases hz : e1 = 0
      · subst hz
        have HO : Hid (readO bs Q 0 = if (readT (bs.drop q1) 64).2.2 = 0 then (⟨1, (a : Int), (b : Int), (c' : Int), (readT (bs.drop q1) 64).1, [], 0⟩, (q1 + (readT (bs.drop q1) 64).2.1, (readT (bs.drop q1) 64).2.2)) else (o0, (q1 + (readT (bs.drop q1) 64).2.1, (readT (bs.drop q1) 64).2.2))) := by
          show _ = _
          rw [HO2.out]
          unfold readB rdT
          rw [if_pos rfl, if_pos rfl]
        have HT := Lib.hid (fun W (hb : Below w.heap.size w W) => refreadtext_any bs q1 64 p c (by omega) hq1 hl hcap W (HBR.out W hb))
        rw [show (64 : Int).toNat = 64 from rfl] at HT
        generalize readT (bs.drop q1) 64 = tt at HO HT
        clear HO2
        obtain ⟨tx, qx, e2⟩ := tt
        simp only at HO HT
        generalize hq2 : q1 + qx = q2 at HO HT
        go_wp2_with fail
        clear x0 x1 x2 x3 x4 x5 x6 y0 y1 y2 y3 y4 y5 y6 fr fb v0 v1 v2 l0 l1 l2 z1 z2 z3 HV HL
        generalize ((wr.setCell ⟨w.heap.size + 1, 1, none⟩ (.int .u16 (a : Int))).setCell ⟨w.heap.size + 1, 2, none⟩ (.int .u32 (b : Int))).setCell ⟨w.heap.size + 1, 3, none⟩ (.int .u32 (c' : Int)) = W3 at HRS3 ⊢
        obtain ⟨x0, x1, x2, x3, x4, x5, x6⟩ := seven_cells HRS3.out.box
        obtain ⟨y0, y1, y2, y3, y4, y5, y6⟩ := seven_cells HRS3.out.res
        obtain ⟨fr, fb⟩ := HRS3.out.frozen
        refine (HT.out _ HRS3.out.bel).mono ?_
        rintro r w2 ⟨rfl, hw2⟩
        obtain rfl := Eq.symm hw2
        have HRS2 := Lib.hid (HRS3.out.set 4 (.string ⟨tx.toArray⟩) (k' := 1) (a' := (a : Int)) (b' := (b : Int)) (c' := (c' : Int)) (s' := ⟨tx.toArray⟩) (v' := .slice none 0 0) (q' := 0) rfl)
        clear hw2 HT
        by_cases hz : e2 = 0
        · subst hz
          have HO2 : Hid (readO bs Q 0 = (⟨1, (a : Int), (b : Int), (c' : Int), tx, [], 0⟩, q2, 0)) := by show _ = _; rw [HO.out, if_pos rfl]
          go_wp2
          (try simp only [Exit.inBlock, Exit.then])
          refine bodyPost_ret (results_ctt (p := 4) (t := 5) (u := 6) (ty := 49) rfl _ _ ⟨w.heap.size, 0, none⟩ _ rfl (load8 (box_seven HRS2.out.res) rfl)) rfl ?_
          exact read8_some (o := ⟨1, (a : Int), (b : Int), (c' : Int), tx, [], 0⟩) (p := none) (cc := 0) (q := 0) (pos := q2) HRS2.out (GRow.nil _ _ _) (by intro a ha; cases ha) (KindAt.nil _ _) HO2.out
        · have hee : ((e2 : Int) == 0) = false := beq_no (by omega)
          have hee' : ((e2 : Int) != 0) = true := by simp; omega
          have HO2 : Hid (readO bs Q 0 = (o0, q2, e2)) := by show _ = _; rw [HO.out, if_neg hz]
          go_wp2
          (try simp only [Exit.inBlock, Exit.then])
          refine bodyPost_ret (results_ctt (p := 4) (t := 5) (u := 6) (ty := 49) rfl _ _ ⟨w.heap.size, 0, none⟩ _ rfl (load8 (box_seven HRS2.out.res) rfl)) rfl ?_
          exact read8_zero (pos := q2) HRS2.out HO2.out hz
      · have hee : ((e1 : Int) == 0) = false := beq_no (by omega)
        have hee' : ((e1 : Int) != 0) = true := by simp; omega
        have HO3 : Hid (readO bs Q 0 = (o0, q1, e1)) := by show _ = _; rw [HO2.out]; exact readB_err hz
        go_wp2
        (try simp only [Exit.inBlock, Exit.then])
        refine bodyPost_ret (results_ctt (p := 4) (t := 5) (u := 6) (ty := 49) rfl _ _ ⟨w.heap.size, 0, none⟩ _ rfl (load8 (box_seven HRS3.out.res) rfl)) rfl ?_
        exact read8_zero (pos := q1) HRS3.out HO3.out hz
    · by_cases hez1 : e1 = 0
      · subst hez1
        have : j = 0 ∨ j = 1 ∨ j = 2 := by omega
        rcases this with rfl | rfl | rfl
        · have hfit := rdN_fits (bs := bs) (q := q1) (e := 0) (limit := 65535) hq1
          have HC := readnum_any bs q1 65535 p c (by omega) hq1 hl wr (HBR.out _ HRQ.out.bel)
          have HST2 := Lib.hid (HST.out.next0)
          generalize rdN bs q1 0 65535 = r1 at HC HST2 hfit
          obtain ⟨x1, x2, x3⟩ := r1
          simp only at HC HST2 hfit
          have HC := Lib.hid HC
          have f0 := HV.out.frozen 0
          have HVV := Lib.hid (HV.out.set0 (x1 : Int))
          have HLL := Lib.hid (HL.out.other (K := V0 + 1) (o := 0) (by omega) (.int .u64 (x1 : Int)))
          have HRQ3 := Lib.hid (HRQ.out.other (V := V0 + 1) (o := 0) (by omega) (.int .u64 (x1 : Int)))
          clear HST
          go_wp2_with fail
          refine HC.out.mono ?_
          rintro e w5 ⟨rfl, hw5⟩
          obtain rfl := Eq.symm hw5
          clear hw5 HC
          go_wp2
          go_roundg (4 - (0 + 1))
          case measure => omega
          case rel => exact ⟨0 + 1, x1, b, c', x2, x3, by omega, Nat.le_refl _, by go_num, rfl, rfl, hfit.1, by omega, HST2.out, ⟨hfit.2.1, hb, hc⟩, HVV.out, HLL.out, HRQ3.out⟩
        · have hfit := rdN_fits (bs := bs) (q := q1) (e := 0) (limit := 268435456) hq1
          have HC := readnum_any bs q1 268435456 p c (by omega) hq1 hl wr (HBR.out _ HRQ.out.bel)
          have HST2 := Lib.hid (HST.out.next1)
          generalize rdN bs q1 0 268435456 = r1 at HC HST2 hfit
          obtain ⟨x1, x2, x3⟩ := r1
          simp only at HC HST2 hfit
          have HC := Lib.hid HC
          have f0 := HV.out.frozen 1
          have HVV := Lib.hid (HV.out.set1 (x1 : Int))
          have HLL := Lib.hid (HL.out.other (K := V0 + 1) (o := 1) (by omega) (.int .u64 (x1 : Int)))
          have HRQ3 := Lib.hid (HRQ.out.other (V := V0 + 1) (o := 1) (by omega) (.int .u64 (x1 : Int)))
          clear HST
          go_wp2_with fail
          refine HC.out.mono ?_
          rintro e w5 ⟨rfl, hw5⟩
          obtain rfl := Eq.symm hw5
          clear hw5 HC
          go_wp2
          go_roundg (4 - (1 + 1))
          case measure => omega
          case rel => exact ⟨1 + 1, a, x1, c', x2, x3, by omega, Nat.le_refl _, by go_num, rfl, rfl, hfit.1, by omega, HST2.out, ⟨ha, hfit.2.1, hc⟩, HVV.out, HLL.out, HRQ3.out⟩
        · have hfit := rdN_fits (bs := bs) (q := q1) (e := 0) (limit := 268435456) hq1
          have HC := readnum_any bs q1 268435456 p c (by omega) hq1 hl wr (HBR.out _ HRQ.out.bel)
          have HST2 := Lib.hid (HST.out.next2)
          generalize rdN bs q1 0 268435456 = r1 at HC HST2 hfit
          obtain ⟨x1, x2, x3⟩ := r1
          simp only at HC HST2 hfit
          have HC := Lib.hid HC
          have f0 := HV.out.frozen 2
          have HVV := Lib.hid (HV.out.set2 (x1 : Int))
          have HLL := Lib.hid (HL.out.other (K := V0 + 1) (o := 2) (by omega) (.int .u64 (x1 : Int)))
          have HRQ3 := Lib.hid (HRQ.out.other (V := V0 + 1) (o := 2) (by omega) (.int .u64 (x1 : Int)))
          clear HST
          go_wp2_with fail
          refine HC.out.mono ?_
          rintro e w5 ⟨rfl, hw5⟩
          obtain rfl := Eq.symm hw5
          clear hw5 HC
          go_wp2
          go_roundg (4 - (2 + 1))
          case measure => omega
          case rel => exact ⟨2 + 1, a, b, x1, x2, x3, by omega, Nat.le_refl _, by go_num, rfl, rfl, hfit.1, by omega, HST2.out, ⟨ha, hb, hfit.2.1⟩, HVV.out, HLL.out, HRQ3.out⟩
      · have hez' : ((e1 : Int) == 0) = false := beq_no (by omega)
        have hez'' : ((e1 : Int) != 0) = true := by simp; omega
        have hj3' : (j : Int) < 3 := by omega
        have HD := Lib.hid (HST.out.done (by omega) (Or.inr hez1))
        have HO3 : Hid (readO bs Q 0 = (o0, q1, e1)) := by show _ = _; rw [HO.out, HD.out]; exact readB_err hez1
        have z1 : IntKind.u16.wrap (a : Int) = (a : Int) := by rw [IntKind.wrap_u16]; omega
        have z2 : IntKind.u32.wrap (b : Int) = (b : Int) := by rw [IntKind.wrap_u32]; omega
        have z3 : IntKind.u32.wrap (c' : Int) = (c' : Int) := by rw [IntKind.wrap_u32]; omega
        obtain ⟨x0, x1, x2, x3, x4, x5, x6⟩ := seven_cells HRQ.out.box
        obtain ⟨y0, y1, y2, y3, y4, y5, y6⟩ := seven_cells HRQ.out.res
        obtain ⟨fr, fb⟩ := HRQ.out.frozen
        have HRS3 := Lib.hid (((HRQ.out.set 1 (.int .u16 (a : Int)) (k' := 1) (a' := (a : Int)) (b' := 0) (c' := 0) (s' := ⟨#[]⟩) (v' := .slice none 0 0) (q' := 0) rfl).set 2 (.int .u32 (b : Int)) (k' := 1) (a' := (a : Int)) (b' := (b : Int)) (c' := 0) (s' := ⟨#[]⟩) (v' := .slice none 0 0) (q' := 0) rfl).set 3 (.int .u32 (c' : Int)) (k' := 1) (a' := (a : Int)) (b' := (b : Int)) (c' := (c' : Int)) (s' := ⟨#[]⟩) (v' := .slice none 0 0) (q' := 0) rfl)
        have hv1 : ¬ w.heap.size + 1 = V0 + 1 := by omega
        have hv2 : ¬ V0 + 1 = w.heap.size + 1 := by omega
        clear HO HD HST
        go_wp2
        (try simp only [Exit.inBlock, Exit.then])
        refine bodyPost_ret (results_ctt (p := 4) (t := 5) (u := 6) (ty := 49) rfl _ _ ⟨w.heap.size, 0, none⟩ _ rfl (load8 (box_seven HRS3.out.res) rfl)) rfl ?_
        exact read8_zero (pos := q1) HRS3.out HO3.out hez1
end Go.Proofs.Ytedlmngfkkpmgaa
