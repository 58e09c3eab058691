/-
  Several texts of one proof, joined: each part says at its head what it proves. No conditions beyond what each theorem states.
-/
import Derived.Lib.QuietBelow
import Derived.BigQuiet
import Derived.Test.YtedlmngfkkpmgaaZ09
import Derived.Test.YtedlmngfkkpmgaaZ03
import Derived.Test.YtedlmngfkkpmgaaZ08
/-
  What the document's Read of layer 8 hands back: where an anchor and a number stand behind the kind. No conditions beyond what each theorem states.
-/
namespace Go.Proofs.Ytedlmngfkkpmgaa
open Go.ChangeShapes Go.WideShapes Go.ChangeAt Go.RowKit Go.Lib
set_option linter.unusedVariables false
set_option linter.unusedSimpArgs false

set_option maxHeartbeats 12800000 in
set_option maxRecDepth 20000 in
theorem read8_3 (bs : List UInt8) (Q : Nat) (hQ : Q ≤ bs.length) (p : Option Addr) (c : Nat) (w : World) (hR : BRow w p bs) (hl : bs.length ≤ 1000000) (hcap : bs.length ≤ c) (he0 : (rdN bs Q 0 5).2.2 = 0) (h2 : (rdN bs Q 0 5).1 = 3) :
    Calls Try.prog 43 #[.slice p bs.length c, .int .i64 (Q : Int)] w (Read8At bs Q w) := by
  have H0 := Lib.hid (fun W (hb : Below w.heap.size w W) => readnum_any bs Q 5 p c (by omega) hQ hl W (hR.below hb))
  have hf0 := rdN_fits (bs := bs) (q := Q) (e := 0) (limit := 5) hQ
  have HO : Hid (readO bs Q 0 = readB bs 3 (rdP bs (rdN bs Q 0 5).2.1 0).1 (rdP bs (rdN bs Q 0 5).2.1 0).2.1 (rdP bs (rdN bs Q 0 5).2.1 0).2.2) := by
    show _ = _
    unfold readO
    rw [if_pos (by omega), he0, h2]
  have HBR : Hid (∀ W, Below w.heap.size w W → BRow W p bs) := fun W hb => hR.below hb
  generalize rdN bs Q 0 5 = kk at H0 he0 h2 hf0 HO
  obtain ⟨k, q0, e0⟩ := kk
  simp only at H0 he0 h2 hf0 HO
  subst he0 h2
  clear hR
  have HRS := Lib.hid (RS.new w)
  go_enter Try.func43, Try.ntmps43
  go_wp2_with fail
  generalize (w.alloc (.cells #[.int .i64 0, .int .u16 0, .int .u32 0, .int .u32 0, .string ⟨#[]⟩, .slice none 0 0, .int .u32 0] 49)).alloc (.cells #[.int .i64 0, .int .u16 0, .int .u32 0, .int .u32 0, .string ⟨#[]⟩, .slice none 0 0, .int .u32 0] 49) = W0 at HRS ⊢
  refine (H0.out _ HRS.out.bel).mono ?_
  rintro r w1 ⟨rfl, hw1⟩
  obtain rfl := Eq.symm hw1
  have HRS1 := Lib.hid (HRS.out.set 0 (.int .i64 3) (k' := 3) (a' := 0) (b' := 0) (c' := 0) (s' := ⟨#[]⟩) (v' := .slice none 0 0) (q' := 0) rfl)
  obtain ⟨x0, x1, x2, x3, x4, x5, x6⟩ := seven_cells HRS.out.box
  obtain ⟨y0, y1, y2, y3, y4, y5, y6⟩ := seven_cells HRS.out.res
  obtain ⟨fr, fb⟩ := HRS.out.frozen
  have hne : ¬ w.heap.size + 1 = w.heap.size := by omega
  have hne' : ¬ w.heap.size = w.heap.size + 1 := by omega
  clear hw1 H0
  go_wp2_with fail
  clear x0 x1 x2 x3 x4 x5 x6 y0 y1 y2 y3 y4 y5 y6 fr fb
  have hWs : (W0.setCell ⟨w.heap.size + 1, 0, none⟩ (.int .i64 3)).heap.size = W0.heap.size := by simp
  generalize W0.setCell ⟨w.heap.size + 1, 0, none⟩ (.int .i64 3) = W1 at HRS1 hWs ⊢
  rw [← hWs]
  clear hWs HRS
  have hX1 : w.heap.size + 1 < W1.heap.size := lt_of_block HRS1.out.box
  have hL0 := (B3.new W1 108 65535 268435456 268435456).alloc (.cells #[.int .u64 0, .int .u64 0, .int .u64 0] 108)
  have hV0 : B3 108 (W1.heap.size + 1) 0 0 0 ((W1.alloc (.cells #[.int .u64 65535, .int .u64 268435456, .int .u64 268435456] 108)).alloc (.cells #[.int .u64 0, .int .u64 0, .int .u64 0] 108)) := by
    have := B3.new (W1.alloc (.cells #[.int .u64 65535, .int .u64 268435456, .int .u64 268435456] 108)) 108 0 0 0
    simpa using this
  have hRS := HRS1.out.below (below_alloc (below_alloc (Below.refl _ _) (.cells #[.int .u64 65535, .int .u64 268435456, .int .u64 268435456] 108)) (.cells #[.int .u64 0, .int .u64 0, .int .u64 0] 108))
  clear HRS1
  generalize (W1.alloc (.cells #[.int .u64 65535, .int .u64 268435456, .int .u64 268435456] 108)).alloc (.cells #[.int .u64 0, .int .u64 0, .int .u64 0] 108) = W9 at hL0 hV0 hRS ⊢
  generalize W1.heap.size = V0 at hX1 hL0 hV0 ⊢
  have HL0 := Lib.hid hL0
  have HV0 := Lib.hid hV0
  have HRS0 := Lib.hid hRS
  clear hL0 hV0 hRS
  go_loopg [1, 9, 12] 4 (fun g at' er i wq => ∃ (j a b c' q1 e1 : Nat), j ≤ 3 ∧ 4 - j ≤ g ∧ i = .int .i64 (j : Int) ∧ at' = .int .i64 (q1 : Int) ∧ er = .int .i64 (e1 : Int) ∧ q1 ≤ bs.length ∧ e1 < 16 ∧ St8 bs q0 j a b c' q1 e1 ∧ (a ≤ 65535 ∧ b ≤ 268435456 ∧ c' ≤ 268435456) ∧ B3 108 (V0 + 1) (a : Int) (b : Int) (c' : Int) wq ∧ B3 108 V0 65535 268435456 268435456 wq ∧ RS w 3 0 0 0 ⟨#[]⟩ (.slice none 0 0) 0 wq)
  case atStart => exact ⟨0, 0, 0, 0, q0, 0, by omega, by omega, rfl, rfl, rfl, hf0.1, by omega, ⟨rfl, rfl, rfl, rfl, rfl⟩, ⟨by omega, by omega, by omega⟩, HV0.out, HL0.out, HRS0.out⟩
  case round =>
    clear HL0 HV0 HRS0
    obtain ⟨j, a, b, c', q1, e1, hj, hgj, rfl, rfl, rfl, hq1, he1, hst, ⟨ha, hb, hc⟩, hV, hL, hRQ⟩ := hrel
    have HST := Lib.hid hst
    have HRQ := Lib.hid hRQ
    have HV := Lib.hid hV
    have HL := Lib.hid hL
    obtain ⟨v0, v1, v2⟩ := hV.cells
    obtain ⟨l0, l1, l2⟩ := hL.cells
    clear hst hV hL hRQ
    by_cases hj3 : j = 3
    · subst hj3
      have HD := Lib.hid (HST.out.done (by omega) (Or.inl rfl))
      have HO2 : Hid (readO bs Q 0 = readB bs 3 (a, b, c') q1 e1) := by show _ = _; rw [HO.out, HD.out]
      have z1 : IntKind.u16.wrap (a : Int) = (a : Int) := by rw [IntKind.wrap_u16]; omega
      have z2 : IntKind.u32.wrap (b : Int) = (b : Int) := by rw [IntKind.wrap_u32]; omega
      have z3 : IntKind.u32.wrap (c' : Int) = (c' : Int) := by rw [IntKind.wrap_u32]; omega
      obtain ⟨x0, x1, x2, x3, x4, x5, x6⟩ := seven_cells HRQ.out.box
      obtain ⟨y0, y1, y2, y3, y4, y5, y6⟩ := seven_cells HRQ.out.res
      obtain ⟨fr, fb⟩ := HRQ.out.frozen
      have HRS3 := Lib.hid (((HRQ.out.set 1 (.int .u16 (a : Int)) (k' := 3) (a' := (a : Int)) (b' := 0) (c' := 0) (s' := ⟨#[]⟩) (v' := .slice none 0 0) (q' := 0) rfl).set 2 (.int .u32 (b : Int)) (k' := 3) (a' := (a : Int)) (b' := (b : Int)) (c' := 0) (s' := ⟨#[]⟩) (v' := .slice none 0 0) (q' := 0) rfl).set 3 (.int .u32 (c' : Int)) (k' := 3) (a' := (a : Int)) (b' := (b : Int)) (c' := (c' : Int)) (s' := ⟨#[]⟩) (v' := .slice none 0 0) (q' := 0) rfl)
      have hv1 : ¬ w.heap.size + 1 = V0 + 1 := by omega
      have hv2 : ¬ V0 + 1 = w.heap.size + 1 := by omega
      clear HO HD HST
      by_cases hz : e1 = 0
      · subst hz
        have HO : Hid (readO bs Q 0 = if (readS bs q1 0).2.2 = 0 then (⟨3, (a : Int), (b : Int), (c' : Int), [], (readS bs q1 0).1, 0⟩, (readS bs q1 0).2) else (o0, (readS bs q1 0).2)) := by
          show _ = _
          rw [HO2.out]
          unfold readB
          rw [if_neg (by decide), if_pos (Or.inr rfl)]
          rfl
        have HS := Lib.hid (fun W (hb : Below w.heap.size w W) => refread_at bs q1 hq1 p c W (HBR.out W hb) hl)
        unfold ReadAt at HS
        generalize readS bs q1 0 = ss at HO HS
        clear HO2
        obtain ⟨L, q2, e2⟩ := ss
        simp only at HO HS
        go_wp2_with fail
        clear x0 x1 x2 x3 x4 x5 x6 y0 y1 y2 y3 y4 y5 y6 fr fb v0 v1 v2 l0 l1 l2 z1 z2 z3 HV HL
        generalize ((wr.setCell ⟨w.heap.size + 1, 1, none⟩ (.int .u16 (a : Int))).setCell ⟨w.heap.size + 1, 2, none⟩ (.int .u32 (b : Int))).setCell ⟨w.heap.size + 1, 3, none⟩ (.int .u32 (c' : Int)) = W3 at HRS3 ⊢
        obtain ⟨x0, x1, x2, x3, x4, x5, x6⟩ := seven_cells HRS3.out.box
        obtain ⟨y0, y1, y2, y3, y4, y5, y6⟩ := seven_cells HRS3.out.res
        obtain ⟨fr, fb⟩ := HRS3.out.frozen
        refine (HS.out _ HRS3.out.bel).mono ?_
        rintro r w2 ⟨v2, rfl, hH⟩
        have HR2 := Lib.hid (HRS3.out.below hH.2)
        obtain ⟨pv, cv, rfl, hG, hcv, hpv⟩ := hH.gave layS_pos
        have hX1 : w.heap.size + 1 < W3.heap.size := lt_of_block HRS3.out.box
        have hP : ∀ q, pv = some q → W3.heap.size ≤ q.block := fun q e => by
          subst e
          exact (hH.1.lt q.block rfl).1
        have HRS2 := Lib.hid (HR2.out.set 5 (.slice pv L.length cv) (k' := 3) (a' := (a : Int)) (b' := (b : Int)) (c' := (c' : Int)) (s' := ⟨#[]⟩) (v' := .slice pv L.length cv) (q' := 0) rfl)
        have HG2 : Hid (GRow layS (w2.setCell ⟨w.heap.size + 1, 5, none⟩ (.slice pv L.length cv)) pv L) := hG.kept (only_set _ _ _ _) (fun q e ee => by have := hP q e; have ee : q.block = w.heap.size + 1 := ee; omega)
        have HK2 : Hid (KindAt 101 (w2.setCell ⟨w.heap.size + 1, 5, none⟩ (.slice pv L.length cv)) pv) := (kind_owns hH.1).kept (only_set _ _ _ _) (fun q e ee => by have := hP q e; have ee : q.block = w.heap.size + 1 := ee; omega)
        have HP : Hid (∀ q, pv = some q → q.block ≠ w.heap.size) := fun q e => by have := hP q e; omega
        clear x0 x1 x2 x3 x4 x5 x6 y0 y1 y2 y3 y4 y5 y6 fr fb
        obtain ⟨x0, x1, x2, x3, x4, x5, x6⟩ := seven_cells HR2.out.box
        obtain ⟨y0, y1, y2, y3, y4, y5, y6⟩ := seven_cells HR2.out.res
        obtain ⟨fr, fb⟩ := HR2.out.frozen
        clear hH hG hP HS
        by_cases hz : e2 = 0
        · subst hz
          have HO2 : Hid (readO bs Q 0 = (⟨3, (a : Int), (b : Int), (c' : Int), [], L, 0⟩, q2, 0)) := by show _ = _; rw [HO.out, if_pos rfl]
          go_wp2
          (try simp only [Exit.inBlock, Exit.then])
          refine bodyPost_ret (results_ctt (p := 4) (t := 5) (u := 6) (ty := 49) rfl _ _ ⟨w.heap.size, 0, none⟩ _ rfl (load8 (box_seven HRS2.out.res) rfl)) rfl ?_
          exact read8_some (o := ⟨3, (a : Int), (b : Int), (c' : Int), [], L, 0⟩) (p := pv) (cc := cv) (q := 0) (pos := q2) HRS2.out HG2.out HP.out HK2.out HO2.out
        · have hee : ((e2 : Int) == 0) = false := beq_no (by omega)
          have hee' : ((e2 : Int) != 0) = true := by simp; omega
          have HO2 : Hid (readO bs Q 0 = (o0, q2, e2)) := by show _ = _; rw [HO.out, if_neg hz]
          go_wp2
          (try simp only [Exit.inBlock, Exit.then])
          refine bodyPost_ret (results_ctt (p := 4) (t := 5) (u := 6) (ty := 49) rfl _ _ ⟨w.heap.size, 0, none⟩ _ rfl (load8 (box_seven HRS2.out.res) rfl)) rfl ?_
          exact read8_zero (pos := q2) HRS2.out HO2.out hz
      · have hee : ((e1 : Int) == 0) = false := beq_no (by omega)
        have hee' : ((e1 : Int) != 0) = true := by simp; omega
        have HO3 : Hid (readO bs Q 0 = (o0, q1, e1)) := by show _ = _; rw [HO2.out]; exact readB_err hz
        go_wp2
        (try simp only [Exit.inBlock, Exit.then])
        refine bodyPost_ret (results_ctt (p := 4) (t := 5) (u := 6) (ty := 49) rfl _ _ ⟨w.heap.size, 0, none⟩ _ rfl (load8 (box_seven HRS3.out.res) rfl)) rfl ?_
        exact read8_zero (pos := q1) HRS3.out HO3.out hz
    · by_cases hez1 : e1 = 0
      · subst hez1
        have : j = 0 ∨ j = 1 ∨ j = 2 := by omega
        rcases this with rfl | rfl | rfl
        · have hfit := rdN_fits (bs := bs) (q := q1) (e := 0) (limit := 65535) hq1
          have HC := readnum_any bs q1 65535 p c (by omega) hq1 hl wr (HBR.out _ HRQ.out.bel)
          have HST2 := Lib.hid (HST.out.next0)
          generalize rdN bs q1 0 65535 = r1 at HC HST2 hfit
          obtain ⟨x1, x2, x3⟩ := r1
          simp only at HC HST2 hfit
          have HC := Lib.hid HC
          have f0 := HV.out.frozen 0
          have HVV := Lib.hid (HV.out.set0 (x1 : Int))
          have HLL := Lib.hid (HL.out.other (K := V0 + 1) (o := 0) (by omega) (.int .u64 (x1 : Int)))
          have HRQ3 := Lib.hid (HRQ.out.other (V := V0 + 1) (o := 0) (by omega) (.int .u64 (x1 : Int)))
          clear HST
          go_wp2_with fail
          refine HC.out.mono ?_
          rintro e w5 ⟨rfl, hw5⟩
          obtain rfl := Eq.symm hw5
          clear hw5 HC
          go_wp2
          go_roundg (4 - (0 + 1))
          case measure => omega
          case rel => exact ⟨0 + 1, x1, b, c', x2, x3, by omega, Nat.le_refl _, by go_num, rfl, rfl, hfit.1, by omega, HST2.out, ⟨hfit.2.1, hb, hc⟩, HVV.out, HLL.out, HRQ3.out⟩
        · have hfit := rdN_fits (bs := bs) (q := q1) (e := 0) (limit := 268435456) hq1
          have HC := readnum_any bs q1 268435456 p c (by omega) hq1 hl wr (HBR.out _ HRQ.out.bel)
          have HST2 := Lib.hid (HST.out.next1)
          generalize rdN bs q1 0 268435456 = r1 at HC HST2 hfit
          obtain ⟨x1, x2, x3⟩ := r1
          simp only at HC HST2 hfit
          have HC := Lib.hid HC
          have f0 := HV.out.frozen 1
          have HVV := Lib.hid (HV.out.set1 (x1 : Int))
          have HLL := Lib.hid (HL.out.other (K := V0 + 1) (o := 1) (by omega) (.int .u64 (x1 : Int)))
          have HRQ3 := Lib.hid (HRQ.out.other (V := V0 + 1) (o := 1) (by omega) (.int .u64 (x1 : Int)))
          clear HST
          go_wp2_with fail
          refine HC.out.mono ?_
          rintro e w5 ⟨rfl, hw5⟩
          obtain rfl := Eq.symm hw5
          clear hw5 HC
          go_wp2
          go_roundg (4 - (1 + 1))
          case measure => omega
          case rel => exact ⟨1 + 1, a, x1, c', x2, x3, by omega, Nat.le_refl _, by go_num, rfl, rfl, hfit.1, by omega, HST2.out, ⟨ha, hfit.2.1, hc⟩, HVV.out, HLL.out, HRQ3.out⟩
        · have hfit := rdN_fits (bs := bs) (q := q1) (e := 0) (limit := 268435456) hq1
          have HC := readnum_any bs q1 268435456 p c (by omega) hq1 hl wr (HBR.out _ HRQ.out.bel)
          have HST2 := Lib.hid (HST.out.next2)
          generalize rdN bs q1 0 268435456 = r1 at HC HST2 hfit
          obtain ⟨x1, x2, x3⟩ := r1
          simp only at HC HST2 hfit
          have HC := Lib.hid HC
          have f0 := HV.out.frozen 2
          have HVV := Lib.hid (HV.out.set2 (x1 : Int))
          have HLL := Lib.hid (HL.out.other (K := V0 + 1) (o := 2) (by omega) (.int .u64 (x1 : Int)))
          have HRQ3 := Lib.hid (HRQ.out.other (V := V0 + 1) (o := 2) (by omega) (.int .u64 (x1 : Int)))
          clear HST
          go_wp2_with fail
          refine HC.out.mono ?_
          rintro e w5 ⟨rfl, hw5⟩
          obtain rfl := Eq.symm hw5
          clear hw5 HC
          go_wp2
          go_roundg (4 - (2 + 1))
          case measure => omega
          case rel => exact ⟨2 + 1, a, b, x1, x2, x3, by omega, Nat.le_refl _, by go_num, rfl, rfl, hfit.1, by omega, HST2.out, ⟨ha, hb, hfit.2.1⟩, HVV.out, HLL.out, HRQ3.out⟩
      · have hez' : ((e1 : Int) == 0) = false := beq_no (by omega)
        have hez'' : ((e1 : Int) != 0) = true := by simp; omega
        have hj3' : (j : Int) < 3 := by omega
        have HD := Lib.hid (HST.out.done (by omega) (Or.inr hez1))
        have HO3 : Hid (readO bs Q 0 = (o0, q1, e1)) := by show _ = _; rw [HO.out, HD.out]; exact readB_err hez1
        have z1 : IntKind.u16.wrap (a : Int) = (a : Int) := by rw [IntKind.wrap_u16]; omega
        have z2 : IntKind.u32.wrap (b : Int) = (b : Int) := by rw [IntKind.wrap_u32]; omega
        have z3 : IntKind.u32.wrap (c' : Int) = (c' : Int) := by rw [IntKind.wrap_u32]; omega
        obtain ⟨x0, x1, x2, x3, x4, x5, x6⟩ := seven_cells HRQ.out.box
        obtain ⟨y0, y1, y2, y3, y4, y5, y6⟩ := seven_cells HRQ.out.res
        obtain ⟨fr, fb⟩ := HRQ.out.frozen
        have HRS3 := Lib.hid (((HRQ.out.set 1 (.int .u16 (a : Int)) (k' := 3) (a' := (a : Int)) (b' := 0) (c' := 0) (s' := ⟨#[]⟩) (v' := .slice none 0 0) (q' := 0) rfl).set 2 (.int .u32 (b : Int)) (k' := 3) (a' := (a : Int)) (b' := (b : Int)) (c' := 0) (s' := ⟨#[]⟩) (v' := .slice none 0 0) (q' := 0) rfl).set 3 (.int .u32 (c' : Int)) (k' := 3) (a' := (a : Int)) (b' := (b : Int)) (c' := (c' : Int)) (s' := ⟨#[]⟩) (v' := .slice none 0 0) (q' := 0) rfl)
        have hv1 : ¬ w.heap.size + 1 = V0 + 1 := by omega
        have hv2 : ¬ V0 + 1 = w.heap.size + 1 := by omega
        clear HO HD HST
        go_wp2
        (try simp only [Exit.inBlock, Exit.then])
        refine bodyPost_ret (results_ctt (p := 4) (t := 5) (u := 6) (ty := 49) rfl _ _ ⟨w.heap.size, 0, none⟩ _ rfl (load8 (box_seven HRS3.out.res) rfl)) rfl ?_
        exact read8_zero (pos := q1) HRS3.out HO3.out hez1
/-- The document's Read, of any bytes, at any place. -/
theorem refread8_at (bs : List UInt8) (Q : Nat) (hQ : Q ≤ bs.length) (p : Option Addr) (c : Nat) (w : World) (hR : BRow w p bs) (hl : bs.length ≤ 1000000) (hcap : bs.length ≤ c) :
    Calls Try.prog 43 #[.slice p bs.length c, .int .i64 (Q : Int)] w (Read8At bs Q w) := by
  by_cases he : (rdN bs Q 0 5).2.2 = 0
  · by_cases h1 : (rdN bs Q 0 5).1 = 1
    · exact read8_1 bs Q hQ p c w hR hl hcap he h1
    · by_cases h2 : (rdN bs Q 0 5).1 = 2
      · exact read8_2 bs Q hQ p c w hR hl he h2
      · by_cases h3 : (rdN bs Q 0 5).1 = 3
        · exact read8_3 bs Q hQ p c w hR hl hcap he h3
        · exact read8_s bs Q hQ p c w hR hl he h1 h2 h3
  · exact read8_k bs Q hQ p c w hR hl he
theorem refread8_any (bs : List UInt8) (p : Option Addr) (c : Nat) (w : World) (hR : BRow w p bs) (hl : bs.length ≤ 1000000) (hcap : bs.length ≤ c) :
    Calls Try.prog 43 #[.slice p bs.length c, .int .i64 0] w (Read8 bs w) :=
  (refread8_at bs 0 (Nat.zero_le _) p c w hR hl hcap).mono (by rintro e w' ⟨p1, c1, q1, h1, h2, h3, h4, -⟩; exact ⟨p1, c1, q1, h1, h2, h3, h4⟩)
end Go.Proofs.Ytedlmngfkkpmgaa
/-
  What the document's Read of layer 9 hands back, of any bytes, at any place. No conditions beyond what each theorem states.
-/
namespace Go.Proofs.Ytedlmngfkkpmgaa
open Go.ChangeShapes Go.WideShapes Go.ChangeAt Go.RowKit Go.Lib
set_option linter.unusedVariables false
set_option linter.unusedSimpArgs false

/-- What the document's Read tells, at a place. -/
def Read9At (bs : List UInt8) (Q : Nat) (w : World) (r : Ending) (w' : World) : Prop := ∃ ys p c q', r = .returned (.tuple #[tv (readTx bs Q 0).1 p c, .int .i64 q', .int .i64 ((readTx bs Q 0).2.2 : Int)]) ∧ (readTx bs Q 0).1.ops = ys.map (·.1) ∧ GRow layO w' p ys ∧ (∀ y ∈ ys, GRow layS w' y.2.1 y.1.spans) ∧ ((readTx bs Q 0).2.2 = 0 → q' = ((readTx bs Q 0).2.1 : Int)) ∧ Below w.heap.size w w'
/-- An operation's spans, in a block of their kind. -/
def OwnG (w : World) (y : OV) : Prop := GRow layS w y.2.1 y.1.spans ∧ KindAt 101 w y.2.1
theorem OwnG.below {w w' : World} {y : OV} (h : OwnG w y) (hb : Below w.heap.size w w') : OwnG w' y := ⟨h.1.below hb, h.2.below hb⟩
theorem OwnG.only {w w' : World} {y : OV} {X : Nat} {cs : Array Value} {t : TypeId} {f : Nat × Nat} (h : OwnG w y) (ht : t ≠ 101) (hX : w.heap[X]? = some (.cells cs t f)) (ho : Only X w w') : OwnG w' y :=
  ⟨h.1.kept ho (h.2.apart ht hX), h.2.kept ho (h.2.apart ht hX)⟩
theorem OwnG.grown {w w' : World} {y : OV} {base size n : Nat} {v : Value} {xs : List Value} {t : TypeId} (h : OwnG w y) (ht : t ≠ 101) (hown : w.ownsRow base t size v n xs) (hg : w.grownBy w' v.ownBlock) : OwnG w' y := by
  have hk : Kept (fun k => v.ownBlock = some k) w w' := Kept.ofGrown hg (fun k e => e)
  have hn : ∀ q, y.2.1 = some q → ¬ v.ownBlock = some q.block := fun q e ee => by
    obtain ⟨c, f, hc⟩ := Lib.ownsRow_kind hown _ ee
    exact h.2.apart ht hc q e rfl
  exact ⟨h.1.kept hk hn, h.2.kept hk hn⟩
theorem Hold.only {α : Type} {L : Lay α} {w wr w1 : World} {e : TypeId} {v : Value} {xs : List α} {Y : Nat} (h : Hold L w e v xs wr) (ho : Only Y wr w1) (hv : v.ownBlock ≠ some Y) (hY : w.heap.size ≤ Y) : Hold L w e v xs w1 :=
  ⟨h.1.kept (row := some Y) ⟨ho.os, ho.tape, ho.output, ho.size, fun k hk hn => ho.block k hk (fun e => hn (by rw [e]))⟩ (Or.inr hv), h.2.trans (ho.below h.2.size (fun k ek => by have ek : k = Y := ek; omega))⟩
/-- What Read holds while it reads numbers: its result (still nothing), the limits, and the numbers so far. -/
structure A9 (w : World) (bs : List UInt8) (Q i : Nat) (W : World) : Prop where
  res : W.heap[w.heap.size]? = some (.cells #[.int .u16 0, .int .u32 0, .int .u64 0, .int .i64 0, .slice none 0 0] 32 (0, 0))
  lim : W.heap[w.heap.size + 1]? = some (.cells #[.int .u64 65535, .int .u64 268435456, .int .u64 1099511627776, .int .u64 7, .int .u64 16] 82 (0, 0))
  val : W.heap[w.heap.size + 2]? = some (.cells #[.int .u64 (V9 bs Q i 0 : Int), .int .u64 (V9 bs Q i 1 : Int), .int .u64 (V9 bs Q i 2 : Int), .int .u64 (V9 bs Q i 3 : Int), .int .u64 (V9 bs Q i 4 : Int)] 82 (0, 0))
  bel : Below w.heap.size w W
theorem A9.next {w W : World} {bs : List UInt8} {Q i : Nat} (h : A9 w bs Q i W) (hi : i < 5) : A9 w bs Q (i + 1) (W.setCell ⟨w.heap.size + 2, i, none⟩ (.int .u64 (chV bs Q 0 i : Int))) := by
  refine ⟨by rw [heap_setCell_other _ _ _ _ (by simp)]; exact h.res, by rw [heap_setCell_other _ _ _ _ (by simp)]; exact h.lim, ?_, h.bel.setCell (p := ⟨w.heap.size + 2, i, none⟩) (by simp) _⟩
  rw [heap_setCell_same W _ i _ _ _ h.val]
  have : i = 0 ∨ i = 1 ∨ i = 2 ∨ i = 3 ∨ i = 4 := by omega
  rcases this with rfl | rfl | rfl | rfl | rfl
  all_goals simp [V9_next]
theorem load9 {w : World} {B : Nat} {cs : Array Value} {t : TypeId} (h : w.heap[B]? = some (.cells cs t (0, 0))) (hs : cs.size = 5) : (loadVar 32 ⟨B, 0, none⟩).run Try.prog w = .ok (.agg cs) w :=
  run_loadVar_row w B t 32 _ (0, 0) _ h Try.underlying32 rfl (by rw [hs]; exact szR9)

set_option maxHeartbeats 12800000 in
set_option maxRecDepth 20000 in
theorem refread9_at (bs : List UInt8) (Q : Nat) (hQ : Q ≤ bs.length) (p : Option Addr) (c : Nat) (w : World) (hR : BRow w p bs) (hl : bs.length ≤ 1000000) (hcap : bs.length ≤ c) :
    Calls Try.prog 23 #[.slice p bs.length c, .int .i64 (Q : Int)] w (Read9At bs Q w) := by
  obtain ⟨i0, hi, hz0, hz1, hz2⟩ := info_parts infoR8
  have HN : Hid (∀ i, (chS bs Q 0 i).2 = 0 → ∀ W, Below w.heap.size w W → Calls Try.prog 42 #[.slice p bs.length c, .int .i64 ((chS bs Q 0 i).1 : Int), .int .u64 (lim9 i : Int)] W fun r w' => r = .returned (.tuple #[.int .u64 (chV bs Q 0 i : Int), .int .i64 ((chS bs Q 0 (i + 1)).1 : Int), .int .i64 ((chS bs Q 0 (i + 1)).2 : Int)]) ∧ w' = W) := fun i h0 W hb => by
    have hle := (chS_le (E := 0) hQ i).1
    have := readnum_any bs (chS bs Q 0 i).1 (lim9 i) p c (by unfold lim9; split <;> omega) hle hl W (hR.below hb)
    rw [chS_succ]
    unfold chV
    rw [h0]
    exact this
  have HO : Hid (∀ q, q ≤ bs.length → ∀ W, Below w.heap.size w W → Calls Try.prog 43 #[.slice p bs.length c, .int .i64 (q : Int)] W (Read8At bs q W)) := fun q hq W hb => refread8_at bs q hq p c W (hR.below hb) hl hcap
  have HTX := Lib.hid (readTx_ch bs Q 0)
  have hv0 := chV_le (E := 0) hQ 0
  have hv1 := chV_le (E := 0) hQ 1
  have hv2 := chV_le (E := 0) hQ 2
  have hv3 := chV_le (E := 0) hQ 3
  have hv4 := chV_le (E := 0) hQ 4
  have HS5 := Lib.hid (chS_le (E := 0) hQ)
  have HEND := Lib.hid (fun i => @V9_end bs Q i)
  unfold lim9 at hv0 hv1 hv2 hv3 hv4
  simp only at hv0 hv1 hv2 hv3 hv4
  clear hR
  go_enter Try.func23, Try.ntmps23
  go_wp2
  have HA0 : Hid (A9 w bs Q 0 (((w.alloc (.cells #[.int .u16 0, .int .u32 0, .int .u64 0, .int .i64 0, .slice none 0 0] 32)).alloc (.cells #[.int .u64 65535, .int .u64 268435456, .int .u64 1099511627776, .int .u64 7, .int .u64 16] 82)).alloc (.cells #[.int .u64 0, .int .u64 0, .int .u64 0, .int .u64 0, .int .u64 0] 82))) := by
    refine ⟨?_, (three_blocks8 w _ _ _).1, ?_, below_alloc (below_alloc (below_alloc (Below.refl _ _) _) _) _⟩
    · exact kept_box (kept_box (heap_alloc_new w _) (below_alloc (Below.refl _ _) _)) (below_alloc (Below.refl _ _) _)
    · have := (three_blocks8 w (.cells #[.int .u16 0, .int .u32 0, .int .u64 0, .int .i64 0, .slice none 0 0] 32) (.cells #[.int .u64 65535, .int .u64 268435456, .int .u64 1099511627776, .int .u64 7, .int .u64 16] 82) (.cells #[.int .u64 0, .int .u64 0, .int .u64 0, .int .u64 0, .int .u64 0] 82)).2
      simpa [V9_zero] using this
  go_loopg [1, 9, 10] 5 (fun g qv ev iv wr => ∃ i : Nat, i ≤ 5 ∧ 5 - i ≤ g ∧ iv = .int .i64 (i : Int) ∧ qv = .int .i64 ((chS bs Q 0 i).1 : Int) ∧ ev = .int .i64 ((chS bs Q 0 i).2 : Int) ∧ A9 w bs Q i wr)
  case atStart => exact ⟨0, Nat.zero_le _, by omega, rfl, rfl, rfl, HA0.out⟩
  case round =>
    clear HA0
    obtain ⟨i, hi5, hg, rfl, rfl, rfl, hA⟩ := hrel
    have HA := Lib.hid hA
    clear hA
    by_cases hgo : i < 5 ∧ (chS bs Q 0 i).2 = 0
    · obtain ⟨hlt, he0⟩ := hgo
      have HNX := Lib.hid (HA.out.next hlt)
      have HNI := Lib.hid (HN.out i he0 wr HA.out.bel)
      obtain ⟨x0, x1, x2, x3, x4⟩ := five_cells HA.out.val
      obtain ⟨l0, l1, l2, l3, l4⟩ := five_cells HA.out.lim
      have fv : ∀ o, wr.frozen? ⟨w.heap.size + 2, o, none⟩ = false := fun o => frozen_of_block HA.out.val
      rw [he0]
      have : i = 0 ∨ i = 1 ∨ i = 2 ∨ i = 3 ∨ i = 4 := by omega
      generalize (chS bs Q 0 i).1 = q at HNI ⊢
      clear HEND HS5
      rcases this with rfl | rfl | rfl | rfl | rfl
      · simp only [Nat.reduceAdd, lim9] at HNI HNX
        generalize hn : chV bs Q 0 0 = n at HNI HNX
        go_wp2_with fail
        refine HNI.out.mono ?_
        rintro r w1 ⟨rfl, he⟩
        obtain rfl := Eq.symm he
        go_wp2
        go_roundg (5 - (0 + 1))
        case measure => omega
        case rel => exact ⟨1, by omega, Nat.le_refl _, by go_num, rfl, rfl, HNX.out⟩
      · simp only [Nat.reduceAdd, lim9] at HNI HNX
        generalize hn : chV bs Q 0 1 = n at HNI HNX
        go_wp2_with fail
        refine HNI.out.mono ?_
        rintro r w1 ⟨rfl, he⟩
        obtain rfl := Eq.symm he
        go_wp2
        go_roundg (5 - (1 + 1))
        case measure => omega
        case rel => exact ⟨2, by omega, Nat.le_refl _, by go_num, rfl, rfl, HNX.out⟩
      · simp only [Nat.reduceAdd, lim9] at HNI HNX
        generalize hn : chV bs Q 0 2 = n at HNI HNX
        go_wp2_with fail
        refine HNI.out.mono ?_
        rintro r w1 ⟨rfl, he⟩
        obtain rfl := Eq.symm he
        go_wp2
        go_roundg (5 - (2 + 1))
        case measure => omega
        case rel => exact ⟨3, by omega, Nat.le_refl _, by go_num, rfl, rfl, HNX.out⟩
      · simp only [Nat.reduceAdd, lim9] at HNI HNX
        generalize hn : chV bs Q 0 3 = n at HNI HNX
        go_wp2_with fail
        refine HNI.out.mono ?_
        rintro r w1 ⟨rfl, he⟩
        obtain rfl := Eq.symm he
        go_wp2
        go_roundg (5 - (3 + 1))
        case measure => omega
        case rel => exact ⟨4, by omega, Nat.le_refl _, by go_num, rfl, rfl, HNX.out⟩
      · simp only [Nat.reduceAdd, lim9] at HNI HNX
        generalize hn : chV bs Q 0 4 = n at HNI HNX
        go_wp2_with fail
        refine HNI.out.mono ?_
        rintro r w1 ⟨rfl, he⟩
        obtain rfl := Eq.symm he
        go_wp2
        go_roundg (5 - (4 + 1))
        case measure => omega
        case rel => exact ⟨5, by omega, Nat.le_refl _, by go_num, rfl, rfl, HNX.out⟩
    · have hex : i = 5 ∨ (chS bs Q 0 i).2 ≠ 0 := by omega
      obtain ⟨hs5, hV⟩ := HEND.out i hi5 hex
      have HV : Hid (wr.heap[w.heap.size + 2]? = some (.cells #[.int .u64 (chV bs Q 0 0 : Int), .int .u64 (chV bs Q 0 1 : Int), .int .u64 (chV bs Q 0 2 : Int), .int .u64 (chV bs Q 0 3 : Int), .int .u64 (chV bs Q 0 4 : Int)] 82 (0, 0))) := by
        have := HA.out.val
        rwa [hV 0 (by omega), hV 1 (by omega), hV 2 (by omega), hV 3 (by omega), hV 4 (by omega)] at this
      have HRES := Lib.hid HA.out.res
      have HBEL := Lib.hid HA.out.bel
      have hst := HS5.out 5
      rw [← hs5] at hgo hex ⊢
      clear HA hV HEND HN HS5
      generalize chS bs Q 0 5 = S5 at *
      obtain ⟨q5, e5⟩ := S5
      simp only at hgo hex hst HTX ⊢
      have hdec : decide ((i : Int) < 5) = false ∨ ((e5 : Int) == 0) = false := by
        rcases hex with h | h
        · exact Or.inl (by subst h; rfl)
        · exact Or.inr (beq_no (by omega))
      have hwhy : ¬ ((i : Int) < 5) ∨ ((i : Int) < 5 ∧ ((e5 : Int) == 0) = false) := by
        by_cases h5 : (i : Int) < 5
        · refine Or.inr ⟨h5, beq_no ?_⟩
          intro h
          exact hgo ⟨by omega, by omega⟩
        · exact Or.inl h5
      obtain ⟨x0, x1, x2, x3, x4⟩ := five_cells HV.out
      clear hgo hex hdec
      generalize hc0 : chV bs Q 0 0 = c0 at *
      generalize hc1 : chV bs Q 0 1 = c1 at *
      generalize hc2 : chV bs Q 0 2 = c2 at *
      generalize hc3 : chV bs Q 0 3 = c3 at *
      generalize hc4 : chV bs Q 0 4 = n at *
      have z0 : IntKind.u16.wrap (c0 : Int) = (c0 : Int) := by rw [IntKind.wrap_u16]; omega
      have z1 : IntKind.u32.wrap (c1 : Int) = (c1 : Int) := by rw [IntKind.wrap_u32]; omega
      have z3 : IntKind.i64.wrap (c3 : Int) = (c3 : Int) := by rw [IntKind.wrap_i64]; omega
      have HT0 := Lib.hid (heap_alloc_new wr (.cells #[.int .u16 (c0 : Int), .int .u32 (c1 : Int), .int .u64 (c2 : Int), .int .i64 (c3 : Int), .slice none 0 0] 32))
      have hXl : w.heap.size + 2 < wr.heap.size := lt_of_block HV.out
      have HB1 : Hid (Below w.heap.size w (wr.alloc (.cells #[.int .u16 (c0 : Int), .int .u32 (c1 : Int), .int .u64 (c2 : Int), .int .i64 (c3 : Int), .slice none 0 0] 32))) := below_alloc HBEL.out _
      have HR1 := Lib.hid (kept_box HRES.out (below_alloc (Below.refl _ _) (.cells #[.int .u16 (c0 : Int), .int .u32 (c1 : Int), .int .u64 (c2 : Int), .int .i64 (c3 : Int), .slice none 0 0] 32)))
      have HV1 := Lib.hid (kept_box HV.out (below_alloc (Below.refl _ _) (.cells #[.int .u16 (c0 : Int), .int .u32 (c1 : Int), .int .u64 (c2 : Int), .int .i64 (c3 : Int), .slice none 0 0] 32)))
      have HH1 : Hid (Hold layO w 49 (.slice none 0 0) [] (wr.alloc (.cells #[.int .u16 (c0 : Int), .int .u32 (c1 : Int), .int .u64 (c2 : Int), .int .i64 (c3 : Int), .slice none 0 0] 32))) := ⟨World.ownsRow_nil _ w.heap.size _ _, HB1.out⟩
      rcases hwhy with hwhy | ⟨hwhy, hwhy2⟩
      all_goals
        go_wp2
        clear x0 x1 x2 x3 x4
        generalize wr.alloc (.cells #[.int .u16 (c0 : Int), .int .u32 (c1 : Int), .int .u64 (c2 : Int), .int .i64 (c3 : Int), .slice none 0 0] 32) = W1 at HT0 HB1 HR1 HV1 HH1 ⊢
        generalize wr.heap.size = X at HT0 hXl ⊢
        clear HRES HBEL HV
        go_loopg [1, 9, 12] n (fun g qv ev kv W => ∃ (k qh e : Nat) (q : Int) (v : Value) (ys : List OV), k ≤ n ∧ n - k ≤ g ∧ kv = .int .u64 (k : Int) ∧ qv = .int .i64 q ∧ ev = .int .i64 (e : Int) ∧ (e = 0 → q = (qh : Int)) ∧ qh ≤ bs.length ∧ ys.length = k ∧ rdOs bs n q5 e5 = (ys.map (·.1) ++ (rdOs bs (n - k) qh e).1, (rdOs bs (n - k) qh e).2) ∧ Hold layO w 49 v ys W ∧ (∀ y ∈ ys, OwnG W y) ∧ W.heap[w.heap.size]? = some (.cells #[.int .u16 0, .int .u32 0, .int .u64 0, .int .i64 0, .slice none 0 0] 32 (0, 0)) ∧ W.heap[w.heap.size + 2]? = some (.cells #[.int .u64 (c0 : Int), .int .u64 (c1 : Int), .int .u64 (c2 : Int), .int .u64 (c3 : Int), .int .u64 (n : Int)] 82 (0, 0)) ∧ W.heap[X]? = some (.cells #[.int .u16 (c0 : Int), .int .u32 (c1 : Int), .int .u64 (c2 : Int), .int .i64 (c3 : Int), v] 32 (0, 0)))
        case atStart => exact ⟨0, q5, e5, (q5 : Int), .slice none 0 0, [], Nat.zero_le _, by omega, rfl, rfl, rfl, fun _ => rfl, hst.1, rfl, by simp, HH1.out, (fun y hy => by cases hy), HR1.out, HV1.out, HT0.out⟩
        case round =>
          clear HH1 HR1 HV1 HT0 HB1
          obtain ⟨k, qh, e, q, v, ys, hk, hg, rfl, rfl, rfl, hqe, hqh, hyl, hrd, hH, hE, h1, h2, h3⟩ := hrel
          have HH := Lib.hid hH
          have HE := Lib.hid hE
          have H1 := Lib.hid h1
          have H2 := Lib.hid h2
          have H3 := Lib.hid h3
          have HRD := Lib.hid hrd
          obtain ⟨x0, x1, x2, x3, x4⟩ := five_cells h2
          obtain ⟨s0, s1, s2, s3, s4⟩ := five_cells h3
          clear hH hE h1 h2 h3 hrd
          by_cases hgo : k < n ∧ e = 0
          · obtain ⟨hkn, rfl⟩ := hgo
            obtain rfl := hqe rfl
            have hkl : (k : Int) < (n : Int) := by omega
            have HQ : Hid (∀ A : Obj, Calls Try.prog 43 #[.slice p bs.length c, .int .i64 (qh : Int)] (wr.alloc A) (Read8At bs qh (wr.alloc A))) := fun A => HO.out qh hqh _ (below_alloc HH.out.2 A)
            have HST := Lib.hid (rdOs_step (bs := bs) (q := qh) hkn)
            have hrr := readO_range (e := 0) hqh (by omega) hl
            unfold Read8At at HQ
            generalize readO bs qh 0 = ro at HQ HST hrr
            obtain ⟨om, qo, eo⟩ := ro
            simp only at HQ HST hrr
            have HOM : Hid (∀ p c, ov om p c = .agg #[.int .i64 om.kind, .int .u16 om.r, .int .u32 om.n, .int .u32 om.num, .string ⟨om.text.toArray⟩, .slice p om.spans.length c, .int .u32 om.seq]) := fun p c => rfl
            generalize hbt : (⟨om.text.toArray⟩ : ByteArray) = bt at HOM
            have hX3 : X < wr.heap.size := lt_of_block H3.out
            have hne1 : ¬ X = wr.heap.size := by omega
            have hne2 : ¬ wr.heap.size = X := by omega
            go_wp2_with fail
            refine (HQ.out _).mono ?_
            rintro r w4 ⟨p4, c4, q4, rfl, hG, hq4, hb4, hk4⟩
            rw [HOM.out]
            have HY4 := Lib.hid (kept_box (heap_alloc_new wr (.cells #[.int .i64 0, .int .u16 0, .int .u32 0, .int .u32 0, .string ⟨#[]⟩, .slice none 0 0, .int .u32 0] 49)) hb4)
            have hB4 := below_step (below_alloc (Below.refl wr.heap.size wr) (.cells #[.int .i64 0, .int .u16 0, .int .u32 0, .int .u32 0, .string ⟨#[]⟩, .slice none 0 0, .int .u32 0] 49)) hb4
            have H14 := Lib.hid (kept_box H1.out hB4)
            have H24 := Lib.hid (kept_box H2.out hB4)
            have H34 := Lib.hid (kept_box H3.out hB4)
            have HH4 := Lib.hid (HH.out.below hB4)
            have HE4 : Hid (∀ y ∈ ys, OwnG w4 y) := fun y hy => (HE.out y hy).below hB4
            have HO4 : Hid (OwnG w4 (om, p4, c4)) := ⟨hG, hk4⟩
            have HAP : Hid (v.ownBlock ≠ some wr.heap.size) := fun ee => by have := (HH.out.1.lt _ ee).2; omega
            have hww : w.heap.size ≤ wr.heap.size := HH.out.2.size
            obtain ⟨y0, y1, y2, y3, y4, y5, y6⟩ := seven_cells HY4.out
            obtain ⟨t0', t1', t2', t3', t4'⟩ := five_cells H34.out
            have fy : ∀ o, w4.frozen? ⟨wr.heap.size, o, none⟩ = false := fun o => frozen_of_block HY4.out
            have hS7 := only_seven w4 wr.heap.size (.int .i64 om.kind) (.int .u16 om.r) (.int .u32 om.n) (.int .u32 om.num) (.string bt) (.slice p4 om.spans.length c4) (.int .u32 om.seq)
            have HS7 := Lib.hid hS7
            have H35 := Lib.hid (hS7.stays H34.out hne1)
            have u4 := (five_cells H35.out).2.2.2.2
            clear hG hk4 hb4 hB4 HE HH H1 H2 H3 x0 x1 x2 x3 x4 s0 s1 s2 s3 s4 hS7 HQ
            have HH6 : Hid (Hold layO w 49 v ys ((((((((w4.setCell ⟨wr.heap.size, 0, none⟩ (.int .i64 om.kind)).setCell ⟨wr.heap.size, 1, none⟩ (.int .u16 om.r)).setCell ⟨wr.heap.size, 2, none⟩ (.int .u32 om.n)).setCell ⟨wr.heap.size, 3, none⟩ (.int .u32 om.num)).setCell ⟨wr.heap.size, 4, none⟩ (.string bt)).setCell ⟨wr.heap.size, 5, none⟩ (.slice p4 om.spans.length c4)).setCell ⟨wr.heap.size, 6, none⟩ (.int .u32 om.seq)).alloc (.cells #[.int .i64 om.kind, .int .u16 om.r, .int .u32 om.n, .int .u32 om.num, .string bt, .slice p4 om.spans.length c4, .int .u32 om.seq] 49))) := (HH4.out.only HS7.out HAP.out hww).alloc _
            have hsz5 : (((((((w4.setCell ⟨wr.heap.size, 0, none⟩ (.int .i64 om.kind)).setCell ⟨wr.heap.size, 1, none⟩ (.int .u16 om.r)).setCell ⟨wr.heap.size, 2, none⟩ (.int .u32 om.n)).setCell ⟨wr.heap.size, 3, none⟩ (.int .u32 om.num)).setCell ⟨wr.heap.size, 4, none⟩ (.string bt)).setCell ⟨wr.heap.size, 5, none⟩ (.slice p4 om.spans.length c4)).setCell ⟨wr.heap.size, 6, none⟩ (.int .u32 om.seq)).heap.size = w4.heap.size := by simp [World.setCell]
            go_wp2_with (first
              | (at_builtin; refine wpList_append_own _ rfl (.tmp 66) (.tmp 68) 30 rfl w.heap.size 49 i0 (.agg #[.int .i64 0, .int .u16 0, .int .u32 0, .int .u32 0, .string ⟨#[]⟩, .slice none 0 0, .int .u32 0]) 7 72 Try.underlying30 hi hz0 hz1 hz2 rfl (by decide) v ys.length (layO.flat ys) rfl HH6.out.1 ⟨w4.heap.size, 0, none⟩ 1 1 [.int .i64 om.kind, .int .u16 om.r, .int .u32 om.n, .int .u32 om.num, .string bt, .slice p4 om.spans.length c4, .int .u32 om.seq] rfl rfl (by have := @cells_new (((((((w4.setCell ⟨wr.heap.size, 0, none⟩ (.int .i64 om.kind)).setCell ⟨wr.heap.size, 1, none⟩ (.int .u16 om.r)).setCell ⟨wr.heap.size, 2, none⟩ (.int .u32 om.n)).setCell ⟨wr.heap.size, 3, none⟩ (.int .u32 om.num)).setCell ⟨wr.heap.size, 4, none⟩ (.string bt)).setCell ⟨wr.heap.size, 5, none⟩ (.slice p4 om.spans.length c4)).setCell ⟨wr.heap.size, 6, none⟩ (.int .u32 om.seq)) [.int .i64 om.kind, .int .u16 om.r, .int .u32 om.n, .int .u32 om.num, .string bt, .slice p4 om.spans.length c4, .int .u32 om.seq] 49; rw [hsz5] at this; exact this) (by have := layO.one (om, p4, c4); rw [← hbt]; exact this) (by unfold maxLen; omega) (by omega) HH6.out.2.size ?_))
            intro v' w7 hown' hgrow _
            rw [← hyl] at hown'
            obtain ⟨pv, cv, rfl⟩ := owns_slice hown'
            have HH7 : Hid (Hold layO w 49 (.slice pv (ys.length + 1) cv) (ys ++ [(om, p4, c4)]) w7) := HH6.out.onto (ys := [(om, p4, c4)]) (by rw [layO.flat_one, ← hbt]; rfl) (by simp) hown' hgrow
            have H17 := Lib.hid (box_grown (by decide) (kept_box (HS7.out.stays H14.out (by omega)) (below_alloc (Below.refl _ _) (.cells #[.int .i64 om.kind, .int .u16 om.r, .int .u32 om.n, .int .u32 om.num, .string bt, .slice p4 om.spans.length c4, .int .u32 om.seq] 49))) HH6.out.1 hgrow)
            have H27 := Lib.hid (box_grown (by decide) (kept_box (HS7.out.stays H24.out (by omega)) (below_alloc (Below.refl _ _) (.cells #[.int .i64 om.kind, .int .u16 om.r, .int .u32 om.n, .int .u32 om.num, .string bt, .slice p4 om.spans.length c4, .int .u32 om.seq] 49))) HH6.out.1 hgrow)
            have H37 := Lib.hid (box_grown (by decide) (kept_box H35.out (below_alloc (Below.refl _ _) (.cells #[.int .i64 om.kind, .int .u16 om.r, .int .u32 om.n, .int .u32 om.num, .string bt, .slice p4 om.spans.length c4, .int .u32 om.seq] 49))) HH6.out.1 hgrow)
            have HE7 : Hid (∀ y ∈ ys ++ [(om, p4, c4)], OwnG w7 y) := fun y hy => by
              have h4 : OwnG w4 y := by
                rcases List.mem_append.1 hy with hy | hy
                · exact HE4.out y hy
                · rw [List.mem_singleton.1 hy]; exact HO4.out
              exact ((h4.only (by decide) HY4.out HS7.out).below (below_alloc (Below.refl _ _) _)).grown (by decide) HH6.out.1 hgrow
            clear hown' hgrow HH6 HH4 HE4 HO4 H14 H24 H34 H35 HS7 HY4 y0 y1 y2 y3 y4 y5 y6 t0' t1' t2' t3' t4' u4 fy
            have z7 := (five_cells H37.out).2.2.2.2
            have f7 : w7.frozen? ⟨X, 4, none⟩ = false := frozen_of_block H37.out
            have HFIN : Hid (Hold layO w 49 (.slice pv (ys.length + 1) cv) (ys ++ [(om, p4, c4)]) (w7.setCell ⟨X, 4, none⟩ (.slice pv (ys.length + 1) cv)) ∧ (∀ y ∈ ys ++ [(om, p4, c4)], OwnG (w7.setCell ⟨X, 4, none⟩ (.slice pv (ys.length + 1) cv)) y) ∧ (w7.setCell ⟨X, 4, none⟩ (.slice pv (ys.length + 1) cv)).heap[w.heap.size]? = some (.cells #[.int .u16 0, .int .u32 0, .int .u64 0, .int .i64 0, .slice none 0 0] 32 (0, 0)) ∧ (w7.setCell ⟨X, 4, none⟩ (.slice pv (ys.length + 1) cv)).heap[w.heap.size + 2]? = some (.cells #[.int .u64 (c0 : Int), .int .u64 (c1 : Int), .int .u64 (c2 : Int), .int .u64 (c3 : Int), .int .u64 (n : Int)] 82 (0, 0)) ∧ (w7.setCell ⟨X, 4, none⟩ (.slice pv (ys.length + 1) cv)).heap[X]? = some (.cells #[.int .u16 (c0 : Int), .int .u32 (c1 : Int), .int .u64 (c2 : Int), .int .i64 (c3 : Int), .slice pv (ys.length + 1) cv] 32 (0, 0))) := by
              refine ⟨HH7.out.other (kind_apart (by decide) H37.out HH7.out.1) (by omega) 4 _, fun y hy => (HE7.out y hy).only (by decide) H37.out (only_set w7 _ 4 _), ?_, ?_, ?_⟩
              · rw [heap_setCell_other _ _ _ _ (by simp; omega)]; exact H17.out
              · rw [heap_setCell_other _ _ _ _ (by simp; omega)]; exact H27.out
              · have := heap_setCell_same w7 X 4 _ _ (.slice pv (ys.length + 1) cv) H37.out
                simpa using this
            have HRD2 : Hid (rdOs bs n q5 e5 = ((ys ++ [(om, p4, c4)]).map (·.1) ++ (rdOs bs (n - (k + 1)) qo eo).1, (rdOs bs (n - (k + 1)) qo eo).2)) := by
              show _ = _
              rw [HRD.out, HST.out]
              simp
            rw [hyl] at HFIN
            clear HH7 H17 H27 H37 HE7
            go_wp2
            go_roundg (n - (k + 1))
            case measure => omega
            case rel => exact ⟨k + 1, qo, eo, q4, _, ys ++ [(om, p4, c4)], by omega, Nat.le_refl _, by go_num, rfl, rfl, hq4, hrr.1, by simp [hyl], HRD2.out, HFIN.out.1, HFIN.out.2.1, HFIN.out.2.2.1, HFIN.out.2.2.2.1, HFIN.out.2.2.2.2⟩
          · have hrest : rdOs bs (n - k) qh e = ([], qh, e) := by
              by_cases h0 : e = 0
              · have : k = n := by omega
                subst this
                rw [Nat.sub_self]; rfl
              · exact rdOs_err bs _ _ _ h0
            have HRD2 : Hid (rdOs bs n q5 e5 = (ys.map (·.1), qh, e)) := by show _ = _; rw [HRD.out, hrest]; simp
            rw [HRD2.out] at HTX
            clear HRD hrest HRD2
            obtain ⟨r0, r1, r2, r3, r4⟩ := five_cells H1.out
            have fr : ∀ o, wr.frozen? ⟨w.heap.size, o, none⟩ = false := fun o => frozen_of_block H1.out
            by_cases h0 : e = 0
            · subst h0
              obtain rfl := hqe rfl
              subst hyl
              have hkn : ¬ ((ys.length : Nat) : Int) < (n : Int) := by omega
              have HTX2 : Hid (readTx bs Q 0 = (⟨(c0 : Int), (c1 : Int), (c2 : Int), (c3 : Int), ys.map (·.1)⟩, qh, 0)) := by show _ = _; rw [HTX.out]; rfl
              obtain ⟨pv, cv, rfl, hGv, -, -⟩ := HH.out.gave layO_pos
              have HG := Lib.hid hGv
              have HAP := Lib.hid (kind_apart (by decide) H1.out HH.out.1)
              clear hGv HTX
              go_wp2
              (try simp only [Exit.inBlock, Exit.then])
              have hS := only_five wr w.heap.size (.int .u16 (c0 : Int)) (.int .u32 (c1 : Int)) (.int .u64 (c2 : Int)) (.int .i64 (c3 : Int)) (.slice pv ys.length cv)
              refine bodyPost_ret (results_ctt (p := 4) (t := 5) (u := 6) (ty := 32) rfl _ _ ⟨w.heap.size, 0, none⟩ _ rfl (load9 (box_five H1.out) rfl)) rfl ?_
              unfold Read9At
              rw [HTX2.out]
              refine ⟨ys, pv, cv, (qh : Int), by unfold tv; simp, rfl, HG.out.kept hS (fun a ea ee => ?_), fun y hy => ((HE.out y hy).only (by decide) H1.out hS).1, fun _ => rfl, HH.out.2.trans (hS.below HH.out.2.size (fun i ei => by have ei : i = w.heap.size := ei; omega))⟩
              apply HAP.out
              rw [ea]
              have ee : a.block = w.heap.size := ee
              simp [Value.ownBlock, ee]
            · have h0' : ((e : Int) == 0) = false := beq_no (by omega)
              have h0'' : ((e : Int) != 0) = true := by simpa using h0
              have HTX2 : Hid (readTx bs Q 0 = (Tm.mk 0 0 0 0 [], qh, e)) := by show _ = _; rw [HTX.out]; simp only; rw [if_neg h0]; rfl
              clear HTX
              have hS := only_five wr w.heap.size (.int .u16 0) (.int .u32 0) (.int .u64 0) (.int .i64 0) (.slice none 0 0)
              have HS := Lib.hid hS
              clear hS
              by_cases hkn : (k : Int) < (n : Int)
              all_goals
                go_wp2
                (try simp only [Exit.inBlock, Exit.then])
                refine bodyPost_ret (results_ctt (p := 4) (t := 5) (u := 6) (ty := 32) rfl _ _ ⟨w.heap.size, 0, none⟩ _ rfl (load9 (box_five H1.out) rfl)) rfl ?_
                unfold Read9At
                rw [HTX2.out]
                exact ⟨[], none, 0, q, rfl, rfl, GRow.nil _ _ _, (fun y hy => by cases hy), fun h => absurd h h0, HH.out.2.trans (HS.out.below HH.out.2.size (fun i ei => by have ei : i = w.heap.size := ei; omega))⟩
end Go.Proofs.Ytedlmngfkkpmgaa
/-
  A region that draws its order, from where some of its operations have run: what is left only reads (callees that leave what was there as it was), and one walk serves every order. Of no program. No conditions beyond what each theorem states.
-/
namespace Go.Proofs.Ytedlmngfkkpmgaa
open Go Go.Sort Go.RowKit
set_option linter.unusedVariables false
set_option linter.unusedSimpArgs false

/-- The last operations, from number k on, in a region whose earlier ones have run. -/
theorem any_rest {P : Program} {ops : List Oper} {Q : Exit → Act → World → Prop} {listed : Array Bool} {a : Act} {w : World} (k : Nat) (hs : Region.noSelect ops.toArray = true) (hB : Region.lexFrom .any ops.toArray (ops.drop k).length k listed = true)
    (h : wpQuiet P ops.toArray (fun w' => ∃ p : Regrown, w' = grow (redrawn w p.d) p.os) (fun a' => ∀ w', (∃ p : Regrown, w' = grow (redrawn w p.d) p.os) → Q .normal a' w') (ops.drop k) a) : wpAny P .any ops.toArray Q (ops.drop k).length listed a w :=
  wpAny_of_quiet (C := fun w' => ∃ p : Regrown, w' = grow (redrawn w p.d) p.os) (Q := fun a' => ∀ w', (∃ p : Regrown, w' = grow (redrawn w p.d) p.os) → Q .normal a' w') (fun _ w' hw' h => h w' hw') _ _ _ _ ⟨⟨w.drawn, #[]⟩, by rw [grow_empty]; rfl⟩
    (wpAnyQ_lex hs (ops.drop k) k listed a (fun j => by simp [List.getElem?_drop]) hB h)
end Go.Proofs.Ytedlmngfkkpmgaa
