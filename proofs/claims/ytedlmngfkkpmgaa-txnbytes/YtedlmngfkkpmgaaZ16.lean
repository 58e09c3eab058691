/-
  Several texts of one proof, joined: each part says at its head what it proves. No conditions beyond what each theorem states.
-/
import Derived.Test.YtedlmngfkkpmgaaZ09
import Derived.Test.YtedlmngfkkpmgaaZ15
import Derived.Test.YtedlmngfkkpmgaaZ11
/-
  The law TxnBytes' own function, over what txn's calls hand back. No conditions beyond what each theorem states.
-/
namespace Go.Proofs.Ytedlmngfkkpmgaa
open Go.ChangeShapes Go.WideShapes Go.ChangeAt Go.RowKit Go.Lib
set_option linter.unusedVariables false
set_option linter.unusedSimpArgs false

theorem bytesT_range {t : Tm} {xs : List OV} {p : Option Addr} {c : Nat} {w : World} (H : InT t xs p c w) (hs : SmallX xs) (h0 : fitT t = 0) : 1 ≤ (bytesT t).length ∧ (bytesT t).length ≤ 40000 := by
  obtain ⟨g1, g2, g3, g4, g5, g6, g7, g8, g9⟩ := fitT_ok h0
  have HOK := fitOs_ok t.ops (-1) g9
  have hfi := H.fit
  unfold FitTm at hfi
  obtain ⟨f1, f2, f3, f4, f5, f6, f7, f8, -⟩ := hfi
  have hle := flatO_len (l := t.ops) (fun o ho => by
    have ho' := ho
    rw [H.ops] at ho'
    obtain ⟨x, hx, rfl⟩ := List.mem_map.1 ho'
    exact (bytesO_range (H.row.each x hx).fit (HOK _ ho).1 (hs x hx).2).2) t.ops.length
  rw [List.take_length] at hle
  have e1 := encN_len (n := t.r.toNat) (by omega)
  have e2 := encN_len (n := t.seq.toNat) (by omega)
  have e3 := encN_len (n := t.clock.toNat) (by omega)
  have e4 := encN_len (n := t.user.toNat) (by omega)
  have e5 := encN_len (n := t.ops.length) (by omega)
  have e6 := encN_pos t.r.toNat
  unfold bytesT
  simp only [List.length_append]
  omega
theorem InT.belowB {t : Tm} {xs : List OV} {p : Option Addr} {c : Nat} {w : World} (H : InT t xs p c w) : BelowB w.heap.size xs p := by
  refine ⟨fun h0 q e => ?_, fun x hx h0 q e => ?_⟩
  · obtain ⟨b, o, e2, c0, _⟩ := orow_at H.row.row h0
    rw [e] at e2
    cases e2
    exact block_lt_of_cell c0
  · obtain ⟨b, o, e2, c0, _⟩ := srow_at (H.row.each x hx).row h0
    rw [e] at e2
    cases e2
    exact block_lt_of_cell c0
theorem BelowB.mono {B B' : Nat} {xs : List OV} {p : Option Addr} (h : BelowB B xs p) (hB : B ≤ B') : BelowB B' xs p := ⟨fun h0 q e => Nat.lt_of_lt_of_le (h.1 h0 q e) hB, fun x hx h0 q e => Nat.lt_of_lt_of_le (h.2 x hx h0 q e) hB⟩
set_option maxHeartbeats 51200000 in
set_option maxRecDepth 20000 in
theorem txnbytes_any (HFT : FitTSpec) (HPU : PutTSpec) (HGE : GetTSpec) (t : Tm) (xs : List OV) (p : Option Addr) (c : Nat) (w : World) (H : InT t xs p c w) (hl : t.ops.length ≤ 1954687338211) (hq : ∀ x ∈ xs, x.1.text.length ≤ 9223372036854775807 ∧ x.1.spans.length ≤ 8796093021952) :
    Calls Try.prog 4 #[tv t p c] w fun e w' => e = .returned (.bool true) ∧ Below w.heap.size w w' := by
  have hlen : t.ops.length = xs.length := by rw [H.ops, List.length_map]
  have HTV : Hid (∀ p c, tv t p c = .agg #[.int .u16 t.r, .int .u32 t.seq, .int .u64 t.clock, .int .i64 t.user, .slice p xs.length c]) := fun p c => by unfold tv; rw [hlen]
  have HA := Lib.hid (fun W => anchor9_any HFT W)
  have HSM : Hid (∀ W, Below w.heap.size w W → Calls Try.prog 7 #[tv t p c] W fun e w' => e = .returned (.bool (smallT t)) ∧ Below W.heap.size W w') := fun W hb => msmall_any t xs p c W (H.below hb) (by omega) (fun x hx => ⟨(hq x hx).1, by have := (hq x hx).2; omega⟩)
  have M1 : Hid (∀ W, Below w.heap.size w W → Calls Try.prog 8 #[tv t p c] W (MadeT t W)) := fun W hb => mtxn_any t xs p c W (H.rows.below hb) hl (fun x hx => (hq x hx).2)
  have HIN := Lib.hid H
  have HB0 : Hid (Below w.heap.size w (w.alloc (.cells #[.int .u16 t.r, .int .u32 t.seq, .int .u64 t.clock, .int .i64 t.user, .slice p xs.length c] 27))) := below_alloc (Below.refl _ _) _
  have HX0 := Lib.hid (heap_alloc_new w (.cells #[.int .u16 t.r, .int .u32 t.seq, .int .u64 t.clock, .int .i64 t.user, .slice p xs.length c] 27))
  rw [HTV.out]
  unfold MadeT at M1
  simp only [HTV.out] at HSM M1
  clear H hq HFT
  go_enter Try.func4, Try.ntmps4
  go_wp2_with fail
  generalize (w.alloc (.cells #[.int .u16 t.r, .int .u32 t.seq, .int .u64 t.clock, .int .i64 t.user, .slice p xs.length c] 27)) = w0 at HB0 HX0 ⊢
  refine (HA.out _).mono ?_
  rintro e w1 ⟨rfl, hb1⟩
  have HB1 := Lib.hid hb1
  obtain ⟨x0, x1, x2, x3, x4⟩ := five_cells (kept_box HX0.out hb1)
  clear hb1 HA
  go_wp2_with fail
  refine (M1.out _ (below_step HB0.out HB1.out)).mono ?_
  rintro e w2 ⟨ys, p2, c2, rfl, hT2, hb2⟩
  have HB2 : Hid (Below w0.heap.size w0 (w2.alloc (.cells #[.int .u16 t.r, .int .u32 t.seq, .int .u64 t.clock, .int .i64 t.user, .slice p2 xs.length c2] 32))) := below_alloc (below_step HB1.out hb2) _
  have HX2 := Lib.hid (heap_alloc_new w2 (.cells #[.int .u16 t.r, .int .u32 t.seq, .int .u64 t.clock, .int .i64 t.user, .slice p2 xs.length c2] 32))
  have HT2 : Hid (InT t ys p2 c2 (w2.alloc (.cells #[.int .u16 t.r, .int .u32 t.seq, .int .u64 t.clock, .int .i64 t.user, .slice p2 xs.length c2] 32))) := (hT2.inT HIN.out.fit).below (below_alloc (Below.refl _ _) _)
  have HI2 : Hid (InT t xs p c (w2.alloc (.cells #[.int .u16 t.r, .int .u32 t.seq, .int .u64 t.clock, .int .i64 t.user, .slice p2 xs.length c2] 32))) := HIN.out.below (below_step HB0.out HB2.out)
  have HX02 := Lib.hid (kept_box HX0.out HB2.out)
  clear hb2 hT2 HB1 M1 x0 x1 x2 x3 x4 HX0
  have HMX : Hid (smallT t = true → ∀ zs : List OV, t.ops = zs.map (·.1) → SmallX zs ∧ zs.length ≤ 40) := fun h zs hz => smallT_x hz h
  have F1 : Hid (smallT t = true → ∀ W, Below ((w2.alloc (.cells #[.int .u16 t.r, .int .u32 t.seq, .int .u64 t.clock, .int .i64 t.user, .slice p2 xs.length c2] 32))).heap.size (w2.alloc (.cells #[.int .u16 t.r, .int .u32 t.seq, .int .u64 t.clock, .int .i64 t.user, .slice p2 xs.length c2] 32)) W → Calls Try.prog 9 #[tv t p2 c2] W fun e w' => e = .returned (.int .i64 (fitT t)) ∧ Below W.heap.size W w') := fun h W hb => reffitT_any t ys p2 c2 W (HT2.out.below hb) (HMX.out h ys HT2.out.ops).1
  have HSB : Hid (∀ W, Below ((w2.alloc (.cells #[.int .u16 t.r, .int .u32 t.seq, .int .u64 t.clock, .int .i64 t.user, .slice p2 xs.length c2] 32))).heap.size (w2.alloc (.cells #[.int .u16 t.r, .int .u32 t.seq, .int .u64 t.clock, .int .i64 t.user, .slice p2 xs.length c2] 32)) W → Calls Try.prog 7 #[.agg #[.int .u16 t.r, .int .u32 t.seq, .int .u64 t.clock, .int .i64 t.user, .slice p xs.length c]] W fun e w' => e = .returned (.bool (smallT t)) ∧ Below W.heap.size W w') := fun W hb => HSM.out W (below_step HB0.out (below_step HB2.out hb))
  have HBW : Hid (Below w.heap.size w (w2.alloc (.cells #[.int .u16 t.r, .int .u32 t.seq, .int .u64 t.clock, .int .i64 t.user, .slice p2 xs.length c2] 32))) := below_step HB0.out HB2.out
  simp only [HTV.out] at F1
  clear HSM HB0 HB2
  obtain ⟨x0, x1, x2, x3, x4⟩ := five_cells HX02.out
  go_wp2_with fail
  generalize hWB : w2.heap.size = X2 at HX2 ⊢
  generalize (w2.alloc (.cells #[.int .u16 t.r, .int .u32 t.seq, .int .u64 t.clock, .int .i64 t.user, .slice p2 xs.length c2] 32)) = wb at HX2 HT2 HI2 HX02 F1 HSB HBW x0 x1 x2 x3 x4 ⊢
  clear hWB
  have HC : Hid (∀ W, Below wb.heap.size wb W → _) := fun W hb => five_cells (kept_box HX02.out hb)
  have HD : Hid (∀ W, Below wb.heap.size wb W → _) := fun W hb => five_cells (kept_box HX2.out hb)
  clear HX02 HX2
  refine (HSB.out _ (Below.refl _ _)).mono ?_
  rintro e w3 ⟨rfl, hb3⟩
  have HB3 := Lib.hid hb3
  clear hb3 HSB x0 x1 x2 x3 x4
  obtain ⟨x0, x1, x2, x3, x4⟩ := HD.out _ HB3.out
  cases hS : smallT t with
  | false =>
    go_wp2
    go_ret
    exact ⟨rfl, below_step HBW.out HB3.out⟩
  | true =>
    have HF1 := Lib.hid (F1.out hS)
    obtain ⟨hsx, h40⟩ := HMX.out hS xs HIN.out.ops
    have hsy := (HMX.out hS ys HT2.out.ops).1
    have HSX := Lib.hid hsx
    have HSY := Lib.hid hsy
    clear F1 HMX hsx hsy
    go_wp2_with fail
    refine (HF1.out _ HB3.out).mono ?_
    rintro e w4 ⟨rfl, hb4⟩
    have HB4 : Hid (Below wb.heap.size wb w4) := below_step HB3.out hb4
    clear hb4 HF1 HB3 x0 x1 x2 x3 x4
    have HEQ : Hid (fitT t = fitT t) := rfl
    generalize hFT : fitT t = FT
    by_cases h0 : FT = 0
    case neg =>
      have h0' : (FT == 0) = false := beq_no h0
      have h0'' : (FT != 0) = true := bne_int h0
      go_wp2
      go_ret
      exact ⟨rfl, below_step HBW.out HB4.out⟩
    subst h0
    have HFZ := Lib.hid hFT
    clear hFT HEQ
    obtain ⟨hpos, hbl⟩ := bytesT_range HI2.out HSX.out HFZ.out
    have HRS := Lib.hid (readTx_all HI2.out.fit HFZ.out)
    have HB8 : Hid (Below wb.heap.size wb (w4.alloc (.cells #[.slice none 0 0] 54))) := below_alloc HB4.out _
    have HW8 : Hid (Wr w4.heap.size w4.heap.size (.slice none 0 0) [] (w4.alloc (.cells #[.slice none 0 0] 54))) := ⟨Nat.le_refl _, by simp, heap_alloc_new w4 _, World.ownsRow_nil _ _ _ _⟩
    have H1 := Lib.hid (HPU w4.heap.size w4.heap.size (.slice none 0 0) [] t xs p c _ HW8.out (HI2.out.below HB8.out) (HI2.out.belowB.mono HB4.out.size) HSX.out HFZ.out (by simp))
    rw [HTV.out] at H1
    obtain ⟨x0, x1, x2, x3, x4⟩ := HC.out _ HB8.out
    go_wp2_with fail
    refine H1.out.mono ?_
    rintro e w9 ⟨rfl, v9, hw9, -, hk9⟩
    have HB9 : Hid (Below wb.heap.size wb w9) := HB8.out.trans ((HW8.out.bound hk9).mono HB4.out.size)
    have HW9 := Lib.hid hw9
    clear hw9 hk9 HW8 HB8 H1 x0 x1 x2 x3 x4 HPU
    rw [List.nil_append] at HW9
    have H2 := Lib.hid (wbytes_any _ _ _ _ w9 HW9.out (by omega))
    go_wp2_with fail
    refine H2.out.mono ?_
    rintro e w10 ⟨rfl, hh10, hb10⟩
    have HB10 : Hid (Below wb.heap.size wb w10) := below_step HB9.out hb10
    have HC10 : Hid (BRow w10 (some ⟨w9.heap.size, 0, none⟩) (bytesT t)) := brow_block hh10
    clear hh10 hb10 HB9 HW9 H2 HB4
    generalize w9.heap.size = C at *
    have H3 := Lib.hid (from_any (bytesT t) (some ⟨C, 0, none⟩) (bytesT t).length w10 HC10.out (by omega))
    go_wp2_with fail
    refine H3.out.mono ?_
    rintro e w11 ⟨K2, rfl, hK2, hrd, hb11⟩
    have HB11 : Hid (Below wb.heap.size wb w11) := below_step HB10.out hb11
    have HC11 : Hid (BRow w11 (some ⟨C, 0, none⟩) (bytesT t)) := HC10.out.below hb11
    have HRD := Lib.hid hrd
    have HK2 : Hid (wb.heap.size ≤ K2) := by have := HB10.out.size; show wb.heap.size ≤ K2; omega
    generalize w10.heap.size = D2 at *
    clear hb11 hrd HB10 HC10 H3 hK2
    have R2 : Hid (∀ W, Below wb.heap.size wb W → Calls Try.prog 19 #[tv t p2 c2] W (Fresh (bytesT t) W)) := fun W hb => refbytesT_any t ys p2 c2 W (HT2.out.below hb) HSY.out HFZ.out
    have G1 : Hid (∀ W, Rd K2 D2 (bytesT t) 0 0 W → Calls Try.prog 21 #[.pointer (some ⟨K2, 0, none⟩)] W fun r w' => ∃ zs p c, r = .returned (tv t p c) ∧ RowT t zs p c w' ∧ Rd K2 D2 (bytesT t) (bytesT t).length 0 w' ∧ Only K2 W w') := fun W hrd => by
      refine (HGE (bytesT t) 0 0 K2 D2 W hrd (by omega) (by omega)).mono ?_
      unfold GotT
      rw [HRS.out]
      rintro r w' ⟨zs, p1, c1, q1, e1, e2, e3, e4, e5⟩
      obtain rfl := e4 rfl
      exact ⟨zs, p1, c1, e1, e2, e3, e5⟩
    have HSZ : Hid (∀ zs : List OV, t.ops = zs.map (·.1) → ∀ z ∈ zs, z.1.spans.length ≤ 60) := fun zs h z hz => ((smallT_x h hS).1 z hz).2
    have M2 : Hid (∀ W zs p c, RowT t zs p c W → Calls Try.prog 8 #[tv t p c] W (MadeT t W)) := fun W zs p c h => mtxn_any t zs p c W h (by omega) (fun x hx => by have := HSZ.out zs h.ops x hx; omega)
    have S1 : Hid (∀ W zs p c, Below wb.heap.size wb W → RowT t zs p c W → Calls Try.prog 20 #[tv t p c, tv t p2 c2] W fun e w' => e = .returned (.bool true) ∧ Below W.heap.size W w') := fun W zs p c hb h => msametxn_yes t zs ys p p2 c c2 W h HT2.out.ops (HT2.out.row.row.below hb) (fun y hy => (HT2.out.row.each y hy).row.below hb) (by omega) (fun x hx => by have := HSZ.out zs h.ops x hx; omega)
    have D1 : Hid (∀ W, Rd K2 D2 (bytesT t) (bytesT t).length 0 W → Calls Try.prog 22 #[.pointer (some ⟨K2, 0, none⟩)] W fun r w' => r = .returned (.int .i64 0) ∧ Below W.heap.size W w') := fun W hrd => by
      have := done_any W hrd
      rwa [if_pos rfl, if_neg (Nat.lt_irrefl _)] at this
    have hcv : ∀ W, Below w11.heap.size w11 W → (convert 52 9 (.slice (some ⟨C, 0, none⟩) (bytesT t).length (bytesT t).length)).run Try.prog W = .ok (.string ⟨(bytesT t).toArray⟩) W := fun W hb => conv_row (HC11.out.below hb) rfl
    have CV := Lib.hid hcv
    have cv0 := hcv w11.drew (Below.refl _ _).drew
    have cv00 := hcv w11 (Below.refl _ _)
    have B11 : Below wb.heap.size wb w11.drew := HB11.out.drew
    unfold MadeT at M2
    simp only [HTV.out] at R2 G1 M2 S1
    clear hcv HGE HRS HC11 HI2 HT2 HIN HFZ HSX HSY HSZ HC
    generalize bytesT t = X at *
    obtain ⟨x0, x1, x2, x3, x4⟩ := HD.out _ B11
    go_wp2_with fail
    go_region_with (first
      | (go_at_call 19; refine (R2.out _ (by exact B11)).mono ?_; rintro e w13 ⟨v13, rfl, hown, hb13⟩
         obtain ⟨g13, c13, rfl, hr13⟩ := owns_some hown hpos
         have L13 : Below w11.heap.size w11 w13 := below_step (Below.refl w11.heap.size w11).drew hb13
         have cv2 := CV.out w13 L13
         have cvo := conv_row (c := c13) hr13 rfl
         have RD13 := HRD.out.below L13
         have B13 := below_step HB11.out L13
         obtain ⟨k0, k1, k2, k3, k4⟩ := HD.out _ B13
         clear hown hb13 hr13)
      | (go_at_call 21; refine (G1.out _ (by exact RD13)).mono ?_; rintro e w14 ⟨zs, p14, c14, rfl, hT14, hrd14, ho14⟩
         have B14 := only_below B13 ho14 HK2.out
         obtain ⟨j0, j1, j2, j3, j4⟩ := HD.out _ B14
         clear ho14)
      | (go_at_call 8; refine (M2.out _ _ _ _ (by exact hT14)).mono ?_; rintro e w15 ⟨us, p15, c15, rfl, hT15, hb15⟩
         have B15 := below_step B14 hb15
         have hrd15 := hrd14.below hb15
         obtain ⟨i0', i1', i2', i3', i4'⟩ := HD.out _ B15
         clear hb15)
      | (go_at_call 20; refine (S1.out _ _ _ _ (by exact B15) (by exact hT15)).mono ?_; rintro e w16 ⟨rfl, hb16⟩
         have B16 := below_step B15 hb16
         have hrd16 := hrd15.below hb16
         clear hb16)
      | (go_at_call 22; refine (D1.out _ (by exact hrd16)).mono ?_; rintro e w17 ⟨rfl, hb17⟩
         have B17 := below_step B16 hb17
         clear hb17))
    all_goals
      have HB17 := Lib.hid B17
      clear B17
      go_wp2
      go_ret
      exact ⟨rfl, below_step HBW.out HB17.out⟩
end Go.Proofs.Ytedlmngfkkpmgaa
