/-
  Several texts of one proof, joined: each part says at its head what it proves. No conditions beyond what each theorem states.
-/
import Derived.Test.YtjkdcpalgfakhaaGreatZ14
import Derived.Test.YtjkdcpalgfakhaaGreatZ08
import Derived.Test.YtjkdcpalgfakhaaGreatZ11
/-
  HoldPlays, over a buffer's calls as premises. No conditions beyond what each theorem states.
-/
namespace Go.Proofs.YtjkdcpalgfakhaaGreat
open Go.ChangeShapes Go.WideShapes Go.ChangeAt Go.RowKit Go.Lib
set_option linter.unusedVariables false
set_option linter.unusedSimpArgs false

set_option maxHeartbeats 12800000 in
set_option maxRecDepth 20000 in
theorem hplays_any {Buf : (Nat → Prop) → Nat → List Em → World → Prop} (HS : BufSpec Buf) (xs : List OpV) (p : Option Addr) (c : Nat) (h : List Vec.En) (s : Option Addr) (f : Nat) (w : World) (hA : ArgP w p xs) (hH : Vec.Row w s h) (hc : h.length ≤ f) (hn : s = none → f = 0) (hf : Vec.Fits h) (hhl : h.length ≤ 17592186043904) (hxl : xs.length ≤ 17592186043904) :
    Calls Tryz.prog 3 #[.slice p xs.length c, .slice s h.length f] w fun r w' => r = .returned (.bool true) ∧ Below w.heap.size w w' := by
  have HAN := Lib.hid (anchor11_any HS w)
  have HRI : Hid (∀ W, Below w.heap.size w W → Calls Tryz.prog 5 #[.slice s h.length f] W fun r w' => r = .returned (.bool (Vec.rightH h)) ∧ Below W.heap.size W w') := fun W hb => sright_any h s f W (hH.below hb) hhl
  have HKN : Hid (Vec.rightH h = true → Known h s f ∧ h.length ≤ 100) := right_known11 hc hn hf
  have HAR := Lib.hid hA
  have HHR := Lib.hid hH
  clear hA hH hc hn hf
  generalize Vec.rightH h = RHV at HRI HKN
  go_enter Tryz.func3, Tryz.ntmps3
  go_wp2_with fail
  refine HAN.out.mono ?_
  rintro r w1 ⟨rfl, hb1⟩
  have HB1 := Lib.hid hb1
  clear hb1 HAN
  by_cases hx90 : 90 < xs.length
  · have hd : decide ((90 : Int) < (xs.length : Int)) = true := by simp; omega
    have hxi : (90 : Int) < (xs.length : Int) := by omega
    go_wp2
    go_ret
    exact ⟨rfl, HB1.out⟩
  have hd : decide ((90 : Int) < (xs.length : Int)) = false := by simp; omega
  have hxi : ¬ (90 : Int) < (xs.length : Int) := by omega
  have HR1 := Lib.hid (HRI.out w1 HB1.out)
  go_wp2_with fail
  refine HR1.out.mono ?_
  rintro r w2 ⟨rfl, hb2⟩
  have HB2 := Lib.hid (below_step HB1.out hb2)
  clear hb2 HR1 HRI HB1
  cases RHV with
  | false =>
    go_wp2
    go_ret
    exact ⟨rfl, HB2.out⟩
  | true =>
    obtain ⟨hkn, hh100⟩ := HKN.out rfl
    have HK := Lib.hid hkn
    obtain ⟨S0, hB0, hS0⟩ := HS.zero w2
    have HZ : Hid (HdP Buf w w2.heap.size [] none (w2.alloc (.cells #[.slice none 0 0] 29))) := ⟨S0, hB0, Firm.base (below_alloc HB2.out _) (fun k hk => Nat.le_trans HB2.out.size (hS0 k hk)), ListE.nil _⟩
    clear hkn HKN hB0 hS0
    go_wp2_with fail
    generalize (w2.alloc (.cells #[.slice none 0 0] 29)) = w3 at HZ ⊢
    generalize w2.heap.size = K at HZ ⊢
    have HIS : Hid (∀ S (es' : List EV) q' d' W, Buf S K (es'.map (·.e)) W → ListE W q' es' → es'.length ≤ 64 → FairL es' → Below w.heap.size w W → Calls Tryz.prog 18 #[.pointer (some ⟨K, 0, none⟩), .slice q' es'.length d', .slice s h.length f] W fun r w' => r = .returned (.bool true) ∧ Below W.heap.size W w') := fun S es' q' d' W h1 h2 h3 h4 hb => is_any HS S K es' q' d' h s f W h1 h2 h3 h4 (HHR.out.below hb) HK.out
    clear HK HHR
    go_loopg [6, 31] xs.length (fun g u i wr => ∃ (k : Nat) (es : List EV) (q : Option Addr) (d : Nat), k ≤ xs.length ∧ xs.length - k ≤ g ∧ i = .int .i64 (k : Int) ∧ u = .slice q es.length d ∧ es.length ≤ 64 ∧ FairL es ∧ HdP Buf w K es q wr)
    case atStart => exact ⟨0, [], none, 0, Nat.zero_le _, by omega, rfl, rfl, by simp, fun x hx => (by cases hx), HZ.out⟩
    case round =>
      clear HZ HB2
      obtain ⟨k, es, q, d, hk, hg, rfl, rfl, hel, hfl, hhd⟩ := hrel
      have HHD := Lib.hid hhd
      have HFL := Lib.hid hfl
      clear hhd hfl
      by_cases hlt : k < xs.length
      · have hkl : (k : Int) < (xs.length : Int) := by omega
        have hin := HAR.out.each _ (getD_mem o0P hlt)
        have HBW := Lib.hid HHD.out.base
        obtain ⟨b, o, rfl, d0, d1, d2, d3, d4, d5, d6, d7⟩ := prow_at (HAR.out.row.below HBW.out) hlt
        generalize xdef : xs.getD k o0P = OP at d0 d1 d2 d3 d4 d5 d6 d7 hin
        clear xdef
        obtain ⟨kd, ⟨E, eys, pe, ce, qe, de⟩, oh, os, of⟩ := OP
        simp only at d0 d1 d2 d3 d4 d5 d6 d7 hin
        have HIX := Lib.hid hin
        have HSM : Hid (∀ W, Below w.heap.size w W → Calls Tryz.prog 6 #[ev E pe ce qe de] W fun r w' => r = .returned (.bool (goodE E)) ∧ Below W.heap.size W w') := fun W hb => ssmall_any E eys pe qe ce de W (HIX.out.x.row.below hb) (HIX.out.x.txn.below hb) HIX.out.ops HIX.out.size
        have HGD : Hid (goodE E = true → ArgE w ⟨E, eys, pe, ce, qe, de⟩) := in_good (x := ⟨E, eys, pe, ce, qe, de⟩) HIX.out.x
        have HRO : Hid (∀ W, Below w.heap.size w W → Calls Tryz.prog 5 #[.slice os oh.length of] W fun r w' => r = .returned (.bool (Vec.rightH oh)) ∧ Below W.heap.size W w') := fun W hb => sright_any oh os of W (HIX.out.row.below hb) HIX.out.len
        have HKO : Hid (Vec.rightH oh = true → Known oh os of ∧ oh.length ≤ 100) := right_known11 HIX.out.cap HIX.out.nil HIX.out.fits
        have HVO : Hid (∀ W, Below w.heap.size w W → Calls Tryz.prog 7 #[.slice os oh.length of] W fun r w' => ∃ p7 c7, r = .returned (.slice p7 oh.length c7) ∧ Vec.Row w' p7 oh ∧ KindAt 75 w' p7 ∧ Below W.heap.size W w') := fun W hb => svec_any oh os of W (HIX.out.row.below hb) HIX.out.len
        have HEN : Hid (goodE E = true → ∀ W, Below w.heap.size w W → Calls Tryz.prog 8 #[ev E pe ce qe de] W fun r w' => ∃ ys p8 c8 q8 d8, r = .returned (ev E p8 c8 q8 d8) ∧ RowE w' ⟨E, ys, p8, c8, q8, d8⟩ ∧ KindE w' ⟨E, ys, p8, c8, q8, d8⟩ ∧ Below W.heap.size W w') := fun hg W hb => (senv_any E eys pe qe ce de W (HIX.out.x.row.below hb) (by have : E.deps.length ≤ 100 := (HGD.out hg).deps; omega) (HIX.out.x.txn.rows.below hb) HIX.out.ops (fun y hy => (HIX.out.size y hy).2)).mono (by
          rintro r w' ⟨ys, p8, c8, q8, d8, h1, h2, h3, h4, h5, h6, h7⟩
          exact ⟨ys, p8, c8, q8, d8, h1, ⟨h2, h4⟩, ⟨h3, h6, h7⟩, h5⟩)
        have HPT : Hid (goodE E = true → ∀ S l W, Buf S K l W → Firm S W (fun W2 => Below w.heap.size w W2) → Calls Tryz.prog 9 #[.pointer (some ⟨K, 0, none⟩), ev E pe ce qe de] W fun r w' => r = .returned (.tuple #[.bool (putOK l E), .int .i64 (putErr l E)]) ∧ ∃ S', Buf S' K (putL l E) w' ∧ Step S S' W w') := fun hg S l W h1 h2 => HS.put S K l W E eys pe ce qe de h1 (h2.mono fun W2 hb => HIX.out.x.below hb) (HGD.out hg).small (HGD.out hg).ops (HGD.out hg).deps (HGD.out hg).fit
        have HFE : Hid (goodE E = true → FairE E ∧ E.deps.length ≤ 100) := fun hg => ⟨(HGD.out hg).fair, (HGD.out hg).deps⟩
        have HOR : Hid (Vec.Row w os oh) := HIX.out.row
        unfold ev at HSM HEN HPT
        clear hin HIX HGD
        generalize goodE E = GV at HSM HEN HPT HFE
        generalize Vec.rightH oh = RO at HRO HKO
        have HBX : Hid (Below wr.heap.size wr (wr.alloc (.cells #[.int .i64 kd, .slice pe E.deps.length ce, .int .u16 E.txn.r, .int .u32 E.txn.seq, .int .u64 E.txn.clock, .int .i64 E.txn.user, .slice qe E.txn.ops.length de, .slice os oh.length of] 40))) := below_alloc (Below.refl _ _) _
        have HZX := Lib.hid (heap_alloc_new wr (.cells #[.int .i64 kd, .slice pe E.deps.length ce, .int .u16 E.txn.r, .int .u32 E.txn.seq, .int .u64 E.txn.clock, .int .i64 E.txn.user, .slice qe E.txn.ops.length de, .slice os oh.length of] 40))
        obtain ⟨S, hbuf, hfirm, hlist⟩ := HHD.out
        have HNB : Hid (¬ S wr.heap.size) := fun hs => by have := HS.lt _ _ _ _ hbuf _ hs; omega
        have HLT : Hid (∀ j, S j → j < wr.heap.size) := fun j hs => HS.lt _ _ _ _ hbuf _ hs
        have HBU : Hid (∀ W, Below wr.heap.size wr W → Buf S K (es.map (·.e)) W ∧ Firm S W (fun W2 => Below w.heap.size w W2) ∧ ListE W q es ∧ Below w.heap.size w W ∧ Others S W) := fun W hb => ⟨HS.below _ _ _ _ _ hbuf hb, hfirm.below hb, hlist.below hb, (hfirm.below hb).now, HS.others _ _ _ _ (HS.below _ _ _ _ _ hbuf hb)⟩
        clear hbuf hfirm hlist HHD
        by_cases hk1 : kd = 1
        · subst hk1
          go_wp2_with fail
          refine (HSM.out _ (HBU.out _ HBX.out).2.2.2.1).mono ?_
          rintro r w5 ⟨rfl, hb5⟩
          have HB5 := Lib.hid (below_step HBX.out hb5)
          have HZ5 := Lib.hid (kept_box HZX.out hb5)
          clear hb5 HSM HZX HBX d0 d1 d2 d3 d4 d5 d6 d7
          obtain ⟨y0, y1, y2, y3, y4, y5, y6, y7⟩ := eight_cells HZ5.out
          cases GV with
          | false =>
            have HBE := Lib.hid (HBU.out w5 HB5.out).2.2.2.1
            go_wp2
            go_ret
            exact ⟨rfl, HBE.out⟩
          | true =>
            have HRO1 := Lib.hid (HRO.out w5 (HBU.out w5 HB5.out).2.2.2.1)
            go_wp2_with fail
            refine HRO1.out.mono ?_
            rintro r w6 ⟨rfl, hb6⟩
            have HB6 := Lib.hid (below_step HB5.out hb6)
            have HZ6 := Lib.hid (kept_box HZ5.out hb6)
            clear hb6 HRO1 HRO
            clear y0 y1 y2 y3 y4 y5 y6 y7
            obtain ⟨y0, y1, y2, y3, y4, y5, y6, y7⟩ := eight_cells HZ6.out
            cases RO with
            | false =>
              have HBE := Lib.hid (HBU.out w6 HB6.out).2.2.2.1
              go_wp2
              go_ret
              exact ⟨rfl, HBE.out⟩
            | true =>
              have HV6 := Lib.hid (HVO.out w6 (HBU.out w6 HB6.out).2.2.2.1)
              go_wp2_with fail
              refine HV6.out.mono ?_
              rintro r w7 ⟨p7, c7, rfl, hr7, hk7, hb7⟩
              have HB7 := Lib.hid (below_step HB6.out hb7)
              have HZ7 := Lib.hid (kept_box HZ6.out hb7)
              clear hb7 hr7 hk7 HV6 HVO HKO y0 y1 y2 y3 y4 y5 y6 y7
              obtain ⟨y0, y1, y2, y3, y4, y5, y6, y7⟩ := eight_cells HZ7.out
              have HE7 := Lib.hid (HEN.out (by first | rfl | trivial) w7 (HBU.out w7 HB7.out).2.2.2.1)
              go_wp2_with fail
              refine HE7.out.mono ?_
              rintro r w8 ⟨ys, p8, c8, q8, d8, he8, hrow8, hkind8, hb8⟩
              subst he8
              have hb9 : Below w8.heap.size w8 (w8.alloc (.cells #[.slice p8 E.deps.length c8, .int .u16 E.txn.r, .int .u32 E.txn.seq, .int .u64 E.txn.clock, .int .i64 E.txn.user, .slice q8 E.txn.ops.length d8] 48)) := below_alloc (Below.refl _ _) _
              have HB9 := Lib.hid (below_step (below_step HB7.out hb8) hb9)
              have HX9 : Hid (RowE _ ⟨E, ys, p8, c8, q8, d8⟩ ∧ KindE _ ⟨E, ys, p8, c8, q8, d8⟩) := ⟨hrow8.below hb9, hkind8.below hb9⟩
              have HT9 := Lib.hid (heap_alloc_new w8 (.cells #[.slice p8 E.deps.length c8, .int .u16 E.txn.r, .int .u32 E.txn.seq, .int .u64 E.txn.clock, .int .i64 E.txn.user, .slice q8 E.txn.ops.length d8] 48))
              have HNT : Hid (¬ S w8.heap.size) := fun hs => by
                have h1 := HLT.out _ hs
                have h2 := (below_step HB7.out hb8).size
                omega
              have HZ9 := Lib.hid (kept_box HZ7.out (below_step hb8 hb9))
              clear hb8 hb9 hrow8 hkind8 HE7 HEN y0 y1 y2 y3 y4 y5 y6 y7
              obtain ⟨y0, y1, y2, y3, y4, y5, y6, y7⟩ := eight_cells HZ9.out
              go_wp2_with fail
              generalize (w8.alloc (.cells #[.slice p8 E.deps.length c8, .int .u16 E.txn.r, .int .u32 E.txn.seq, .int .u64 E.txn.clock, .int .i64 E.txn.user, .slice q8 E.txn.ops.length d8] 48)) = w9 at HB9 HX9 HT9 HZ9 y0 y1 y2 y3 y4 y5 y6 y7 ⊢
              generalize w8.heap.size = T9 at HT9 HNT ⊢
              obtain ⟨hbuf9, hfirm9, hlist9, hbase9, hoth9⟩ := HBU.out w9 HB9.out
              refine (HPT.out (by first | rfl | trivial) S _ w9 hbuf9 hfirm9).mono ?_
              rintro r w10 ⟨rfl, S', hbuf10, hst10⟩
              have HSA : Hid (Buf S' K (putL (es.map (·.e)) E) w10 ∧ Firm S' w10 (fun W2 => Below w.heap.size w W2) ∧ ListE w10 q es) := ⟨hbuf10, hfirm9.step hst10, hlist9.kept hoth9 hst10.kept⟩
              have HX10 : Hid (RowE w10 ⟨E, ys, p8, c8, q8, d8⟩ ∧ KindE w10 ⟨E, ys, p8, c8, q8, d8⟩) := ⟨HX9.out.1.kept HX9.out.2 hoth9 hst10.kept, HX9.out.2.kept hoth9 hst10.kept⟩
              have HT10 := Lib.hid (hst10.kept.stays HT9.out HNT.out)
              clear hbuf9 hfirm9 hlist9 hbase9 hoth9 hbuf10 hst10 HPT HX9 HT9 HZ9 y0 y1 y2 y3 y4 y5 y6 y7 HZ7 HZ6 HZ5
              obtain ⟨z0, z1, z2, z3, z4, z5⟩ := six_cells HT10.out
              have HHA : Hid (∀ W, Below w10.heap.size w10 W → Calls Tryz.prog 10 #[.slice q es.length d, .agg #[.slice p8 E.deps.length c8, .int .u16 E.txn.r, .int .u32 E.txn.seq, .int .u64 E.txn.clock, .int .i64 E.txn.user, .slice q8 E.txn.ops.length d8]] W fun r w' => r = .returned (.bool (hasM (es.map (·.e)) E)) ∧ Below W.heap.size W w') := fun W hb => refhasE_any es E q d p8 q8 c8 d8 W (HSA.out.2.2.row.below hb) (by omega)
              have HOK : Hid (∀ b, hasM (es.map (·.e)) E = b → putOK (es.map (·.e)) E = (!b && decide (es.length < 64)) ∧ putErr (es.map (·.e)) E = (if b = false ∧ 64 ≤ es.length then 21 else 0) ∧ (b = true ∨ 64 ≤ es.length → putL (es.map (·.e)) E = es.map (·.e)) ∧ (b = false ∧ es.length < 64 → putL (es.map (·.e)) E = putM (es.map (·.e)) E)) := fun b hb => by
                unfold putL putOK putErr
                rw [hb, List.length_map]
                refine ⟨?_, rfl, fun h => ?_, fun h => ?_⟩
                · cases b with
                  | true => rfl
                  | false =>
                    by_cases h64 : 64 ≤ es.length
                    · rw [decide_eq_true h64, decide_eq_false (show ¬ es.length < 64 by omega)]; rfl
                    · rw [decide_eq_false h64, decide_eq_true (show es.length < 64 by omega)]; rfl
                · rw [if_neg]
                  rcases h with rfl | h
                  · simp
                  · rw [decide_eq_true h]; simp
                · rw [h.1, decide_eq_false (show ¬ 64 ≤ es.length by omega)]; exact if_pos rfl
              have HPM : Hid (hasM (es.map (·.e)) E = false → (putM (es.map (·.e)) E).length = (es.map (·.e)).length + 1 ∧ ∀ x, x ∈ putM (es.map (·.e)) E ↔ x = E ∨ x ∈ es.map (·.e)) := fun h => ⟨putM_length h, fun x => mem_putM h⟩
              have HPR : Hid (∀ W, Below w10.heap.size w10 W → Calls Tryz.prog 11 #[.slice q es.length d, .agg #[.slice p8 E.deps.length c8, .int .u16 E.txn.r, .int .u32 E.txn.seq, .int .u64 E.txn.clock, .int .i64 E.txn.user, .slice q8 E.txn.ops.length d8]] W (GaveE (putX es ⟨E, ys, p8, c8, q8, d8⟩) W)) := fun W hb => refput_any es ⟨E, ys, p8, c8, q8, d8⟩ q d W (HSA.out.2.2.row.below hb) (by omega)
              generalize hHM : hasM (es.map (·.e)) E = HM at HHA HOK HPM
              clear hHM
              have HOK2 := Lib.hid (HOK.out HM rfl)
              clear HOK
              generalize putOK (es.map (·.e)) E = OKV at HOK2 ⊢
              generalize putErr (es.map (·.e)) E = ERV at HOK2 ⊢
              generalize hPLd : putL (es.map (·.e)) E = PL at HOK2 HSA
              clear hPLd
              go_wp2_with fail
              refine (HHA.out w10 (Below.refl _ _)).mono ?_
              rintro r w11 ⟨rfl, hb11⟩
              have HB11 := Lib.hid hb11
              have HSB : Hid (Buf S' K PL w11 ∧ Firm S' w11 (fun W2 => Below w.heap.size w W2) ∧ ListE w11 q es) := ⟨HS.below _ _ _ _ _ HSA.out.1 hb11, HSA.out.2.1.below hb11, HSA.out.2.2.below hb11⟩
              have HT11 := Lib.hid (kept_box HT10.out hb11)
              clear hb11 HHA z0 z1 z2 z3 z4 z5
              obtain ⟨z0, z1, z2, z3, z4, z5⟩ := six_cells HT11.out
              cases HM with
              | true =>
                obtain ⟨o1, o2, o3, -⟩ := HOK2.out
                have o3 := o3 (Or.inl (by first | rfl | trivial))
                have e1 : OKV = false := by simpa using o1
                have e2 : ERV = 0 := by simpa using o2
                subst e1 e2 o3
                clear o1 o2 HOK2 HPM HPR
                have HTL := Lib.hid (HIS.out S' es q d w11 HSB.out.1 HSB.out.2.2 hel HFL.out (Firm.now HSB.out.2.1))
                have HTS : Hid (∀ W, Below w11.heap.size w11 W → HdP Buf w K es q W) := fun W hb => HdP.below HS ⟨S', HSB.out.1, HSB.out.2.1, HSB.out.2.2⟩ hb
                have HTN : Hid ((es).length ≤ 64 ∧ FairL es) := ⟨hel, HFL.out⟩
                go_wp2_with fail
                refine HTL.out.mono ?_
                rintro r w12 ⟨rfl, hb12⟩
                have HTF := Lib.hid (HTS.out w12 hb12)
                clear hb12 HTL HTS
                go_wp2
                go_roundg (xs.length - (k + 1))
                case measure => omega
                case rel => exact ⟨k + 1, es, q, d, by omega, Nat.le_refl _, by go_num, rfl, HTN.out.1, HTN.out.2, HTF.out⟩
              | false =>
                by_cases h64 : 64 ≤ es.length
                · have hd1 : (64 : Int) ≤ (es.length : Int) := by omega
                  have hd2 : decide ((64 : Int) ≤ (es.length : Int)) = true := decide_eq_true hd1
                  obtain ⟨o1, o2, o3, -⟩ := HOK2.out
                  have o3 := o3 (Or.inr h64)
                  have e1 : OKV = false := by rw [o1, decide_eq_false (show ¬ es.length < 64 by omega)]; rfl
                  have e2 : ERV = 21 := by rw [o2]; simp [h64]
                  subst e1 e2 o3
                  clear o1 o2 HOK2 HPM HPR
                  have HTL := Lib.hid (HIS.out S' es q d w11 HSB.out.1 HSB.out.2.2 hel HFL.out (Firm.now HSB.out.2.1))
                  have HTS : Hid (∀ W, Below w11.heap.size w11 W → HdP Buf w K es q W) := fun W hb => HdP.below HS ⟨S', HSB.out.1, HSB.out.2.1, HSB.out.2.2⟩ hb
                  have HTN : Hid ((es).length ≤ 64 ∧ FairL es) := ⟨hel, HFL.out⟩
                  go_wp2_with fail
                  refine HTL.out.mono ?_
                  rintro r w12 ⟨rfl, hb12⟩
                  have HTF := Lib.hid (HTS.out w12 hb12)
                  clear hb12 HTL HTS
                  go_wp2
                  go_roundg (xs.length - (k + 1))
                  case measure => omega
                  case rel => exact ⟨k + 1, es, q, d, by omega, Nat.le_refl _, by go_num, rfl, HTN.out.1, HTN.out.2, HTF.out⟩
                · have hd1 : ¬ (64 : Int) ≤ (es.length : Int) := by omega
                  have hd2 : decide ((64 : Int) ≤ (es.length : Int)) = false := decide_eq_false hd1
                  obtain ⟨o1, o2, -, o4⟩ := HOK2.out
                  have o4 := o4 ⟨by first | rfl | trivial, by omega⟩
                  have e1 : OKV = true := by rw [o1, decide_eq_true (show es.length < 64 by omega)]; rfl
                  have e2 : ERV = 0 := by rw [o2]; simp [h64]
                  obtain ⟨m1, m2⟩ := HPM.out (by first | rfl | trivial)
                  have HP11 := Lib.hid (HPR.out w11 HB11.out)
                  have hXm := putX_map es ⟨E, ys, p8, c8, q8, d8⟩
                  simp only at hXm
                  have HPX : Hid (PL = (putX es ⟨E, ys, p8, c8, q8, d8⟩).map (·.e) ∧ (putX es ⟨E, ys, p8, c8, q8, d8⟩).length ≤ 64 ∧ FairL (putX es ⟨E, ys, p8, c8, q8, d8⟩) ∧ ∀ y ∈ putX es ⟨E, ys, p8, c8, q8, d8⟩, y ∈ es ∨ y = ⟨E, ys, p8, c8, q8, d8⟩) := by
                    refine ⟨by rw [hXm, o4], ?_, fun y hy => ?_, fun y hy => ?_⟩
                    · have h1 := congrArg List.length hXm
                      rw [List.length_map, m1, List.length_map] at h1
                      omega
                    · have h1 : y.e ∈ putM (es.map (·.e)) E := by rw [← hXm]; exact List.mem_map.2 ⟨y, hy, rfl⟩
                      rcases (m2 y.e).1 h1 with h2 | h2
                      · rw [h2]; exact HFE.out (by first | rfl | trivial)
                      · obtain ⟨x, hx, e⟩ := List.mem_map.1 h2
                        rw [← e]; exact HFL.out x hx
                    · unfold putX at hy
                      rcases List.mem_append.1 hy with hy | hy
                      · rcases List.mem_append.1 hy with hy | hy
                        · exact Or.inl (List.mem_filter.1 hy).1
                        · exact Or.inr (List.mem_singleton.1 hy)
                      · exact Or.inl (List.mem_filter.1 hy).1
                  subst e1 e2
                  clear o1 o2 o4 m1 m2 hXm HOK2 HPM HPR
                  generalize putX es ⟨E, ys, p8, c8, q8, d8⟩ = ZX at HP11 HPX
                  go_wp2_with fail
                  refine HP11.out.mono ?_
                  rintro r w12 ⟨p12, c12, rfl, hr12, hk12, hb12⟩
                  have HSC : Hid (Buf S' K (ZX.map (·.e)) w12 ∧ Firm S' w12 (fun W2 => Below w.heap.size w W2) ∧ ListE w12 p12 ZX) := ⟨by rw [← HPX.out.1]; exact HS.below _ _ _ _ _ HSB.out.1 hb12, HSB.out.2.1.below hb12, (HSB.out.2.2.below hb12).sub hr12 hk12 (fun y hy => by
                    rcases HPX.out.2.2.2 y hy with h1 | h1
                    · exact Or.inl h1
                    · rw [h1]; exact Or.inr ⟨HX10.out.1.below (below_step HB11.out hb12), HX10.out.2.below (below_step HB11.out hb12)⟩)⟩
                  clear hr12 hk12 hb12 HP11 z0 z1 z2 z3 z4 z5
                  have HTL := Lib.hid (HIS.out S' ZX p12 c12 w12 HSC.out.1 HSC.out.2.2 HPX.out.2.1 HPX.out.2.2.1 (Firm.now HSC.out.2.1))
                  have HTS : Hid (∀ W, Below w12.heap.size w12 W → HdP Buf w K ZX p12 W) := fun W hb => HdP.below HS ⟨S', HSC.out.1, HSC.out.2.1, HSC.out.2.2⟩ hb
                  have HTN : Hid ((ZX).length ≤ 64 ∧ FairL ZX) := ⟨HPX.out.2.1, HPX.out.2.2.1⟩
                  go_wp2_with fail
                  refine HTL.out.mono ?_
                  rintro r w13 ⟨rfl, hb13⟩
                  have HTF := Lib.hid (HTS.out w13 hb13)
                  clear hb13 HTL HTS
                  go_wp2
                  go_roundg (xs.length - (k + 1))
                  case measure => omega
                  case rel => exact ⟨k + 1, ZX, p12, c12, by omega, Nat.le_refl _, by go_num, rfl, HTN.out.1, HTN.out.2, HTF.out⟩
        · have hk1e : (kd == 1) = false := beq_no hk1
          have hk1i : ¬ kd = 1 := hk1
          clear HSM HEN HPT HFE
          have HRO1 := Lib.hid (HRO.out _ (HBU.out _ HBX.out).2.2.2.1)
          go_wp2_with fail
          refine HRO1.out.mono ?_
          rintro r w6 ⟨rfl, hb6⟩
          have HB6 := Lib.hid (below_step HBX.out hb6)
          have HZ6 := Lib.hid (kept_box HZX.out hb6)
          clear hb6 HRO1 HRO
          clear HBX HZX d0 d1 d2 d3 d4 d5 d6 d7
          obtain ⟨y0, y1, y2, y3, y4, y5, y6, y7⟩ := eight_cells HZ6.out
          cases RO with
          | false =>
            have HBE := Lib.hid (HBU.out w6 HB6.out).2.2.2.1
            go_wp2
            go_ret
            exact ⟨rfl, HBE.out⟩
          | true =>
            obtain ⟨hko, hoh100⟩ := HKO.out rfl
            have HKO1 := Lib.hid hko
            have HV6 := Lib.hid (HVO.out w6 (HBU.out w6 HB6.out).2.2.2.1)
            go_wp2_with fail
            refine HV6.out.mono ?_
            rintro r w7 ⟨p7, c7, rfl, hr7, hk7, hb7⟩
            have HB7 := Lib.hid (below_step HB6.out hb7)
            have HZ7 := Lib.hid (kept_box HZ6.out hb7)
            have HR7 : Hid (Vec.Row w7 p7 oh ∧ KindAt 75 w7 p7) := ⟨hr7, hk7⟩
            clear hko hb7 hr7 hk7 HV6 HVO HKO HZ6 HB6 y0 y1 y2 y3 y4 y5 y6 y7
            obtain ⟨y0, y1, y2, y3, y4, y5, y6, y7⟩ := eight_cells HZ7.out
            obtain ⟨hbuf7, hfirm7, hlist7, hbase7, hoth7⟩ := HBU.out w7 HB7.out
            have HL7 : Hid (Buf S K (es.map (·.e)) w7 ∧ Firm S w7 (fun W2 => Below w.heap.size w W2) ∧ ListE w7 q es) := ⟨hbuf7, hfirm7, hlist7⟩
            by_cases hk2 : kd = 2
            · subst hk2
              have HTK := Lib.hid (HS.take S K _ w7 oh os of hbuf7 (hfirm7.mono fun W2 hb => HOR.out.below hb) HKO1.out)
              have HST : Hid (∀ S' w8, Step S S' w7 w8 → Firm S' w8 (fun W2 => Below w.heap.size w W2) ∧ ListE w8 q es ∧ Vec.Row w8 p7 oh) := fun S' w8 hst => ⟨HL7.out.2.1.step hst, HL7.out.2.2.kept hoth7 hst.kept, vrow_kept HR7.out.1 hst.kept (hoth7.apart (Or.inr (Or.inl rfl)) HR7.out.2)⟩
              clear hbuf7 hfirm7 hlist7 hbase7
              go_wp2_with fail
              refine HTK.out.mono ?_
              rintro r w8 ⟨S', hst8, hh8⟩
              have HS8 := Lib.hid (HST.out S' w8 hst8)
              clear hst8 HST HTK hoth7 y0 y1 y2 y3 y4 y5 y6 y7
              have HRY : Hid (∀ W, Below w8.heap.size w8 W → Calls Tryz.prog 13 #[.slice q es.length d, .slice p7 oh.length c7] W fun r w' => r = .returned (.int .i64 (readyI (es.map (·.e)) oh)) ∧ Below W.heap.size W w') := fun W hb => refreadyl_any es oh q d p7 c7 W (HS8.out.2.1.row.below hb) (fun x hx => ⟨((HS8.out.2.1.each x hx).1.below hb).deps, by have := (HFL.out x hx).2; omega, (HFL.out x hx).1.deps⟩) (HS8.out.2.2.below hb) (by omega) (by omega) HKO1.out.fits HKO1.out.right
              rcases hh8 with ⟨i, hi, ⟨e, zs, pt, ct, qt, dt, he, rfl, hint, hsm, hzl⟩, hbuf8⟩ | ⟨hno, ⟨e, pt, ct, qt, dt, he1, he2, rfl⟩, hbuf8⟩
              · obtain ⟨hil, -⟩ := readyM_some hi
                rw [List.length_map] at hil
                have hex : (es.getD i x0E).e = e := by
                  rw [List.getElem?_map, List.getElem?_eq_getElem hil] at he
                  rw [List.getD_eq_getElem?_getD, List.getElem?_eq_getElem hil]
                  exact Option.some.inj he
                have hri : readyI (es.map (·.e)) oh = (i : Int) := by unfold readyI; rw [hi]
                rw [hri] at HRY
                have hge : (0 : Int) ≤ (i : Int) := by omega
                have hged : decide ((0 : Int) ≤ (i : Int)) = true := decide_eq_true hge
                have hilz : (i : Int) < (es.length : Int) := by omega
                have HSE : Hid (∀ W, Below w8.heap.size w8 W → Calls Tryz.prog 14 #[ev e pt ct qt dt, ev (es.getD i x0E).e (es.getD i x0E).p (es.getD i x0E).c (es.getD i x0E).q (es.getD i x0E).d] W fun r w' => r = .returned (.bool true) ∧ Below W.heap.size W w') := fun W hb => by
                  obtain ⟨hr2, hk2⟩ := HS8.out.2.1.each _ (getD_mem x0E hil)
                  have hdl := (HFL.out _ (getD_mem x0E hil)).2
                  have hol : e.txn.ops.length ≤ 40 := by rw [hint.txn.ops, List.length_map]; exact hzl
                  rw [hex] at hdl
                  refine (ssame_any e (es.getD i x0E).e zs (es.getD i x0E).ys pt qt _ _ ct dt _ _ W (hint.row.below hb) (hr2.deps.below hb) (hint.txn.rows.below hb) (hr2.txn.below hb) (by omega) (by omega) (by rw [hex]; omega) (fun y hy => by have := (hsm y hy).2; omega) (fun y hy => ?_)).mono ?_
                  · have hmm : y.1 ∈ e.txn.ops := by rw [← hex, hr2.txn.ops]; exact List.mem_map.2 ⟨y, hy, rfl⟩
                    rw [hint.txn.ops] at hmm
                    obtain ⟨z, hz, ez⟩ := List.mem_map.1 hmm
                    rw [← ez]; have := (hsm z hz).2; omega
                  · rintro r w' ⟨v, e1, h1, h2⟩
                    exact ⟨by rw [e1, h1.2 hex.symm], h2⟩
                have HWO : Hid (∀ W, Below w8.heap.size w8 W → Calls Tryz.prog 15 #[.slice q es.length d, .int .i64 (i : Int)] W (GaveE (withoutX es i) W)) := fun W hb => refwithout_any es i q d W (HS8.out.2.1.row.below hb) (by omega) hil
                have hwm := withoutX_map es i
                have HWX : Hid (withoutM (es.map (·.e)) i = (withoutX es i).map (·.e) ∧ (withoutX es i).length ≤ 64 ∧ FairL (withoutX es i) ∧ ∀ y ∈ withoutX es i, y ∈ es) := by
                  have hsub : ∀ y ∈ withoutX es i, y ∈ es := fun y hy => by
                    unfold withoutX at hy
                    rcases List.mem_append.1 hy with hy | hy
                    · exact List.mem_of_mem_take hy
                    · exact List.mem_of_mem_drop hy
                  refine ⟨by rw [hwm]; rfl, ?_, HFL.out.sub hsub, hsub⟩
                  unfold withoutX
                  simp only [List.length_append, List.length_take, List.length_drop]
                  omega
                have HBF8 := Lib.hid hbuf8
                generalize withoutX es i = ZX at HWO HWX
                unfold ev at HSE ⊢
                clear hwm hbuf8 hint hsm hzl hex hri hi he HNB
                have HB9 : Hid (Below w8.heap.size w8 (w8.alloc (.cells #[.slice pt e.deps.length ct, .int .u16 e.txn.r, .int .u32 e.txn.seq, .int .u64 e.txn.clock, .int .i64 e.txn.user, .slice qt e.txn.ops.length dt] 38))) := below_alloc (Below.refl _ _) _
                have HT9 := Lib.hid (heap_alloc_new w8 (.cells #[.slice pt e.deps.length ct, .int .u16 e.txn.r, .int .u32 e.txn.seq, .int .u64 e.txn.clock, .int .i64 e.txn.user, .slice qt e.txn.ops.length dt] 38))
                go_wp2_with fail
                generalize (w8.alloc (.cells #[.slice pt e.deps.length ct, .int .u16 e.txn.r, .int .u32 e.txn.seq, .int .u64 e.txn.clock, .int .i64 e.txn.user, .slice qt e.txn.ops.length dt] 38)) = w9 at HB9 HT9 ⊢
                refine (HRY.out w9 HB9.out).mono ?_
                rintro r w10 ⟨rfl, hb10⟩
                have HB10 := Lib.hid (below_step HB9.out hb10)
                obtain ⟨z0', z1', z2', z3', z4', z5'⟩ := six_cells (kept_box HT9.out hb10)
                obtain ⟨o1, o2, eq0, u0', u1', u2', u3', u4', u5'⟩ := erow_at (HS8.out.2.1.row.below HB10.out) hil
                have z0 := cell_regrown z0'
                have z1 := cell_regrown z1'
                have z2 := cell_regrown z2'
                have z3 := cell_regrown z3'
                have z4 := cell_regrown z4'
                have z5 := cell_regrown z5'
                generalize (es.getD i x0E).p = xp at u0' HSE
                generalize (es.getD i x0E).e.deps.length = xdl at u0' HSE
                generalize (es.getD i x0E).c = xc at u0' HSE
                generalize (es.getD i x0E).e.txn.r = xr at u1' HSE
                generalize (es.getD i x0E).e.txn.seq = xs' at u2' HSE
                generalize (es.getD i x0E).e.txn.clock = xk at u3' HSE
                generalize (es.getD i x0E).e.txn.user = xu at u4' HSE
                generalize (es.getD i x0E).q = xq at u5' HSE
                generalize (es.getD i x0E).e.txn.ops.length = xo at u5' HSE
                generalize (es.getD i x0E).d = xd at u5' HSE
                have u0 := cell_regrown u0'
                have u1 := cell_regrown u1'
                have u2 := cell_regrown u2'
                have u3 := cell_regrown u3'
                have u4 := cell_regrown u4'
                have u5 := cell_regrown u5'
                have HS10 : Hid (∀ W, Below w10.heap.size w10 W → Calls Tryz.prog 14 #[.agg #[.slice pt e.deps.length ct, .int .u16 e.txn.r, .int .u32 e.txn.seq, .int .u64 e.txn.clock, .int .i64 e.txn.user, .slice qt e.txn.ops.length dt], .agg #[.slice xp xdl xc, .int .u16 xr, .int .u32 xs', .int .u64 xk, .int .i64 xu, .slice xq xo xd]] W fun r w' => r = .returned (.bool true) ∧ Below W.heap.size W w') := fun W hb => HSE.out W (below_step HB10.out hb)
                subst eq0
                clear hb10 HT9 HB9 HRY HSE z0' z1' z2' z3' z4' z5' u0' u1' u2' u3' u4' u5'
                go_wp2_with fail
                refine wp_region_quiet_below (by kernel_rfl) (by kernel_rfl) ?_
                repeat (first | go_big_quiet_step ((go_at_call 14; exact Calls.regrown_of (HS10.out _ (below_regrown _ _ _)))) | quiet_step ((go_at_call 14; exact Calls.regrown_of (HS10.out _ (below_regrown _ _ _)))))
                refine wpQuiet_nil ?_
                intro w11 hw'
                have hb11 : Below w10.heap.size w10 w11 := by obtain ⟨⟨dq, osq⟩, rfl⟩ := hw'; exact below_regrown _ _ _
                have HB11 := Lib.hid (below_step HB10.out hb11)
                clear hw' hb11 HS10 z0 z1 z2 z3 z4 z5 u0 u1 u2 u3 u4 u5
                have HW11 := Lib.hid (HWO.out w11 HB11.out)
                go_wp2_with fail
                refine HW11.out.mono ?_
                rintro r w12 ⟨p12, c12, rfl, hr12, hk12, hb12⟩
                have HSC : Hid (Buf S' K (ZX.map (·.e)) w12 ∧ Firm S' w12 (fun W2 => Below w.heap.size w W2) ∧ ListE w12 p12 ZX) := ⟨by rw [← HWX.out.1]; exact HS.below _ _ _ _ _ HBF8.out (below_step HB11.out hb12), HS8.out.1.below (below_step HB11.out hb12), (HS8.out.2.1.below (below_step HB11.out hb12)).sub hr12 hk12 (fun y hy => Or.inl (HWX.out.2.2.2 y hy))⟩
                clear hr12 hk12 hb12 HW11 HWO
                have HTL := Lib.hid (HIS.out S' ZX p12 c12 w12 HSC.out.1 HSC.out.2.2 HWX.out.2.1 HWX.out.2.2.1 (Firm.now HSC.out.2.1))
                have HTS : Hid (∀ W, Below w12.heap.size w12 W → HdP Buf w K ZX p12 W) := fun W hb => HdP.below HS ⟨S', HSC.out.1, HSC.out.2.1, HSC.out.2.2⟩ hb
                have HTN : Hid ((ZX).length ≤ 64 ∧ FairL ZX) := ⟨HWX.out.2.1, HWX.out.2.2.1⟩
                go_wp2_with fail
                refine HTL.out.mono ?_
                rintro r w13 ⟨rfl, hb13⟩
                have HTF := Lib.hid (HTS.out w13 hb13)
                clear hb13 HTL HTS
                go_wp2
                go_roundg (xs.length - (k + 1))
                case measure => omega
                case rel => exact ⟨k + 1, ZX, p12, c12, by omega, Nat.le_refl _, by go_num, rfl, HTN.out.1, HTN.out.2, HTF.out⟩
              · have hri : readyI (es.map (·.e)) oh = -1 := by unfold readyI; rw [hno]
                rw [hri] at HRY
                have hge : ¬ (0 : Int) ≤ -1 := by omega
                have HBF8 := Lib.hid hbuf8
                unfold ev
                rw [he1, he2]
                simp only [List.length_nil]
                clear hbuf8 hri hno he1 he2 HNB
                generalize e.txn.r = er
                generalize e.txn.seq = eq
                generalize e.txn.clock = ek
                generalize e.txn.user = eu
                have HB9 : Hid (Below w8.heap.size w8 (w8.alloc (.cells #[.slice pt 0 ct, .int .u16 er, .int .u32 eq, .int .u64 ek, .int .i64 eu, .slice qt 0 dt] 38))) := below_alloc (Below.refl _ _) _
                have HT9 := Lib.hid (heap_alloc_new w8 (.cells #[.slice pt 0 ct, .int .u16 er, .int .u32 eq, .int .u64 ek, .int .i64 eu, .slice qt 0 dt] 38))
                go_wp2_with fail
                generalize (w8.alloc (.cells #[.slice pt 0 ct, .int .u16 er, .int .u32 eq, .int .u64 ek, .int .i64 eu, .slice qt 0 dt] 38)) = w9 at HB9 HT9 ⊢
                refine (HRY.out w9 HB9.out).mono ?_
                rintro r w10 ⟨rfl, hb10⟩
                have HB10 := Lib.hid (below_step HB9.out hb10)
                obtain ⟨z0', z1', z2', z3', z4', z5'⟩ := six_cells (kept_box HT9.out hb10)
                have z0 := cell_regrown z0'
                have z1 := cell_regrown z1'
                have z2 := cell_regrown z2'
                have z3 := cell_regrown z3'
                have z4 := cell_regrown z4'
                have z5 := cell_regrown z5'
                clear hb10 HT9 HB9 HRY z0' z1' z2' z3' z4' z5'
                go_wp2_with fail
                refine wp_region_quiet_below (by kernel_rfl) (by kernel_rfl) ?_
                repeat (first | go_big_quiet_step (fail) | quiet_step (fail))
                refine wpQuiet_nil ?_
                intro w11 hw'
                have hb11 : Below w10.heap.size w10 w11 := by obtain ⟨⟨dq, osq⟩, rfl⟩ := hw'; exact below_regrown _ _ _
                have HB11 := Lib.hid (below_step HB10.out hb11)
                clear hw' hb11 z0 z1 z2 z3 z4 z5
                have HSC : Hid (Buf S' K (es.map (·.e)) w11 ∧ Firm S' w11 (fun W2 => Below w.heap.size w W2) ∧ ListE w11 q es) := ⟨HS.below _ _ _ _ _ HBF8.out HB11.out, HS8.out.1.below HB11.out, HS8.out.2.1.below HB11.out⟩
                have HTL := Lib.hid (HIS.out S' es q d w11 HSC.out.1 HSC.out.2.2 hel HFL.out (Firm.now HSC.out.2.1))
                have HTS : Hid (∀ W, Below w11.heap.size w11 W → HdP Buf w K es q W) := fun W hb => HdP.below HS ⟨S', HSC.out.1, HSC.out.2.1, HSC.out.2.2⟩ hb
                have HTN : Hid ((es).length ≤ 64 ∧ FairL es) := ⟨hel, HFL.out⟩
                go_wp2_with fail
                refine HTL.out.mono ?_
                rintro r w12 ⟨rfl, hb12⟩
                have HTF := Lib.hid (HTS.out w12 hb12)
                clear hb12 HTL HTS
                go_wp2
                go_roundg (xs.length - (k + 1))
                case measure => omega
                case rel => exact ⟨k + 1, es, q, d, by omega, Nat.le_refl _, by go_num, rfl, HTN.out.1, HTN.out.2, HTF.out⟩
            · have hk2e : (kd == 2) = false := beq_no hk2
              have hk2i : ¬ kd = 2 := hk2
              by_cases hk3 : kd = 3
              · subst hk3
                have HDR := Lib.hid (refdrop_any es oh q d p7 c7 w7 hlist7.row HR7.out.1 (by omega) (by omega))
                have hdm := dropX_map es oh
                have hdl : (dropX es oh).length ≤ es.length := List.length_filter_le _ _
                have HDX : Hid (dropM (es.map (·.e)) oh = (dropX es oh).map (·.e) ∧ (dropX es oh).length ≤ 64 ∧ FairL (dropX es oh) ∧ ∀ y ∈ dropX es oh, y ∈ es) := by
                  have hsub : ∀ y ∈ dropX es oh, y ∈ es := fun y hy => (List.mem_filter.1 hy).1
                  exact ⟨hdm.symm, by omega, HFL.out.sub hsub, hsub⟩
                have HDP : Hid (∀ W, Below w7.heap.size w7 W → Calls Tryz.prog 17 #[.pointer (some ⟨K, 0, none⟩), .slice os oh.length of] W fun r w' => r = .returned (.int .i64 ((es.length : Int) - ((dropX es oh).length : Int))) ∧ ∃ S', Buf S' K (dropM (es.map (·.e)) oh) w' ∧ Step S S' W w') := fun W hb => by
                  have := HS.drop S K _ W oh os of (HS.below _ _ _ _ _ HL7.out.1 hb) ((HL7.out.2.1.below hb).mono fun W2 hb2 => HOR.out.below hb2) HKO1.out
                  rw [← hdm, List.length_map, List.length_map] at this
                  rw [← hdm]
                  exact this
                clear hbuf7 hfirm7 hlist7 hbase7 hdm HNB
                generalize dropX es oh = ZX at HDR hdl HDX HDP
                go_wp2_with fail
                refine HDR.out.mono ?_
                rintro r w8 ⟨p8, c8, rfl, hr8, hk8, hb8⟩
                have HB8 := Lib.hid hb8
                have HN8 : Hid (GRow layE w8 p8 ZX ∧ KindAt 48 w8 p8) := ⟨hr8, hk8⟩
                have HZ8 := Lib.hid (kept_box HZ7.out hb8)
                clear hr8 hk8 hb8 HDR y0 y1 y2 y3 y4 y5 y6 y7
                obtain ⟨y0, y1, y2, y3, y4, y5, y6, y7⟩ := eight_cells HZ8.out
                have hsub1 : IntKind.i64.wrap ((es.length : Int) - (ZX.length : Int)) = (es.length : Int) - (ZX.length : Int) := by rw [IntKind.wrap_i64]; omega
                have hoth8 : Others S w8 := HS.others _ _ _ _ (HS.below _ _ _ _ _ HL7.out.1 HB8.out)
                have HD8 := Lib.hid (HDP.out w8 HB8.out)
                go_wp2_with fail
                refine HD8.out.mono ?_
                rintro r w9 ⟨rfl, S', hbuf9, hst9⟩
                have HSC : Hid (Buf S' K (ZX.map (·.e)) w9 ∧ Firm S' w9 (fun W2 => Below w.heap.size w W2) ∧ ListE w9 p8 ZX) := ⟨by rw [← HDX.out.1]; exact hbuf9, (HL7.out.2.1.below HB8.out).step hst9, ((HL7.out.2.2.below HB8.out).sub HN8.out.1 HN8.out.2 (fun y hy => Or.inl (HDX.out.2.2.2 y hy))).kept hoth8 hst9.kept⟩
                clear hbuf9 hst9 hoth8 HD8 HDP y0 y1 y2 y3 y4 y5 y6 y7
                have HTL := Lib.hid (HIS.out S' ZX p8 c8 w9 HSC.out.1 HSC.out.2.2 HDX.out.2.1 HDX.out.2.2.1 (Firm.now HSC.out.2.1))
                have HTS : Hid (∀ W, Below w9.heap.size w9 W → HdP Buf w K ZX p8 W) := fun W hb => HdP.below HS ⟨S', HSC.out.1, HSC.out.2.1, HSC.out.2.2⟩ hb
                have HTN : Hid ((ZX).length ≤ 64 ∧ FairL ZX) := ⟨HDX.out.2.1, HDX.out.2.2.1⟩
                go_wp2_with fail
                refine HTL.out.mono ?_
                rintro r w10 ⟨rfl, hb10⟩
                have HTF := Lib.hid (HTS.out w10 hb10)
                clear hb10 HTL HTS
                go_wp2
                go_roundg (xs.length - (k + 1))
                case measure => omega
                case rel => exact ⟨k + 1, ZX, p8, c8, by omega, Nat.le_refl _, by go_num, rfl, HTN.out.1, HTN.out.2, HTF.out⟩
              · have hk3e : (kd == 3) = false := beq_no hk3
                have hk3i : ¬ kd = 3 := hk3
                clear hbuf7 hfirm7 hlist7 hbase7 hoth7 HNB
                have HTL := Lib.hid (HIS.out S es q d w7 HL7.out.1 HL7.out.2.2 hel HFL.out (Firm.now HL7.out.2.1))
                have HTS : Hid (∀ W, Below w7.heap.size w7 W → HdP Buf w K es q W) := fun W hb => HdP.below HS ⟨S, HL7.out.1, HL7.out.2.1, HL7.out.2.2⟩ hb
                have HTN : Hid ((es).length ≤ 64 ∧ FairL es) := ⟨hel, HFL.out⟩
                go_wp2_with fail
                refine HTL.out.mono ?_
                rintro r w8 ⟨rfl, hb8⟩
                have HTF := Lib.hid (HTS.out w8 hb8)
                clear hb8 HTL HTS
                go_wp2
                go_roundg (xs.length - (k + 1))
                case measure => omega
                case rel => exact ⟨k + 1, es, q, d, by omega, Nat.le_refl _, by go_num, rfl, HTN.out.1, HTN.out.2, HTF.out⟩
      · have : k = xs.length := by omega
        subst this
        have hkl : ¬ (xs.length : Int) < (xs.length : Int) := by omega
        have HBE := Lib.hid HHD.out.base
        go_wp2
        go_ret
        exact ⟨rfl, HBE.out⟩
end Go.Proofs.YtjkdcpalgfakhaaGreat
/-
  Transactions that come in, and how much they hold. No conditions beyond what each theorem states.
-/
namespace Go.Proofs.YtjkdcpalgfakhaaGreat
open Go.ChangeShapes Go.WideShapes Go.ChangeAt Go.RowKit Go.Lib
set_option linter.unusedVariables false
set_option linter.unusedSimpArgs false
set_option maxRecDepth 100000

theorem bytesSp9 : Tryz.prog.bytesOf 119 = 16 := by kernel_rfl
theorem bytesO9 : Tryz.prog.bytesOf 99 = 72 := by kernel_rfl
theorem weights_all_mem {H : Type} {P : Program} {e : TypeId} {d : DataW H} : ∀ {ds : List (DataW H)}, d ∈ ds → ∀ n ∈ d.weights P e, n ∈ DataW.weightsAll P e ds
  | d0 :: ds, h, n, hn => by
    simp only [DataW.weightsAll, List.mem_append]
    rcases List.mem_cons.1 h with rfl | h
    · exact Or.inl hn
    · exact Or.inr (weights_all_mem h n hn)
theorem lay_cells_w {α : Type} [Inhabited α] (R : Nat) (L : Lay α) (Fit : α → Prop) (hpos : 0 < L.k) {H : Type} {enc : TypeId × Value → H} {W : World} {fuel : Nat} {t e : TypeId} {cs : List Value} {x : DataW H × List MemPlace} (hu : Tryz.prog.underlying t = some (.slice e)) (hk : Tryz.prog.cellsOf e = L.k)
    (dec : ∀ n cs' x, DataW.trod enc Tryz.prog W 0 (fun _ => true) true n e cs' = some x → cs'.length = L.k → (∀ m ∈ x.1.weights Tryz.prog e, m ≤ R) → ∃ a, cs' = L.enc a ∧ Fit a)
    (hf : DataW.trod enc Tryz.prog W 0 (fun _ => true) true fuel t cs = some x) (hw : ∀ m ∈ x.1.weights Tryz.prog t, m ≤ R) :
    ∃ l p c, cs = [.slice p l.length c] ∧ GRow L W p l ∧ (∀ x ∈ l, Fit x) ∧ l.length ≤ c ∧ (p = none → c = 0) ∧ l.length ≤ 9223372036854775807 ∧ l.length * Tryz.prog.bytesOf e ≤ R := by
  rcases Go.Deep.open_slice hu hf with ⟨hcs, -⟩ | ⟨a, len, cap, m, n, D, Pl, hcs, -, hl, hm, hmm, hx, hc⟩
  · exact ⟨[], none, 0, hcs, GRow.nil _ _ _, (by intro x hx; simp at hx), by simp, fun _ => rfl, by simp, by simp⟩
  · subst hcs
    subst hx
    simp only [DataW.weights, hu] at hw
    have hlm : len ≤ m := by rw [hmm]; split <;> omega
    have each : ∀ i, i < len → ∃ x : α, (∀ j u, (L.enc x)[j]? = some u → W.cell? (a.add (i * L.k + j)) = some u) ∧ Fit x := fun i hi => by
      obtain ⟨cs', h1, h2⟩ := hc i (by omega)
      rw [hk] at h1
      obtain ⟨_, hlen, hcell⟩ := World.cells?_some h1
      obtain ⟨x, rfl, hfx⟩ := dec _ _ _ h2 hlen (fun m hm => hw m (List.mem_cons_of_mem _ (List.mem_append_left _ (weights_all_mem (List.mem_map.2 ⟨i, List.mem_range.2 hi, rfl⟩) m hm))))
      refine ⟨x, fun j u hj => ?_, hfx⟩
      have hjk : j < L.k := by have := (List.getElem?_eq_some_iff.1 hj).1; rwa [L.len] at this
      have := hcell j hjk
      rw [Go.Deep.add_add] at this
      rw [this]; exact hj
    obtain ⟨q, hq⟩ := Go.Deep.choose_lt each
    refine ⟨(List.range len).map q, some a, cap, by simp, ?_, ?_, by simpa using hl, (by intro h; cases h), (by simp; unfold maxLen at hm; omega), ?_⟩
    · intro m' u hm'
      have hlt : m' < len * L.k := by
        have := (List.getElem?_eq_some_iff.1 hm').1
        rw [L.flat_length] at this
        simpa using this
      have hi : m' / L.k < len := Nat.div_lt_of_lt_mul (by rw [Nat.mul_comm]; exact hlt)
      have hj : m' % L.k < L.k := Nat.mod_lt _ hpos
      have hmm : m' = (m' / L.k) * L.k + m' % L.k := by rw [Nat.mul_comm]; exact (Nat.div_add_mod m' L.k).symm
      have hfl := L.flat_at (q 0) ((List.range len).map q) (m' / L.k) (m' % L.k) (by simpa using hi) hj
      rw [← hmm, hm'] at hfl
      have hgd : ((List.range len).map q).getD (m' / L.k) (q 0) = q (m' / L.k) := by simp [hi]
      rw [hgd] at hfl
      have hcell := (hq _ hi).1 _ _ hfl.symm
      rw [← hmm] at hcell
      obtain ⟨b, o, s⟩ := a
      have h00 := (hq 0 (Nat.lt_of_le_of_lt (Nat.zero_le _) hi)).1 0 _ (List.getElem?_eq_getElem (by rw [L.len]; exact hpos))
      have hs : s = none := by simpa [Addr.add] using World.cell?_spot h00
      subst hs
      rw [Addr.add_lit] at hcell
      exact ⟨b, o, rfl, hcell⟩
    · intro x hx
      simp only [List.mem_map, List.mem_range] at hx
      obtain ⟨i, hi, rfl⟩ := hx
      exact (hq i hi).2
    · have := hw _ (List.mem_cons_self ..)
      simp only [List.length_map, List.length_range] at this ⊢
      exact Nat.le_trans (Nat.mul_le_mul_right _ (by omega)) this
/-- One operation's cells, read, and how much they hold. -/
theorem op_dec_w (R : Nat) {H : Type} {enc : TypeId × Value → H} {W : World} (n : Nat) (cs' : List Value) (x : DataW H × List MemPlace) (h : DataW.trod enc Tryz.prog W 0 (fun _ => true) true n 99 cs' = some x) (hl : cs'.length = 7) (hw : ∀ m ∈ x.1.weights Tryz.prog 99, m ≤ R) : ∃ a : OV, cs' = layO.enc a ∧ InO a.1 a.2.1 a.2.2 W ∧ a.1.text.length ≤ 9223372036854775807 ∧ a.1.spans.length ≤ 9223372036854775807 ∧ a.1.spans.length * 16 ≤ R := by
  obtain ⟨xs, n, -, hx, -, hlen, hfs⟩ := DataW.trod_struct Tryz.underlying99 h
  subst hx
  obtain ⟨z0, z1, z2, z3, z4, z5, rfl⟩ := list6 (by simpa using hlen)
  match cs', hl with
  | [c0, c1, c2, c3, c4, c5, c6], _ =>
    have hw4 : ∀ m ∈ z4.1.weights Tryz.prog 97, m ≤ R := fun m hm => hw m (by
      simp only [DataW.weights, Tryz.underlying99]
      exact DataW.weights_mem_each (j := 4) rfl rfl m hm)
    have h0 := hfs 0 _ rfl
    have h1 := hfs 1 _ rfl
    have h2 := hfs 2 _ rfl
    have h3 := hfs 3 _ rfl
    have h4 := hfs 4 _ rfl
    have h5 := hfs 5 _ rfl
    simp [cellsInt, cellsII, cellsN, cellsSt, cellsSl] at h0 h1 h2 h3 h4 h5
    obtain ⟨k, e0, -, w0⟩ := DataW.trod_int Tryz.underlying3 h0
    obtain ⟨a, e1, fa⟩ := id_dec _ _ _ h1 rfl
    obtain ⟨m, e2, -, w2⟩ := DataW.trod_int Tryz.underlying32 h2
    obtain ⟨s, e3, -, hs⟩ := DataW.trod_string Tryz.underlying9 h3
    obtain ⟨l, p, c, e4, hG, hF, hc, hp, hll, hb⟩ := lay_cells_w R layS FitS layS_pos Tryz.underlying97 cellsSp (fun n cs' x h hl _ => span_dec n cs' x h hl) h4 hw4
    obtain ⟨q, e5, -, w5⟩ := DataW.trod_int Tryz.underlying32 h5
    simp at e0 e1 e2 e3 e4 e5
    obtain ⟨rfl, rfl⟩ := e1
    subst e0 e2 e3 e4 e5
    have b0 := bounds_i64 w0
    have b2 := bounds_u32 w2
    have b5 := bounds_u32 w5
    unfold FitN at fa
    obtain ⟨sd⟩ := s
    obtain ⟨sl⟩ := sd
    refine ⟨(⟨k, a.1, a.2, m, sl, l, q⟩, p, c), rfl, ⟨⟨b0.1, by have := b0.2; simp only; omega, fa.1, fa.2.1, fa.2.2.1, fa.2.2.2, b2.1, by have := b2.2; simp only; omega, hF, b5.1, by have := b5.2; simp only; omega⟩, hG, hc, hp⟩, ?_, hll, by rw [bytesSp9] at hb; exact hb⟩
    unfold maxLen at hs
    have : (⟨⟨sl⟩⟩ : ByteArray).size = sl.length := rfl
    simp only
    omega
/-- A transaction that comes in, and how much it holds. -/
theorem txn_sized {H : Type} {enc : TypeId × Value → H} {W : World} {r : Reach} {base : Nat} {v : Value} {d : DataW H} {ps : List MemPlace} (hv : Value.okWide Tryz.prog W r base 36 v) (h : DataW.Trod enc Tryz.prog W 0 (fun _ => true) true 36 v d ps) (RB : Nat) (hw : ∀ m ∈ d.weights Tryz.prog 36, m ≤ RB) :
    ∃ t xs p c, v = tv t p c ∧ InT t xs p c W ∧ t.ops.length ≤ 9223372036854775807 ∧ t.ops.length * 72 ≤ RB ∧ ∀ x ∈ xs, x.1.text.length ≤ 9223372036854775807 ∧ x.1.spans.length ≤ 9223372036854775807 ∧ x.1.spans.length * 16 ≤ RB := by
  obtain ⟨cs, rfl, hsz⟩ := okWide_struct Tryz.underlying36 hv
  obtain ⟨c0, c1, c2, c3, c4, rfl⟩ := array5 (hsz.trans cells9)
  obtain ⟨fuel, hf⟩ := h
  obtain ⟨xs, n, -, hx, -, hlen, hfs⟩ := DataW.trod_struct Tryz.underlying36 hf
  obtain ⟨rfl, -⟩ := Prod.mk.inj hx
  obtain ⟨z0, z1, z2, z3, z4, rfl⟩ := list5 (by simpa using hlen)
  have hw4 : ∀ m ∈ z4.1.weights Tryz.prog 34, m ≤ RB := fun m hm => hw m (by
    simp only [DataW.weights, Tryz.underlying36]
    exact DataW.weights_mem_each (j := 4) rfl rfl m hm)
  have h0 := hfs 0 _ rfl
  have h1 := hfs 1 _ rfl
  have h2 := hfs 2 _ rfl
  have h3 := hfs 3 _ rfl
  have h4 := hfs 4 _ rfl
  simp [Value.cells, cellsInt, cellsR, cellsN, cellsC, cellsOs] at h0 h1 h2 h3 h4
  obtain ⟨R, e0, -, w0⟩ := DataW.trod_int Tryz.underlying31 h0
  obtain ⟨S, e1, -, w1⟩ := DataW.trod_int Tryz.underlying32 h1
  obtain ⟨C, e2, -, w2⟩ := DataW.trod_int Tryz.underlying33 h2
  obtain ⟨U, e3, -, w3⟩ := DataW.trod_int Tryz.underlying3 h3
  obtain ⟨l, p, c, e4, hG, hF, hc, hp, hll, hb⟩ := @lay_cells_w OV ⟨ov0⟩ RB layO (fun a => InO a.1 a.2.1 a.2.2 W ∧ a.1.text.length ≤ 9223372036854775807 ∧ a.1.spans.length ≤ 9223372036854775807 ∧ a.1.spans.length * 16 ≤ RB) layO_pos H enc W _ _ _ _ _ Tryz.underlying34 cells8 (fun n cs' x h hl hw => op_dec_w RB n cs' x h hl hw) h4 hw4
  simp at e0 e1 e2 e3 e4
  subst e0 e1 e2 e3 e4
  have b0 := bounds_u16 w0
  have b1 := bounds_u32 w1
  have b2 := bounds_u64 w2
  have b3 := bounds_i64 w3
  refine ⟨⟨R, S, C, U, l.map (·.1)⟩, l, p, c, by unfold tv; simp, ⟨⟨b0.1, by have := b0.2; simp only; omega, b1.1, by have := b1.2; simp only; omega, b2.1, by have := b2.2; simp only; omega, b3.1, by have := b3.2; simp only; omega, ?_⟩, rfl, ⟨hG, fun x hx => (hF x hx).1⟩, by simpa using hc, hp⟩, by simpa using hll, by rw [bytesO9] at hb; simpa using hb, fun x hx => (hF x hx).2⟩
  intro o ho
  obtain ⟨x, hx, rfl⟩ := List.mem_map.1 ho
  exact (hF x hx).1.fit
end Go.Proofs.YtjkdcpalgfakhaaGreat
/-
  Envelopes and vectors that come in, and how much they hold. No conditions beyond what each theorem states.
-/
namespace Go.Proofs.YtjkdcpalgfakhaaGreat
open Go.ChangeShapes Go.WideShapes Go.ChangeAt Go.RowKit Go.Lib
set_option linter.unusedVariables false
set_option linter.unusedSimpArgs false
set_option maxRecDepth 100000

theorem cellsW : Tryz.prog.cellsOf 38 = 6 := by kernel_rfl
theorem cellsVe : Tryz.prog.cellsOf 24 = 1 := by kernel_rfl
theorem cellsEn : Tryz.prog.cellsOf 74 = 2 := by kernel_rfl
theorem bytesEn : Tryz.prog.bytesOf 74 = 8 := by kernel_rfl
def FitV (x : Vec.En) : Prop := 0 ≤ x.1 ∧ x.1 ≤ 65535 ∧ 0 ≤ x.2 ∧ x.2 ≤ 4294967295
theorem entry_dec {H : Type} {enc : TypeId × Value → H} {W : World} {sp : Nat → Bool} (n : Nat) (cs' : List Value) (x : DataW H × List MemPlace) (h : DataW.trod enc Tryz.prog W 0 sp true n 74 cs' = some x) (hl : cs'.length = 2) : ∃ a : Vec.En, cs' = layV.enc a ∧ FitV a := by
  obtain ⟨y0, y1, m, -, -, h0, h1⟩ := trod_struct2 Tryz.underlying74 h
  match cs', hl with
  | [v0, v1], _ =>
    simp [cellsR, cellsN] at h0 h1
    obtain ⟨a, e0, -, wa⟩ := DataW.trod_int Tryz.underlying31 h0
    obtain ⟨b, e1, -, wb⟩ := DataW.trod_int Tryz.underlying32 h1
    simp at e0 e1
    have b0 := bounds_u16 wa
    have b1 := bounds_u32 wb
    exact ⟨(a, b), by rw [e0, e1]; rfl, b0.1, by have := b0.2; simp only; omega, b1.1, by have := b1.2; simp only; omega⟩
/-- One transaction's cells, read, and how much they hold. -/
theorem txn_dec_w (RB : Nat) {H : Type} {enc : TypeId × Value → H} {W : World} (n : Nat) (cs' : List Value) (x : DataW H × List MemPlace) (hf : DataW.trod enc Tryz.prog W 0 (fun _ => true) true n 36 cs' = some x) (hl : cs'.length = 5) (hw : ∀ m ∈ x.1.weights Tryz.prog 36, m ≤ RB) :
    ∃ t xs p c, cs' = [.int .u16 t.r, .int .u32 t.seq, .int .u64 t.clock, .int .i64 t.user, .slice p t.ops.length c] ∧ InT t xs p c W ∧ t.ops.length ≤ 9223372036854775807 ∧ t.ops.length * 72 ≤ RB ∧ ∀ x ∈ xs, x.1.text.length ≤ 9223372036854775807 ∧ x.1.spans.length ≤ 9223372036854775807 ∧ x.1.spans.length * 16 ≤ RB := by
  match cs', hl with
  | [c0, c1, c2, c3, c4], _ =>
    obtain ⟨xs, n, -, hx, -, hlen, hfs⟩ := DataW.trod_struct Tryz.underlying36 hf
    subst hx
    obtain ⟨z0, z1, z2, z3, z4, rfl⟩ := list5 (by simpa using hlen)
    have hw4 : ∀ m ∈ z4.1.weights Tryz.prog 34, m ≤ RB := fun m hm => hw m (by
      simp only [DataW.weights, Tryz.underlying36]
      exact DataW.weights_mem_each (j := 4) rfl rfl m hm)
    have h0 := hfs 0 _ rfl
    have h1 := hfs 1 _ rfl
    have h2 := hfs 2 _ rfl
    have h3 := hfs 3 _ rfl
    have h4 := hfs 4 _ rfl
    simp [cellsInt, cellsR, cellsN, cellsC, cellsOs] at h0 h1 h2 h3 h4
    obtain ⟨R, e0, -, w0⟩ := DataW.trod_int Tryz.underlying31 h0
    obtain ⟨S, e1, -, w1⟩ := DataW.trod_int Tryz.underlying32 h1
    obtain ⟨C, e2, -, w2⟩ := DataW.trod_int Tryz.underlying33 h2
    obtain ⟨U, e3, -, w3⟩ := DataW.trod_int Tryz.underlying3 h3
    obtain ⟨l, p, c, e4, hG, hF, hc, hp, hll, hb⟩ := @lay_cells_w OV ⟨ov0⟩ RB layO (fun a => InO a.1 a.2.1 a.2.2 W ∧ a.1.text.length ≤ 9223372036854775807 ∧ a.1.spans.length ≤ 9223372036854775807 ∧ a.1.spans.length * 16 ≤ RB) layO_pos H enc W _ _ _ _ _ Tryz.underlying34 cells8 (fun n cs' x h hl hw => op_dec_w RB n cs' x h hl hw) h4 hw4
    simp at e0 e1 e2 e3 e4
    subst e0 e1 e2 e3 e4
    have b0 := bounds_u16 w0
    have b1 := bounds_u32 w1
    have b2 := bounds_u64 w2
    have b3 := bounds_i64 w3
    refine ⟨⟨R, S, C, U, l.map (·.1)⟩, l, p, c, by simp, ⟨⟨b0.1, by have := b0.2; simp only; omega, b1.1, by have := b1.2; simp only; omega, b2.1, by have := b2.2; simp only; omega, b3.1, by have := b3.2; simp only; omega, ?_⟩, rfl, ⟨hG, fun x hx => (hF x hx).1⟩, by simpa using hc, hp⟩, by simpa using hll, by rw [bytesO9] at hb; simpa using hb, fun x hx => (hF x hx).2⟩
    intro o ho
    obtain ⟨x, hx, rfl⟩ := List.mem_map.1 ho
    exact (hF x hx).1.fit
theorem array6 {cs : Array Value} (h : cs.size = 6) : ∃ a b c d e f, cs = #[a, b, c, d, e, f] := by
  obtain ⟨l⟩ := cs
  match l, h with
  | [a, b, c, d, e, f], _ => exact ⟨a, b, c, d, e, f, rfl⟩
theorem list2 {α : Type} {l : List α} (h : l.length = 2) : ∃ a b, l = [a, b] := by
  match l, h with
  | [a, b], _ => exact ⟨a, b, rfl⟩
/-- An envelope that comes in, and how much it holds. -/
theorem env_sized {H : Type} {enc : TypeId × Value → H} {W : World} {r : Reach} {base : Nat} {v : Value} {d : DataW H} {ps : List MemPlace} (hv : Value.okWide Tryz.prog W r base 38 v) (h : DataW.Trod enc Tryz.prog W 0 (fun _ => true) true 38 v d ps) (RB : Nat) (hw : ∀ m ∈ d.weights Tryz.prog 38, m ≤ RB) :
    ∃ e xs p q c k, v = ev e p c q k ∧ InE e xs p c q k W ∧ e.deps.length * 8 ≤ RB ∧ e.txn.ops.length ≤ 9223372036854775807 ∧ e.txn.ops.length * 72 ≤ RB ∧ ∀ x ∈ xs, x.1.text.length ≤ 9223372036854775807 ∧ x.1.spans.length ≤ 9223372036854775807 ∧ x.1.spans.length * 16 ≤ RB := by
  obtain ⟨cs, rfl, hsz⟩ := okWide_struct Tryz.underlying38 hv
  obtain ⟨c0, c1, c2, c3, c4, c5, rfl⟩ := array6 (hsz.trans cellsW)
  obtain ⟨fuel, hf⟩ := h
  obtain ⟨xs, n, -, hx, -, hlen, hfs⟩ := DataW.trod_struct Tryz.underlying38 hf
  obtain ⟨rfl, -⟩ := Prod.mk.inj hx
  obtain ⟨z0, z1, rfl⟩ := list2 (by simpa using hlen)
  have hw0 : ∀ m ∈ z0.1.weights Tryz.prog 24, m ≤ RB := fun m hm => hw m (by
    simp only [DataW.weights, Tryz.underlying38]
    exact DataW.weights_mem_each (j := 0) rfl rfl m hm)
  have hw1 : ∀ m ∈ z1.1.weights Tryz.prog 36, m ≤ RB := fun m hm => hw m (by
    simp only [DataW.weights, Tryz.underlying38]
    exact DataW.weights_mem_each (j := 1) rfl rfl m hm)
  have h0 := hfs 0 _ rfl
  have h1 := hfs 1 _ rfl
  simp [Value.cells, cellsVe, cells9] at h0 h1
  obtain ⟨l, p, c, e0, hG, hF, hc, hp, hll, hb⟩ := lay_cells_w RB layV FitV layV_pos Tryz.underlying24 cellsEn (fun n cs' x h hl _ => entry_dec n cs' x h hl) h0 hw0
  obtain ⟨t, us, q, k, e1, hI, b1, b2, b3⟩ := txn_dec_w RB _ _ _ h1 rfl hw1
  simp at e0 e1
  obtain ⟨rfl, rfl, rfl, rfl, rfl⟩ := e1
  subst e0
  rw [bytesEn] at hb
  exact ⟨⟨l, t⟩, us, p, q, c, k, rfl, ⟨vrow hG, fun x hx => hF x hx, hc, hp, hI⟩, hb, b1, b2, b3⟩
theorem env_again {H : Type} {enc : TypeId × Value → H} {W W' : World} {v : Value} {d : DataW H} {ps : List MemPlace} (h : DataW.Trod enc Tryz.prog W 0 (fun _ => true) true 38 v d ps) (hb : Below W.heap.size W W') (hlt : ∀ x ∈ ps, x.block < W.heap.size) :
    DataW.Trod enc Tryz.prog W' 0 (fun b => decide (b < W.heap.size)) true 38 v d ps :=
  Below.trod laidOut (by kernel_rfl) (of_decide_eq_true (by kernel_rfl)) h hb hlt
/-- A vector that comes in, and how much it holds. -/
theorem vec_sized {H : Type} {enc : TypeId × Value → H} {W : World} {r : Reach} {base : Nat} {v : Value} {d : DataW H} {ps : List MemPlace} (hv : Value.okWide Tryz.prog W r base 24 v) (h : DataW.Trod enc Tryz.prog W 0 (fun _ => true) true 24 v d ps) (RB : Nat) (hw : ∀ m ∈ d.weights Tryz.prog 24, m ≤ RB) :
    ∃ l p c, v = .slice p l.length c ∧ Vec.Row W p l ∧ Vec.Fits l ∧ l.length ≤ c ∧ (p = none → c = 0) ∧ l.length * 8 ≤ RB := by
  obtain ⟨a0, len, cap, rfl⟩ := okWide_slice Tryz.underlying24 hv
  obtain ⟨fuel, hf⟩ := h
  obtain ⟨l, p, c, e0, hG, hF, hc, hp, hll, hb⟩ := lay_cells_w RB layV FitV layV_pos Tryz.underlying24 cellsEn (fun n cs' x h hl _ => entry_dec n cs' x h hl) hf hw
  simp [Value.cells] at e0
  obtain ⟨rfl, rfl, rfl⟩ := e0
  rw [bytesEn] at hb
  exact ⟨l, _, _, rfl, vrow hG, fun x hx => hF x hx, hc, hp, hb⟩
theorem vec_again {H : Type} {enc : TypeId × Value → H} {W W' : World} {v : Value} {d : DataW H} {ps : List MemPlace} (h : DataW.Trod enc Tryz.prog W 0 (fun _ => true) true 24 v d ps) (hb : Below W.heap.size W W') (hlt : ∀ x ∈ ps, x.block < W.heap.size) :
    DataW.Trod enc Tryz.prog W' 0 (fun b => decide (b < W.heap.size)) true 24 v d ps :=
  Below.trod laidOut (by kernel_rfl) (of_decide_eq_true (by kernel_rfl)) h hb hlt
end Go.Proofs.YtjkdcpalgfakhaaGreat
