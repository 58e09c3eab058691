/-
  Several texts of one proof, joined: each part says at its head what it proves. No conditions beyond what each theorem states.
-/
import Derived.RegionTactic
import Derived.Test.YtceanfpcddcfoaaGreatZ12
import Derived.Test.YtceanfpcddcfoaaGreatZ14
import Derived.Test.YtceanfpcddcfoaaGreatZ06
import Derived.Test.YtceanfpcddcfoaaGreatZ05
/-
  What the document's Read of layer 10 hands back, of any bytes. No conditions beyond what each theorem states.
-/
namespace Go.Proofs.YtceanfpcddcfoaaGreat
open Go.ChangeShapes Go.WideShapes Go.ChangeAt Go.RowKit Go.Lib
set_option linter.unusedVariables false
set_option linter.unusedSimpArgs false

theorem brow_cut {W : World} {p : Option Addr} {bs : List UInt8} (h : BRow W p bs) (A : Nat) : BRow W p (bs.take A) := fun i hi => by
  rw [List.length_take] at hi
  obtain ⟨b, o, e, hc⟩ := h i (by omega)
  exact ⟨b, o, e, by rw [atB_take (by omega)]; exact hc⟩
theorem brow_tail {W : World} {a : Addr} {bs : List UInt8} (h : BRow W (some a) bs) (A : Nat) : BRow W (some (a.add A)) (bs.drop A) := fun i hi => by
  rw [List.length_drop] at hi
  obtain ⟨b, o, e, hc⟩ := h (A + i) (by omega)
  cases e
  exact ⟨b, o + A, by rw [Addr.add_lit], by rw [atB_drop, Nat.add_assoc]; exact hc⟩
theorem seal_iff {bs : List UInt8} (h : 4 ≤ bs.length) : sealL (bs.take (bs.length - 4)) = bs ↔ openL bs = true := ⟨fun k => seal_open h k, fun k => open_is k⟩

set_option maxHeartbeats 1600000 in
set_option maxRecDepth 20000 in
theorem refreadE_any (bs : List UInt8) (p : Option Addr) (c : Nat) (w : World) (hR : BRow w p bs) (hl : bs.length ≤ 20000) (hcap : bs.length ≤ c) :
    Calls Tryz.prog 16 #[.slice p bs.length c] w (ReadAtE (readE bs).1 (readE bs).2 w) := by
  have HR := Lib.hid hR
  have HRE : Hid (readE bs = (if bs.length < 11 then (e0, 14) else if 1048576 < bs.length then (e0, 15) else if (bs.getD 0 0).toNat ≠ 67 ∨ (bs.getD 1 0).toNat ≠ 80 ∨ (bs.getD 2 0).toNat ≠ 1 ∨ num4 bs ≠ bs.length then (e0, 30) else if openL bs = false then (e0, 31) else readBody ((bs.take (bs.length - 4)).drop 7))) := rfl
  clear hR
  generalize readE bs = RE at HRE ⊢
  have HB0 : Hid (Below w.heap.size w (w.alloc (.cells #[.slice none 0 0, .int .u16 0, .int .u32 0, .int .u64 0, .int .i64 0, .slice none 0 0] 39))) := below_alloc (Below.refl _ _) _
  have HX0 := Lib.hid (heap_alloc_new w (.cells #[.slice none 0 0, .int .u16 0, .int .u32 0, .int .u64 0, .int .i64 0, .slice none 0 0] 39))
  by_cases h11 : bs.length < 11
  · have h11' : (bs.length : Int) < 11 := by omega
    have HRB : Hid (RE = (e0, 14)) := by show _ = _; rw [HRE.out, if_pos h11]
    go_enter Tryz.func16, Tryz.ntmps16
    go_wp2
    (try simp only [Exit.inBlock, Exit.then])
    refine bodyPost_ret (results_ct (p := 2) (t := 3) (ty := 39) rfl _ _ ⟨w.heap.size, 0, none⟩ _ rfl (loadE HX0.out rfl)) rfl ?_
    unfold ReadAtE
    rw [HRB.out]
    exact ⟨[], none, 0, none, 0, rfl, row_none_nil _, KindAt.nil _ _, lie_none _, HB0.out⟩
  have h11' : ¬ (bs.length : Int) < 11 := by omega
  have hmx : ¬ (1048576 : Int) < (bs.length : Int) := by omega
  obtain ⟨b, o, rfl, c0⟩ := HR.out 0 (by omega)
  obtain ⟨b1, o1, e1, c1⟩ := HR.out 1 (by omega)
  cases e1
  obtain ⟨b2, o2, e2, c2⟩ := HR.out 2 (by omega)
  cases e2
  obtain ⟨b3, o3, e3, c3⟩ := HR.out 3 (by omega)
  cases e3
  obtain ⟨b4, o4, e4, c4⟩ := HR.out 4 (by omega)
  cases e4
  obtain ⟨b5, o5, e5, c5⟩ := HR.out 5 (by omega)
  cases e5
  obtain ⟨b6, o6, e6, c6⟩ := HR.out 6 (by omega)
  cases e6
  have HRE2 : Hid (RE = (if (bs.getD 0 0).toNat ≠ 67 ∨ (bs.getD 1 0).toNat ≠ 80 ∨ (bs.getD 2 0).toNat ≠ 1 ∨ num4 bs ≠ bs.length then (e0, 30) else if openL bs = false then (e0, 31) else readBody ((bs.take (bs.length - 4)).drop 7))) := by show _ = _; rw [HRE.out, if_neg h11, if_neg (by omega)]
  clear HRE h11
  have hN : num4 bs = (bs.getD 3 0).toNat * 16777216 + (bs.getD 4 0).toNat * 65536 + (bs.getD 5 0).toNat * 256 + (bs.getD 6 0).toNat := rfl
  unfold atB at c0 c1 c2 c3 c4 c5 c6
  have x0 := (bs.getD 0 0).toNat_lt
  have x1 := (bs.getD 1 0).toNat_lt
  have x2 := (bs.getD 2 0).toNat_lt
  have x3 := (bs.getD 3 0).toNat_lt
  have x4 := (bs.getD 4 0).toNat_lt
  have x5 := (bs.getD 5 0).toNat_lt
  have x6 := (bs.getD 6 0).toNat_lt
  generalize num4 bs = N at hN HRE2
  generalize (bs.getD 0 0).toNat = B0 at *
  generalize (bs.getD 1 0).toNat = B1 at *
  generalize (bs.getD 2 0).toNat = B2 at *
  generalize (bs.getD 3 0).toNat = B3 at *
  generalize (bs.getD 4 0).toNat = B4 at *
  generalize (bs.getD 5 0).toNat = B5 at *
  generalize (bs.getD 6 0).toNat = B6 at *
  have HCC : Hid (∀ W, Below w.heap.size w W → W.cell? ⟨b, o, none⟩ = some (.int .u8 (B0 : Int)) ∧ W.cell? ⟨b, o + 1, none⟩ = some (.int .u8 (B1 : Int)) ∧ W.cell? ⟨b, o + 2, none⟩ = some (.int .u8 (B2 : Int)) ∧ W.cell? ⟨b, o + 3, none⟩ = some (.int .u8 (B3 : Int)) ∧ W.cell? ⟨b, o + 4, none⟩ = some (.int .u8 (B4 : Int)) ∧ W.cell? ⟨b, o + 5, none⟩ = some (.int .u8 (B5 : Int)) ∧ W.cell? ⟨b, o + 6, none⟩ = some (.int .u8 (B6 : Int))) := fun W hb => ⟨cellU c0 hb, cellU c1 hb, cellU c2 hb, cellU c3 hb, cellU c4 hb, cellU c5 hb, cellU c6 hb⟩
  clear c0 c1 c2 c3 c4 c5 c6
  have HRT := Lib.hid (HR.out.below HB0.out)
  obtain ⟨d0, d1, d2, d3, d4, d5, d6⟩ := HCC.out _ HB0.out
  have i0' : (0 : Int) < (bs.length : Int) := by omega
  have i1' : (1 : Int) < (bs.length : Int) := by omega
  have i2' : (2 : Int) < (bs.length : Int) := by omega
  have i3' : (3 : Int) < (bs.length : Int) := by omega
  have i4' : (4 : Int) < (bs.length : Int) := by omega
  have i5' : (5 : Int) < (bs.length : Int) := by omega
  have i6' : (6 : Int) < (bs.length : Int) := by omega
  go_enter Tryz.func16, Tryz.ntmps16
  go_wp2_with fail
  generalize (w.alloc (.cells #[.slice none 0 0, .int .u16 0, .int .u32 0, .int .u64 0, .int .i64 0, .slice none 0 0] 39)) = w0 at HB0 HX0 HRT d0 d1 d2 d3 d4 d5 d6 ⊢
  go_quiet (fail)
  have HB1 : Hid (Below w.heap.size w (w0.drewN nq)) := below_drewN HB0.out nq
  have HX1 := Lib.hid (kept_box HX0.out (below_drewN (Below.refl _ _) nq))
  have HRQ := Lib.hid (HRT.out.below (below_drewN (Below.refl _ _) nq))
  clear d0 d1 d2 d3 d4 d5 d6 HB0 HX0 HRT
  generalize w0.drewN nq = w1 at HB1 HX1 HRQ ⊢
  obtain ⟨d0, d1, d2, d3, d4, d5, d6⟩ := HCC.out _ HB1.out
  by_cases a0 : B0 = 67
  case neg =>
    have q1 : ((B0 : Int) == 67) = false := beq_no (by omega)
    have q2 : ((B0 : Int) != 67) = true := bne_int (by omega)
    have HRB : Hid (RE = (e0, 30)) := by show _ = _; rw [HRE2.out, if_pos (Or.inl a0)]
    obtain ⟨s0, s1, s2, s3, s4, s5⟩ := six_cells HX1.out
    have fr := fun o => frozen_of_block (o := o) HX1.out
    go_wp2
    (try simp only [Exit.inBlock, Exit.then])
    refine bodyPost_ret (results_ct (p := 2) (t := 3) (ty := 39) rfl _ _ ⟨w.heap.size, 0, none⟩ _ rfl (loadE (box_six HX1.out) rfl)) rfl ?_
    unfold ReadAtE
    rw [HRB.out]
    exact ⟨[], none, 0, none, 0, rfl, row_none_nil _, KindAt.nil _ _, lie_none _, HB1.out.trans ((only_six _ _ _ _ _ _ _ _).below HB1.out.size (fun i ei => by have ei : i = w.heap.size := ei; omega))⟩
  by_cases a1 : B1 = 80
  case neg =>
    have q1 : ((B1 : Int) == 80) = false := beq_no (by omega)
    have q2 : ((B1 : Int) != 80) = true := bne_int (by omega)
    have HRB : Hid (RE = (e0, 30)) := by show _ = _; rw [HRE2.out, if_pos (Or.inr (Or.inl a1))]
    subst a0
    obtain ⟨s0, s1, s2, s3, s4, s5⟩ := six_cells HX1.out
    have fr := fun o => frozen_of_block (o := o) HX1.out
    go_wp2
    (try simp only [Exit.inBlock, Exit.then])
    refine bodyPost_ret (results_ct (p := 2) (t := 3) (ty := 39) rfl _ _ ⟨w.heap.size, 0, none⟩ _ rfl (loadE (box_six HX1.out) rfl)) rfl ?_
    unfold ReadAtE
    rw [HRB.out]
    exact ⟨[], none, 0, none, 0, rfl, row_none_nil _, KindAt.nil _ _, lie_none _, HB1.out.trans ((only_six _ _ _ _ _ _ _ _).below HB1.out.size (fun i ei => by have ei : i = w.heap.size := ei; omega))⟩
  by_cases a2 : B2 = 1
  case neg =>
    have q1 : ((B2 : Int) == 1) = false := beq_no (by omega)
    have q2 : ((B2 : Int) != 1) = true := bne_int (by omega)
    have HRB : Hid (RE = (e0, 30)) := by show _ = _; rw [HRE2.out, if_pos (Or.inr (Or.inr (Or.inl a2)))]
    subst a0 a1
    obtain ⟨s0, s1, s2, s3, s4, s5⟩ := six_cells HX1.out
    have fr := fun o => frozen_of_block (o := o) HX1.out
    go_wp2
    (try simp only [Exit.inBlock, Exit.then])
    refine bodyPost_ret (results_ct (p := 2) (t := 3) (ty := 39) rfl _ _ ⟨w.heap.size, 0, none⟩ _ rfl (loadE (box_six HX1.out) rfl)) rfl ?_
    unfold ReadAtE
    rw [HRB.out]
    exact ⟨[], none, 0, none, 0, rfl, row_none_nil _, KindAt.nil _ _, lie_none _, HB1.out.trans ((only_six _ _ _ _ _ _ _ _).below HB1.out.size (fun i ei => by have ei : i = w.heap.size := ei; omega))⟩
  by_cases a3 : N = bs.length
  case neg =>
    have q1 : (((B3 : Int) * 16777216 + (B4 : Int) * 65536 + (B5 : Int) * 256 + (B6 : Int)) == (bs.length : Int)) = false := beq_no (by omega)
    have q2 : (((B3 : Int) * 16777216 + (B4 : Int) * 65536 + (B5 : Int) * 256 + (B6 : Int)) != (bs.length : Int)) = true := bne_int (by omega)
    have HRB : Hid (RE = (e0, 30)) := by show _ = _; rw [HRE2.out, if_pos (Or.inr (Or.inr (Or.inr a3)))]
    subst a0 a1 a2
    obtain ⟨s0, s1, s2, s3, s4, s5⟩ := six_cells HX1.out
    have fr := fun o => frozen_of_block (o := o) HX1.out
    go_wp2
    (try simp only [Exit.inBlock, Exit.then])
    refine bodyPost_ret (results_ct (p := 2) (t := 3) (ty := 39) rfl _ _ ⟨w.heap.size, 0, none⟩ _ rfl (loadE (box_six HX1.out) rfl)) rfl ?_
    unfold ReadAtE
    rw [HRB.out]
    exact ⟨[], none, 0, none, 0, rfl, row_none_nil _, KindAt.nil _ _, lie_none _, HB1.out.trans ((only_six _ _ _ _ _ _ _ _).below HB1.out.size (fun i ei => by have ei : i = w.heap.size := ei; omega))⟩
  have q1 : (((B3 : Int) * 16777216 + (B4 : Int) * 65536 + (B5 : Int) * 256 + (B6 : Int)) == (bs.length : Int)) = true := by rw [beq_iff_eq]; omega
  have q2 : (((B3 : Int) * 16777216 + (B4 : Int) * 65536 + (B5 : Int) * 256 + (B6 : Int)) != (bs.length : Int)) = false := by rw [bne, q1]; rfl
  have HRE3 : Hid (RE = (if openL bs = false then (e0, 31) else readBody ((bs.take (bs.length - 4)).drop 7))) := by show _ = _; rw [HRE2.out, if_neg (by omega)]
  subst a0 a1 a2
  clear HRE2 hN a3
  go_wp2_with fail
  have hI : (bs.take (bs.length - 4)).length = bs.length - 4 := by rw [List.length_take]; omega
  have hsl : 1 ≤ (sealL (bs.take (bs.length - 4))).length := by unfold sealL; rw [List.length_append]; simp [be4]
  have HSEAL : Hid (∀ W, Below w1.heap.size w1 W → Calls Tryz.prog 46 #[.slice (some ⟨b, o, none⟩) (bs.length - 4) c] W (FreshC (sealL (bs.take (bs.length - 4))) W)) := fun W hb => by
    have := refseal_any (bs.take (bs.length - 4)) (some ⟨b, o, none⟩) c W (brow_cut (HRQ.out.below hb) _) (by intro h; cases h) (by omega)
    rwa [hI] at this
  have hop := seal_iff (bs := bs) (by omega)
  have HB11 : Hid (∀ W, Below w1.heap.size w1 W → Calls Tryz.prog 48 #[.slice (some ⟨b, o + 7, none⟩) (bs.length - 4 - 7) (c - 7)] W (ReadAtE (readBody ((bs.take (bs.length - 4)).drop 7)).1 (readBody ((bs.take (bs.length - 4)).drop 7)).2 W)) := fun W hb => by
    have hr := brow_tail (brow_cut (HRQ.out.below hb) (bs.length - 4)) 7
    rw [Addr.add_lit] at hr
    have hJ : ((bs.take (bs.length - 4)).drop 7).length = bs.length - 4 - 7 := by rw [List.length_drop, hI]
    have := refbodyE_any ((bs.take (bs.length - 4)).drop 7) (some ⟨b, o + 7, none⟩) (c - 7) W hr (by omega) (by omega)
    rwa [hJ] at this
  clear hI
  unfold FreshC at HSEAL
  unfold ReadAtE ev at HB11
  generalize readBody ((bs.take (bs.length - 4)).drop 7) = RB at HB11 HRE3
  generalize sealL (bs.take (bs.length - 4)) = S at HSEAL hsl hop
  obtain ⟨ba, hba⟩ : ∃ x, x = (⟨bs.toArray⟩ : ByteArray) := ⟨_, rfl⟩
  have hcv : ∀ W, Below w1.heap.size w1 W → (convert 42 9 (.slice (some ⟨b, o, none⟩) bs.length c)).run Tryz.prog W = .ok (.string ba) W := fun W hb => by rw [hba]; exact conv_row (HRQ.out.below hb) rfl
  have CV := Lib.hid hcv
  have cv0 := hcv w1.drew (Below.refl _ _).drew
  have cv00 := hcv w1 (Below.refl _ _)
  clear hcv d0 d1 d2 d3 d4 d5 d6
  by_cases hO : S = bs
  · have HRE4 : Hid (RE = RB) := by show _ = _; rw [HRE3.out, if_neg (by rw [hop.1 hO]; simp)]
    subst hO
    clear HRE3 hop
    have hcs : ∀ W p2 c2, BRow W p2 S → (convert 42 9 (.slice p2 S.length c2)).run Tryz.prog W = .ok (.string ba) W := fun W p2 c2 hb => by rw [hba]; exact conv_row hb rfl
    have CS := Lib.hid hcs
    clear hcs hba
    go_region_with (first
      | (go_at_call 46; refine (HSEAL.out _ (by exact (Below.refl _ _).drew)).mono ?_; rintro e w2 ⟨v2, rfl, hown, hb2⟩
         obtain ⟨g2, c2, rfl, hr2⟩ := owns_some hown hsl
         have L2 : Below w1.heap.size w1 w2 := below_step (Below.refl _ _).drew hb2
         have cv2 := CV.out w2 L2
         have cvo := CS.out w2 _ c2 hr2
         clear hown hb2 hr2))
    all_goals
      have HL2 := Lib.hid L2
      clear L2
      have hw11 : ¬ S.length - 4 < 7 := by omega
      go_wp2_with fail
      refine (HB11.out _ HL2.out).mono ?_
      rintro r w3 ⟨us, p3, c3, q3, d3, rfl, hv3, hk3, hl3, hb3⟩
      have HB3 : Hid (Below w.heap.size w w3) := below_step HB1.out (below_step HL2.out hb3)
      have HX3 := Lib.hid (kept_box (kept_box HX1.out HL2.out) hb3)
      have HV3 := Lib.hid hv3
      have HK3 := Lib.hid hk3
      have HL3 := Lib.hid hl3
      clear hv3 hk3 hl3 hb3 HB11 HSEAL CV CS HL2 cv0 cv00
      obtain ⟨s0, s1, s2, s3, s4, s5⟩ := six_cells HX3.out
      have fr := fun o => frozen_of_block (o := o) HX3.out
      go_wp2
      (try simp only [Exit.inBlock, Exit.then])
      have hS := only_six w3 w.heap.size (.slice p3 RB.1.deps.length c3) (.int .u16 RB.1.txn.r) (.int .u32 RB.1.txn.seq) (.int .u64 RB.1.txn.clock) (.int .i64 RB.1.txn.user) (.slice q3 RB.1.txn.ops.length d3)
      refine bodyPost_ret (results_ct (p := 2) (t := 3) (ty := 39) rfl _ _ ⟨w.heap.size, 0, none⟩ _ rfl (loadE (box_six HX3.out) rfl)) rfl ?_
      unfold ReadAtE
      rw [HRE4.out]
      have hap := HK3.out.apart (by decide) HX3.out
      exact ⟨us, p3, c3, q3, d3, rfl, vrow_kept HV3.out hS hap, HK3.out.kept hS hap, HL3.out.only HX3.out hS, HB3.out.trans (hS.below HB3.out.size (fun i ei => by have ei : i = w.heap.size := ei; omega))⟩
  · have hno : openL bs = false := by
      cases ho : openL bs with
      | false => rfl
      | true => exact absurd (hop.2 ho) hO
    have HRE4 : Hid (RE = (e0, 31)) := by show _ = _; rw [HRE3.out, if_pos hno]
    subst hba
    have hne1 : (S == bs) = false := by simpa using hO
    clear HRE3 hop
    have hcs : ∀ W p2 c2, BRow W p2 S → (convert 42 9 (.slice p2 S.length c2)).run Tryz.prog W = .ok (.string ⟨S.toArray⟩) W := fun W p2 c2 hb => conv_row hb rfl
    have CS := Lib.hid hcs
    clear hcs
    go_region_with (first
      | (go_at_call 46; refine (HSEAL.out _ (by exact (Below.refl _ _).drew)).mono ?_; rintro e w2 ⟨v2, rfl, hown, hb2⟩
         obtain ⟨g2, c2, rfl, hr2⟩ := owns_some hown hsl
         have L2 : Below w1.heap.size w1 w2 := below_step (Below.refl _ _).drew hb2
         have cv2 := CV.out w2 L2
         have cvo := CS.out w2 _ c2 hr2
         clear hown hb2 hr2))
    all_goals
      have HL2 : Hid (Below w.heap.size w w2) := below_step HB1.out L2
      have HX2 := Lib.hid (kept_box HX1.out L2)
      clear L2
      obtain ⟨s0, s1, s2, s3, s4, s5⟩ := six_cells HX2.out
      have fr := fun o => frozen_of_block (o := o) HX2.out
      go_wp2
      (try simp only [Exit.inBlock, Exit.then])
      refine bodyPost_ret (results_ct (p := 2) (t := 3) (ty := 39) rfl _ _ ⟨w.heap.size, 0, none⟩ _ rfl (loadE (box_six HX2.out) rfl)) rfl ?_
      unfold ReadAtE
      rw [HRE4.out]
      exact ⟨[], none, 0, none, 0, rfl, row_none_nil _, KindAt.nil _ _, lie_none _, HL2.out.trans ((only_six _ _ _ _ _ _ _ _).below HL2.out.size (fun i ei => by have ei : i = w.heap.size := ei; omega))⟩
end Go.Proofs.YtceanfpcddcfoaaGreat
/-
  The law WireReads' own function, over what wire's calls hand back. No conditions beyond what each theorem states.
-/
namespace Go.Proofs.YtceanfpcddcfoaaGreat
open Go.ChangeShapes Go.WideShapes Go.ChangeAt Go.RowKit Go.Lib
set_option linter.unusedVariables false
set_option linter.unusedSimpArgs false

/-- What may be read. -/
def RangeE (n : Nat) (e : Em) : Prop := Vec.Fits e.deps ∧ 2 * e.deps.length ≤ n + 2 ∧ FitTm e.txn ∧ (∀ o ∈ e.txn.ops, o.text.length ≤ 64 ∧ o.spans.length ≤ 1024) ∧ e.txn.ops.length ≤ 16
theorem rangeE_none (n : Nat) : RangeE n e0 := ⟨fun x hx => (by cases hx), by simp [e0], fitTm_zero, fun o ho => (by cases ho), by simp [e0, t0]⟩
theorem readBody_range {bs : List UInt8} (hl : bs.length ≤ 1000000) : RangeE bs.length (readBody bs).1 := by
  obtain ⟨N0, hN0⟩ : ∃ N, rdN bs 0 0 65536 = N := ⟨_, rfl⟩
  obtain ⟨D0, hD0⟩ : ∃ D, rdDs bs N0.1 N0.2.1 N0.2.2 = D := ⟨_, rfl⟩
  obtain ⟨T0, hT0⟩ : ∃ T, readTx bs D0.2.1 D0.2.2 = T := ⟨_, rfl⟩
  rw [readBody_eq bs hN0 hD0 hT0]
  have f1 := rdN_fits (bs := bs) (q := 0) (e := 0) (limit := 65536) (Nat.zero_le _)
  rw [hN0] at f1
  have f2 := rdDs_range (bs := bs) N0.1 N0.2.1 N0.2.2 f1.1 (by omega)
  rw [hD0] at f2
  have f3 := readTx_range (bs := bs) (q := D0.2.1) (e := D0.2.2) f2.1 f2.2.1 hl
  have f4 := readTx_short bs D0.2.1 D0.2.2
  rw [hT0] at f3 f4
  split
  · exact rangeE_none _
  · split
    · exact rangeE_none _
    · split
      · exact rangeE_none _
      · exact ⟨f2.2.2.1, by have := f2.2.2.2; simp only; omega, f3.1, fun o ho => ⟨f4 o ho, f3.2.1 o ho⟩, f3.2.2⟩
theorem RangeE.mono {n m : Nat} {e : Em} (h : RangeE n e) (hm : n ≤ m) : RangeE m e := ⟨h.1, by have := h.2.1; omega, h.2.2⟩
theorem readE_range {bs : List UInt8} (hl : bs.length ≤ 1000000) : RangeE bs.length (readE bs).1 := by
  unfold readE
  split
  · exact rangeE_none _
  · split
    · exact rangeE_none _
    · split
      · exact rangeE_none _
      · split
        · exact rangeE_none _
        · exact (readBody_range (by rw [List.length_drop, List.length_take]; omega)).mono (by rw [List.length_drop, List.length_take]; omega)
theorem RangeE.small {n : Nat} {e : Em} (h : RangeE n e) {xs : List OV} (hx : e.txn.ops = xs.map (·.1)) : SmallX xs := fun x hm => by
  have := h.2.2.2.1 x.1 (by rw [hx]; exact List.mem_map.2 ⟨x, hm, rfl⟩)
  exact ⟨by omega, this.2⟩
set_option maxHeartbeats 6400000 in
set_option maxRecDepth 20000 in
theorem wirereads_any (HEN : EncodeSpec) (HDE : DecodeSpec) (bs : List UInt8) (p : Option Addr) (c : Nat) (w : World) (hR : BRow w p bs) (hb : bs.length ≤ 9223372036854775807) (hcap : bs.length ≤ c) (hp : p = none → c = 0) :
    Calls Tryz.prog 4 #[.slice p bs.length c] w fun e w' => e = .returned (.bool true) ∧ Below w.heap.size w w' := by
  have HA := Lib.hid (anchor10_any HEN w)
  have HR := Lib.hid hR
  clear hR HEN
  go_enter Tryz.func4, Tryz.ntmps4
  go_wp2_with fail
  refine HA.out.mono ?_
  rintro e w1 ⟨rfl, hb1⟩
  have HB1 := Lib.hid hb1
  clear hb1 HA
  by_cases hbig : 3000 < bs.length
  · have hbig' : (3000 : Int) < (bs.length : Int) := by omega
    go_wp2
    go_ret
    exact ⟨rfl, HB1.out⟩
  have hbig' : ¬ (3000 : Int) < (bs.length : Int) := by omega
  have H2 := Lib.hid (HDE bs p c w1 (HR.out.below HB1.out) (by omega) hcap hp)
  have H3 : Hid (∀ W, Below w.heap.size w W → Calls Tryz.prog 16 #[.slice p bs.length c] W (ReadAtE (readE bs).1 (readE bs).2 W)) := fun W hbw => refreadE_any bs p c W (HR.out.below hbw) (by omega) hcap
  have hrg := readE_range (bs := bs) (by omega)
  have hbk : ∀ e, readE bs = (e, 0) → bytesE e = bs ∧ fitE e = 0 := fun e h => readE_back (by omega) h
  have HRG : Hid (RangeE 3000 (readE bs).1) := hrg.mono (by omega)
  have HBK := Lib.hid hbk
  clear hrg hbk HDE
  generalize readE bs = RR at H2 H3 HRG HBK
  obtain ⟨E, F⟩ := RR
  simp only at H2 H3 HRG HBK
  have H4 : Hid (∀ W xs ys p2 p3 q q2 c2 c3 d d2, Vec.Row W p2 E.deps → Vec.Row W p3 E.deps → RowT E.txn xs q d W → LieT E.txn ys q2 W → Calls Tryz.prog 15 #[ev E p2 c2 q d, ev E p3 c3 q2 d2] W fun r w' => r = .returned (.bool true) ∧ Below W.heap.size W w') := fun W xs ys p2 p3 q q2 c2 c3 d d2 h1 h2 h3 h4 => sameE_yes E xs ys p2 p3 q q2 c2 c3 d d2 W h1 h2 (by have := HRG.out.2.1; omega) h3 h4 (by have := HRG.out.2.2.2.2; omega) (fun x hx => by have := (HRG.out.small h3.ops x hx).2; omega)
  have H5 : Hid (F = 0 → ∀ W ys p3 q2 c3 d2, Vec.Row W p3 E.deps → LieT E.txn ys q2 W → Calls Tryz.prog 14 #[ev E p3 c3 q2 d2] W (Fresh bs W)) := fun hF W ys p3 q2 c3 d2 h1 h2 => by
    have hb := HBK.out E (by rw [hF])
    have := refbytesE_any E ys p3 q2 c3 d2 W h1 HRG.out.1 (by have := HRG.out.2.1; omega) h2 (HRG.out.small h2.ops) hb.2
    rwa [hb.1] at this
  clear HBK HRG
  unfold Decoded at H2
  unfold ReadAtE at H3
  unfold ev at H2 H3 H4 H5
  generalize E.deps.length = L at H2 H3 H4 H5
  generalize E.txn.ops.length = TL at H2 H3 H4 H5
  generalize E.txn.r = tr at H2 H3 H4 H5
  generalize E.txn.seq = ts at H2 H3 H4 H5
  generalize E.txn.clock = tc at H2 H3 H4 H5
  generalize E.txn.user = tu at H2 H3 H4 H5
  go_wp2_with fail
  refine H2.out.mono ?_
  rintro r w2 ⟨xs, p2, c2, q2, d2, rfl, hv2, hT2, hb2⟩
  have HB2 : Hid (Below w.heap.size w w2) := below_step HB1.out hb2
  have HV2 := Lib.hid hv2
  have HT2 := Lib.hid hT2
  clear hv2 hT2 hb2 H2 HB1
  have HX2 := Lib.hid (heap_alloc_new w2 (.cells #[.slice p2 L c2, .int .u16 tr, .int .u32 ts, .int .u64 tc, .int .i64 tu, .slice q2 TL d2] 31))
  have HB2' : Hid (Below w2.heap.size w2 (w2.alloc (.cells #[.slice p2 L c2, .int .u16 tr, .int .u32 ts, .int .u64 tc, .int .i64 tu, .slice q2 TL d2] 31))) := below_alloc (Below.refl _ _) _
  go_wp2_with fail
  generalize (w2.alloc (.cells #[.slice p2 L c2, .int .u16 tr, .int .u32 ts, .int .u64 tc, .int .i64 tu, .slice q2 TL d2] 31)) = w3 at HX2 HB2' ⊢
  refine (H3.out _ (below_step HB2.out HB2'.out)).mono ?_
  rintro r w4 ⟨ys, p3, c3, q3, d3, rfl, hv3, -, hT3, hb3⟩
  have HB4 : Hid (Below w.heap.size w w4) := below_step (below_step HB2.out HB2'.out) hb3
  have HX4 := Lib.hid (kept_box HX2.out hb3)
  have HV4 := Lib.hid ((HV2.out.below HB2'.out).below hb3)
  have HT4 := Lib.hid ((HT2.out.below HB2'.out).below hb3)
  have HV3 := Lib.hid hv3
  have HT3 := Lib.hid hT3
  clear hv3 hT3 hb3 H3 HB2 HB2' HX2 HV2 HT2
  have HX5 := Lib.hid (heap_alloc_new w4 (.cells #[.slice p3 L c3, .int .u16 tr, .int .u32 ts, .int .u64 tc, .int .i64 tu, .slice q3 TL d3] 39))
  have HB5 : Hid (Below w4.heap.size w4 (w4.alloc (.cells #[.slice p3 L c3, .int .u16 tr, .int .u32 ts, .int .u64 tc, .int .i64 tu, .slice q3 TL d3] 39))) := below_alloc (Below.refl _ _) _
  have hlt4 : w2.heap.size < w4.heap.size := lt_of_block HX4.out
  have hne1 : ¬ w2.heap.size = w4.heap.size := by omega
  obtain ⟨x0, x1, x2, x3, x4, x5⟩ := six_cells (kept_box HX4.out HB5.out)
  obtain ⟨y0, y1, y2, y3, y4, y5⟩ := six_cells HX5.out
  go_wp2_with fail
  generalize (w4.alloc (.cells #[.slice p3 L c3, .int .u16 tr, .int .u32 ts, .int .u64 tc, .int .i64 tu, .slice q3 TL d3] 39)) = w5 at HX5 HB5 x0 x1 x2 x3 x4 x5 y0 y1 y2 y3 y4 y5 ⊢
  refine (H4.out _ _ _ _ _ _ _ _ _ _ _ (HV4.out.below HB5.out) (HV3.out.below HB5.out) (HT4.out.below HB5.out) (HT3.out.below HB5.out)).mono ?_
  rintro r w6 ⟨rfl, hb6⟩
  have HB6 : Hid (Below w4.heap.size w4 w6) := below_step HB5.out hb6
  have HX6 := Lib.hid (kept_box HX5.out hb6)
  clear hb6 HX5 HB5 x0 x1 x2 x3 x4 x5 y0 y1 y2 y3 y4 y5 H4
  by_cases hF : F = 0
  · subst hF
    have hH5 := H5.out rfl
    have HH5 := Lib.hid hH5
    clear hH5 H5
    have HRB : Hid (∀ W, Below w4.heap.size w4 W → BRow W p bs) := fun W hb => HR.out.below (below_step HB4.out hb)
    have hcv : ∀ W, Below w4.heap.size w4 W → (convert 42 9 (.slice p bs.length c)).run Tryz.prog W = .ok (.string ⟨bs.toArray⟩) W := fun W hb => conv_row (HRB.out W hb) rfl
    have CV := Lib.hid hcv
    have L0 : Below w4.heap.size w4 w6.drew := HB6.out.drew
    have cv0 := hcv w6.drew L0
    have cv00 := hcv w6 HB6.out
    obtain ⟨y0, y1, y2, y3, y4, y5⟩ := six_cells (kept_box HX6.out (Below.refl _ _).drew)
    have hcs : ∀ W v2 n, W.ownsRow n 5 1 v2 bs.length (byteCells bs) → ∃ p2 c2, v2 = .slice p2 bs.length c2 ∧ (convert 42 9 v2).run Tryz.prog W = .ok (.string ⟨bs.toArray⟩) W := fun W v2 n h => by
      obtain ⟨p2, c2, rfl, -, hr, -⟩ := brow_owns h
      exact ⟨p2, c2, rfl, conv_row hr rfl⟩
    have CS := Lib.hid hcs
    clear hcv hcs
    unfold Fresh at HH5
    go_wp2_with fail
    go_region_with (first
      | (go_at_call 14; refine (HH5.out _ _ _ _ _ _ (by exact HV3.out.below L0) (by exact HT3.out.below L0)).mono ?_; rintro e w7 ⟨v7, rfl, hown, hb7⟩
         obtain ⟨p7, c7, rfl, cvo⟩ := CS.out w7 v7 _ hown
         have L7 : Below w4.heap.size w4 w7 := below_step L0 hb7
         have cv7 := CV.out w7 L7
         clear hown hb7))
    all_goals
      have HL7 := Lib.hid L7
      clear L7
      go_wp2
      go_ret
      exact ⟨rfl, below_step HB4.out HL7.out⟩
  · have hF1 : (F == 0) = false := beq_no hF
    have hF2 : (F != 0) = true := bne_int hF
    go_wp2_with fail
    go_quiet (fail)
    go_wp2
    go_ret
    exact ⟨rfl, below_drewN (below_step HB4.out HB6.out) _⟩
end Go.Proofs.YtceanfpcddcfoaaGreat
/-
  What the program's makes, names, turns, Root, Take, Plain, fitText and hasMore of layer 8 hand back. No conditions beyond what each theorem states.
-/
namespace Go.Proofs.YtceanfpcddcfoaaGreat
open Go.ChangeShapes Go.WideShapes Go.ChangeAt Go.RowKit Go.Lib
set_option linter.unusedVariables false
set_option linter.unusedSimpArgs false

theorem makes_yes (k : Int) (h : k = 1 ∨ k = 3) (w : World) : Calls Tryz.prog 89 #[.int .i64 k] w fun e w' => e = .returned (.bool true) ∧ w' = w := by
  rcases h with rfl | rfl
  all_goals
    go_enter Tryz.func89, Tryz.ntmps89
    go_wp2
    go_ret
    exact ⟨rfl, rfl⟩
theorem makes_no (k : Int) (h1 : ¬ k = 1) (h3 : ¬ k = 3) (w : World) : Calls Tryz.prog 89 #[.int .i64 k] w fun e w' => e = .returned (.bool false) ∧ w' = w := by
  have a1 := beq_no h1
  have a3 := beq_no h3
  go_enter Tryz.func89, Tryz.ntmps89
  go_wp2
  go_ret
  exact ⟨rfl, rfl⟩
theorem names_yes (k : Int) (h : k = 2 ∨ k = 3) (w : World) : Calls Tryz.prog 91 #[.int .i64 k] w fun e w' => e = .returned (.bool true) ∧ w' = w := by
  rcases h with rfl | rfl
  all_goals
    go_enter Tryz.func91, Tryz.ntmps91
    go_wp2
    go_ret
    exact ⟨rfl, rfl⟩
theorem names_no (k : Int) (h2 : ¬ k = 2) (h3 : ¬ k = 3) (w : World) : Calls Tryz.prog 91 #[.int .i64 k] w fun e w' => e = .returned (.bool false) ∧ w' = w := by
  have a2 := beq_no h2
  have a3 := beq_no h3
  go_enter Tryz.func91, Tryz.ntmps91
  go_wp2
  go_ret
  exact ⟨rfl, rfl⟩
theorem turns_yes (k : Int) (h1 : ¬ k = 1) (h2 : ¬ k = 2) (h3 : ¬ k = 3) (w : World) : Calls Tryz.prog 93 #[.int .i64 k] w fun e w' => e = .returned (.bool true) ∧ w' = w := by
  have HM := Lib.hid (makes_no k h1 h3)
  have HN := Lib.hid (names_no k h2 h3)
  clear h1 h2 h3
  go_enter Tryz.func93, Tryz.ntmps93
  go_wp2_with (first | (go_at_call 89; refine (HM.out _).mono ?_; rintro e w1 ⟨rfl, he⟩; obtain rfl := Eq.symm he) | (go_at_call 91; refine (HN.out _).mono ?_; rintro e w2 ⟨rfl, he⟩; obtain rfl := Eq.symm he))
  go_ret
  exact ⟨rfl, rfl⟩
theorem turns_no (k : Int) (h : k = 1 ∨ k = 2 ∨ k = 3) (w : World) : Calls Tryz.prog 93 #[.int .i64 k] w fun e w' => e = .returned (.bool false) ∧ w' = w := by
  by_cases hk : k = 1 ∨ k = 3
  · have HM := Lib.hid (makes_yes k hk)
    clear h hk
    go_enter Tryz.func93, Tryz.ntmps93
    go_wp2_with (first | (go_at_call 89; refine (HM.out _).mono ?_; rintro e w1 ⟨rfl, he⟩; obtain rfl := Eq.symm he))
    go_ret
    exact ⟨rfl, rfl⟩
  · have HM := Lib.hid (makes_no k (by omega) (by omega))
    have HN := Lib.hid (names_yes k (by omega))
    clear h hk
    go_enter Tryz.func93, Tryz.ntmps93
    go_wp2_with (first | (go_at_call 89; refine (HM.out _).mono ?_; rintro e w1 ⟨rfl, he⟩; obtain rfl := Eq.symm he) | (go_at_call 91; refine (HN.out _).mono ?_; rintro e w2 ⟨rfl, he⟩; obtain rfl := Eq.symm he))
    go_ret
    exact ⟨rfl, rfl⟩
theorem idroot_yes (w : World) : Calls Tryz.prog 118 #[.agg #[.int .u16 0, .int .u32 0]] w fun e w' => e = .returned (.bool true) ∧ Below w.heap.size w w' := by
  go_enter Tryz.func118, Tryz.ntmps118
  go_wp2
  go_ret
  exact ⟨rfl, below_alloc (Below.refl _ _) _⟩
theorem idroot_no (r n : Int) (h : ¬ (r = 0 ∧ n = 0)) (w : World) : Calls Tryz.prog 118 #[.agg #[.int .u16 r, .int .u32 n]] w fun e w' => e = .returned (.bool false) ∧ Below w.heap.size w w' := by
  by_cases hr : r = 0
  · subst hr
    have hn : (n == 0) = false := beq_no (fun e => h ⟨rfl, e⟩)
    go_enter Tryz.func118, Tryz.ntmps118
    go_wp2
    all_goals
      go_ret
      exact ⟨by simp_all, below_alloc (Below.refl _ _) _⟩
  · have hr' : (r == 0) = false := beq_no hr
    go_enter Tryz.func118, Tryz.ntmps118
    go_wp2
    all_goals
      go_ret
      exact ⟨by simp_all, below_alloc (Below.refl _ _) _⟩
/-- Take's error. -/
def tookE (num a : Int) : Int := if num = 0 then 10 else if 268435457 < num + a then 20 else 0
def tookN (num a : Int) : Int := if num = 0 then 0 else if 268435457 < num + a then 0 else num + a
theorem idtake_any (num a : Int) (h0 : 0 ≤ num) (h1 : num ≤ 4294967295) (a0 : 0 ≤ a) (a1 : a ≤ 1000000000) (w : World) : Calls Tryz.prog 121 #[.int .u32 num, .int .i64 a] w fun e w' => e = .returned (.tuple #[.int .u32 (tookN num a), .int .i64 (tookE num a)]) ∧ w' = w := by
  unfold tookN tookE
  have ha : ¬ a < 0 := by omega
  by_cases h : num = 0
  · subst h
    rw [if_pos rfl, if_pos rfl]
    go_enter Tryz.func121, Tryz.ntmps121
    go_wp2
    go_ret2
    exact ⟨rfl, rfl⟩
  · rw [if_neg h, if_neg h]
    have h' : (num == 0) = false := beq_no h
    by_cases g : 268435457 < num + a
    · rw [if_pos g, if_pos g]
      go_enter Tryz.func121, Tryz.ntmps121
      go_wp2
      go_ret2
      exact ⟨rfl, rfl⟩
    · rw [if_neg g, if_neg g]
      go_enter Tryz.func121, Tryz.ntmps121
      go_wp2
      go_ret2
      exact ⟨rfl, rfl⟩

set_option maxHeartbeats 1600000 in
theorem plain_at (s : ByteArray) (hs : s.size ≤ 1000000) (w : World) :
    Calls Tryz.prog 124 #[.string s] w fun e w' => e = .returned (.bool (plainB s.data.toList)) ∧ w' = w := by
  go_enter Tryz.func124, Tryz.ntmps124
  go_wp2
  go_loopg [6] s.size (fun g i wr => ∃ k : Nat, k ≤ s.size ∧ s.size - k ≤ g ∧ i = .int .i64 (k : Int) ∧ plainB (s.data.toList.take k) = true ∧ wr = w)
  case atStart => exact ⟨0, Nat.zero_le _, by omega, rfl, rfl, rfl⟩
  case round =>
    obtain ⟨k, hk, hg, rfl, hp, rfl⟩ := hrel
    have HP := Lib.hid hp
    clear hp
    by_cases hlt : k < s.size
    · have HNX : Hid (plainB (s.data.toList.take (k + 1)) = plain1 s[k]) := by
        show _ = _
        rw [plainB_take (s := s.data.toList) hlt, HP.out, bytes_getD s hlt]
        rfl
      have HNO : Hid (plain1 s[k] = false → plainB s.data.toList = false) := plain_walks s hlt
      have HX : Hid (plain1 s[k] = (s[k].toNat == 10 || (decide (32 ≤ s[k].toNat) && decide (s[k].toNat ≤ 126)))) := rfl
      have hb := s[k].toNat_lt
      clear HP
      by_cases h10 : s[k].toNat = 10
      · have h10' : ((s[k].toNat : Int) == 10) = true := by rw [h10]; rfl
        have HT : Hid (plainB (s.data.toList.take (k + 1)) = true) := by show _ = _; rw [HNX.out, HX.out, h10]; rfl
        go_wp2
        go_roundg (s.size - (k + 1))
        case measure => omega
        case rel => exact ⟨k + 1, by omega, Nat.le_refl _, by go_num, HT.out, rfl⟩
      · have h10' : ((s[k].toNat : Int) == 10) = false := by rw [beq_eq_false_iff_ne]; omega
        by_cases h32 : s[k].toNat < 32
        · have h32' : ((s[k].toNat : Nat) : Int) < 32 := by omega
          have HT : Hid (plainB s.data.toList = false) := HNO.out (by rw [HX.out, decide_eq_false (by omega : ¬ 32 ≤ s[k].toNat)]; simp [h10])
          go_wp2
          go_ret
          exact ⟨by rw [HT.out]; rfl, rfl⟩
        · have h32' : ¬ ((s[k].toNat : Nat) : Int) < 32 := by omega
          by_cases h126 : 126 < s[k].toNat
          · have h126' : 126 < ((s[k].toNat : Nat) : Int) := by omega
            have HT : Hid (plainB s.data.toList = false) := HNO.out (by rw [HX.out, decide_eq_false (by omega : ¬ s[k].toNat ≤ 126)]; simp [h10])
            go_wp2
            go_ret
            exact ⟨by rw [HT.out]; rfl, rfl⟩
          · have h126' : ¬ 126 < ((s[k].toNat : Nat) : Int) := by omega
            have HT : Hid (plainB (s.data.toList.take (k + 1)) = true) := by show _ = _; rw [HNX.out, HX.out, decide_eq_true (by omega : 32 ≤ s[k].toNat), decide_eq_true (by omega : s[k].toNat ≤ 126)]; simp
            go_wp2
            go_roundg (s.size - (k + 1))
            case measure => omega
            case rel => exact ⟨k + 1, by omega, Nat.le_refl _, by go_num, HT.out, rfl⟩
    · have : k = s.size := by omega
      subst this
      have HT : Hid (plainB s.data.toList = true) := by have := HP.out; rwa [List.take_of_length_le (show s.data.toList.length ≤ s.size from Nat.le_refl _)] at this
      go_wp2
      go_ret
      exact ⟨by rw [HT.out]; rfl, rfl⟩
theorem plain_any (s : List UInt8) (hs : s.length ≤ 1000000) (w : World) :
    Calls Tryz.prog 124 #[.string ⟨s.toArray⟩] w fun e w' => e = .returned (.bool (plainB s)) ∧ w' = w := plain_at ⟨s.toArray⟩ hs w


theorem plain_spec : PlainSpec := fun s w h => (plain_any s (by omega) w).mono (by rintro e w' ⟨he, rfl⟩; exact ⟨he, Below.refl _ _⟩)

def textE (s : List UInt8) : Int := if s = [] ∨ plainB s = false then 11 else if 64 < s.length then 15 else 0
theorem fittext_any (s : List UInt8) (hs : s.length ≤ 1000000) (w : World) : Calls Tryz.prog 119 #[.string ⟨s.toArray⟩] w fun e w' => e = .returned (.int .i64 (textE s)) ∧ w' = w := by
  unfold textE
  have HP := Lib.hid (fun W => plain_any s hs W)
  have hsz : (⟨s.toArray⟩ : ByteArray).size = s.length := rfl
  by_cases h3 : s = []
  · subst h3
    rw [if_pos (Or.inl rfl)]
    clear HP hsz
    go_enter Tryz.func119, Tryz.ntmps119
    go_wp2
    go_ret
    exact ⟨rfl, rfl⟩
  · obtain ⟨h3a, h3b, h3c, h3d⟩ := text_no h3
    cases h4 : plainB s with
    | false =>
      rw [if_pos (Or.inr rfl)]
      rw [h4] at HP
      generalize (⟨s.toArray⟩ : ByteArray) = bt at HP hsz h3a h3b h3c h3d ⊢
      go_enter Tryz.func119, Tryz.ntmps119
      go_wp2_with (first | (go_at_call 124; refine (HP.out _).mono ?_; rintro e w1 ⟨rfl, he⟩; obtain rfl := Eq.symm he))
      go_ret
      exact ⟨rfl, rfl⟩
    | true =>
      rw [if_neg (by rintro (a | a); exact h3 a; cases a)]
      rw [h4] at HP
      generalize (⟨s.toArray⟩ : ByteArray) = bt at HP hsz h3a h3b h3c h3d ⊢
      by_cases h5 : 64 < s.length
      · rw [if_pos h5]
        have h5' : (64 : Int) < (bt.size : Int) := by omega
        go_enter Tryz.func119, Tryz.ntmps119
        go_wp2_with (first | (go_at_call 124; refine (HP.out _).mono ?_; rintro e w1 ⟨rfl, he⟩; obtain rfl := Eq.symm he))
        go_ret
        exact ⟨rfl, rfl⟩
      · rw [if_neg h5]
        have h5' : ¬ (64 : Int) < (bt.size : Int) := by omega
        go_enter Tryz.func119, Tryz.ntmps119
        go_wp2_with (first | (go_at_call 124; refine (HP.out _).mono ?_; rintro e w1 ⟨rfl, he⟩; obtain rfl := Eq.symm he))
        go_ret
        exact ⟨rfl, rfl⟩

end Go.Proofs.YtceanfpcddcfoaaGreat
/-
  What the program's hasMore of layer 8 hands back. No conditions beyond what each theorem states.
-/
namespace Go.Proofs.YtceanfpcddcfoaaGreat
open Go.ChangeShapes Go.WideShapes Go.ChangeAt Go.RowKit Go.Lib
set_option linter.unusedVariables false
set_option linter.unusedSimpArgs false

/-- Has it what its kind has not? -/
def moreO (o : Om) : Bool :=
  if o.kind = 1 then decide (0 < o.spans.length ∨ o.seq ≠ 0)
  else if o.kind = 2 then decide (placelessO o = false ∨ o.text ≠ [] ∨ o.seq ≠ 0)
  else if o.kind = 3 then decide (o.text ≠ [] ∨ o.seq ≠ 0)
  else decide (placelessO o = false ∨ o.text ≠ [] ∨ 0 < o.spans.length)
theorem bne_no {a b : Int} (h : ¬ a = b) : (a != b) = true := by simpa using h
theorem bytes_bne {a b : List UInt8} (h : (a == b) = false) : (a != b) = true := by unfold bne; rw [h]; rfl

set_option maxHeartbeats 3200000 in
theorem more1 (o : Om) (p : Option Addr) (c : Nat) (w : World) (hk : o.kind = 1) : Calls Tryz.prog 111 #[ov o p c] w fun e w' => e = .returned (.bool (moreO o)) ∧ Below w.heap.size w w' := by
  have HF : Hid (moreO o = decide (0 < o.spans.length ∨ o.seq ≠ 0)) := by show _ = _; unfold moreO; rw [if_pos hk]
  have HM := Lib.hid (makes_yes o.kind (Or.inl hk))
  have HN := Lib.hid (names_no o.kind (by omega) (by omega))
  have HT := Lib.hid (turns_no o.kind (Or.inl hk))
  obtain ⟨kind, r, n, num, text, spans, seq⟩ := o
  unfold ov
  simp only at hk HF HM HN HT ⊢
  subst hk
  generalize moreO ⟨1, r, n, num, text, spans, seq⟩ = MO at HF ⊢
  generalize (⟨text.toArray⟩ : ByteArray) = bt
  by_cases h1 : 0 < spans.length
  · have h1' : (0 : Int) < (spans.length : Int) := by omega
    have HE : Hid (MO = true) := by show _ = _; rw [HF.out]; exact decide_eq_true (Or.inl h1)
    clear HF
    go_enter Tryz.func111, Tryz.ntmps111
    go_wp2_with (first | (go_at_call 89; refine (HM.out _).mono ?_; rintro e w1 ⟨rfl, he⟩; obtain rfl := Eq.symm he) | (go_at_call 91; refine (HN.out _).mono ?_; rintro e w2 ⟨rfl, he⟩; obtain rfl := Eq.symm he))
    go_ret
    exact ⟨by rw [HE.out]; rfl, below_alloc (Below.refl _ _) _⟩
  · have h1' : ¬ (0 : Int) < (spans.length : Int) := by omega
    by_cases h2 : seq = 0
    · subst h2
      have HE : Hid (MO = false) := by show _ = _; rw [HF.out]; exact decide_eq_false (by rintro (a | a); exact h1 a; exact a rfl)
      clear HF
      go_enter Tryz.func111, Tryz.ntmps111
      go_wp2_with (first | (go_at_call 89; refine (HM.out _).mono ?_; rintro e w1 ⟨rfl, he⟩; obtain rfl := Eq.symm he) | (go_at_call 91; refine (HN.out _).mono ?_; rintro e w2 ⟨rfl, he⟩; obtain rfl := Eq.symm he) | (go_at_call 93; refine (HT.out _).mono ?_; rintro e w3 ⟨rfl, he⟩; obtain rfl := Eq.symm he))
      go_ret
      exact ⟨by rw [HE.out]; rfl, below_alloc (Below.refl _ _) _⟩
    · have h2' := beq_no h2
      have h2'' := bne_no h2
      have HE : Hid (MO = true) := by show _ = _; rw [HF.out]; exact decide_eq_true (Or.inr h2)
      clear HF
      go_enter Tryz.func111, Tryz.ntmps111
      go_wp2_with (first | (go_at_call 89; refine (HM.out _).mono ?_; rintro e w1 ⟨rfl, he⟩; obtain rfl := Eq.symm he) | (go_at_call 91; refine (HN.out _).mono ?_; rintro e w2 ⟨rfl, he⟩; obtain rfl := Eq.symm he) | (go_at_call 93; refine (HT.out _).mono ?_; rintro e w3 ⟨rfl, he⟩; obtain rfl := Eq.symm he))
      go_ret
      exact ⟨by rw [HE.out]; rfl, below_alloc (Below.refl _ _) _⟩
set_option maxHeartbeats 3200000 in
theorem more3 (o : Om) (p : Option Addr) (c : Nat) (w : World) (hk : o.kind = 3) : Calls Tryz.prog 111 #[ov o p c] w fun e w' => e = .returned (.bool (moreO o)) ∧ Below w.heap.size w w' := by
  have HF : Hid (moreO o = decide (o.text ≠ [] ∨ o.seq ≠ 0)) := by show _ = _; unfold moreO; rw [if_neg (by omega), if_neg (by omega), if_pos hk]
  have HM := Lib.hid (makes_yes o.kind (Or.inr hk))
  have HN := Lib.hid (names_yes o.kind (Or.inr hk))
  have HT := Lib.hid (turns_no o.kind (Or.inr (Or.inr hk)))
  obtain ⟨kind, r, n, num, text, spans, seq⟩ := o
  unfold ov
  simp only at hk HF HM HN HT ⊢
  subst hk
  generalize moreO ⟨3, r, n, num, text, spans, seq⟩ = MO at HF ⊢
  by_cases h1 : text = []
  · subst h1
    by_cases h2 : seq = 0
    · subst h2
      have HE : Hid (MO = false) := by show _ = _; rw [HF.out]; exact decide_eq_false (by rintro (a | a); exact a rfl; exact a rfl)
      clear HF
      go_enter Tryz.func111, Tryz.ntmps111
      go_wp2_with (first | (go_at_call 89; refine (HM.out _).mono ?_; rintro e w1 ⟨rfl, he⟩; obtain rfl := Eq.symm he) | (go_at_call 91; refine (HN.out _).mono ?_; rintro e w2 ⟨rfl, he⟩; obtain rfl := Eq.symm he) | (go_at_call 93; refine (HT.out _).mono ?_; rintro e w3 ⟨rfl, he⟩; obtain rfl := Eq.symm he))
      go_ret
      exact ⟨by rw [HE.out]; rfl, below_alloc (Below.refl _ _) _⟩
    · have h2' := beq_no h2
      have h2'' := bne_no h2
      have HE : Hid (MO = true) := by show _ = _; rw [HF.out]; exact decide_eq_true (Or.inr h2)
      clear HF
      go_enter Tryz.func111, Tryz.ntmps111
      go_wp2_with (first | (go_at_call 89; refine (HM.out _).mono ?_; rintro e w1 ⟨rfl, he⟩; obtain rfl := Eq.symm he) | (go_at_call 91; refine (HN.out _).mono ?_; rintro e w2 ⟨rfl, he⟩; obtain rfl := Eq.symm he) | (go_at_call 93; refine (HT.out _).mono ?_; rintro e w3 ⟨rfl, he⟩; obtain rfl := Eq.symm he))
      go_ret
      exact ⟨by rw [HE.out]; rfl, below_alloc (Below.refl _ _) _⟩
  · obtain ⟨h3a, h3b, h3c, h3d⟩ := text_no h1
    have h3e := bytes_bne h3a
    have h3f := bytes_bne h3b
    generalize (⟨text.toArray⟩ : ByteArray) = bt at h3a h3b h3c h3d h3e h3f ⊢
    have HE : Hid (MO = true) := by show _ = _; rw [HF.out]; exact decide_eq_true (Or.inl h1)
    clear HF
    go_enter Tryz.func111, Tryz.ntmps111
    go_wp2_with (first | (go_at_call 89; refine (HM.out _).mono ?_; rintro e w1 ⟨rfl, he⟩; obtain rfl := Eq.symm he) | (go_at_call 91; refine (HN.out _).mono ?_; rintro e w2 ⟨rfl, he⟩; obtain rfl := Eq.symm he))
    go_ret
    exact ⟨by rw [HE.out]; rfl, below_alloc (Below.refl _ _) _⟩
set_option maxHeartbeats 3200000 in
theorem more2 (o : Om) (p : Option Addr) (c : Nat) (w : World) (hk : o.kind = 2) : Calls Tryz.prog 111 #[ov o p c] w fun e w' => e = .returned (.bool (moreO o)) ∧ Below w.heap.size w w' := by
  have HF : Hid (moreO o = decide (placelessO o = false ∨ o.text ≠ [] ∨ o.seq ≠ 0)) := by show _ = _; unfold moreO; rw [if_neg (by omega), if_pos hk]
  have HM := Lib.hid (makes_no o.kind (by omega) (by omega))
  have HN := Lib.hid (names_yes o.kind (Or.inl hk))
  have HT := Lib.hid (turns_no o.kind (Or.inr (Or.inl hk)))
  have HL : Hid (placelessO o = decide (o.r = 0 ∧ o.n = 0 ∧ o.num = 0)) := rfl
  obtain ⟨kind, r, n, num, text, spans, seq⟩ := o
  unfold ov
  simp only at hk HF HM HN HT HL ⊢
  subst hk
  generalize moreO ⟨2, r, n, num, text, spans, seq⟩ = MO at HF ⊢
  generalize placelessO ⟨2, r, n, num, text, spans, seq⟩ = PL at HF HL
  by_cases hr : r = 0 ∧ n = 0
  · obtain ⟨rfl, rfl⟩ := hr
    have HR := Lib.hid idroot_yes
    by_cases hm : num = 0
    · subst hm
      have HPL : Hid (PL = true) := by show _ = _; rw [HL.out]; rfl
      clear HL
      by_cases h1 : text = []
      · subst h1
        by_cases h2 : seq = 0
        · subst h2
          have HE : Hid (MO = false) := by show _ = _; rw [HF.out]; exact decide_eq_false (by rintro (a | a | a); rw [HPL.out] at a; cases a; exact a rfl; exact a rfl)
          clear HF
          go_enter Tryz.func111, Tryz.ntmps111
          go_wp2_with (first | (go_at_call 89; refine (HM.out _).mono ?_; rintro e w1 ⟨rfl, he⟩; obtain rfl := Eq.symm he) | (go_at_call 118; refine (HR.out _).mono ?_; rintro e w4 ⟨rfl, hb4⟩; obtain ⟨d0, d1, d2, d3, d4, d5, d6⟩ := seven_cells (kept_box (heap_alloc_new w _) hb4)) | (go_at_call 91; refine (HN.out _).mono ?_; rintro e w2 ⟨rfl, he⟩; obtain rfl := Eq.symm he) | (go_at_call 93; refine (HT.out _).mono ?_; rintro e w3 ⟨rfl, he⟩; obtain rfl := Eq.symm he))
          go_ret
          exact ⟨by rw [HE.out]; rfl, below_step (below_alloc (Below.refl _ _) _) hb4⟩
        · have h2' := beq_no h2
          have h2'' := bne_no h2
          have HE : Hid (MO = true) := by show _ = _; rw [HF.out]; exact decide_eq_true (Or.inr (Or.inr h2))
          clear HF
          go_enter Tryz.func111, Tryz.ntmps111
          go_wp2_with (first | (go_at_call 89; refine (HM.out _).mono ?_; rintro e w1 ⟨rfl, he⟩; obtain rfl := Eq.symm he) | (go_at_call 118; refine (HR.out _).mono ?_; rintro e w4 ⟨rfl, hb4⟩; obtain ⟨d0, d1, d2, d3, d4, d5, d6⟩ := seven_cells (kept_box (heap_alloc_new w _) hb4)) | (go_at_call 91; refine (HN.out _).mono ?_; rintro e w2 ⟨rfl, he⟩; obtain rfl := Eq.symm he) | (go_at_call 93; refine (HT.out _).mono ?_; rintro e w3 ⟨rfl, he⟩; obtain rfl := Eq.symm he))
          go_ret
          exact ⟨by rw [HE.out]; rfl, below_step (below_alloc (Below.refl _ _) _) hb4⟩
      · obtain ⟨h3a, h3b, h3c, h3d⟩ := text_no h1
        have h3e := bytes_bne h3a
        have h3f := bytes_bne h3b
        generalize (⟨text.toArray⟩ : ByteArray) = bt at h3a h3b h3c h3d h3e h3f ⊢
        have HE : Hid (MO = true) := by show _ = _; rw [HF.out]; exact decide_eq_true (Or.inr (Or.inl h1))
        clear HF
        go_enter Tryz.func111, Tryz.ntmps111
        go_wp2_with (first | (go_at_call 89; refine (HM.out _).mono ?_; rintro e w1 ⟨rfl, he⟩; obtain rfl := Eq.symm he) | (go_at_call 118; refine (HR.out _).mono ?_; rintro e w4 ⟨rfl, hb4⟩; obtain ⟨d0, d1, d2, d3, d4, d5, d6⟩ := seven_cells (kept_box (heap_alloc_new w _) hb4)))
        go_ret
        exact ⟨by rw [HE.out]; rfl, below_step (below_alloc (Below.refl _ _) _) hb4⟩
    · have hm' := beq_no hm
      have hm'' := bne_no hm
      have HPL : Hid (PL = false) := by show _ = _; rw [HL.out]; exact decide_eq_false fun h => hm h.2.2
      clear HL
      generalize (⟨text.toArray⟩ : ByteArray) = bt
      have HE : Hid (MO = true) := by show _ = _; rw [HF.out]; exact decide_eq_true (Or.inl HPL.out)
      clear HF
      go_enter Tryz.func111, Tryz.ntmps111
      go_wp2_with (first | (go_at_call 89; refine (HM.out _).mono ?_; rintro e w1 ⟨rfl, he⟩; obtain rfl := Eq.symm he) | (go_at_call 118; refine (HR.out _).mono ?_; rintro e w4 ⟨rfl, hb4⟩; obtain ⟨d0, d1, d2, d3, d4, d5, d6⟩ := seven_cells (kept_box (heap_alloc_new w _) hb4)))
      go_ret
      exact ⟨by rw [HE.out]; rfl, below_step (below_alloc (Below.refl _ _) _) hb4⟩
  · have HR := Lib.hid (idroot_no r n hr)
    have HPL : Hid (PL = false) := by show _ = _; rw [HL.out]; exact decide_eq_false fun h => hr ⟨h.1, h.2.1⟩
    clear HL
    generalize (⟨text.toArray⟩ : ByteArray) = bt
    have HE : Hid (MO = true) := by show _ = _; rw [HF.out]; exact decide_eq_true (Or.inl HPL.out)
    clear HF
    go_enter Tryz.func111, Tryz.ntmps111
    go_wp2_with (first | (go_at_call 89; refine (HM.out _).mono ?_; rintro e w1 ⟨rfl, he⟩; obtain rfl := Eq.symm he) | (go_at_call 118; refine (HR.out _).mono ?_; rintro e w4 ⟨rfl, hb4⟩; obtain ⟨d0, d1, d2, d3, d4, d5, d6⟩ := seven_cells (kept_box (heap_alloc_new w _) hb4)))
    go_ret
    exact ⟨by rw [HE.out]; rfl, below_step (below_alloc (Below.refl _ _) _) hb4⟩
set_option maxHeartbeats 3200000 in
theorem more4 (o : Om) (p : Option Addr) (c : Nat) (w : World) (k1 : ¬ o.kind = 1) (k2 : ¬ o.kind = 2) (k3 : ¬ o.kind = 3) : Calls Tryz.prog 111 #[ov o p c] w fun e w' => e = .returned (.bool (moreO o)) ∧ Below w.heap.size w w' := by
  have HF : Hid (moreO o = decide (placelessO o = false ∨ o.text ≠ [] ∨ 0 < o.spans.length)) := by show _ = _; unfold moreO; rw [if_neg k1, if_neg k2, if_neg k3]
  have HM := Lib.hid (makes_no o.kind k1 k3)
  have HN := Lib.hid (names_no o.kind k2 k3)
  have HT := Lib.hid (turns_yes o.kind k1 k2 k3)
  have HL : Hid (placelessO o = decide (o.r = 0 ∧ o.n = 0 ∧ o.num = 0)) := rfl
  obtain ⟨kind, r, n, num, text, spans, seq⟩ := o
  unfold ov
  simp only at k1 k2 k3 HF HM HN HT HL ⊢
  have k1a := beq_no k1
  have k1b := bne_no k1
  generalize moreO ⟨kind, r, n, num, text, spans, seq⟩ = MO at HF ⊢
  generalize placelessO ⟨kind, r, n, num, text, spans, seq⟩ = PL at HF HL
  by_cases hr : r = 0 ∧ n = 0
  · obtain ⟨rfl, rfl⟩ := hr
    have HR := Lib.hid idroot_yes
    by_cases hm : num = 0
    · subst hm
      have HPL : Hid (PL = true) := by show _ = _; rw [HL.out]; rfl
      clear HL
      by_cases h1 : text = []
      · subst h1
        by_cases h2 : 0 < spans.length
        · have h2' : (0 : Int) < (spans.length : Int) := by omega
          have HE : Hid (MO = true) := by show _ = _; rw [HF.out]; exact decide_eq_true (Or.inr (Or.inr h2))
          clear HF
          go_enter Tryz.func111, Tryz.ntmps111
          go_wp2_with (first | (go_at_call 89; refine (HM.out _).mono ?_; rintro e w1 ⟨rfl, he⟩; obtain rfl := Eq.symm he) | (go_at_call 118; refine (HR.out _).mono ?_; rintro e w4 ⟨rfl, hb4⟩; obtain ⟨d0, d1, d2, d3, d4, d5, d6⟩ := seven_cells (kept_box (heap_alloc_new w _) hb4)) | (go_at_call 91; refine (HN.out _).mono ?_; rintro e w2 ⟨rfl, he⟩; obtain rfl := Eq.symm he) | (go_at_call 93; refine (HT.out _).mono ?_; rintro e w3 ⟨rfl, he⟩; obtain rfl := Eq.symm he))
          go_ret
          exact ⟨by rw [HE.out]; rfl, below_step (below_alloc (Below.refl _ _) _) hb4⟩
        · have h2' : ¬ (0 : Int) < (spans.length : Int) := by omega
          have HE : Hid (MO = false) := by show _ = _; rw [HF.out]; exact decide_eq_false (by rintro (a | a | a); rw [HPL.out] at a; cases a; exact a rfl; exact h2 a)
          clear HF
          go_enter Tryz.func111, Tryz.ntmps111
          go_wp2_with (first | (go_at_call 89; refine (HM.out _).mono ?_; rintro e w1 ⟨rfl, he⟩; obtain rfl := Eq.symm he) | (go_at_call 118; refine (HR.out _).mono ?_; rintro e w4 ⟨rfl, hb4⟩; obtain ⟨d0, d1, d2, d3, d4, d5, d6⟩ := seven_cells (kept_box (heap_alloc_new w _) hb4)) | (go_at_call 91; refine (HN.out _).mono ?_; rintro e w2 ⟨rfl, he⟩; obtain rfl := Eq.symm he) | (go_at_call 93; refine (HT.out _).mono ?_; rintro e w3 ⟨rfl, he⟩; obtain rfl := Eq.symm he))
          go_ret
          exact ⟨by rw [HE.out]; rfl, below_step (below_alloc (Below.refl _ _) _) hb4⟩
      · obtain ⟨h3a, h3b, h3c, h3d⟩ := text_no h1
        have h3e := bytes_bne h3a
        have h3f := bytes_bne h3b
        generalize (⟨text.toArray⟩ : ByteArray) = bt at h3a h3b h3c h3d h3e h3f ⊢
        have HE : Hid (MO = true) := by show _ = _; rw [HF.out]; exact decide_eq_true (Or.inr (Or.inl h1))
        clear HF
        go_enter Tryz.func111, Tryz.ntmps111
        go_wp2_with (first | (go_at_call 89; refine (HM.out _).mono ?_; rintro e w1 ⟨rfl, he⟩; obtain rfl := Eq.symm he) | (go_at_call 118; refine (HR.out _).mono ?_; rintro e w4 ⟨rfl, hb4⟩; obtain ⟨d0, d1, d2, d3, d4, d5, d6⟩ := seven_cells (kept_box (heap_alloc_new w _) hb4)))
        go_ret
        exact ⟨by rw [HE.out]; rfl, below_step (below_alloc (Below.refl _ _) _) hb4⟩
    · have hm' := beq_no hm
      have hm'' := bne_no hm
      have HPL : Hid (PL = false) := by show _ = _; rw [HL.out]; exact decide_eq_false fun h => hm h.2.2
      clear HL
      generalize (⟨text.toArray⟩ : ByteArray) = bt
      have HE : Hid (MO = true) := by show _ = _; rw [HF.out]; exact decide_eq_true (Or.inl HPL.out)
      clear HF
      go_enter Tryz.func111, Tryz.ntmps111
      go_wp2_with (first | (go_at_call 89; refine (HM.out _).mono ?_; rintro e w1 ⟨rfl, he⟩; obtain rfl := Eq.symm he) | (go_at_call 118; refine (HR.out _).mono ?_; rintro e w4 ⟨rfl, hb4⟩; obtain ⟨d0, d1, d2, d3, d4, d5, d6⟩ := seven_cells (kept_box (heap_alloc_new w _) hb4)))
      go_ret
      exact ⟨by rw [HE.out]; rfl, below_step (below_alloc (Below.refl _ _) _) hb4⟩
  · have HR := Lib.hid (idroot_no r n hr)
    have HPL : Hid (PL = false) := by show _ = _; rw [HL.out]; exact decide_eq_false fun h => hr ⟨h.1, h.2.1⟩
    clear HL
    generalize (⟨text.toArray⟩ : ByteArray) = bt
    have HE : Hid (MO = true) := by show _ = _; rw [HF.out]; exact decide_eq_true (Or.inl HPL.out)
    clear HF
    go_enter Tryz.func111, Tryz.ntmps111
    go_wp2_with (first | (go_at_call 89; refine (HM.out _).mono ?_; rintro e w1 ⟨rfl, he⟩; obtain rfl := Eq.symm he) | (go_at_call 118; refine (HR.out _).mono ?_; rintro e w4 ⟨rfl, hb4⟩; obtain ⟨d0, d1, d2, d3, d4, d5, d6⟩ := seven_cells (kept_box (heap_alloc_new w _) hb4)))
    go_ret
    exact ⟨by rw [HE.out]; rfl, below_step (below_alloc (Below.refl _ _) _) hb4⟩
theorem more_any (o : Om) (p : Option Addr) (c : Nat) (w : World) : Calls Tryz.prog 111 #[ov o p c] w fun e w' => e = .returned (.bool (moreO o)) ∧ Below w.heap.size w w' := by
  by_cases k1 : o.kind = 1
  · exact more1 o p c w k1
  · by_cases k2 : o.kind = 2
    · exact more2 o p c w k2
    · by_cases k3 : o.kind = 3
      · exact more3 o p c w k3
      · exact more4 o p c w k1 k2 k3
end Go.Proofs.YtceanfpcddcfoaaGreat
