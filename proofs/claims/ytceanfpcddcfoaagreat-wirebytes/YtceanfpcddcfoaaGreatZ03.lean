/-
  Several texts of one proof, joined: each part says at its head what it proves. No conditions beyond what each theorem states.
-/
import Derived.Test.YtceanfpcddcfoaaGreatZ02
/-
  What the reader's take, number and Done do, for every reader that lies in memory. No conditions beyond what each theorem states.
-/
namespace Go.Proofs.YtceanfpcddcfoaaGreat
open Go.ChangeShapes Go.WideShapes Go.ChangeAt Go.RowKit Go.Lib
set_option linter.unusedVariables false
set_option linter.unusedSimpArgs false

theorem brow_sub {w : World} {D q s : Nat} {bs : List UInt8} (h : BRow w (some ⟨D, 0, none⟩) bs) (hq : q + s ≤ bs.length) : BRow w (some ⟨D, q, none⟩) ((bs.drop q).take s) := fun i hi => by
  rw [List.length_take, List.length_drop] at hi
  obtain ⟨b, o, e, hc⟩ := h (q + i) (by omega)
  cases e
  exact ⟨D, q, rfl, by rw [atB_take (by omega), atB_drop]; simpa using hc⟩

set_option maxHeartbeats 1600000 in
theorem take_any {K D : Nat} {bs : List UInt8} {q e : Nat} (s : Nat) (w : World) (hR : Rd K D bs q e w) (hs : q + s ≤ bs.length) :
    Calls Tryz.prog 101 #[.pointer (some ⟨K, 0, none⟩), .int .i64 (s : Int)] w fun r w' => ∃ o, r = .returned (.slice (some ⟨D, o, none⟩) s (bs.length - q)) ∧ BRow w' (some ⟨D, o, none⟩) ((bs.drop q).take s) ∧ Rd K D bs (q + s) e w' ∧ Only K w w' := by
  have c0 := hR.cell0
  have c1 := hR.cell1
  have f1 := hR.frozen 1
  have hl := hR.less
  have HR := Lib.hid hR
  clear hR
  have h1 : (q : Int) ≤ (q : Int) + (s : Int) := by omega
  have h2 : (q : Int) + (s : Int) ≤ (bs.length : Int) := by omega
  have h3 : ((q : Int) + (s : Int)).toNat = q + s := by omega
  have h4 : q + s - q = s := by omega
  have HB : Hid (Rd K D bs (q + s) e (w.setCell ⟨K, 1, none⟩ (.int .i64 ((q : Int) + (s : Int))))) := HR.out.set1 (q' := q + s) hs
  have HO : Hid (Only K w (w.setCell ⟨K, 1, none⟩ (.int .i64 ((q : Int) + (s : Int))))) := Kept.set (S := fun k => k = K) (Kept.refl _ _) rfl _
  have d0 := HB.out.cell0
  have d1 := HB.out.cell1
  rw [show ((q + s : Nat) : Int) = (q : Int) + (s : Int) from rfl] at d1
  by_cases hq : bs.length = q
  · have h0 : s = 0 := by omega
    subst h0
    go_enter Tryz.func101, Tryz.ntmps101
    go_wp2_with fail
    go_quiet (fail)
    go_wp2
    go_ret
    exact ⟨0, by rw [hq, Nat.sub_self]; rfl, by rw [List.take_zero]; exact BRow.nil _ _, (HR.out.set1 (q' := q) (by omega)).below (below_drewN (Below.refl _ _) _), Only.step (Kept.set (S := fun k => k = K) (Kept.refl _ _) rfl _) (Kept.ofBelow (below_drewN (Below.refl _ _) _))⟩
  · go_enter Tryz.func101, Tryz.ntmps101
    go_wp2_with fail
    go_quiet (fail)
    go_wp2
    go_ret
    have HB3 := HB.out.below (below_drewN (Below.refl _ _) nq)
    exact ⟨q, rfl, brow_sub HB3.brow hs, HB3, Only.step HO.out (Kept.ofBelow (below_drewN (Below.refl _ _) _))⟩

theorem pow_less {y k N : Nat} (hk : k ≤ 8) (hN : N < 128 ^ k) : N + y % 128 * 128 ^ k < 9223372036854775808 ∧ N + y % 128 * 128 ^ k < 128 ^ (k + 1) := by
  have h1 : y % 128 * 128 ^ k ≤ 127 * 128 ^ k := Nat.mul_le_mul_right _ (by omega)
  have h2 : 128 ^ (k + 1) = 128 ^ k * 128 := Nat.pow_succ ..
  have h3 : 128 ^ (k + 1) ≤ 128 ^ 9 := Nat.pow_le_pow_right (by omega) (by omega)
  have h4 : 128 ^ 9 = 9223372036854775808 := by decide
  generalize y % 128 * 128 ^ k = T at h1 ⊢
  generalize 128 ^ (k + 1) = Q at h2 h3 ⊢
  generalize 128 ^ k = P at h1 h2 hN
  omega

set_option maxHeartbeats 3200000 in
theorem number_any {K D : Nat} {bs : List UInt8} {q e : Nat} (limit : Nat) (hlim : limit < 18446744073709551616) (w : World) (hR : Rd K D bs q e w) :
    Calls Tryz.prog 99 #[.pointer (some ⟨K, 0, none⟩), .int .u64 (limit : Int)] w fun r w' => r = .returned (.tuple #[.int .u64 ((readN (bs.drop q) limit).1 : Int), .int .i64 ((readN (bs.drop q) limit).2.1 : Int), .int .i64 ((readN (bs.drop q) limit).2.2 : Int)]) ∧ Below w.heap.size w w' := by
  have c0 := hR.cell0
  have c1 := hR.cell1
  have hl := hR.less
  have hf := hR.fits
  have HB := Lib.hid hR.brow
  clear hR
  obtain ⟨rs, hrs⟩ : ∃ rs, rs = bs.drop q := ⟨_, rfl⟩
  have hm : rs.length = bs.length - q := by rw [hrs, List.length_drop]
  rw [← hrs]
  have HRS := Lib.hid hrs
  clear hrs
  have HREAD : Hid (readN rs limit = scanN limit 9 rs 0 0) := rfl
  generalize readN rs limit = R at HREAD ⊢
  have h0 : (0 : Int) ≤ (q : Int) := by omega
  have h1 : (q : Int) ≤ (bs.length : Int) := by omega
  go_enter Tryz.func99, Tryz.ntmps99
  go_wp2_with fail
  refine wp_scope_loop 0 (fun a' w' => ∃ (p : Option Addr) (m k N : Nat) (c8 c9 c10 c11 c12 c13 c14 c15 c16 c17 c18 c19 c20 c21 c22 c23 c24 c25 c26 c27 c28 c29 c30 c31 c32 c33 c34 c35 c36 c37 c38 c39 c40 c41 c42 c43 c44 c45 c46 c47 c48 c49 c50 : Value), a' = { tmps := #[.pointer (some ⟨K, 0, none⟩), .int .u64 (limit : Int), undef, undef, .int .u64 (N : Int), .int .i64 (k : Int), .int .i64 0, .slice p m m, c8, c9, c10, c11, c12, c13, c14, c15, c16, c17, c18, c19, c20, c21, c22, c23, c24, c25, c26, c27, c28, c29, c30, c31, c32, c33, c34, c35, c36, c37, c38, c39, c40, c41, c42, c43, c44, c45, c46, c47, c48, c49, c50], defers := [] } ∧ m = rs.length ∧ k ≤ 9 ∧ k ≤ rs.length ∧ N < 128 ^ k ∧ R = scanN limit (9 - k) (rs.drop k) k N ∧ BRow w' p rs ∧ Below w.heap.size w w') (fun a' _ => 9 - natOf (a'.tmps.getD 5 undef)) rfl ?_ ?_
  · intro hpass
    have HP := Lib.hid hpass
    clear hpass
    by_cases hq : bs.length = q
    · go_wp2_with fail
      go_quiet (fail)
      go_wp2_with fail
      go_step3
      rename_i KK hKK
      have hz : rs.length = 0 := by omega
      exact hKK _ _ (HP.out _ _ ⟨some ⟨D, 0, none⟩, 0, 0, 0, _, _, _, _, _, _, _, _, _, _, _, _, _, _, _, _, _, _, _, _, _, _, _, _, _, _, _, _, _, _, _, _, _, _, _, _, _, _, _, _, _, _, _, rfl, hz.symm, by omega, by omega, by simp, by simpa using HREAD.out, (by rw [List.eq_nil_of_length_eq_zero hz]; exact BRow.nil _ _), below_drewN (Below.refl _ _) _⟩)
    · go_wp2_with fail
      go_quiet (fail)
      go_wp2_with fail
      go_step3
      rename_i KK hKK
      exact hKK _ _ (HP.out _ _ ⟨some ⟨D, q, none⟩, bs.length - q, 0, 0, _, _, _, _, _, _, _, _, _, _, _, _, _, _, _, _, _, _, _, _, _, _, _, _, _, _, _, _, _, _, _, _, _, _, _, _, _, _, _, _, _, _, _, rfl, hm.symm, by omega, by omega, by simp, by simpa using HREAD.out, (by
        have hb := brow_sub (q := q) (s := bs.length - q) HB.out (by omega)
        rw [List.take_of_length_le (by rw [List.length_drop]; exact Nat.le_refl _), ← HRS.out] at hb
        exact hb.below (below_drewN (Below.refl _ _) _)), below_drewN (Below.refl _ _) _⟩)
  · rintro a' w' ⟨p, m, k, N, c8, c9, c10, c11, c12, c13, c14, c15, c16, c17, c18, c19, c20, c21, c22, c23, c24, c25, c26, c27, c28, c29, c30, c31, c32, c33, c34, c35, c36, c37, c38, c39, c40, c41, c42, c43, c44, c45, c46, c47, c48, c49, c50, rfl, hmr, hk9, hkm, hN, hR, hrow, hb⟩
    have HR := Lib.hid hR
    have HRow := Lib.hid hrow
    have HBl := Lib.hid hb
    have HN := Lib.hid hN
    clear hR hrow hb hN hm c0 c1 HB HRS HREAD h0 h1
    by_cases h9 : k = 9
    · subst h9
      have : R = (0, 0, 11) := by rw [HR.out]; rfl
      subst this
      go_wp2_with fail
      simp only [Exit.jump]
      go_ret3
      exact ⟨rfl, HBl.out⟩
    · have h9' : ((k : Int) == 9) = false := by simp; omega
      by_cases hkl : k = m
      · subst hkl
        have hE : R = (0, 0, 14) := by rw [HR.out, List.drop_of_length_le (by omega), show 9 - k = (8 - k) + 1 by omega]; rfl
        subst hE
        go_wp2_with fail
        simp only [Exit.jump]
        go_ret3
        exact ⟨rfl, HBl.out⟩
      · have hkl' : ((k : Int) == (m : Int)) = false := by simp; omega
        have hkl2 : (k : Int) < (m : Int) := by omega
        obtain ⟨b, o, rfl, hc⟩ := HRow.out k (by omega)
        have hy : (rs.getD k 0).toNat < 256 := (rs.getD k 0).toNat_lt
        have hS : R = (if 128 ≤ (rs.getD k 0).toNat then scanN limit (8 - k) (rs.drop (k + 1)) (k + 1) (N + (rs.getD k 0).toNat % 128 * 128 ^ k)
            else if (rs.getD k 0).toNat = 0 ∧ 0 < k then (0, 0, 11) else if limit < N + (rs.getD k 0).toNat % 128 * 128 ^ k then (0, 0, 10) else (N + (rs.getD k 0).toNat % 128 * 128 ^ k, k + 1, 0)) := by
          rw [HR.out, drop_atB (by omega), show 9 - k = (8 - k) + 1 by omega, scanN]
        rw [show atB rs k = (((rs.getD k 0).toNat : Nat) : Int) from rfl] at hc
        generalize (rs.getD k 0).toNat = y at hc hy hS
        have hT := pow_less (y := y) (by omega : k ≤ 8) HN.out
        obtain ⟨T, hTe⟩ : ∃ T, T = y % 128 * 128 ^ k := ⟨_, rfl⟩
        rw [← hTe] at hS hT
        have hw1 : IntKind.u64.wrap ((y : Int) % 128 * 2 ^ (7 * k)) = (T : Int) := by
          have e : (y : Int) % 128 * 2 ^ (7 * k) = (T : Int) := by rw [hTe, Nat.pow_mul 2 7 k |> fun h => (show (2 : Int) ^ (7 * k) = ((128 ^ k : Nat) : Int) by rw [Int.pow_mul]; simp)]; simp
          rw [e, IntKind.wrap_u64]; omega
        have hw2 : IntKind.u64.wrap ((N : Int) + (T : Int)) = ((N + T : Nat) : Int) := by rw [IntKind.wrap_u64]; omega
        have HS := Lib.hid hS
        have HT := Lib.hid hTe
        clear hS hTe HR
        by_cases h128 : 128 ≤ y
        · have h128' : (128 : Int) ≤ (y : Int) := by omega
          have HX : Hid (R = scanN limit (9 - (k + 1)) (rs.drop (k + 1)) (k + 1) (N + T)) := by rw [HS.out, if_pos h128, show 9 - (k + 1) = 8 - k by omega]; rfl
          go_wp2_with fail
          go_step3
          exact ⟨rfl, ⟨some ⟨b, o, none⟩, _, k + 1, N + T, _, _, _, _, _, _, _, _, _, _, _, _, _, _, _, _, _, _, _, _, _, _, _, _, _, _, _, _, _, _, _, _, _, _, _, _, _, _, _, _, _, _, _, rfl, rfl, by omega, by omega, hT.2, HX.out, HRow.out, HBl.out⟩, by simp [natOf]; omega⟩
        · have h128' : ¬ (128 : Int) ≤ (y : Int) := by omega
          rw [if_neg h128] at HS
          by_cases hy0 : y = 0
          · by_cases hk0 : k = 0
            · subst hy0
              have hN0 : N = 0 := by have := HN.out; rw [hk0] at this; simpa using this
              have hT0 : T = 0 := by have := HT.out; simpa using this
              have hE : R = (N, k + 1, 0) := by rw [HS.out, if_neg (by omega), if_neg (by omega), hT0]; rfl
              have hw0 : IntKind.u64.wrap 0 = 0 := rfl
              have hwn : IntKind.u64.wrap (N : Int) = N := by rw [hN0]; rfl
              have hk1 : ¬ (1 : Int) < (k : Int) + 1 := by omega
              have hL' : ¬ (limit : Int) < (N : Int) := by omega
              subst hE
              clear HS HT hw1 hw2 hN0 hT0 hk0
              go_wp2_with fail
              simp only [Exit.jump]
              go_ret3
              exact ⟨rfl, HBl.out⟩
            · subst hy0
              have hE : R = (0, 0, 11) := by rw [HS.out, if_pos ⟨rfl, by omega⟩]
              have hk1 : (1 : Int) < (k : Int) + 1 := by omega
              subst hE
              clear HS HT
              go_wp2_with fail
              simp only [Exit.jump]
              go_ret3
              exact ⟨rfl, HBl.out⟩
          · have hy0' : ((y : Int) == 0) = false := by simp; omega
            rw [if_neg (fun h => hy0 h.1)] at HS
            by_cases hL : limit < N + T
            · have hE : R = (0, 0, 10) := by rw [HS.out, if_pos hL]
              have hL' : (limit : Int) < (N : Int) + (T : Int) := by omega
              subst hE
              clear HS HT
              go_wp2_with fail
              simp only [Exit.jump]
              go_ret3
              exact ⟨rfl, HBl.out⟩
            · have hE : R = (N + T, k + 1, 0) := by rw [HS.out, if_neg hL]
              have hL' : ¬ (limit : Int) < (N : Int) + (T : Int) := by omega
              subst hE
              clear HS HT
              go_wp2_with fail
              simp only [Exit.jump]
              go_ret3
              exact ⟨rfl, HBl.out⟩

end Go.Proofs.YtceanfpcddcfoaaGreat
/-
  What the reader's Byte, Num, Text and Done hand back, for every reader that lies in memory. No conditions beyond what each theorem states.
-/
namespace Go.Proofs.YtceanfpcddcfoaaGreat
open Go.ChangeShapes Go.WideShapes Go.ChangeAt Go.RowKit Go.Lib
set_option linter.unusedVariables false
set_option linter.unusedSimpArgs false

/-- What is read, how many bytes were read then, and the error. -/
def rdB (bs : List UInt8) (q e : Nat) : Nat × Nat × Nat := if e = 0 then (if q < bs.length then ((bs.getD q 0).toNat, q + 1, 0) else (0, q, 14)) else (0, q, e)
def rdN (bs : List UInt8) (q e limit : Nat) : Nat × Nat × Nat := if e = 0 then ((readN (bs.drop q) limit).1, q + (readN (bs.drop q) limit).2.1, (readN (bs.drop q) limit).2.2) else (0, q, e)
def rdT (bs : List UInt8) (q e limit : Nat) : List UInt8 × Nat × Nat := if e = 0 then ((readT (bs.drop q) limit).1, q + (readT (bs.drop q) limit).2.1, (readT (bs.drop q) limit).2.2) else ([], q, e)

set_option maxHeartbeats 800000 in
theorem done_any {K D : Nat} {bs : List UInt8} {q e : Nat} (w : World) (hR : Rd K D bs q e w) :
    Calls Tryz.prog 43 #[.pointer (some ⟨K, 0, none⟩)] w fun r w' => r = .returned (.int .i64 ((if e = 0 then (if q < bs.length then 15 else 0) else e : Nat) : Int)) ∧ Below w.heap.size w w' := by
  have c2 := hR.cell2
  have HR := Lib.hid hR
  have H := left_any w hR
  obtain ⟨m, hm⟩ : ∃ m, m = bs.length - q := ⟨_, rfl⟩
  rw [← hm] at H
  have H := Lib.hid H
  clear hR
  by_cases he : e = 0
  · subst he
    rw [if_pos rfl]
    by_cases hq : q < bs.length
    · have hm0 : (0 : Int) < (m : Int) := by omega
      rw [if_pos hq]
      clear hm hq
      go_enter Tryz.func43, Tryz.ntmps43
      go_wp2_with fail
      refine H.out.mono ?_
      rintro r w1 ⟨rfl, hb⟩
      have HB := Lib.hid hb
      clear hb
      go_wp2
      go_ret
      exact ⟨rfl, HB.out⟩
    · have hm0 : ¬ (0 : Int) < (m : Int) := by omega
      rw [if_neg hq]
      clear hm hq
      go_enter Tryz.func43, Tryz.ntmps43
      go_wp2_with fail
      refine H.out.mono ?_
      rintro r w1 ⟨rfl, hb⟩
      have c3 := (HR.out.below hb).cell2
      have HB := Lib.hid hb
      clear hb
      go_wp2
      go_ret
      exact ⟨rfl, HB.out⟩
  · rw [if_neg he]
    have he' : ((e : Int) == 0) = false := by simp; omega
    clear hm
    go_enter Tryz.func43, Tryz.ntmps43
    go_wp2
    go_ret
    exact ⟨rfl, Below.refl _ _⟩

set_option maxHeartbeats 1600000 in
theorem rnum_any {K D : Nat} {bs : List UInt8} {q e : Nat} (limit : Nat) (hlim : limit < 18446744073709551616) (w : World) (hR : Rd K D bs q e w) :
    Calls Tryz.prog 73 #[.pointer (some ⟨K, 0, none⟩), .int .u64 (limit : Int)] w fun r w' => r = .returned (.int .u64 ((rdN bs q e limit).1 : Int)) ∧ Rd K D bs (rdN bs q e limit).2.1 (rdN bs q e limit).2.2 w' ∧ Only K w w' := by
  have HR := Lib.hid hR
  have hfit := hR.fits
  have H := number_any limit hlim w hR
  have hF := read_fair (bs.drop q) limit
  rw [List.length_drop] at hF
  unfold rdN
  generalize readN (bs.drop q) limit = R at H hF ⊢
  obtain ⟨n, s, f⟩ := R
  simp only at H hF ⊢
  have H := Lib.hid H
  have HF := Lib.hid hF
  clear hR hF
  by_cases he : e = 0
  · subst he
    rw [if_pos rfl]
    by_cases hf : f = 0
    · subst hf
      have hs : q + s ≤ bs.length := by
        rcases HF.out with ⟨_, _, h, _⟩ | ⟨_, _, h⟩
        · simp only at h; omega
        · simp at h
      have HS := Lib.hid hs
      clear hs hfit HF
      go_enter Tryz.func73, Tryz.ntmps73
      go_wp2_with fail
      refine H.out.mono ?_
      rintro r w1 ⟨rfl, hb⟩
      have HR1 := Lib.hid (HR.out.below hb)
      have HB := Lib.hid hb
      clear hb
      go_wp2_with fail
      refine (fail_any 0 w1 HR1.out).mono ?_
      rintro r w2 ⟨rfl, hR2, hO⟩
      rw [if_pos rfl] at hR2
      have HR2 := Lib.hid hR2
      have HO2 : Hid (Only K w w2) := Only.step (Kept.ofBelow HB.out) hO
      have c2 := HR2.out.cell2
      clear hR2 hO
      go_wp2_with fail
      refine (take_any s w2 HR2.out HS.out).mono ?_
      rintro r w3 ⟨o, rfl, hrow, hR3, hO⟩
      have HR3 := Lib.hid hR3
      have HO3 : Hid (Only K w w3) := Only.step HO2.out hO
      clear hrow hR3 hO
      go_wp2
      go_ret
      exact ⟨rfl, HR3.out, HO3.out⟩
    · have hz : n = 0 ∧ s = 0 := by
        rcases HF.out with ⟨h, _⟩ | ⟨h1, h2, _⟩
        · exact absurd h hf
        · exact ⟨h1, h2⟩
      obtain ⟨rfl, rfl⟩ := hz
      have hf' : ((f : Int) == 0) = false := by simp; omega
      clear hfit HF
      go_enter Tryz.func73, Tryz.ntmps73
      go_wp2_with fail
      refine H.out.mono ?_
      rintro r w1 ⟨rfl, hb⟩
      have HR1 := Lib.hid (HR.out.below hb)
      have HB := Lib.hid hb
      clear hb
      go_wp2_with fail
      refine (fail_any f w1 HR1.out).mono ?_
      rintro r w2 ⟨rfl, hR2, hO⟩
      rw [if_pos rfl] at hR2
      have HR2 := Lib.hid hR2
      have HO2 : Hid (Only K w w2) := Only.step (Kept.ofBelow HB.out) hO
      have c2 := HR2.out.cell2
      clear hR2 hO
      go_wp2
      go_ret
      exact ⟨rfl, HR2.out, HO2.out⟩
  · rw [if_neg he]
    have he' : ((e : Int) == 0) = false := by simp; omega
    have HE := Lib.hid he
    clear hfit HF he
    go_enter Tryz.func73, Tryz.ntmps73
    go_wp2_with fail
    refine H.out.mono ?_
    rintro r w1 ⟨rfl, hb⟩
    have HR1 := Lib.hid (HR.out.below hb)
    have HB := Lib.hid hb
    clear hb
    go_wp2_with fail
    refine (fail_any f w1 HR1.out).mono ?_
    rintro r w2 ⟨rfl, hR2, hO⟩
    rw [if_neg HE.out] at hR2
    have HR2 := Lib.hid hR2
    have HO2 : Hid (Only K w w2) := Only.step (Kept.ofBelow HB.out) hO
    have c2 := HR2.out.cell2
    clear hR2 hO
    go_wp2
    go_ret
    exact ⟨rfl, HR2.out, HO2.out⟩

theorem conv_bytes {w : World} {D o n c : Nat} {bs : List UInt8} (h : BRow w (some ⟨D, o, none⟩) bs) (hn : bs.length = n) :
    (convert 42 9 (.slice (some ⟨D, o, none⟩) n c)).run Tryz.prog w = .ok (.string ⟨bs.toArray⟩) w := by
  subst hn
  exact run_convert_bytes_back (P := Tryz.prog) w 42 9 5 ⟨D, o, none⟩ c bs Tryz.underlying42 Tryz.underlying5 Tryz.underlying9 (fun j hj => by
    obtain ⟨b, o', e, hc⟩ := h j hj
    cases e
    rw [Addr.add_lit, hc]
    simp [atB, hj])

set_option maxHeartbeats 3200000 in
theorem rtext_any {K D : Nat} {bs : List UInt8} {q e : Nat} (limit : Int) (h1 : -9223372036854775808 ≤ limit) (h2 : limit < 9223372036854775808) (w : World) (hR : Rd K D bs q e w) :
    Calls Tryz.prog 102 #[.pointer (some ⟨K, 0, none⟩), .int .i64 limit] w fun r w' => r = .returned (.string ⟨(rdT bs q e limit.toNat).1.toArray⟩) ∧ Rd K D bs (rdT bs q e limit.toNat).2.1 (rdT bs q e limit.toNat).2.2 w' ∧ Only K w w' := by
  have HR := Lib.hid hR
  have hfit := hR.fits
  have hless := hR.less
  obtain ⟨L, hL⟩ : ∃ L, L = limit.toNat := ⟨_, rfl⟩
  rw [← hL]
  have hmx : (if limit < 0 then (0 : Int) else limit) = (L : Int) := by split <;> omega
  have hLb : L < 9223372036854775808 := by omega
  have H := number_any L (by omega) w hR
  have hF := read_fair (bs.drop q) L
  have HT : Hid (∀ n s f, readN (bs.drop q) L = (n, s, f) → readT (bs.drop q) L = if f ≠ 0 then ([], 0, f) else if (bs.drop q).length - s < n then ([], 0, 14) else (((bs.drop q).drop s).take n, s + n, 0)) := fun n s f h => by
    unfold readT; rw [h]
  unfold rdT
  generalize readN (bs.drop q) L = R at H hF HT
  obtain ⟨n, s, f⟩ := R
  have HT := Lib.hid (HT.out n s f rfl)
  rw [List.length_drop] at hF HT
  simp only at H hF
  rw [HT.out]
  have H := Lib.hid H
  have HF := Lib.hid hF
  clear hR hF HT
  by_cases he : e = 0
  · subst he
    rw [if_pos rfl]
    by_cases hf : f = 0
    · subst hf
      have hs : q + s ≤ bs.length ∧ n ≤ L := by
        rcases HF.out with ⟨_, _, h, h'⟩ | ⟨_, _, h⟩
        · simp only at h h'; omega
        · simp at h
      rw [if_neg (by simp)]
      have HS := Lib.hid hs.1
      obtain ⟨m, hm⟩ : ∃ m, m = bs.length - q := ⟨_, rfl⟩
      have hsm : s ≤ m ∧ m ≤ 1000000 := by have := hs.1; omega
      have hnL : n < 9223372036854775808 := by have := hs.2; omega
      rw [← hm]
      have HL : Hid (∀ W, Rd K D bs q 0 W → Calls Tryz.prog 76 #[.pointer (some ⟨K, 0, none⟩)] W fun r w' => r = .returned (.int .i64 (m : Int)) ∧ Below W.heap.size W w') := fun W h => by
        have := left_any W h
        rwa [← hm] at this
      have hw1 : IntKind.i64.wrap ((m : Int) - (s : Int)) = ((m - s : Nat) : Int) := by rw [IntKind.wrap_i64]; omega
      have hw2 : IntKind.u64.wrap ((m : Int) - (s : Int)) = ((m - s : Nat) : Int) := by rw [IntKind.wrap_u64]; omega
      have hw3 : IntKind.u64.wrap ((m - s : Nat) : Int) = ((m - s : Nat) : Int) := by rw [IntKind.wrap_u64]; omega
      have HM := Lib.hid hm
      clear HF hs hm hL h1 h2 hfit hless
      by_cases hshort : m - s < n
      · rw [if_pos hshort]
        have hsh : (((m - s : Nat) : Int)) < (n : Int) := by omega
        have hsh2 : (m : Int) - (s : Int) < (n : Int) := by omega
        clear hshort
        go_enter Tryz.func102, Tryz.ntmps102
        go_wp2_with fail
        refine H.out.mono ?_
        rintro r w1 ⟨rfl, hb⟩
        have HR1 := Lib.hid (HR.out.below hb)
        have HB := Lib.hid hb
        clear hb
        go_wp2_with fail
        refine (fail_any 0 w1 HR1.out).mono ?_
        rintro r w2 ⟨rfl, hR2, hO⟩
        rw [if_pos rfl] at hR2
        have HR2 := Lib.hid hR2
        have HO2 : Hid (Only K w w2) := Only.step (Kept.ofBelow HB.out) hO
        have c2 := HR2.out.cell2
        clear hR2 hO
        go_wp2_with fail
        refine (HL.out w2 HR2.out).mono ?_
        rintro r w3 ⟨rfl, hb⟩
        have HR3 := Lib.hid (HR2.out.below hb)
        have HO3 : Hid (Only K w w3) := Only.step HO2.out (Kept.ofBelow hb)
        clear hb
        go_wp2_with fail
        refine (fail_any 14 w3 HR3.out).mono ?_
        rintro r w4 ⟨rfl, hR4, hO⟩
        rw [if_pos rfl] at hR4
        have HR4 := Lib.hid hR4
        have HO4 : Hid (Only K w w4) := Only.step HO3.out hO
        have c4 := HR4.out.cell2
        clear hR4 hO
        go_wp2
        go_ret
        exact ⟨rfl, HR4.out, HO4.out⟩
      · rw [if_neg hshort]
        have hsh : ¬ (((m - s : Nat) : Int)) < (n : Int) := by omega
        have hsh2 : ¬ (m : Int) - (s : Int) < (n : Int) := by omega
        have HS2 : Hid (q + s + n ≤ bs.length) := by show q + s + n ≤ bs.length; have := HM.out; have := HS.out; omega
        have hw4 : IntKind.i64.wrap (n : Int) = n := by rw [IntKind.wrap_i64]; omega
        clear hshort
        go_enter Tryz.func102, Tryz.ntmps102
        go_wp2_with fail
        refine H.out.mono ?_
        rintro r w1 ⟨rfl, hb⟩
        have HR1 := Lib.hid (HR.out.below hb)
        have HB := Lib.hid hb
        clear hb
        go_wp2_with fail
        refine (fail_any 0 w1 HR1.out).mono ?_
        rintro r w2 ⟨rfl, hR2, hO⟩
        rw [if_pos rfl] at hR2
        have HR2 := Lib.hid hR2
        have HO2 : Hid (Only K w w2) := Only.step (Kept.ofBelow HB.out) hO
        have c2 := HR2.out.cell2
        clear hR2 hO
        go_wp2_with fail
        refine (HL.out w2 HR2.out).mono ?_
        rintro r w3 ⟨rfl, hb⟩
        have HR3 := Lib.hid (HR2.out.below hb)
        have HO3 : Hid (Only K w w3) := Only.step HO2.out (Kept.ofBelow hb)
        have c3 := HR3.out.cell2
        clear hb
        go_wp2_with fail
        refine (take_any s w3 HR3.out HS.out).mono ?_
        rintro r w4 ⟨o, rfl, hrow, hR4, hO⟩
        have HR4 := Lib.hid hR4
        have HO4 : Hid (Only K w w4) := Only.step HO3.out hO
        clear hrow hR4 hO
        go_wp2_with fail
        refine (take_any n w4 HR4.out HS2.out).mono ?_
        rintro r w5 ⟨o5, rfl, hrow, hR5, hO⟩
        have hcv : ∀ c, (convert 42 9 (.slice (some ⟨D, o5, none⟩) n c)).run Tryz.prog w5 = .ok (.string ⟨((bs.drop (q + s)).take n).toArray⟩) w5 := fun c => conv_bytes hrow (by rw [List.length_take, List.length_drop]; have := HS2.out; omega)
        have HX : Hid (((bs.drop q).drop s).take n = (bs.drop (q + s)).take n) := by show _ = _; rw [List.drop_drop]
        generalize (bs.drop (q + s)).take n = T at hcv HX
        have HR5 := Lib.hid hR5
        have HO5 : Hid (Only K w w5) := Only.step HO4.out hO
        clear hrow hR5 hO
        go_wp2
        go_ret
        exact ⟨by rw [HX.out]; rfl, by rw [← Nat.add_assoc]; exact HR5.out, HO5.out⟩
    · rw [if_pos hf]
      have hf' : ((f : Int) == 0) = false := by simp; omega
      clear HF hL h1 h2
      go_enter Tryz.func102, Tryz.ntmps102
      go_wp2_with fail
      refine H.out.mono ?_
      rintro r w1 ⟨rfl, hb⟩
      have HR1 := Lib.hid (HR.out.below hb)
      have HB := Lib.hid hb
      clear hb
      go_wp2_with fail
      refine (fail_any f w1 HR1.out).mono ?_
      rintro r w2 ⟨rfl, hR2, hO⟩
      rw [if_pos rfl] at hR2
      have HR2 := Lib.hid hR2
      have HO2 : Hid (Only K w w2) := Only.step (Kept.ofBelow HB.out) hO
      have c2 := HR2.out.cell2
      clear hR2 hO
      go_wp2
      go_ret
      exact ⟨rfl, HR2.out, HO2.out⟩
  · rw [if_neg he]
    have he' : ((e : Int) == 0) = false := by simp; omega
    have HE := Lib.hid he
    obtain ⟨m, hm⟩ : ∃ m, m = bs.length - q := ⟨_, rfl⟩
    have HL : Hid (∀ W, Rd K D bs q e W → Calls Tryz.prog 76 #[.pointer (some ⟨K, 0, none⟩)] W fun r w' => r = .returned (.int .i64 (m : Int)) ∧ Below W.heap.size W w') := fun W h => by
      have := left_any W h
      rwa [← hm] at this
    by_cases hf : f = 0
    · subst hf
      have hs : q + s ≤ bs.length ∧ n ≤ L := by
        rcases HF.out with ⟨_, _, h, h'⟩ | ⟨_, _, h⟩
        · simp only at h h'; omega
        · simp at h
      have hsm : s ≤ m ∧ m ≤ 1000000 := by have := hs.1; omega
      have hnL : n < 9223372036854775808 := by have := hs.2; omega
      have hw1 : IntKind.i64.wrap ((m : Int) - (s : Int)) = ((m - s : Nat) : Int) := by rw [IntKind.wrap_i64]; omega
      have hw2 : IntKind.u64.wrap ((m : Int) - (s : Int)) = ((m - s : Nat) : Int) := by rw [IntKind.wrap_u64]; omega
      have hw3 : IntKind.u64.wrap ((m - s : Nat) : Int) = ((m - s : Nat) : Int) := by rw [IntKind.wrap_u64]; omega
      clear HF hs hm hL h1 h2 hfit hless
      by_cases hshort : m - s < n
      · have hsh : (((m - s : Nat) : Int)) < (n : Int) := by omega
        have hsh2 : (m : Int) - (s : Int) < (n : Int) := by omega
        clear hshort
        go_enter Tryz.func102, Tryz.ntmps102
        go_wp2_with fail
        refine H.out.mono ?_
        rintro r w1 ⟨rfl, hb⟩
        have HR1 := Lib.hid (HR.out.below hb)
        have HB := Lib.hid hb
        clear hb
        go_wp2_with fail
        refine (fail_any 0 w1 HR1.out).mono ?_
        rintro r w2 ⟨rfl, hR2, hO⟩
        rw [if_neg HE.out] at hR2
        have HR2 := Lib.hid hR2
        have HO2 : Hid (Only K w w2) := Only.step (Kept.ofBelow HB.out) hO
        have c2 := HR2.out.cell2
        clear hR2 hO
        go_wp2_with fail
        refine (HL.out w2 HR2.out).mono ?_
        rintro r w3 ⟨rfl, hb⟩
        have HR3 := Lib.hid (HR2.out.below hb)
        have HO3 : Hid (Only K w w3) := Only.step HO2.out (Kept.ofBelow hb)
        have c3 := HR3.out.cell2
        clear hb
        go_wp2_with fail
        refine (fail_any 14 w3 HR3.out).mono ?_
        rintro r w4 ⟨rfl, hR4, hO⟩
        rw [if_neg HE.out] at hR4
        have HR4 := Lib.hid hR4
        have HO4 : Hid (Only K w w4) := Only.step HO3.out hO
        have c4 := HR4.out.cell2
        clear hR4 hO
        go_wp2
        go_ret
        exact ⟨rfl, HR4.out, HO4.out⟩
      · have hsh : ¬ (((m - s : Nat) : Int)) < (n : Int) := by omega
        have hsh2 : ¬ (m : Int) - (s : Int) < (n : Int) := by omega
        clear hshort
        go_enter Tryz.func102, Tryz.ntmps102
        go_wp2_with fail
        refine H.out.mono ?_
        rintro r w1 ⟨rfl, hb⟩
        have HR1 := Lib.hid (HR.out.below hb)
        have HB := Lib.hid hb
        clear hb
        go_wp2_with fail
        refine (fail_any 0 w1 HR1.out).mono ?_
        rintro r w2 ⟨rfl, hR2, hO⟩
        rw [if_neg HE.out] at hR2
        have HR2 := Lib.hid hR2
        have HO2 : Hid (Only K w w2) := Only.step (Kept.ofBelow HB.out) hO
        have c2 := HR2.out.cell2
        clear hR2 hO
        go_wp2_with fail
        refine (HL.out w2 HR2.out).mono ?_
        rintro r w3 ⟨rfl, hb⟩
        have HR3 := Lib.hid (HR2.out.below hb)
        have HO3 : Hid (Only K w w3) := Only.step HO2.out (Kept.ofBelow hb)
        have c3 := HR3.out.cell2
        clear hb
        go_wp2
        go_ret
        exact ⟨rfl, HR3.out, HO3.out⟩
    · have hf' : ((f : Int) == 0) = false := by simp; omega
      clear HF hm hL h1 h2
      go_enter Tryz.func102, Tryz.ntmps102
      go_wp2_with fail
      refine H.out.mono ?_
      rintro r w1 ⟨rfl, hb⟩
      have HR1 := Lib.hid (HR.out.below hb)
      have HB := Lib.hid hb
      clear hb
      go_wp2_with fail
      refine (fail_any f w1 HR1.out).mono ?_
      rintro r w2 ⟨rfl, hR2, hO⟩
      rw [if_neg HE.out] at hR2
      have HR2 := Lib.hid hR2
      have HO2 : Hid (Only K w w2) := Only.step (Kept.ofBelow HB.out) hO
      have c2 := HR2.out.cell2
      clear hR2 hO
      go_wp2
      go_ret
      exact ⟨rfl, HR2.out, HO2.out⟩

end Go.Proofs.YtceanfpcddcfoaaGreat
/-
  What the document's own ReadNum and ReadText of layer 5 hand back, for all bytes. No conditions beyond what each theorem states.
-/
namespace Go.Proofs.YtceanfpcddcfoaaGreat
open Go.ChangeShapes Go.WideShapes Go.ChangeAt Go.RowKit Go.Lib
set_option linter.unusedVariables false
set_option linter.unusedSimpArgs false

set_option maxHeartbeats 3200000 in
set_option maxRecDepth 20000 in
theorem refreadnum_any (bs : List UInt8) (q limit : Nat) (p : Option Addr) (c : Nat) (hlim : limit < 18446744073709551616) (hq : q ≤ bs.length) (hl : bs.length ≤ 1000000) (w : World) (hR : BRow w p bs) :
    Calls Tryz.prog 80 #[.slice p bs.length c, .int .i64 (q : Int), .int .u64 (limit : Int)] w fun r w' => r = .returned (.tuple #[.int .u64 ((readN (bs.drop q) limit).1 : Int), .int .i64 ((q + (readN (bs.drop q) limit).2.1 : Nat) : Int), .int .i64 ((readN (bs.drop q) limit).2.2 : Int)]) ∧ w' = w := by
  have HRow := Lib.hid hR
  have HREAD : Hid (readN (bs.drop q) limit = scanN limit 9 (bs.drop q) 0 0) := rfl
  generalize readN (bs.drop q) limit = R at HREAD ⊢
  clear hR
  go_enter Tryz.func80, Tryz.ntmps80
  go_wp2
  go_loopg [9, 10, 11] 9 (fun g n u i wr => ∃ k N : Nat, k ≤ 9 ∧ 9 - k ≤ g ∧ i = .int .i64 (k : Int) ∧ n = .int .u64 (N : Int) ∧ u = .int .u64 ((128 ^ k : Nat) : Int) ∧ N < 128 ^ k ∧ R = scanN limit (9 - k) (bs.drop (q + k)) k N ∧ wr = w)
  case atStart => exact ⟨0, 0, by omega, by omega, rfl, rfl, rfl, by simp, by simpa using HREAD.out, rfl⟩
  case round =>
    obtain ⟨k, N, hk9, hg, rfl, rfl, rfl, hN, hR, rfl⟩ := hrel
    have HR := Lib.hid hR
    have HN := Lib.hid hN
    clear hR hN HREAD
    by_cases h9 : k < 9
    · have h9' : (k : Int) < 9 := by omega
      by_cases hin : q + k < bs.length
      · have hin' : (q : Int) + (k : Int) < (bs.length : Int) := by omega
        obtain ⟨b, o, rfl, hc⟩ := HRow.out (q + k) hin
        have hy : (bs.getD (q + k) 0).toNat < 256 := (bs.getD (q + k) 0).toNat_lt
        have hS : R = (if 128 ≤ (bs.getD (q + k) 0).toNat then scanN limit (8 - k) (bs.drop (q + k + 1)) (k + 1) (N + (bs.getD (q + k) 0).toNat % 128 * 128 ^ k)
            else if (bs.getD (q + k) 0).toNat = 0 ∧ 0 < k then (0, 0, 11) else if limit < N + (bs.getD (q + k) 0).toNat % 128 * 128 ^ k then (0, 0, 10) else (N + (bs.getD (q + k) 0).toNat % 128 * 128 ^ k, k + 1, 0)) := by
          rw [HR.out, drop_atB hin, show 9 - k = (8 - k) + 1 by omega, scanN]
        rw [show atB bs (q + k) = (((bs.getD (q + k) 0).toNat : Nat) : Int) from rfl] at hc
        generalize (bs.getD (q + k) 0).toNat = y at hc hy hS
        have hT := pow_less (y := y) (by omega : k ≤ 8) HN.out
        have hP : 128 ^ k ≤ 72057594037927936 := Nat.le_trans (Nat.pow_le_pow_right (by omega) (by omega : k ≤ 8)) (by decide)
        have hP2 : 128 ^ (k + 1) = 128 ^ k * 128 := Nat.pow_succ ..
        obtain ⟨T, hTe⟩ : ∃ T, T = y % 128 * 128 ^ k := ⟨_, rfl⟩
        rw [← hTe] at hS hT
        rw [hP2] at hT
        have HP2 := Lib.hid hP2
        generalize 128 ^ k = P at hTe hP hT HP2
        have hw1 : IntKind.u64.wrap ((y : Int) % 128 * (P : Int)) = (T : Int) := by
          rw [show (y : Int) % 128 * (P : Int) = (T : Int) by rw [hTe]; simp, IntKind.wrap_u64]; omega
        have hw2 : IntKind.u64.wrap ((N : Int) + (T : Int)) = ((N + T : Nat) : Int) := by rw [IntKind.wrap_u64]; omega
        have hw3 : IntKind.u64.wrap (T : Int) = (T : Int) := by rw [IntKind.wrap_u64]; omega
        have hw4 : IntKind.u64.wrap ((P : Int) * 128) = (P : Int) * 128 := by rw [IntKind.wrap_u64]; omega
        have HS := Lib.hid hS
        have HT := Lib.hid hTe
        clear hS hTe HR hP2
        by_cases h128 : 128 ≤ y
        · have h128' : ¬ (y : Int) < 128 := by omega
          have HX : Hid (R = scanN limit (9 - (k + 1)) (bs.drop (q + (k + 1))) (k + 1) (N + T)) := by rw [HS.out, if_pos h128, show 9 - (k + 1) = 8 - k by omega]; rfl
          go_wp2
          go_roundg (9 - (k + 1))
          case measure => omega
          case rel => exact ⟨k + 1, N + T, by omega, Nat.le_refl _, by go_num, by first | rfl | go_num, by rw [HP2.out]; first | rfl | go_num, by rw [HP2.out]; exact hT.2, HX.out, rfl⟩
        · have h128' : (y : Int) < 128 := by omega
          rw [if_neg h128] at HS
          by_cases hy0 : y = 0
          · have hT0 : T = 0 := by have := HT.out; rw [hy0] at this; simpa using this
            by_cases hk0 : k = 0
            · subst hy0
              have hN0 : N = 0 := by have := HN.out; rw [hk0] at this; simpa using this
              have hE : R = (N, k + 1, 0) := by rw [HS.out, if_neg (by omega), if_neg (by omega), hT0]; rfl
              have hw0 : IntKind.u64.wrap 0 = 0 := rfl
              have hwn : IntKind.u64.wrap (N : Int) = N := by rw [hN0]; rfl
              have hk1 : ¬ (0 : Int) < (k : Int) := by omega
              have hL' : ¬ (limit : Int) < (N : Int) := by omega
              have HK := Lib.hid hk0
              subst hE
              clear HS HT hw1 hw2 hN0 hT0 hk0
              go_wp2
              go_ret3
              exact ⟨rfl, rfl⟩
            · subst hy0
              have hE : R = (0, 0, 11) := by rw [HS.out, if_pos ⟨rfl, by omega⟩]
              have hk1 : (0 : Int) < (k : Int) := by omega
              subst hE
              clear HS HT hw1 hw2
              go_wp2
              go_ret3
              exact ⟨rfl, rfl⟩
          · have hy0' : ((y : Int) == 0) = false := by simp; omega
            rw [if_neg (fun h => hy0 h.1)] at HS
            by_cases hL : limit < N + T
            · have hE : R = (0, 0, 10) := by rw [HS.out, if_pos hL]
              have hL' : (limit : Int) < (N : Int) + (T : Int) := by omega
              subst hE
              clear HS HT
              go_wp2
              go_ret3
              exact ⟨rfl, rfl⟩
            · have hE : R = (N + T, k + 1, 0) := by rw [HS.out, if_neg hL]
              have hL' : ¬ (limit : Int) < (N : Int) + (T : Int) := by omega
              subst hE
              clear HS HT
              go_wp2
              go_ret3
              exact ⟨rfl, rfl⟩
      · have hin' : ¬ (q : Int) + (k : Int) < (bs.length : Int) := by omega
        have hE : R = (0, 0, 14) := by rw [HR.out, List.drop_of_length_le (by omega), show 9 - k = (8 - k) + 1 by omega]; rfl
        subst hE
        clear HR
        go_wp2
        go_ret3
        exact ⟨rfl, rfl⟩
    · have hk : k = 9 := by omega
      subst hk
      have hE : R = (0, 0, 11) := by rw [HR.out]; rfl
      subst hE
      clear HR
      go_wp2
      go_ret3
      exact ⟨rfl, rfl⟩

end Go.Proofs.YtceanfpcddcfoaaGreat
/-
  What the document's own ReadText of layer 5 hands back, for all bytes. No conditions beyond what each theorem states.
-/
namespace Go.Proofs.YtceanfpcddcfoaaGreat
open Go.ChangeShapes Go.WideShapes Go.ChangeAt Go.RowKit Go.Lib
set_option linter.unusedVariables false
set_option linter.unusedSimpArgs false

theorem brow_at {w : World} {D o q s : Nat} {bs : List UInt8} (h : BRow w (some ⟨D, o, none⟩) bs) (hq : q + s ≤ bs.length) : BRow w (some ⟨D, o + q, none⟩) ((bs.drop q).take s) := fun i hi => by
  rw [List.length_take, List.length_drop] at hi
  obtain ⟨b, o', e, hc⟩ := h (q + i) (by omega)
  cases e
  exact ⟨D, o + q, rfl, by rw [atB_take (by omega), atB_drop, Nat.add_assoc]; exact hc⟩

set_option maxHeartbeats 1000000 in
set_option maxRecDepth 100000 in
theorem refreadtext_pos (bs : List UInt8) (q : Nat) (L : Nat) (hLb : L < 9223372036854775808) (p : Option Addr) (c : Nat) (hq : q ≤ bs.length) (hl : bs.length ≤ 1000000) (hcap : bs.length ≤ c) (w : World) (hR : BRow w p bs) :
    Calls Tryz.prog 114 #[.slice p bs.length c, .int .i64 (q : Int), .int .i64 (L : Int)] w fun r w' => r = .returned (.tuple #[.string ⟨(readT (bs.drop q) L).1.toArray⟩, .int .i64 ((q + (readT (bs.drop q) L).2.1 : Nat) : Int), .int .i64 ((readT (bs.drop q) L).2.2 : Int)]) ∧ w' = w := by
  have HRow := Lib.hid hR
  have H := refreadnum_any bs q L p c (by omega) hq hl w hR
  have hF := read_fair (bs.drop q) L
  have HT : Hid (∀ n s f, readN (bs.drop q) L = (n, s, f) → readT (bs.drop q) L = if f ≠ 0 then ([], 0, f) else if (bs.drop q).length - s < n then ([], 0, 14) else (((bs.drop q).drop s).take n, s + n, 0)) := fun n s f h => by
    unfold readT; rw [h]
  generalize readN (bs.drop q) L = R at H hF HT
  obtain ⟨n, s, f⟩ := R
  have HT := Lib.hid (HT.out n s f rfl)
  rw [List.length_drop] at hF HT
  simp only at H hF
  rw [HT.out]
  have HF := Lib.hid hF
  clear hR hF HT
  by_cases hf : f = 0
  · subst hf
    have hs : q + s ≤ bs.length ∧ n ≤ L ∧ 1 ≤ s := by
      rcases HF.out with ⟨_, h0, h, h'⟩ | ⟨_, _, h⟩
      · simp only at h h' h0; omega
      · simp at h
    have HP : Hid (∃ b o, p = some ⟨b, o, none⟩) := by
      obtain ⟨b, o, e, _⟩ := HRow.out 0 (by omega)
      exact ⟨b, o, e⟩
    obtain ⟨b, o, rfl⟩ := HP.out
    obtain ⟨m, hm⟩ : ∃ m, m = bs.length - q - s := ⟨_, rfl⟩
    rw [if_neg (by simp), ← hm]
    have hnL : n < 9223372036854775808 := by omega
    obtain ⟨Q, hQ⟩ : ∃ Q, Q = q + s := ⟨_, rfl⟩
    rw [← hQ] at H
    have hQb : Q < 9223372036854775808 := by omega
    have hQl : (Q : Int) ≤ (bs.length : Int) := by omega
    have H := Lib.hid H
    have hm1 : (bs.length : Int) - (Q : Int) = (m : Int) := by omega
    by_cases hshort : m < n
    · rw [if_pos hshort]
      have hsh : (m : Int) < (n : Int) := by omega
      clear hshort hs HF hQ hm HP HRow
      go_enter Tryz.func114, Tryz.ntmps114
      go_wp2_with fail
      refine H.out.mono ?_
      rintro r w' ⟨rfl, he⟩
      obtain rfl := Eq.symm he
      clear he
      go_wp2
      go_ret3
      exact ⟨rfl, rfl⟩
    · rw [if_neg hshort]
      have hsh : ¬ (m : Int) < (n : Int) := by omega
      have hb1 : (Q : Int) ≤ (Q : Int) + (n : Int) := by omega
      have hb2 : (Q : Int) + (n : Int) ≤ (c : Int) := by omega
      have hb3 : ((Q : Int) + (n : Int)).toNat = Q + n := by omega
      have hb4 : Q + n - Q = n := by omega
      have HX : Hid (((bs.drop q).drop s).take n = (bs.drop Q).take n) := by show _ = _; rw [List.drop_drop, hQ]
      have HLn : Hid (((bs.drop Q).take n).length = n) := by show _ = _; rw [List.length_take, List.length_drop]; omega
      have HQn : Hid (Q + n ≤ bs.length) := by show Q + n ≤ bs.length; omega
      have HQQ : Hid (q + (s + n) = Q + n) := by show _ = _; omega
      rw [HX.out, HQQ.out]
      by_cases hcq : c = Q
      · have hcv : ∀ x, (convert 42 9 (.slice (some ⟨b, o, none⟩) n x)).run Tryz.prog w = .ok (.string ⟨((bs.drop Q).take n).toArray⟩) w := fun x => by
          refine conv_bytes ?_ HLn.out
          have : (bs.drop Q).take n = [] := List.eq_nil_of_length_eq_zero (by rw [HLn.out]; omega)
          rw [this]; exact BRow.nil _ _
        have hn0 : n = 0 := by omega
        generalize (bs.drop Q).take n = T at hcv
        clear hshort hs HF hQ hm HX HLn HP HRow
        subst hn0
        subst hcq
        go_enter Tryz.func114, Tryz.ntmps114
        go_wp2_with fail
        refine H.out.mono ?_
        rintro r w' ⟨rfl, he⟩
        obtain rfl := Eq.symm he
        clear he
        go_wp2
        go_ret3
        exact ⟨rfl, rfl⟩
      · have hcv : ∀ x, (convert 42 9 (.slice (some ⟨b, o + Q, none⟩) n x)).run Tryz.prog w = .ok (.string ⟨((bs.drop Q).take n).toArray⟩) w := fun x => conv_bytes (brow_at HRow.out HQn.out) HLn.out
        generalize (bs.drop Q).take n = T at hcv
        clear hshort hs HF hQ hm HX HLn HP HRow
        go_enter Tryz.func114, Tryz.ntmps114
        go_wp2_with fail
        refine H.out.mono ?_
        rintro r w' ⟨rfl, he⟩
        obtain rfl := Eq.symm he
        clear he
        go_wp2
        go_ret3
        exact ⟨rfl, rfl⟩
  · rw [if_pos hf]
    have hf' : ((f : Int) == 0) = false := by simp; omega
    have H := Lib.hid H
    clear HF HRow
    go_enter Tryz.func114, Tryz.ntmps114
    go_wp2_with fail
    refine H.out.mono ?_
    rintro r w' ⟨rfl, he⟩
    obtain rfl := Eq.symm he
    clear he
    go_wp2
    go_ret3
    exact ⟨rfl, rfl⟩

set_option maxHeartbeats 1000000 in
set_option maxRecDepth 100000 in
theorem refreadtext_neg (bs : List UInt8) (q : Nat) (limit : Int) (h0 : limit < 0) (p : Option Addr) (c : Nat) (hq : q ≤ bs.length) (hl : bs.length ≤ 1000000) (hcap : bs.length ≤ c) (w : World) (hR : BRow w p bs) :
    Calls Tryz.prog 114 #[.slice p bs.length c, .int .i64 (q : Int), .int .i64 limit] w fun r w' => r = .returned (.tuple #[.string ⟨(readT (bs.drop q) 0).1.toArray⟩, .int .i64 ((q + (readT (bs.drop q) 0).2.1 : Nat) : Int), .int .i64 ((readT (bs.drop q) 0).2.2 : Int)]) ∧ w' = w := by
  have HRow := Lib.hid hR
  have H := refreadnum_any bs q 0 p c (by omega) hq hl w hR
  rw [show ((0 : Nat) : Int) = 0 from rfl] at H
  have hF := read_fair (bs.drop q) 0
  have HT : Hid (∀ n s f, readN (bs.drop q) 0 = (n, s, f) → readT (bs.drop q) 0 = if f ≠ 0 then ([], 0, f) else if (bs.drop q).length - s < n then ([], 0, 14) else (((bs.drop q).drop s).take n, s + n, 0)) := fun n s f h => by
    unfold readT; rw [h]
  generalize readN (bs.drop q) 0 = R at H hF HT
  obtain ⟨n, s, f⟩ := R
  have HT := Lib.hid (HT.out n s f rfl)
  rw [List.length_drop] at hF HT
  simp only at H hF
  rw [HT.out]
  have HF := Lib.hid hF
  clear hR hF HT
  by_cases hf : f = 0
  · subst hf
    have hs : q + s ≤ bs.length ∧ n ≤ 0 ∧ 1 ≤ s := by
      rcases HF.out with ⟨_, h0, h, h'⟩ | ⟨_, _, h⟩
      · simp only at h h' h0; omega
      · simp at h
    have HP : Hid (∃ b o, p = some ⟨b, o, none⟩) := by
      obtain ⟨b, o, e, _⟩ := HRow.out 0 (by omega)
      exact ⟨b, o, e⟩
    obtain ⟨b, o, rfl⟩ := HP.out
    obtain ⟨m, hm⟩ : ∃ m, m = bs.length - q - s := ⟨_, rfl⟩
    rw [if_neg (by simp), ← hm]
    have hnL : n < 9223372036854775808 := by omega
    obtain ⟨Q, hQ⟩ : ∃ Q, Q = q + s := ⟨_, rfl⟩
    rw [← hQ] at H
    have hQb : Q < 9223372036854775808 := by omega
    have hQl : (Q : Int) ≤ (bs.length : Int) := by omega
    have H := Lib.hid H
    have hm1 : (bs.length : Int) - (Q : Int) = (m : Int) := by omega
    by_cases hshort : m < n
    · rw [if_pos hshort]
      have hsh : (m : Int) < (n : Int) := by omega
      clear hshort hs HF hQ hm HP HRow
      go_enter Tryz.func114, Tryz.ntmps114
      go_wp2_with fail
      refine H.out.mono ?_
      rintro r w' ⟨rfl, he⟩
      obtain rfl := Eq.symm he
      clear he
      go_wp2
      go_ret3
      exact ⟨rfl, rfl⟩
    · rw [if_neg hshort]
      have hsh : ¬ (m : Int) < (n : Int) := by omega
      have hb1 : (Q : Int) ≤ (Q : Int) + (n : Int) := by omega
      have hb2 : (Q : Int) + (n : Int) ≤ (c : Int) := by omega
      have hb3 : ((Q : Int) + (n : Int)).toNat = Q + n := by omega
      have hb4 : Q + n - Q = n := by omega
      have HX : Hid (((bs.drop q).drop s).take n = (bs.drop Q).take n) := by show _ = _; rw [List.drop_drop, hQ]
      have HLn : Hid (((bs.drop Q).take n).length = n) := by show _ = _; rw [List.length_take, List.length_drop]; omega
      have HQn : Hid (Q + n ≤ bs.length) := by show Q + n ≤ bs.length; omega
      have HQQ : Hid (q + (s + n) = Q + n) := by show _ = _; omega
      rw [HX.out, HQQ.out]
      by_cases hcq : c = Q
      · have hcv : ∀ x, (convert 42 9 (.slice (some ⟨b, o, none⟩) n x)).run Tryz.prog w = .ok (.string ⟨((bs.drop Q).take n).toArray⟩) w := fun x => by
          refine conv_bytes ?_ HLn.out
          have : (bs.drop Q).take n = [] := List.eq_nil_of_length_eq_zero (by rw [HLn.out]; omega)
          rw [this]; exact BRow.nil _ _
        have hn0 : n = 0 := by omega
        generalize (bs.drop Q).take n = T at hcv
        clear hshort hs HF hQ hm HX HLn HP HRow
        subst hn0
        subst hcq
        go_enter Tryz.func114, Tryz.ntmps114
        go_wp2_with fail
        refine H.out.mono ?_
        rintro r w' ⟨rfl, he⟩
        obtain rfl := Eq.symm he
        clear he
        go_wp2
        go_ret3
        exact ⟨rfl, rfl⟩
      · have hcv : ∀ x, (convert 42 9 (.slice (some ⟨b, o + Q, none⟩) n x)).run Tryz.prog w = .ok (.string ⟨((bs.drop Q).take n).toArray⟩) w := fun x => conv_bytes (brow_at HRow.out HQn.out) HLn.out
        generalize (bs.drop Q).take n = T at hcv
        clear hshort hs HF hQ hm HX HLn HP HRow
        go_enter Tryz.func114, Tryz.ntmps114
        go_wp2_with fail
        refine H.out.mono ?_
        rintro r w' ⟨rfl, he⟩
        obtain rfl := Eq.symm he
        clear he
        go_wp2
        go_ret3
        exact ⟨rfl, rfl⟩
  · rw [if_pos hf]
    have hf' : ((f : Int) == 0) = false := by simp; omega
    have H := Lib.hid H
    clear HF HRow
    go_enter Tryz.func114, Tryz.ntmps114
    go_wp2_with fail
    refine H.out.mono ?_
    rintro r w' ⟨rfl, he⟩
    obtain rfl := Eq.symm he
    clear he
    go_wp2
    go_ret3
    exact ⟨rfl, rfl⟩

theorem refreadtext_any (bs : List UInt8) (q : Nat) (limit : Int) (p : Option Addr) (c : Nat) (h2 : limit < 9223372036854775808) (hq : q ≤ bs.length) (hl : bs.length ≤ 1000000) (hcap : bs.length ≤ c) (w : World) (hR : BRow w p bs) :
    Calls Tryz.prog 114 #[.slice p bs.length c, .int .i64 (q : Int), .int .i64 limit] w fun r w' => r = .returned (.tuple #[.string ⟨(readT (bs.drop q) limit.toNat).1.toArray⟩, .int .i64 ((q + (readT (bs.drop q) limit.toNat).2.1 : Nat) : Int), .int .i64 ((readT (bs.drop q) limit.toNat).2.2 : Int)]) ∧ w' = w := by
  by_cases h0 : limit < 0
  · rw [show limit.toNat = 0 by omega]
    exact refreadtext_neg bs q limit h0 p c hq hl hcap w hR
  · have := refreadtext_pos bs q limit.toNat (by omega) p c hq hl hcap w hR
    rwa [show ((limit.toNat : Nat) : Int) = limit by omega] at this

end Go.Proofs.YtceanfpcddcfoaaGreat
/-
  What the document's own Num and Text of layer 5 hand back: the bytes of any number and of any short text, in new memory. No conditions beyond what each theorem states.
-/
namespace Go.Proofs.YtceanfpcddcfoaaGreat
open Go.ChangeShapes Go.WideShapes Go.ChangeAt Go.RowKit Go.Lib
set_option linter.unusedVariables false
set_option linter.unusedSimpArgs false

/-- Bytes in new memory of the call's own. -/
def Fresh (bs : List UInt8) (w : World) (e : Ending) (w' : World) : Prop := ∃ v, e = .returned v ∧ w'.ownsRow w.heap.size 5 1 v bs.length (byteCells bs) ∧ Below w.heap.size w w'
theorem owns_one (w : World) (x : UInt8) : (w.alloc (.cells #[.int .u8 (x.toNat : Int)] 5)).ownsRow w.heap.size 5 1 (.slice (some ⟨w.heap.size, 0, none⟩) 1 1) 1 (byteCells [x]) :=
  World.ownsRow_lit w #[.int .u8 (x.toNat : Int)] 1 (Nat.le_refl _) (by decide) rfl
/-- A row of some bytes has an address. -/
theorem owns_some {w : World} {B n : Nat} {v : Value} {e : TypeId} {bs : List UInt8} (h : w.ownsRow B e 1 v n (byteCells bs)) (hn : 1 ≤ bs.length) : ∃ g c, v = .slice (some ⟨g, 0, none⟩) bs.length c ∧ BRow w (some ⟨g, 0, none⟩) bs := by
  obtain ⟨p, c, rfl, rfl, hr, _⟩ := brow_owns h
  rcases h.2 with ⟨hv, h0⟩ | ⟨g, cap, cur, hv, _⟩
  · omega
  · cases hv
    exact ⟨g, c, rfl, hr⟩

set_option maxHeartbeats 1600000 in
set_option maxRecDepth 20000 in
theorem refnum_any (n : Nat) : n < 18446744073709551616 → ∀ w : World, Calls Tryz.prog 44 #[.int .u64 (n : Int)] w (Fresh (encN (n % 9223372036854775808)) w) := by
  induction n using Nat.strongRecOn with
  | ind n ih =>
    intro h64 w
    obtain ⟨i0, hi, hz0, hz1, hz2⟩ := info_parts infoB
    obtain ⟨N, hN⟩ : ∃ N, N = n % 9223372036854775808 := ⟨_, rfl⟩
    have hm : (n : Int) % 9223372036854775808 = (N : Int) := by omega
    have hNb : N < 9223372036854775808 := by omega
    have hNn : N ≤ n := by omega
    rw [← hN]
    by_cases hs : N < 128
    · have hs' : (N : Int) < 128 := by omega
      have HX := Lib.hid (encN_small hs)
      clear ih hN
      go_enter Tryz.func44, Tryz.ntmps44
      go_wp2
      go_ret
      have h1 := owns_one w (UInt8.ofNat N)
      rw [u8_nat (by omega)] at h1
      exact ⟨_, rfl, by rw [HX.out]; exact h1, below_alloc (Below.refl _ _) _⟩
    · have hs' : ¬ (N : Int) < 128 := by omega
      have H := ih (N / 128) (by omega) (by omega)
      rw [Nat.mod_eq_of_lt (by omega : N / 128 < 9223372036854775808), show ((N / 128 : Nat) : Int) = (N : Int) / 128 from rfl] at H
      have H := Lib.hid H
      obtain ⟨y, hy⟩ : ∃ y, y = UInt8.ofNat (N % 128 + 128) := ⟨_, rfl⟩
      have hX := encN_big hs
      rw [← hy] at hX
      have HX := Lib.hid hX
      have HL : Hid ((encN (N / 128)).length ≤ 9 ∧ 1 ≤ (encN (N / 128)).length) := ⟨encN_len (by omega), encN_pos _⟩
      have h1 := owns_one w y
      rw [show (y.toNat : Int) = (N : Int) % 128 + 128 by rw [hy, u8_nat (by omega)]; omega] at h1
      have H1 := Lib.hid h1
      clear ih hN h1 hX hy
      go_enter Tryz.func44, Tryz.ntmps44
      go_wp2_with fail
      refine (H.out _).mono ?_
      rintro e w2 ⟨v, rfl, hown, hb⟩
      obtain ⟨g, c, rfl, hr⟩ := owns_some hown HL.out.2
      have HR := Lib.hid hr
      have HB := Lib.hid hb
      have HO1 := Lib.hid ((Kept.ofBelow (S := fun _ => False) hb).row H1.out (fun _ _ f => f))
      have hsz : w.heap.size + 1 ≤ w2.heap.size := by have := hb.size; simpa using this
      clear hown hb hr H1
      go_wp2_with (first
        | (at_builtin; refine wpList_append_own_at _ rfl (.tmp 16) (.tmp 19) 42 rfl w.heap.size 5 i0 (.int .u8 0) 1 1 Tryz.underlying42 hi hz0 hz1 hz2 rfl (by decide) _ _ _ rfl HO1.out ⟨g, 0, none⟩ (encN (N / 128)).length c (byteCells (encN (N / 128))) rfl (by rw [byteCells_length, Nat.mul_one]) (brow_news HR.out) (byteCells_one _) (by unfold maxLen; have := HL.out.1; omega) (by have := HL.out.1; omega) (by omega) ?_))
      intro v' w3 hown hgrow _ _
      have HO : Hid (w3.ownsRow w.heap.size 5 1 v' (encN N).length (byteCells (encN N))) := by
        show w3.ownsRow w.heap.size 5 1 v' (encN N).length (byteCells (encN N))
        rw [HX.out, List.length_cons, Nat.add_comm]
        exact hown
      have HB3 : Hid (Below w.heap.size w w3) := (below_step (below_alloc (Below.refl _ _) _) HB.out).grown hgrow (by omega) (by intro k e; cases e; exact Nat.le_refl _)
      clear hown hgrow HO1 HR
      go_wp2
      go_ret
      exact ⟨_, rfl, HO.out, HB3.out⟩

theorem bytes_conv (s : List UInt8) (w : World) : ∃ w' c, (convert 9 42 (.string ⟨s.toArray⟩)).run Tryz.prog w = .ok (.slice (some ⟨w.heap.size, 0, none⟩) s.length c) w' ∧ BRow w' (some ⟨w.heap.size, 0, none⟩) s ∧ Below w.heap.size w w' := by
  refine ⟨_, _, run_bytes_of_string (P := Tryz.prog) w 9 42 5 ⟨s.toArray⟩ Tryz.underlying9 Tryz.underlying42 Tryz.underlying5, fun i hi => ⟨w.heap.size, 0, rfl, ?_⟩, (Below.drew (Below.refl _ _)).alloc (Nat.le_refl _) _⟩
  rw [Nat.zero_add]
  have := World.cell?_alloc_mark w.drew (bytesRow ⟨s.toArray⟩ (grownCap w (⟨s.toArray⟩ : ByteArray).size 0 5)) 5 ((bytesRow ⟨s.toArray⟩ (grownCap w (⟨s.toArray⟩ : ByteArray).size 0 5)).size, (bytesRow ⟨s.toArray⟩ (grownCap w (⟨s.toArray⟩ : ByteArray).size 0 5)).size + 1) i
  rw [show (w.drew).heap.size = w.heap.size from rfl] at this
  rw [this]
  unfold bytesRow
  rw [Array.getElem?_append_left (by simpa using hi)]
  simp [atB, hi]

set_option maxHeartbeats 1600000 in
set_option maxRecDepth 20000 in
theorem reftext_any (s : List UInt8) (hs : s.length ≤ 90000) (w : World) : Calls Tryz.prog 104 #[.string ⟨s.toArray⟩] w (Fresh (encT s) w) := by
  obtain ⟨i0, hi, hz0, hz1, hz2⟩ := info_parts infoB
  have H := refnum_any s.length (by omega) w
  rw [Nat.mod_eq_of_lt (by omega)] at H
  have H := Lib.hid H
  have HL : Hid ((encN s.length).length ≤ 9) := encN_len (by omega)
  have hw : IntKind.u64.wrap (s.length : Int) = s.length := by rw [IntKind.wrap_u64]; omega
  go_enter Tryz.func104, Tryz.ntmps104
  go_wp2_with fail
  refine H.out.mono ?_
  rintro e w1 ⟨v, rfl, hown, hb⟩
  obtain ⟨p1, c1, rfl⟩ := owns_slice hown
  obtain ⟨w2, c2, hcv, hr, hb2⟩ := bytes_conv s w1
  have HR := Lib.hid hr
  have HO := Lib.hid ((Kept.ofBelow (S := fun _ => False) hb2).row hown (fun _ _ f => f))
  have HB : Hid (Below w.heap.size w w2) := below_step hb hb2
  obtain ⟨m, hm⟩ : ∃ m, m = (encN s.length).length := ⟨_, rfl⟩
  have hmb : m ≤ 9 := by rw [hm]; exact HL.out
  have HM := Lib.hid hm
  rw [← hm] at HO
  clear hown hb hr hb2 H hm
  rw [← HM.out]
  go_wp2_with (first
    | (at_builtin; refine wpList_append_own_at _ rfl (.tmp 6) (.tmp 8) 42 rfl w.heap.size 5 i0 (.int .u8 0) 1 1 Tryz.underlying42 hi hz0 hz1 hz2 rfl (by decide) _ _ _ rfl HO.out ⟨w1.heap.size, 0, none⟩ s.length c2 (byteCells s) rfl (by rw [byteCells_length, Nat.mul_one]) (brow_news HR.out) (byteCells_one _) (by unfold maxLen; omega) (by omega) HB.out.size ?_))
  intro v' w3 hown hgrow _ _
  have HO3 : Hid (w3.ownsRow w.heap.size 5 1 v' (encT s).length (byteCells (encT s))) := by
    show w3.ownsRow w.heap.size 5 1 v' (encT s).length (byteCells (encT s))
    unfold encT
    rw [byteCells_append, List.length_append, ← HM.out]
    exact hown
  have HB3 : Hid (Below w.heap.size w w3) := HB.out.grown hgrow HB.out.size (fun k e => (HO.out.lt k e).1)
  clear hown hgrow HO HR
  go_wp2
  go_ret
  exact ⟨_, rfl, HO3.out, HB3.out⟩

end Go.Proofs.YtceanfpcddcfoaaGreat
