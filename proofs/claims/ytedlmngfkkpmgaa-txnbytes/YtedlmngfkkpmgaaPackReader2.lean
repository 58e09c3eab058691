
/-
  What the reader's take, number and Done do, for every reader that lies in memory. No conditions beyond what each theorem states.
-/
import Derived.Test.YtedlmngfkkpmgaaPackReader
namespace Go.Proofs.Ytedlmngfkkpmgaa
open Go.ChangeShapes Go.WideShapes Go.ChangeAt Go.RowKit Go.Lib
set_option linter.unusedVariables false
set_option linter.unusedSimpArgs false

theorem brow_sub {w : World} {D q s : Nat} {bs : List UInt8} (h : BRow w (some ⟨D, 0, none⟩) bs) (hq : q + s ≤ bs.length) : BRow w (some ⟨D, q, none⟩) ((bs.drop q).take s) := fun i hi => by
  rw [List.length_take, List.length_drop] at hi
  obtain ⟨b, o, e, hc⟩ := h (q + i) (by omega)
  cases e
  exact ⟨D, q, rfl, by rw [atB_take (by omega), atB_drop]; simpa using hc⟩

set_option maxHeartbeats 1600000 in
theorem take_any {K D : Nat} {bs : List UInt8} {q e : Nat} (s : Nat) (w : World) (hR : Rd K D bs q e w) (hs : q + s ≤ bs.length) :
    Calls Try.prog 62 #[.pointer (some ⟨K, 0, none⟩), .int .i64 (s : Int)] w fun r w' => ∃ o, r = .returned (.slice (some ⟨D, o, none⟩) s (bs.length - q)) ∧ BRow w' (some ⟨D, o, none⟩) ((bs.drop q).take s) ∧ Rd K D bs (q + s) e w' ∧ Only K w w' := by
  have c0 := hR.cell0
  have c1 := hR.cell1
  have f1 := hR.frozen 1
  have hl := hR.less
  have HR := Lib.hid hR
  clear hR
  have h1 : (q : Int) ≤ (q : Int) + (s : Int) := by omega
  have h2 : (q : Int) + (s : Int) ≤ (bs.length : Int) := by omega
  have h3 : ((q : Int) + (s : Int)).toNat = q + s := by omega
  have h4 : q + s - q = s := by omega
  have HB : Hid (Rd K D bs (q + s) e (w.setCell ⟨K, 1, none⟩ (.int .i64 ((q : Int) + (s : Int))))) := HR.out.set1 (q' := q + s) hs
  have HO : Hid (Only K w (w.setCell ⟨K, 1, none⟩ (.int .i64 ((q : Int) + (s : Int))))) := Kept.set (S := fun k => k = K) (Kept.refl _ _) rfl _
  have d0 := HB.out.cell0
  have d1 := HB.out.cell1
  rw [show ((q + s : Nat) : Int) = (q : Int) + (s : Int) from rfl] at d1
  by_cases hq : bs.length = q
  · have h0 : s = 0 := by omega
    subst h0
    go_enter Try.func62, Try.ntmps62
    go_wp2_with fail
    go_quiet (fail)
    go_wp2
    go_ret
    exact ⟨0, by rw [hq, Nat.sub_self]; rfl, by rw [List.take_zero]; exact BRow.nil _ _, (HR.out.set1 (q' := q) (by omega)).below (below_drewN (Below.refl _ _) _), Only.step (Kept.set (S := fun k => k = K) (Kept.refl _ _) rfl _) (Kept.ofBelow (below_drewN (Below.refl _ _) _))⟩
  · go_enter Try.func62, Try.ntmps62
    go_wp2_with fail
    go_quiet (fail)
    go_wp2
    go_ret
    have HB3 := HB.out.below (below_drewN (Below.refl _ _) nq)
    exact ⟨q, rfl, brow_sub HB3.brow hs, HB3, Only.step HO.out (Kept.ofBelow (below_drewN (Below.refl _ _) _))⟩

theorem pow_less {y k N : Nat} (hk : k ≤ 8) (hN : N < 128 ^ k) : N + y % 128 * 128 ^ k < 9223372036854775808 ∧ N + y % 128 * 128 ^ k < 128 ^ (k + 1) := by
  have h1 : y % 128 * 128 ^ k ≤ 127 * 128 ^ k := Nat.mul_le_mul_right _ (by omega)
  have h2 : 128 ^ (k + 1) = 128 ^ k * 128 := Nat.pow_succ ..
  have h3 : 128 ^ (k + 1) ≤ 128 ^ 9 := Nat.pow_le_pow_right (by omega) (by omega)
  have h4 : 128 ^ 9 = 9223372036854775808 := by decide
  generalize y % 128 * 128 ^ k = T at h1 ⊢
  generalize 128 ^ (k + 1) = Q at h2 h3 ⊢
  generalize 128 ^ k = P at h1 h2 hN
  omega

set_option maxHeartbeats 3200000 in
theorem number_any {K D : Nat} {bs : List UInt8} {q e : Nat} (limit : Nat) (hlim : limit < 18446744073709551616) (w : World) (hR : Rd K D bs q e w) :
    Calls Try.prog 60 #[.pointer (some ⟨K, 0, none⟩), .int .u64 (limit : Int)] w fun r w' => r = .returned (.tuple #[.int .u64 ((readN (bs.drop q) limit).1 : Int), .int .i64 ((readN (bs.drop q) limit).2.1 : Int), .int .i64 ((readN (bs.drop q) limit).2.2 : Int)]) ∧ Below w.heap.size w w' := by
  have c0 := hR.cell0
  have c1 := hR.cell1
  have hl := hR.less
  have hf := hR.fits
  have HB := Lib.hid hR.brow
  clear hR
  obtain ⟨rs, hrs⟩ : ∃ rs, rs = bs.drop q := ⟨_, rfl⟩
  have hm : rs.length = bs.length - q := by rw [hrs, List.length_drop]
  rw [← hrs]
  have HRS := Lib.hid hrs
  clear hrs
  have HREAD : Hid (readN rs limit = scanN limit 9 rs 0 0) := rfl
  generalize readN rs limit = R at HREAD ⊢
  have h0 : (0 : Int) ≤ (q : Int) := by omega
  have h1 : (q : Int) ≤ (bs.length : Int) := by omega
  go_enter Try.func60, Try.ntmps60
  go_wp2_with fail
  refine wp_scope_loop 0 (fun a' w' => ∃ (p : Option Addr) (m k N : Nat) (c8 c9 c10 c11 c12 c13 c14 c15 c16 c17 c18 c19 c20 c21 c22 c23 c24 c25 c26 c27 c28 c29 c30 c31 c32 c33 c34 c35 c36 c37 c38 c39 c40 c41 c42 c43 c44 c45 c46 c47 c48 c49 c50 : Value), a' = { tmps := #[.pointer (some ⟨K, 0, none⟩), .int .u64 (limit : Int), undef, undef, .int .u64 (N : Int), .int .i64 (k : Int), .int .i64 0, .slice p m m, c8, c9, c10, c11, c12, c13, c14, c15, c16, c17, c18, c19, c20, c21, c22, c23, c24, c25, c26, c27, c28, c29, c30, c31, c32, c33, c34, c35, c36, c37, c38, c39, c40, c41, c42, c43, c44, c45, c46, c47, c48, c49, c50], defers := [] } ∧ m = rs.length ∧ k ≤ 9 ∧ k ≤ rs.length ∧ N < 128 ^ k ∧ R = scanN limit (9 - k) (rs.drop k) k N ∧ BRow w' p rs ∧ Below w.heap.size w w') (fun a' _ => 9 - natOf (a'.tmps.getD 5 undef)) rfl ?_ ?_
  · intro hpass
    have HP := Lib.hid hpass
    clear hpass
    by_cases hq : bs.length = q
    · go_wp2_with fail
      go_quiet (fail)
      go_wp2_with fail
      go_step3
      rename_i KK hKK
      have hz : rs.length = 0 := by omega
      exact hKK _ _ (HP.out _ _ ⟨some ⟨D, 0, none⟩, 0, 0, 0, _, _, _, _, _, _, _, _, _, _, _, _, _, _, _, _, _, _, _, _, _, _, _, _, _, _, _, _, _, _, _, _, _, _, _, _, _, _, _, _, _, _, _, rfl, hz.symm, by omega, by omega, by simp, by simpa using HREAD.out, (by rw [List.eq_nil_of_length_eq_zero hz]; exact BRow.nil _ _), below_drewN (Below.refl _ _) _⟩)
    · go_wp2_with fail
      go_quiet (fail)
      go_wp2_with fail
      go_step3
      rename_i KK hKK
      exact hKK _ _ (HP.out _ _ ⟨some ⟨D, q, none⟩, bs.length - q, 0, 0, _, _, _, _, _, _, _, _, _, _, _, _, _, _, _, _, _, _, _, _, _, _, _, _, _, _, _, _, _, _, _, _, _, _, _, _, _, _, _, _, _, _, _, rfl, hm.symm, by omega, by omega, by simp, by simpa using HREAD.out, (by
        have hb := brow_sub (q := q) (s := bs.length - q) HB.out (by omega)
        rw [List.take_of_length_le (by rw [List.length_drop]; exact Nat.le_refl _), ← HRS.out] at hb
        exact hb.below (below_drewN (Below.refl _ _) _)), below_drewN (Below.refl _ _) _⟩)
  · rintro a' w' ⟨p, m, k, N, c8, c9, c10, c11, c12, c13, c14, c15, c16, c17, c18, c19, c20, c21, c22, c23, c24, c25, c26, c27, c28, c29, c30, c31, c32, c33, c34, c35, c36, c37, c38, c39, c40, c41, c42, c43, c44, c45, c46, c47, c48, c49, c50, rfl, hmr, hk9, hkm, hN, hR, hrow, hb⟩
    have HR := Lib.hid hR
    have HRow := Lib.hid hrow
    have HBl := Lib.hid hb
    have HN := Lib.hid hN
    clear hR hrow hb hN hm c0 c1 HB HRS HREAD h0 h1
    by_cases h9 : k = 9
    · subst h9
      have : R = (0, 0, 11) := by rw [HR.out]; rfl
      subst this
      go_wp2_with fail
      simp only [Exit.jump]
      go_ret3
      exact ⟨rfl, HBl.out⟩
    · have h9' : ((k : Int) == 9) = false := by simp; omega
      by_cases hkl : k = m
      · subst hkl
        have hE : R = (0, 0, 14) := by rw [HR.out, List.drop_of_length_le (by omega), show 9 - k = (8 - k) + 1 by omega]; rfl
        subst hE
        go_wp2_with fail
        simp only [Exit.jump]
        go_ret3
        exact ⟨rfl, HBl.out⟩
      · have hkl' : ((k : Int) == (m : Int)) = false := by simp; omega
        have hkl2 : (k : Int) < (m : Int) := by omega
        obtain ⟨b, o, rfl, hc⟩ := HRow.out k (by omega)
        have hy : (rs.getD k 0).toNat < 256 := (rs.getD k 0).toNat_lt
        have hS : R = (if 128 ≤ (rs.getD k 0).toNat then scanN limit (8 - k) (rs.drop (k + 1)) (k + 1) (N + (rs.getD k 0).toNat % 128 * 128 ^ k)
            else if (rs.getD k 0).toNat = 0 ∧ 0 < k then (0, 0, 11) else if limit < N + (rs.getD k 0).toNat % 128 * 128 ^ k then (0, 0, 10) else (N + (rs.getD k 0).toNat % 128 * 128 ^ k, k + 1, 0)) := by
          rw [HR.out, drop_atB (by omega), show 9 - k = (8 - k) + 1 by omega, scanN]
        rw [show atB rs k = (((rs.getD k 0).toNat : Nat) : Int) from rfl] at hc
        generalize (rs.getD k 0).toNat = y at hc hy hS
        have hT := pow_less (y := y) (by omega : k ≤ 8) HN.out
        obtain ⟨T, hTe⟩ : ∃ T, T = y % 128 * 128 ^ k := ⟨_, rfl⟩
        rw [← hTe] at hS hT
        have hw1 : IntKind.u64.wrap ((y : Int) % 128 * 2 ^ (7 * k)) = (T : Int) := by
          have e : (y : Int) % 128 * 2 ^ (7 * k) = (T : Int) := by rw [hTe, Nat.pow_mul 2 7 k |> fun h => (show (2 : Int) ^ (7 * k) = ((128 ^ k : Nat) : Int) by rw [Int.pow_mul]; simp)]; simp
          rw [e, IntKind.wrap_u64]; omega
        have hw2 : IntKind.u64.wrap ((N : Int) + (T : Int)) = ((N + T : Nat) : Int) := by rw [IntKind.wrap_u64]; omega
        have HS := Lib.hid hS
        have HT := Lib.hid hTe
        clear hS hTe HR
        by_cases h128 : 128 ≤ y
        · have h128' : (128 : Int) ≤ (y : Int) := by omega
          have HX : Hid (R = scanN limit (9 - (k + 1)) (rs.drop (k + 1)) (k + 1) (N + T)) := by rw [HS.out, if_pos h128, show 9 - (k + 1) = 8 - k by omega]; rfl
          go_wp2_with fail
          go_step3
          exact ⟨rfl, ⟨some ⟨b, o, none⟩, _, k + 1, N + T, _, _, _, _, _, _, _, _, _, _, _, _, _, _, _, _, _, _, _, _, _, _, _, _, _, _, _, _, _, _, _, _, _, _, _, _, _, _, _, _, _, _, _, rfl, rfl, by omega, by omega, hT.2, HX.out, HRow.out, HBl.out⟩, by simp [natOf]; omega⟩
        · have h128' : ¬ (128 : Int) ≤ (y : Int) := by omega
          rw [if_neg h128] at HS
          by_cases hy0 : y = 0
          · by_cases hk0 : k = 0
            · subst hy0
              have hN0 : N = 0 := by have := HN.out; rw [hk0] at this; simpa using this
              have hT0 : T = 0 := by have := HT.out; simpa using this
              have hE : R = (N, k + 1, 0) := by rw [HS.out, if_neg (by omega), if_neg (by omega), hT0]; rfl
              have hw0 : IntKind.u64.wrap 0 = 0 := rfl
              have hwn : IntKind.u64.wrap (N : Int) = N := by rw [hN0]; rfl
              have hk1 : ¬ (1 : Int) < (k : Int) + 1 := by omega
              have hL' : ¬ (limit : Int) < (N : Int) := by omega
              subst hE
              clear HS HT hw1 hw2 hN0 hT0 hk0
              go_wp2_with fail
              simp only [Exit.jump]
              go_ret3
              exact ⟨rfl, HBl.out⟩
            · subst hy0
              have hE : R = (0, 0, 11) := by rw [HS.out, if_pos ⟨rfl, by omega⟩]
              have hk1 : (1 : Int) < (k : Int) + 1 := by omega
              subst hE
              clear HS HT
              go_wp2_with fail
              simp only [Exit.jump]
              go_ret3
              exact ⟨rfl, HBl.out⟩
          · have hy0' : ((y : Int) == 0) = false := by simp; omega
            rw [if_neg (fun h => hy0 h.1)] at HS
            by_cases hL : limit < N + T
            · have hE : R = (0, 0, 10) := by rw [HS.out, if_pos hL]
              have hL' : (limit : Int) < (N : Int) + (T : Int) := by omega
              subst hE
              clear HS HT
              go_wp2_with fail
              simp only [Exit.jump]
              go_ret3
              exact ⟨rfl, HBl.out⟩
            · have hE : R = (N + T, k + 1, 0) := by rw [HS.out, if_neg hL]
              have hL' : ¬ (limit : Int) < (N : Int) + (T : Int) := by omega
              subst hE
              clear HS HT
              go_wp2_with fail
              simp only [Exit.jump]
              go_ret3
              exact ⟨rfl, HBl.out⟩

end Go.Proofs.Ytedlmngfkkpmgaa
