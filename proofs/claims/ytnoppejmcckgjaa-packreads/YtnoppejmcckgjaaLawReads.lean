
/-
  PackReads' function hands back true, for all bytes and things that lie in memory. No conditions beyond what each theorem states.
-/
import Derived.Test.YtnoppejmcckgjaaPackLaw
namespace Go.Proofs.Ytnoppejmcckgjaa
open Go.ChangeShapes Go.WideShapes Go.ChangeAt Go.RowKit Go.Lib
set_option linter.unusedVariables false
set_option linter.unusedSimpArgs false

theorem left_at {K D : Nat} {bs : List UInt8} (q e : Nat) (w : World) (hR : Rd K D bs q e w) :
    Calls Try.prog 21 #[.pointer (some ⟨K, 0, none⟩)] w fun r w' => r = .returned (.int .i64 ((bs.length : Int) - (q : Int))) ∧ Below w.heap.size w w' := by
  have := left_any w hR
  rwa [show ((bs.length - q : Nat) : Int) = (bs.length : Int) - (q : Int) by have := hR.fits; omega] at this

set_option maxHeartbeats 6400000 in
set_option maxRecDepth 20000 in
theorem reads_any (bs : List UInt8) (xs : List Th) (pb pl : Option Addr) (cb cl : Nat) (w : World) (hB : BRow w pb bs) (hO : ORow w pl xs) (hcb : bs.length ≤ cb) (hbl : bs.length ≤ 9223372036854775807) (hl : xs.length ≤ 9223372036854775807) (hF : OFit xs) (hS : ∀ i, i < xs.length → (atO xs i).2.2.1.length ≤ 9223372036854775807) :
    Calls Try.prog 4 #[.slice pb bs.length cb, .slice pl xs.length cl] w fun e w' => e = .returned (.bool true) ∧ Below w.heap.size w w' := by
  have HO := Lib.hid hO
  have HBR := Lib.hid hB
  have HF := Lib.hid hF
  have HFEW := Lib.hid (fun W (h : ORow W pl xs) => few_any xs pl cl W h hl hS)
  clear hO hB hF hS
  by_cases hfew : fewB xs = true
  · rw [hfew] at HFEW
    by_cases h2000 : bs.length ≤ 2000
    · have h2000' : ¬ (2000 : Int) < (bs.length : Int) := by omega
      go_enter Try.func4, Try.ntmps4
      go_wp2_with fail
      refine (anchor_any w).mono ?_
      rintro e w1 ⟨rfl, hb1⟩
      have HB1 := Lib.hid hb1
      clear hb1
      go_wp2_with fail
      refine (HFEW.out w1 (HO.out.below HB1.out)).mono ?_
      rintro e w2 ⟨rfl, hb2⟩
      have HB2 : Hid (Below w.heap.size w w2) := below_step HB1.out hb2
      clear hb2
      go_wp2_with fail
      refine (from_any bs pb cb w2 (HBR.out.below HB2.out) (by omega)).mono ?_
      rintro e w3 ⟨K, rfl, hK, hR3, hb3⟩
      have HB3 : Hid (Below w.heap.size w w3) := below_step HB2.out hb3
      have hKw : w.heap.size ≤ K := by have := HB2.out.size; omega
      have HR3 := Lib.hid hR3
      have HLEFT := Lib.hid (left_at (K := K) (D := w2.heap.size) (bs := bs))
      have HSTEP : Hid (∀ W W' : World, Below w.heap.size w W → Only K W W' → Below w.heap.size w W') := fun W W' h1 h2 => h1.trans (h2.below h1.size (by intro k e; omega))
      generalize w2.heap.size = D at HR3 HLEFT
      clear hb3 hK hR3 HB1 HB2 hKw
      go_wp2
      go_loopg [6, 7, 28] xs.length (fun g a6 a7 i wr => ∃ k q e : Nat, k ≤ xs.length ∧ xs.length - k ≤ g ∧ i = .int .i64 (k : Int) ∧ a6 = .int .i64 (q : Int) ∧ a7 = .int .i64 (e : Int) ∧ Rd K D bs q e wr ∧ Below w.heap.size w wr)
      case atStart => exact ⟨0, 0, 0, Nat.zero_le _, by omega, rfl, rfl, rfl, HR3.out, HB3.out⟩
      case round =>
        obtain ⟨k, q, e, hk, hg, rfl, rfl, rfl, hR, hb⟩ := hrel
        clear HR3 HB3
        by_cases hlt : k < xs.length
        · obtain ⟨b, o, rfl, c0, c1, c2, c3⟩ := HO.out.below hb k hlt
          obtain ⟨f1, f2, f3, f4, f5⟩ := HF.out k hlt
          generalize (atO xs k).1 = kind at c0 f1 f2
          generalize (atO xs k).2.1 = N at c1 f3
          generalize (atO xs k).2.2.1 = S at c2
          generalize (atO xs k).2.2.2 = L at c3 f4 f5
          have hfit := hR.fits
          have HB := Lib.hid hb
          have HBX := Lib.hid (OBox.new wr (kind, N, S, L))
          have HR := Lib.hid (hR.below (below_alloc (Below.refl _ _) (.cells #[.int .i64 kind, .int .u64 (N : Int), .string ⟨S.toArray⟩, .int .i64 L] 30)))
          have HBA : Hid (Below w.heap.size w (wr.alloc (.cells #[.int .i64 kind, .int .u64 (N : Int), .string ⟨S.toArray⟩, .int .i64 L] 30))) := below_alloc hb _
          have HKW : Hid (wr.heap.size ≠ K) := by have := lt_of_block hR.box; show wr.heap.size ≠ K; omega
          clear hR hb
          by_cases hk1 : kind = 1
          · subst hk1
            have H := Lib.hid (rbyte_any _ HR.out)
            by_cases he : e = 0
            · subst he
              by_cases hq : q < bs.length
              · rw [show rdB bs q 0 = ((bs.getD q 0).toNat, q + 1, 0) by simp [rdB, hq]] at H
                obtain ⟨pbb, pbo, rfl, cb0⟩ := HBR.out q hq
                have hy : (bs.getD q 0).toNat < 256 := (bs.getD q 0).toNat_lt
                rw [show atB bs q = (((bs.getD q 0).toNat : Nat) : Int) from rfl] at cb0
                generalize (bs.getD q 0).toNat = y at H cb0 hy
                have hql : ((q : Int) == (bs.length : Int)) = false := by simp; omega
                have hql2 : (q : Int) < (bs.length : Int) := by omega
                go_wp2_with fail
                refine H.out.mono ?_
                rintro r w5 ⟨rfl, hR5, hO5⟩
                have HRT := Lib.hid hR5
                have HBT : Hid (Below w.heap.size w w5) := HSTEP.out _ _ HBA.out hO5
                have cb1 := cb0
                rw [← HBT.out.cell (block_lt_of_cell cb0)] at cb1
                clear hR5 hO5 cb0 H
                go_wp2_with fail
                refine (error_any w5 HRT.out).mono ?_
                rintro r w8 ⟨rfl, he⟩
                obtain rfl := Eq.symm he
                clear he
                go_wp2_with fail
                refine (at_any w5 HRT.out).mono ?_
                rintro r w8 ⟨rfl, he⟩
                obtain rfl := Eq.symm he
                clear he
                go_wp2_with fail
                refine (HLEFT.out _ _ w5 HRT.out).mono ?_
                rintro r w9 ⟨rfl, hb9⟩
                have HR9 := Lib.hid (HRT.out.below hb9)
                have HB9 : Hid (Below w.heap.size w w9) := below_step HBT.out hb9
                clear hb9
                go_wp2
                go_roundg (xs.length - (k + 1))
                case measure => omega
                case rel => exact ⟨k + 1, (q + 1), 0, by omega, Nat.le_refl _, by go_num, rfl, rfl, HR9.out, HB9.out⟩
              · rw [show rdB bs q 0 = (0, q, 14) by simp [rdB, hq]] at H
                have hql : q = bs.length := by omega
                subst hql
                go_wp2_with fail
                refine H.out.mono ?_
                rintro r w5 ⟨rfl, hR5, hO5⟩
                have HRT := Lib.hid hR5
                have HBT : Hid (Below w.heap.size w w5) := HSTEP.out _ _ HBA.out hO5
                clear hR5 hO5 H
                go_wp2_with fail
                refine (error_any w5 HRT.out).mono ?_
                rintro r w8 ⟨rfl, he⟩
                obtain rfl := Eq.symm he
                clear he
                go_wp2_with fail
                refine (at_any w5 HRT.out).mono ?_
                rintro r w8 ⟨rfl, he⟩
                obtain rfl := Eq.symm he
                clear he
                go_wp2_with fail
                refine (HLEFT.out _ _ w5 HRT.out).mono ?_
                rintro r w9 ⟨rfl, hb9⟩
                have HR9 := Lib.hid (HRT.out.below hb9)
                have HB9 : Hid (Below w.heap.size w w9) := below_step HBT.out hb9
                clear hb9
                go_wp2
                go_roundg (xs.length - (k + 1))
                case measure => omega
                case rel => exact ⟨k + 1, bs.length, 14, by omega, Nat.le_refl _, by go_num, rfl, rfl, HR9.out, HB9.out⟩
            · rw [show rdB bs q e = (0, q, e) by simp [rdB, he]] at H
              have he' : ((e : Int) == 0) = false := by simp; omega
              go_wp2_with fail
              refine H.out.mono ?_
              rintro r w5 ⟨rfl, hR5, hO5⟩
              have HRT := Lib.hid hR5
              have HBT : Hid (Below w.heap.size w w5) := HSTEP.out _ _ HBA.out hO5
              clear hR5 hO5 H
              go_wp2_with fail
              refine (error_any w5 HRT.out).mono ?_
              rintro r w8 ⟨rfl, he⟩
              obtain rfl := Eq.symm he
              clear he
              go_wp2_with fail
              refine (at_any w5 HRT.out).mono ?_
              rintro r w8 ⟨rfl, he⟩
              obtain rfl := Eq.symm he
              clear he
              go_wp2_with fail
              refine (HLEFT.out _ _ w5 HRT.out).mono ?_
              rintro r w9 ⟨rfl, hb9⟩
              have HR9 := Lib.hid (HRT.out.below hb9)
              have HB9 : Hid (Below w.heap.size w w9) := below_step HBT.out hb9
              clear hb9
              go_wp2
              go_roundg (xs.length - (k + 1))
              case measure => omega
              case rel => exact ⟨k + 1, q, e, by omega, Nat.le_refl _, by go_num, rfl, rfl, HR9.out, HB9.out⟩
          · have hk1' : (kind == 1) = false := by simp [hk1]
            by_cases hk2 : kind = 2
            · subst hk2
              have H := Lib.hid (rnum_any N f3 _ HR.out)
              by_cases he : e = 0
              · subst he
                rw [show rdN bs q 0 N = ((readN (bs.drop q) N).1, q + (readN (bs.drop q) N).2.1, (readN (bs.drop q) N).2.2) from rfl] at H
                have HRN := Lib.hid (fun W (h : BRow W pb bs) => refreadnum_any bs q N pb cb f3 hfit (by omega) W h)
                generalize (readN (bs.drop q) N).1 = V at H HRN
                generalize q + (readN (bs.drop q) N).2.1 = Q2 at H HRN
                generalize (readN (bs.drop q) N).2.2 = E2 at H HRN
                go_wp2_with fail
                refine H.out.mono ?_
                rintro r w5 ⟨rfl, hR5, hO5⟩
                have c5 := (show OBox wr.heap.size (2, N, S, L) w5 from hO5.stays HBX.out HKW.out).c1
                have hfit2 := hR5.fits
                have HRT := Lib.hid hR5
                have HBT : Hid (Below w.heap.size w w5) := HSTEP.out _ _ HBA.out hO5
                clear hR5 hO5 H
                go_wp2_with fail
                refine (HRN.out w5 (HBR.out.below HBT.out)).mono ?_
                rintro r w6 ⟨rfl, he6⟩
                obtain rfl := Eq.symm he6
                clear he6 HRN
                go_wp2_with fail
                refine (error_any w5 HRT.out).mono ?_
                rintro r w8 ⟨rfl, he⟩
                obtain rfl := Eq.symm he
                clear he
                go_wp2_with fail
                refine (at_any w5 HRT.out).mono ?_
                rintro r w8 ⟨rfl, he⟩
                obtain rfl := Eq.symm he
                clear he
                go_wp2_with fail
                refine (HLEFT.out _ _ w5 HRT.out).mono ?_
                rintro r w9 ⟨rfl, hb9⟩
                have HR9 := Lib.hid (HRT.out.below hb9)
                have HB9 : Hid (Below w.heap.size w w9) := below_step HBT.out hb9
                clear hb9
                go_wp2
                go_roundg (xs.length - (k + 1))
                case measure => omega
                case rel => exact ⟨k + 1, Q2, E2, by omega, Nat.le_refl _, by go_num, rfl, rfl, HR9.out, HB9.out⟩
              · rw [show rdN bs q e N = (0, q, e) by simp [rdN, he]] at H
                have he' : ((e : Int) == 0) = false := by simp; omega
                go_wp2_with fail
                refine H.out.mono ?_
                rintro r w5 ⟨rfl, hR5, hO5⟩
                have HRT := Lib.hid hR5
                have HBT : Hid (Below w.heap.size w w5) := HSTEP.out _ _ HBA.out hO5
                clear hR5 hO5 H
                go_wp2_with fail
                refine (error_any w5 HRT.out).mono ?_
                rintro r w8 ⟨rfl, he⟩
                obtain rfl := Eq.symm he
                clear he
                go_wp2_with fail
                refine (at_any w5 HRT.out).mono ?_
                rintro r w8 ⟨rfl, he⟩
                obtain rfl := Eq.symm he
                clear he
                go_wp2_with fail
                refine (HLEFT.out _ _ w5 HRT.out).mono ?_
                rintro r w9 ⟨rfl, hb9⟩
                have HR9 := Lib.hid (HRT.out.below hb9)
                have HB9 : Hid (Below w.heap.size w w9) := below_step HBT.out hb9
                clear hb9
                go_wp2
                go_roundg (xs.length - (k + 1))
                case measure => omega
                case rel => exact ⟨k + 1, q, e, by omega, Nat.le_refl _, by go_num, rfl, rfl, HR9.out, HB9.out⟩
            · have hk2' : (kind == 2) = false := by simp [hk2]
              by_cases hk3 : kind = 3
              · subst hk3
                have H := Lib.hid (rtext_any L f4 f5 _ HR.out)
                by_cases he : e = 0
                · subst he
                  rw [show rdT bs q 0 L.toNat = ((readT (bs.drop q) L.toNat).1, q + (readT (bs.drop q) L.toNat).2.1, (readT (bs.drop q) L.toNat).2.2) from rfl] at H
                  have HRN := Lib.hid (fun W (h : BRow W pb bs) => refreadtext_any bs q L pb cb f5 hfit (by omega) hcb W h)
                  generalize (readT (bs.drop q) L.toNat).1 = V at H HRN
                  generalize q + (readT (bs.drop q) L.toNat).2.1 = Q2 at H HRN
                  generalize (readT (bs.drop q) L.toNat).2.2 = E2 at H HRN
                  go_wp2_with fail
                  refine H.out.mono ?_
                  rintro r w5 ⟨rfl, hR5, hO5⟩
                  have c5 := (show OBox wr.heap.size (3, N, S, L) w5 from hO5.stays HBX.out HKW.out).c3
                  have hfit2 := hR5.fits
                  have HRT := Lib.hid hR5
                  have HBT : Hid (Below w.heap.size w w5) := HSTEP.out _ _ HBA.out hO5
                  clear hR5 hO5 H
                  go_wp2_with fail
                  refine (HRN.out w5 (HBR.out.below HBT.out)).mono ?_
                  rintro r w6 ⟨rfl, he6⟩
                  obtain rfl := Eq.symm he6
                  clear he6 HRN
                  go_wp2_with fail
                  refine (error_any w5 HRT.out).mono ?_
                  rintro r w8 ⟨rfl, he⟩
                  obtain rfl := Eq.symm he
                  clear he
                  go_wp2_with fail
                  refine (at_any w5 HRT.out).mono ?_
                  rintro r w8 ⟨rfl, he⟩
                  obtain rfl := Eq.symm he
                  clear he
                  go_wp2_with fail
                  refine (HLEFT.out _ _ w5 HRT.out).mono ?_
                  rintro r w9 ⟨rfl, hb9⟩
                  have HR9 := Lib.hid (HRT.out.below hb9)
                  have HB9 : Hid (Below w.heap.size w w9) := below_step HBT.out hb9
                  clear hb9
                  go_wp2
                  go_roundg (xs.length - (k + 1))
                  case measure => omega
                  case rel => exact ⟨k + 1, Q2, E2, by omega, Nat.le_refl _, by go_num, rfl, rfl, HR9.out, HB9.out⟩
                · rw [show rdT bs q e L.toNat = ([], q, e) by simp [rdT, he]] at H
                  have he' : ((e : Int) == 0) = false := by simp; omega
                  go_wp2_with fail
                  refine H.out.mono ?_
                  rintro r w5 ⟨rfl, hR5, hO5⟩
                  have HRT := Lib.hid hR5
                  have HBT : Hid (Below w.heap.size w w5) := HSTEP.out _ _ HBA.out hO5
                  clear hR5 hO5 H
                  go_wp2_with fail
                  refine (error_any w5 HRT.out).mono ?_
                  rintro r w8 ⟨rfl, he⟩
                  obtain rfl := Eq.symm he
                  clear he
                  go_wp2_with fail
                  refine (at_any w5 HRT.out).mono ?_
                  rintro r w8 ⟨rfl, he⟩
                  obtain rfl := Eq.symm he
                  clear he
                  go_wp2_with fail
                  refine (HLEFT.out _ _ w5 HRT.out).mono ?_
                  rintro r w9 ⟨rfl, hb9⟩
                  have HR9 := Lib.hid (HRT.out.below hb9)
                  have HB9 : Hid (Below w.heap.size w w9) := below_step HBT.out hb9
                  clear hb9
                  go_wp2
                  go_roundg (xs.length - (k + 1))
                  case measure => omega
                  case rel => exact ⟨k + 1, q, e, by omega, Nat.le_refl _, by go_num, rfl, rfl, HR9.out, HB9.out⟩
              · have hk3' : (kind == 3) = false := by simp [hk3]
                have HRT := HR
                have HBT := HBA
                go_wp2_with fail
                refine (error_any _ HRT.out).mono ?_
                rintro r w8 ⟨rfl, he⟩
                obtain rfl := Eq.symm he
                clear he
                go_wp2_with fail
                refine (at_any _ HRT.out).mono ?_
                rintro r w8 ⟨rfl, he⟩
                obtain rfl := Eq.symm he
                clear he
                go_wp2_with fail
                refine (HLEFT.out _ _ _ HRT.out).mono ?_
                rintro r w9 ⟨rfl, hb9⟩
                have HR9 := Lib.hid (HRT.out.below hb9)
                have HB9 : Hid (Below w.heap.size w w9) := below_step HBT.out hb9
                clear hb9
                go_wp2
                go_roundg (xs.length - (k + 1))
                case measure => omega
                case rel => exact ⟨k + 1, q, e, by omega, Nat.le_refl _, by go_num, rfl, rfl, HR9.out, HB9.out⟩
        · have : k = xs.length := by omega
          subst this
          have hfit := hR.fits
          have HR := Lib.hid hR
          have HB := Lib.hid hb
          have H := Lib.hid (done_any wr hR)
          clear hR hb
          by_cases he : e = 0
          · subst he
            rw [if_pos rfl] at H
            by_cases hq : q < bs.length
            · have hq' : (q : Int) < (bs.length : Int) := by omega
              rw [if_pos hq] at H
              go_wp2_with fail
              refine H.out.mono ?_
              rintro r w5 ⟨rfl, hb5⟩
              have HR5 := Lib.hid (HR.out.below hb5)
              have HB5 : Hid (Below w.heap.size w w5) := below_step HB.out hb5
              clear hb5 H
              go_wp2_with fail
              refine (error_any w5 HR5.out).mono ?_
              rintro r w6 ⟨rfl, he6⟩
              obtain rfl := Eq.symm he6
              clear he6
              go_wp2
              go_ret
              exact ⟨rfl, HB5.out⟩
            · have hq' : ¬ (q : Int) < (bs.length : Int) := by omega
              rw [if_neg hq] at H
              go_wp2_with fail
              refine H.out.mono ?_
              rintro r w5 ⟨rfl, hb5⟩
              have HB5 : Hid (Below w.heap.size w w5) := below_step HB.out hb5
              clear hb5 H
              go_wp2
              go_ret
              exact ⟨rfl, HB5.out⟩
          · rw [if_neg he] at H
            have he' : ((e : Int) == 0) = false := by simp; omega
            go_wp2_with fail
            refine H.out.mono ?_
            rintro r w5 ⟨rfl, hb5⟩
            have HB5 : Hid (Below w.heap.size w w5) := below_step HB.out hb5
            clear hb5 H
            go_wp2
            go_ret
            exact ⟨rfl, HB5.out⟩
    · have h2000' : (2000 : Int) < (bs.length : Int) := by omega
      go_enter Try.func4, Try.ntmps4
      go_wp2_with fail
      refine (anchor_any w).mono ?_
      rintro e w1 ⟨rfl, hb1⟩
      have HB1 := Lib.hid hb1
      clear hb1
      go_wp2_with fail
      refine (HFEW.out w1 (HO.out.below HB1.out)).mono ?_
      rintro e w2 ⟨rfl, hb2⟩
      have HB2 : Hid (Below w.heap.size w w2) := below_step HB1.out hb2
      clear hb2
      go_wp2
      go_ret
      exact ⟨rfl, HB2.out⟩
  · rw [show fewB xs = false by simpa using hfew] at HFEW
    go_enter Try.func4, Try.ntmps4
    go_wp2_with fail
    refine (anchor_any w).mono ?_
    rintro e w1 ⟨rfl, hb1⟩
    have HB1 := Lib.hid hb1
    clear hb1
    go_wp2_with fail
    refine (HFEW.out w1 (HO.out.below HB1.out)).mono ?_
    rintro e w2 ⟨rfl, hb2⟩
    have HB2 : Hid (Below w.heap.size w w2) := below_step HB1.out hb2
    clear hb2
    go_wp2
    go_ret
    exact ⟨rfl, HB2.out⟩

end Go.Proofs.Ytnoppejmcckgjaa
