
/-
  What the document's own ReadNum and ReadText of layer 5 hand back, for all bytes. No conditions beyond what each theorem states.
-/
import Derived.Test.YtedlmngfkkpmgaaPackReader3
namespace Go.Proofs.Ytedlmngfkkpmgaa
open Go.ChangeShapes Go.WideShapes Go.ChangeAt Go.RowKit Go.Lib
set_option linter.unusedVariables false
set_option linter.unusedSimpArgs false

set_option maxHeartbeats 3200000 in
set_option maxRecDepth 20000 in
theorem refreadnum_any (bs : List UInt8) (q limit : Nat) (p : Option Addr) (c : Nat) (hlim : limit < 18446744073709551616) (hq : q ≤ bs.length) (hl : bs.length ≤ 1000000) (w : World) (hR : BRow w p bs) :
    Calls Try.prog 42 #[.slice p bs.length c, .int .i64 (q : Int), .int .u64 (limit : Int)] w fun r w' => r = .returned (.tuple #[.int .u64 ((readN (bs.drop q) limit).1 : Int), .int .i64 ((q + (readN (bs.drop q) limit).2.1 : Nat) : Int), .int .i64 ((readN (bs.drop q) limit).2.2 : Int)]) ∧ w' = w := by
  have HRow := Lib.hid hR
  have HREAD : Hid (readN (bs.drop q) limit = scanN limit 9 (bs.drop q) 0 0) := rfl
  generalize readN (bs.drop q) limit = R at HREAD ⊢
  clear hR
  go_enter Try.func42, Try.ntmps42
  go_wp2
  go_loopg [9, 10, 11] 9 (fun g n u i wr => ∃ k N : Nat, k ≤ 9 ∧ 9 - k ≤ g ∧ i = .int .i64 (k : Int) ∧ n = .int .u64 (N : Int) ∧ u = .int .u64 ((128 ^ k : Nat) : Int) ∧ N < 128 ^ k ∧ R = scanN limit (9 - k) (bs.drop (q + k)) k N ∧ wr = w)
  case atStart => exact ⟨0, 0, by omega, by omega, rfl, rfl, rfl, by simp, by simpa using HREAD.out, rfl⟩
  case round =>
    obtain ⟨k, N, hk9, hg, rfl, rfl, rfl, hN, hR, rfl⟩ := hrel
    have HR := Lib.hid hR
    have HN := Lib.hid hN
    clear hR hN HREAD
    by_cases h9 : k < 9
    · have h9' : (k : Int) < 9 := by omega
      by_cases hin : q + k < bs.length
      · have hin' : (q : Int) + (k : Int) < (bs.length : Int) := by omega
        obtain ⟨b, o, rfl, hc⟩ := HRow.out (q + k) hin
        have hy : (bs.getD (q + k) 0).toNat < 256 := (bs.getD (q + k) 0).toNat_lt
        have hS : R = (if 128 ≤ (bs.getD (q + k) 0).toNat then scanN limit (8 - k) (bs.drop (q + k + 1)) (k + 1) (N + (bs.getD (q + k) 0).toNat % 128 * 128 ^ k)
            else if (bs.getD (q + k) 0).toNat = 0 ∧ 0 < k then (0, 0, 11) else if limit < N + (bs.getD (q + k) 0).toNat % 128 * 128 ^ k then (0, 0, 10) else (N + (bs.getD (q + k) 0).toNat % 128 * 128 ^ k, k + 1, 0)) := by
          rw [HR.out, drop_atB hin, show 9 - k = (8 - k) + 1 by omega, scanN]
        rw [show atB bs (q + k) = (((bs.getD (q + k) 0).toNat : Nat) : Int) from rfl] at hc
        generalize (bs.getD (q + k) 0).toNat = y at hc hy hS
        have hT := pow_less (y := y) (by omega : k ≤ 8) HN.out
        have hP : 128 ^ k ≤ 72057594037927936 := Nat.le_trans (Nat.pow_le_pow_right (by omega) (by omega : k ≤ 8)) (by decide)
        have hP2 : 128 ^ (k + 1) = 128 ^ k * 128 := Nat.pow_succ ..
        obtain ⟨T, hTe⟩ : ∃ T, T = y % 128 * 128 ^ k := ⟨_, rfl⟩
        rw [← hTe] at hS hT
        rw [hP2] at hT
        have HP2 := Lib.hid hP2
        generalize 128 ^ k = P at hTe hP hT HP2
        have hw1 : IntKind.u64.wrap ((y : Int) % 128 * (P : Int)) = (T : Int) := by
          rw [show (y : Int) % 128 * (P : Int) = (T : Int) by rw [hTe]; simp, IntKind.wrap_u64]; omega
        have hw2 : IntKind.u64.wrap ((N : Int) + (T : Int)) = ((N + T : Nat) : Int) := by rw [IntKind.wrap_u64]; omega
        have hw3 : IntKind.u64.wrap (T : Int) = (T : Int) := by rw [IntKind.wrap_u64]; omega
        have hw4 : IntKind.u64.wrap ((P : Int) * 128) = (P : Int) * 128 := by rw [IntKind.wrap_u64]; omega
        have HS := Lib.hid hS
        have HT := Lib.hid hTe
        clear hS hTe HR hP2
        by_cases h128 : 128 ≤ y
        · have h128' : ¬ (y : Int) < 128 := by omega
          have HX : Hid (R = scanN limit (9 - (k + 1)) (bs.drop (q + (k + 1))) (k + 1) (N + T)) := by rw [HS.out, if_pos h128, show 9 - (k + 1) = 8 - k by omega]; rfl
          go_wp2
          go_roundg (9 - (k + 1))
          case measure => omega
          case rel => exact ⟨k + 1, N + T, by omega, Nat.le_refl _, by go_num, by first | rfl | go_num, by rw [HP2.out]; first | rfl | go_num, by rw [HP2.out]; exact hT.2, HX.out, rfl⟩
        · have h128' : (y : Int) < 128 := by omega
          rw [if_neg h128] at HS
          by_cases hy0 : y = 0
          · have hT0 : T = 0 := by have := HT.out; rw [hy0] at this; simpa using this
            by_cases hk0 : k = 0
            · subst hy0
              have hN0 : N = 0 := by have := HN.out; rw [hk0] at this; simpa using this
              have hE : R = (N, k + 1, 0) := by rw [HS.out, if_neg (by omega), if_neg (by omega), hT0]; rfl
              have hw0 : IntKind.u64.wrap 0 = 0 := rfl
              have hwn : IntKind.u64.wrap (N : Int) = N := by rw [hN0]; rfl
              have hk1 : ¬ (0 : Int) < (k : Int) := by omega
              have hL' : ¬ (limit : Int) < (N : Int) := by omega
              have HK := Lib.hid hk0
              subst hE
              clear HS HT hw1 hw2 hN0 hT0 hk0
              go_wp2
              go_ret3
              exact ⟨rfl, rfl⟩
            · subst hy0
              have hE : R = (0, 0, 11) := by rw [HS.out, if_pos ⟨rfl, by omega⟩]
              have hk1 : (0 : Int) < (k : Int) := by omega
              subst hE
              clear HS HT hw1 hw2
              go_wp2
              go_ret3
              exact ⟨rfl, rfl⟩
          · have hy0' : ((y : Int) == 0) = false := by simp; omega
            rw [if_neg (fun h => hy0 h.1)] at HS
            by_cases hL : limit < N + T
            · have hE : R = (0, 0, 10) := by rw [HS.out, if_pos hL]
              have hL' : (limit : Int) < (N : Int) + (T : Int) := by omega
              subst hE
              clear HS HT
              go_wp2
              go_ret3
              exact ⟨rfl, rfl⟩
            · have hE : R = (N + T, k + 1, 0) := by rw [HS.out, if_neg hL]
              have hL' : ¬ (limit : Int) < (N : Int) + (T : Int) := by omega
              subst hE
              clear HS HT
              go_wp2
              go_ret3
              exact ⟨rfl, rfl⟩
      · have hin' : ¬ (q : Int) + (k : Int) < (bs.length : Int) := by omega
        have hE : R = (0, 0, 14) := by rw [HR.out, List.drop_of_length_le (by omega), show 9 - k = (8 - k) + 1 by omega]; rfl
        subst hE
        clear HR
        go_wp2
        go_ret3
        exact ⟨rfl, rfl⟩
    · have hk : k = 9 := by omega
      subst hk
      have hE : R = (0, 0, 11) := by rw [HR.out]; rfl
      subst hE
      clear HR
      go_wp2
      go_ret3
      exact ⟨rfl, rfl⟩

end Go.Proofs.Ytedlmngfkkpmgaa
