/-
  IdentCounts returns true for any time, number, count and slice of times, and writes nothing that was there. No conditions but that each number fits its kind.
-/
import Derived.Test.YthkkbfkbgpkbmaaCount
import Derived.Deep.DeepCutAuto
namespace Go.Proofs.Ythkkbfkbgpkbmaa
open Go.ChangeShapes Go.WideShapes Go.ChangeAt Go.RowKit Go.Sort
set_option linter.unusedVariables false
set_option linter.unusedSimpArgs false

def foundB (L c : Int) (l : List Int) : Bool := (L == c) || l.any (fun x => x == L)
theorem foundB_snoc (L c : Int) (l : List Int) (x : Int) : foundB L c (l ++ [x]) = (foundB L c l || (x == L)) := by simp [foundB, Bool.or_assoc]
theorem foundB_all (c : Int) (l : List Int) : foundB (laterI c l) c l = true := by
  rcases laterI_mem c l with h | h
  · simp [foundB, h]
  · simp only [foundB, Bool.or_eq_true, List.any_eq_true]
    exact Or.inr ⟨_, h, by simp⟩

/-- What is told of the slice: where it has elements, they lie in a row. -/
def RowAt (w : World) (a : Option Addr) (len : Nat) (zs : List Int) : Prop :=
  0 < len → ∃ b off, a = some ⟨b, off, none⟩ ∧ ∀ j, j < zs.length → w.cell? ⟨b, off + j, none⟩ = some (.int .u64 (zs.getD j 0))

theorem RowAt.below {w w' : World} {a : Option Addr} {len : Nat} {zs : List Int} (h : RowAt w a len zs) (hb : Below w.heap.size w w') : RowAt w' a len zs := by
  intro hl
  obtain ⟨b, off, e, hc⟩ := h hl
  exact ⟨b, off, e, fun j hj => by rw [hb.cell (block_lt_of_cell (hc j hj))]; exact hc j hj⟩

theorem later_row (c : Int) (a : Option Addr) (len cap : Nat) (zs : List Int) (w : World) (hz : len ≤ zs.length) (hbig : len ≤ 9223372036854775807) (h : RowAt w a len zs) :
    Calls Try.prog 14 #[.int .u64 c, .slice a len cap] w fun e w' => e = .returned (.int .u64 (laterI c (zs.take len))) ∧ w' = w := by
  rcases Nat.eq_zero_or_pos len with h0 | h0
  · subst h0
    exact later_none c a cap w
  · obtain ⟨b, off, rfl, hc⟩ := h h0
    exact later_any c b off len cap zs w hz hbig hc

set_option maxRecDepth 100000 in
set_option maxHeartbeats 4000000 in
theorem counts_walk (clock next count : Int) (a : Option Addr) (len cap : Nat) (zs : List Int) (w : World) (hz : len ≤ zs.length) (hbig : len ≤ 9223372036854775807) (h : RowAt w a len zs)
    (k1 : 0 ≤ clock) (k2 : clock ≤ 18446744073709551615) (n1 : 0 ≤ next) (n2 : next ≤ 4294967295) (m1 : -9223372036854775808 ≤ count) (m2 : count ≤ 9223372036854775807) :
    Calls Try.prog 4 #[.int .u64 clock, .int .u32 next, .int .i64 count, .slice a len cap] w fun e w' => e = .returned (.bool true) ∧ Below w.heap.size w w' := by
  have HA : Hid (∀ W, Calls Try.prog 6 #[] W fun e w' => e = .returned (.bool true) ∧ Below W.heap.size W w') := anchor_any
  have HR : Hid (RowAt w a len zs) := h
  clear h
  by_cases h100 : 100 < len
  · have h100' : (100 : Int) < (len : Int) := by omega
    go_enter Try.func4, Try.ntmps4
    go_wp2_with (first | (go_at_call 6; refine (HA.out _).mono ?_; rintro e w1 ⟨rfl, hb⟩))
    go_ret
    exact ⟨rfl, hb⟩
  · have HT : Hid (∀ W, Calls Try.prog 13 #[.int .u64 clock] W fun e w' => e = .returned (.tuple #[.int .u64 (tickN clock), .int .i64 (tickE clock)]) ∧ w' = W) := fun W => tick_any clock W k1
    have HL : Hid (∀ W, RowAt W a len zs → Calls Try.prog 14 #[.int .u64 clock, .slice a len cap] W fun e w' => e = .returned (.int .u64 (laterI clock (zs.take len))) ∧ w' = W) := fun W hr => later_row clock a len cap zs W hz hbig hr
    have h100' : ¬ (100 : Int) < (len : Int) := by omega
    go_enter Try.func4, Try.ntmps4
    go_upto_region 6 with (first | (go_at_call 6; refine (HA.out _).mono ?_; rintro e w1 ⟨rfl, hb⟩) | (go_at_call 13; refine (HT.out _).mono ?_; rintro e w1 ⟨rfl, rfl⟩))
    have HB : Hid (Below w.heap.size w w1) := hb
    clear hb
    go_cut [9, 10, 52] (fun s9 s10 s52 wx => s52 = .bool false ∧ w1 = wx)
    case first =>
      by_cases ht : 1099511627776 ≤ clock
      · have e1 : tickN clock = 0 := by simp [tickN, ht]
        have e2 : tickE clock = 20 := by simp [tickE, ht]
        go_wp2_with fail
        go_meet
        exact ⟨rfl, rfl⟩
      · have e1 : tickN clock = clock + 1 := by simp [tickN, ht]
        have e2 : tickE clock = 0 := by simp [tickE, ht]
        go_wp2_with fail
        go_meet
        exact ⟨rfl, rfl⟩
    case rest =>
      obtain ⟨rfl, hwc⟩ := hcut
      subst hwc
      have HR1 : Hid (RowAt w1 a len zs) := HR.out.below HB.out
      go_wp2_with (first | (go_at_call 14; refine (HL.out _ HR1.out).mono ?_; rintro e w1 ⟨rfl, rfl⟩))
      have HG : Hid (clock ≤ laterI clock (zs.take len)) := laterI_ge _ _
      have HM : Hid (∀ x ∈ zs.take len, x ≤ laterI clock (zs.take len)) := laterI_all _ _
      have HF : Hid (foundB (laterI clock (zs.take len)) clock (zs.take len) = true) := foundB_all _ _
      generalize laterI clock (zs.take len) = L at *
      go_loop [12, 61] (fun fd i => ∃ k : Nat, k ≤ len ∧ i = .int .i64 k ∧ fd = .bool (foundB L clock (zs.take k))) (fun _ i => len - (intOf i).toNat)
      case atStart => exact ⟨0, Nat.zero_le _, rfl, by simp [foundB]⟩
      case round =>
        obtain ⟨k, hk, rfl, rfl⟩ := hrel
        by_cases hlt : k < len
        · obtain ⟨b, off, rfl, hc⟩ := HR1.out (by omega)
          have hcell : w1.cell? ⟨b, off + k, none⟩ = some (.int .u64 (zs.getD k 0)) := hc k (by omega)
          have hle : ¬ L < zs.getD k 0 := by
            have := HM.out (zs.getD k 0) (by rw [List.mem_take_iff_getElem]; exact ⟨k, by omega, by rw [List.getD_eq_getElem?_getD, List.getElem?_eq_getElem (by omega)]; rfl⟩)
            omega
          have HS : Hid (foundB L clock (zs.take (k + 1)) = (foundB L clock (zs.take k) || (zs.getD k 0 == L))) := by
            have := foundB_snoc L clock (zs.take k) (zs.getD k 0)
            rw [← take_snoc_getD zs k (by omega)] at this
            exact this
          clear hc HR1 HR
          rw [List.getD_eq_getElem?_getD] at hle
          cases hf : foundB L clock (zs.take k)
          · go_wp2_with fail
            go_round
            case rel => exact ⟨k + 1, by omega, by go_num, by rw [HS.out, hf]; simp [List.getD_eq_getElem?_getD]⟩
            case measure => simp [intOf]; omega
          · go_wp2_with fail
            go_round
            case rel => exact ⟨k + 1, by omega, by go_num, by rw [HS.out, hf]; simp⟩
            case measure => simp [intOf]; omega
        · have e : k = len := by omega
          subst e
          have hF : foundB L clock (zs.take k) = true := HF.out
          have hG : ¬ L < clock := by have := HG.out; omega
          clear HR1 HR HF HG HM HT HL HA hbig hz h100 h100'
          go_wp2_with fail
          refine (take_any next count w1 n1 n2 m2 m1).mono ?_
          rintro e w2 ⟨rfl, hw2⟩
          subst hw2
          by_cases c1 : count < 0
          · have e1 : takeN next count = 0 := by simp [takeN, c1]
            have e2 : takeE next count = 10 := by simp [takeE, c1]
            go_wp2_with fail
            go_ret
            exact ⟨rfl, HB.out⟩
          · by_cases c2 : next = 0
            · have e1 : takeN next count = 0 := by simp [takeN, c2]
              have e2 : takeE next count = 10 := by simp [takeE, c2]
              have c2' : (next == 0) = true := by simp [c2]
              clear c2
              go_wp2_with fail
              go_ret
              exact ⟨rfl, HB.out⟩
            · have c2' : (next == 0) = false := by simp [c2]
              by_cases c3 : next + count > 268435457
              · have e1 : takeN next count = 0 := by simp [takeN, c1, c2, c3]
                have e2 : takeE next count = 20 := by simp [takeE, c1, c2, c3]
                by_cases c4 : 268435457 < count
                · go_wp2_with fail
                  go_ret
                  exact ⟨rfl, HB.out⟩
                · go_wp2_with fail
                  go_ret
                  exact ⟨rfl, HB.out⟩
              · have e1 : takeN next count = next + count := by simp [takeN, c1, c2, c3]
                have e2 : takeE next count = 0 := by simp [takeE, c1, c2, c3]
                by_cases c5 : 1048576 < count
                · have c5' : decide (1048576 < count) = true := by simp [c5]
                  go_wp2_with fail
                  refine wp_region_quiet_below (by kernel_rfl) (by kernel_rfl) ?_
                  repeat (go_big_quiet_step (fail))
                  refine wpQuiet_nil ?_
                  intro w3 hw'
                  have HB4 : Hid (Below w2.heap.size w2 w3) := by obtain ⟨⟨dq, osq⟩, rfl⟩ := hw'; exact (((Below.refl _ _).alloc (Nat.le_refl _) _).alloc (by simp) _).trans ((below_regrown _ _ _).mono (by simp; omega))
                  clear hw'
                  go_wp2_with fail
                  go_ret
                  exact ⟨rfl, HB.out.trans (HB4.out.mono HB.out.size)⟩
                · have c5' : decide (1048576 < count) = false := by simp [c5]
                  go_wp2_with fail
                  have hfd : ∀ W : World, (Instr.field 26 (.agg #[.int .u64 clock, .int .u16 3, .int .u32 (next + count)]) 0).run Try.prog W = .ok (.int .u64 clock) W := fun _ => by kernel_rfl
                  have g0 := cell_regrown (w := (w2.alloc (.cells #[.int .u16 3, .int .u32 next] 31)).alloc (.cells #[.int .u64 clock, .int .u16 3, .int .u32 next] 26)) (a := ⟨w2.heap.size, 0, none⟩) (v := .int .u16 3) (by simp)
                  have g1 := cell_regrown (w := (w2.alloc (.cells #[.int .u16 3, .int .u32 next] 31)).alloc (.cells #[.int .u64 clock, .int .u16 3, .int .u32 next] 26)) (a := ⟨w2.heap.size, 1, none⟩) (v := .int .u32 next) (by simp)
                  have g2 := cell_regrown (w := (w2.alloc (.cells #[.int .u16 3, .int .u32 next] 31)).alloc (.cells #[.int .u64 clock, .int .u16 3, .int .u32 next] 26)) (a := ⟨w2.heap.size + 1, 0, none⟩) (v := .int .u64 clock) (by simp)
                  have g3 := cell_regrown (w := (w2.alloc (.cells #[.int .u16 3, .int .u32 next] 31)).alloc (.cells #[.int .u64 clock, .int .u16 3, .int .u32 next] 26)) (a := ⟨w2.heap.size + 1, 1, none⟩) (v := .int .u16 3) (by simp)
                  have g4 := cell_regrown (w := (w2.alloc (.cells #[.int .u16 3, .int .u32 next] 31)).alloc (.cells #[.int .u64 clock, .int .u16 3, .int .u32 next] 26)) (a := ⟨w2.heap.size + 1, 2, none⟩) (v := .int .u32 next) (by simp)
                  refine wp_region_quiet_below (by kernel_rfl) (by kernel_rfl) ?_
                  repeat (first | go_big_quiet_step (first | (go_at_call 16; exact Calls.regrown_of (idplus_any _ _ _ _ n1 (by omega) (by omega))) | (go_at_call 17; exact Calls.regrown_of (keyplus_any _ _ _ _ _ n1 (by omega) (by omega))) | (go_at_call 7; exact Calls.regrown_of (keyid_any _ _ _ _))) | quiet_step (fail))
                  refine wpQuiet_nil ?_
                  intro w3 hw'
                  have HB4 : Hid (Below w2.heap.size w2 w3) := by obtain ⟨⟨dq, osq⟩, rfl⟩ := hw'; exact (((Below.refl _ _).alloc (Nat.le_refl _) _).alloc (by simp) _).trans ((below_regrown _ _ _).mono (by simp; omega))
                  clear hw' g0 g1 g2 g3 g4 hfd
                  go_wp2_with fail
                  go_ret
                  exact ⟨rfl, HB.out.trans (HB4.out.mono HB.out.size)⟩

end Go.Proofs.Ythkkbfkbgpkbmaa
