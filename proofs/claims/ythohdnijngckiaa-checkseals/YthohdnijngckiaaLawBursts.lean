
/-
  The laws' own anchor of layer 6, and that CheckBursts' function hands back true, for all bytes that lie in memory, any place and any number. No conditions beyond what each theorem states.
-/
import Derived.Test.YthohdnijngckiaaCheckProg
namespace Go.Proofs.Ythohdnijngckiaa
open Go.ChangeShapes Go.WideShapes Go.ChangeAt Go.RowKit Go.Lib
set_option linter.unusedVariables false
set_option linter.unusedSimpArgs false

theorem zero_row (w : World) : BRow (w.alloc (.cells #[.int .u8 0, .int .u8 0, .int .u8 0, .int .u8 0] 5)) (some ⟨w.heap.size, 0, none⟩) [0, 0, 0, 0] := by
  have h : (w.alloc (.cells #[.int .u8 0, .int .u8 0, .int .u8 0, .int .u8 0] 5)).heap[w.heap.size]? = some (.cells (byteCells [0, 0, 0, 0]).toArray 5 (0, 0)) := heap_alloc_new w _
  exact brow_block h

set_option maxHeartbeats 1600000 in
theorem anchor_any (w : World) : Calls Try.prog 6 #[] w fun e w' => e = .returned (.bool true) ∧ Below w.heap.size w w' := by
  have H1 := open_any [0, 0, 0, 0] (some ⟨w.heap.size, 0, none⟩) 4 _ (zero_row w) (by simp) (by intro h; cases h) (by simp)
  unfold Opened at H1
  rw [open_zero.1, open_zero.2] at H1
  have H1 := Lib.hid H1
  have H2 := Lib.hid (fun W => sum_any [] none 0 W (LRow.nil _ _) (by simp))
  have HS := Lib.hid sum_zero
  have H3 := Lib.hid (fun W => seal_any [] none 0 W (BRow.nil _ _) (by simp) (fun _ => rfl) (by simp))
  go_enter Try.func6, Try.ntmps6
  go_wp2_with fail
  refine H1.out.mono ?_
  rintro e w1 ⟨p1, c1, rfl, _, _, _, hb1⟩
  have HB1 : Hid (Below w.heap.size w w1) := below_step (below_alloc (Below.refl _ _) _) hb1
  clear hb1 H1
  go_wp2_with fail
  refine (H2.out _).mono ?_
  rw [List.flatten_nil, HS.out]
  rintro e w2 ⟨rfl, hb2⟩
  have HB2 : Hid (Below w.heap.size w w2) := below_step HB1.out hb2
  clear hb2 H2
  go_wp2_with fail
  refine (H3.out _).mono ?_
  unfold Told
  rw [seal_zero]
  rintro e w3 ⟨p3, c3, rfl, hr3, _, _, hb3⟩
  have hcv : ∀ x, (convert 22 9 (.slice p3 4 x)).run Try.prog w3 = .ok (.string ⟨#[0, 0, 0, 0]⟩) w3 := fun x => conv_all hr3 rfl
  have HB3 : Hid (Below w.heap.size w w3) := below_step HB2.out hb3
  clear hb3 H3 hr3
  go_wp2
  go_ret
  exact ⟨rfl, HB3.out⟩

theorem and_one {f k : Nat} (hf : f < 4294967296) : bits .and .u32 ((f : Int) / 2 ^ k) 1 = ((f / 2 ^ k % 2 : Nat) : Int) := by
  have e0 : (f : Int) / 2 ^ k = ((f / 2 ^ k : Nat) : Int) := by rw [Int.natCast_ediv]; simp
  have hlt : f / 2 ^ k < 4294967296 := Nat.lt_of_le_of_lt (Nat.div_le_self _ _) hf
  rw [e0]
  generalize f / 2 ^ k = x at hlt
  have h1 : BitVec.ofInt 32 (x : Int) = BitVec.ofNat 32 x := by rw [BitVec.ofInt_natCast]
  have e : (BitVec.ofInt 32 (x : Int) &&& BitVec.ofInt 32 1).toNat = x % 2 := by
    rw [BitVec.toNat_and, h1, BitVec.toNat_ofNat, show (BitVec.ofInt 32 1).toNat = 2 ^ 1 - 1 from rfl, Nat.and_two_pow_sub_one_eq_mod]; omega
  show IntKind.u32.wrap ((BitVec.ofInt 32 (x : Int) &&& BitVec.ofInt 32 1).toNat : Int) = _
  rw [e, IntKind.wrap_u32]; omega
theorem bit_one {f k : Nat} (hf : f < 4294967296) : (bits .and .u32 ((f : Int) / 2 ^ k) 1 == 1) = f.testBit k := by
  rw [and_one hf, Nat.testBit_eq_decide_div_mod_eq]
  by_cases h : f / 2 ^ k % 2 = 1
  · rw [h]; simp
  · have : f / 2 ^ k % 2 = 0 := by omega
    rw [this]; simp
theorem xor_byte {c d : Nat} (hc : c < 256) (hd : d < 256) : bits .xor .u8 (c : Int) (d : Int) = ((c ^^^ d : Nat) : Int) ∧ c ^^^ d < 256 := by
  have hx : c ^^^ d < 2 ^ 8 := Nat.xor_lt_two_pow (by omega) (by omega)
  have e : (BitVec.ofInt 8 (c : Int) ^^^ BitVec.ofInt 8 (d : Int)).toNat = c ^^^ d := by
    rw [BitVec.toNat_xor, BitVec.ofInt_natCast, BitVec.ofInt_natCast, BitVec.toNat_ofNat, BitVec.toNat_ofNat, Nat.mod_eq_of_lt (by omega), Nat.mod_eq_of_lt (by omega)]
  refine ⟨?_, by omega⟩
  show IntKind.u8.wrap ((BitVec.ofInt 8 (c : Int) ^^^ BitVec.ofInt 8 (d : Int)).toNat : Int) = _
  rw [e, IntKind.wrap_u8]; omega

set_option maxHeartbeats 1600000 in
set_option maxRecDepth 200000 in
theorem bursts_any (bs : List UInt8) (a : Int) (f : Nat) (p : Option Addr) (c : Nat) (w : World) (hB : BRow w p bs) (hp : p = none → c = 0) (hl : bs.length ≤ 140737488351232) (ha0 : -9223372036854775808 ≤ a) (ha1 : a < 9223372036854775808) (hf : f < 4294967296) :
    Calls Try.prog 5 #[.slice p bs.length c, .int .i64 a, .int .u32 (f : Int)] w fun e w' => e = .returned (.bool true) ∧ Below w.heap.size w w' := by
  have HB := Lib.hid hB
  have HSL : Hid ((sealL bs).length = bs.length + 4) := by show _ = _; unfold sealL; rw [List.length_append, be4_len]
  clear hB
  go_enter Try.func5, Try.ntmps5
  go_wp2_with fail
  refine (anchor_any w).mono ?_
  rintro e w1 ⟨rfl, hb1⟩
  have HB1 := Lib.hid hb1
  clear hb1
  go_wp2_with fail
  refine (refseal_any bs p c w1 (HB.out.below HB1.out) hp hl).mono ?_
  rintro e w2 ⟨v, rfl, hown, hb2⟩
  obtain ⟨g, cap, rfl, hg, hcap, _⟩ := owns_at hown (by rw [HSL.out]; omega)
  have HB2 : Hid (Below w.heap.size w w2) := below_step HB1.out hb2
  have HG : Hid (w.heap.size ≤ g) := Nat.le_trans HB1.out.size hg
  have HO : Hid (w2.ownsRow w1.heap.size 5 1 (.slice (some ⟨g, 0, none⟩) (sealL bs).length cap) (sealL bs).length (byteCells (sealL bs))) := hown
  clear hown hb2 hg
  generalize w1.heap.size = B at HO
  obtain ⟨s0, hs0⟩ : ∃ s0, s0 = sealL bs := ⟨_, rfl⟩
  have HS0 := Lib.hid hs0
  have hn : s0.length = bs.length + 4 := by rw [hs0]; exact HSL.out
  rw [← hs0] at HO hcap ⊢
  clear hs0 HSL
  by_cases h1 : 3000 < bs.length
  · have h1' : (3000 : Int) < (bs.length : Int) := by omega
    go_wp2
    go_ret
    exact ⟨rfl, HB2.out⟩
  · have h1' : ¬ (3000 : Int) < (bs.length : Int) := by omega
    by_cases h2 : f = 0
    · subst h2
      go_wp2
      go_ret
      exact ⟨rfl, HB2.out⟩
    · have h2' : ((f : Int) == 0) = false := by simp; omega
      by_cases h3 : a < 0
      · go_wp2
        go_ret
        exact ⟨rfl, HB2.out⟩
      · by_cases h4 : 8 * (s0.length : Int) - 32 < a
        · go_wp2
          go_ret
          exact ⟨rfl, HB2.out⟩
        · obtain ⟨A, rfl⟩ : ∃ A : Nat, a = (A : Int) := ⟨a.toNat, by omega⟩
          obtain ⟨D, hD⟩ : ∃ D, D + A = 8 * s0.length := ⟨8 * s0.length - A, by omega⟩
          have hD32 : 32 ≤ D := by omega
          obtain ⟨n, hnn⟩ : ∃ n, n = s0.length := ⟨_, rfl⟩
          rw [← hnn] at HO hcap hD h4 hn ⊢
          have HNN := Lib.hid hnn
          have HD := Lib.hid hD
          have hn1 : n ≤ 3004 ∧ 4 ≤ n := by omega
          have hAn : (A : Int) ≤ 8 * (n : Int) - 32 := by omega
          clear hnn hn hD h4 h3
          have h3 : ¬ (A : Int) < 0 := by omega
          have h4 : ¬ 8 * (n : Int) - 32 < (A : Int) := by omega
          have HX : Hid (A + 32 ≤ 8 * n ∧ n ≤ cap ∧ 32 ≤ D) := ⟨by omega, hcap, hD32⟩
          clear hAn ha0 ha1 hl hcap hp hD32
          go_wp2
          go_loopg [35] 32 (fun gh i wr => ∃ (k : Nat) (s : List UInt8), k ≤ 32 ∧ 32 - k ≤ gh ∧ i = .int .i64 (k : Int) ∧ s.length = n ∧ wr.ownsRow B 5 1 (.slice (some ⟨g, 0, none⟩) n cap) n (byteCells s) ∧ regL ones s = regL ones s0 ^^^ runT D (turnW f k) ∧ Below w.heap.size w wr)
          case atStart => exact ⟨0, s0, by omega, by omega, rfl, HNN.out.symm, HO.out, by
            have : ∀ m, runT m 0#32 = 0#32 := fun m => by
              induction m with
              | zero => rfl
              | succ m ih => rw [runT, stepT_zero]; exact ih
            rw [turnW, this, BitVec.xor_zero], HB2.out⟩
          case round =>
            obtain ⟨k, s, hk, hgk, rfl, hsn, hown, hreg, hb⟩ := hrel
            have HOw := Lib.hid hown
            have HRg := Lib.hid hreg
            have HBw := Lib.hid hb
            clear hown hreg hb HB2 HO
            by_cases hk32 : k < 32
            · have hk32' : (k : Int) < 32 := by omega
              have hbit := bit_one (k := k) hf
              cases hfb : f.testBit k with
              | false =>
                rw [hfb] at hbit
                have HFB := Lib.hid hfb
                clear hfb
                go_wp2
                go_roundg (32 - (k + 1))
                case measure => omega
                case rel => exact ⟨k + 1, s, by omega, Nat.le_refl _, by go_num, hsn, HOw.out, by rw [HRg.out, reg_stay (by rw [HFB.out]; simp)], HBw.out⟩
              | true =>
                rw [hfb] at hbit
                have hq : (A + k) / 8 < n := by have := HX.out.1; omega
                have hq' : ((A : Int) + (k : Int)) / 8 < (n : Int) := by omega
                have hcell : wr.cell? ⟨g, (A + k) / 8, none⟩ = some (.int .u8 (((s.getD ((A + k) / 8) 0).toNat : Nat) : Int)) := by
                  rw [HOw.out.cellAt _ (by omega)]; exact atB_get (by omega)
                have hfz : wr.frozen? ⟨g, (A + k) / 8, none⟩ = false := HOw.out.frozenAt _
                have HNEXT : Hid (∀ d : UInt8, d.toNat = (s.getD ((A + k) / 8) 0).toNat ^^^ (128 / 2 ^ ((A + k) % 8)) → regL ones (s.set ((A + k) / 8) d) = regL ones s0 ^^^ runT D (turnW f (k + 1))) := fun d hd =>
                  reg_next (by rw [hsn]; exact HD.out) HX.out.2.2 hk32 HRg.out hfb hd
                have hcb : (s.getD ((A + k) / 8) 0).toNat < 256 := (s.getD ((A + k) / 8) 0).toNat_lt
                generalize (s.getD ((A + k) / 8) 0).toNat = C at hcell HNEXT hcb
                have hdb : 128 / 2 ^ ((A + k) % 8) < 256 := Nat.lt_of_le_of_lt (Nat.div_le_self _ _) (by decide)
                have hEe : (128 : Int) / 2 ^ ((A + k) % 8) = ((128 / 2 ^ ((A + k) % 8) : Nat) : Int) := by rw [Int.natCast_ediv]; simp
                obtain ⟨hx1, hx2⟩ := xor_byte hcb hdb
                obtain ⟨y, hy⟩ : ∃ y, y = UInt8.ofNat (C ^^^ (128 / 2 ^ ((A + k) % 8))) := ⟨_, rfl⟩
                have hyn : y.toNat = C ^^^ (128 / 2 ^ ((A + k) % 8)) := by rw [hy, u8_nat hx2]
                have HU : Hid (Value.int .u8 (bits .xor .u8 (C : Int) (128 / 2 ^ ((A + k) % 8))) = Value.int .u8 (y.toNat : Int)) := by show _ = _; rw [hEe, hx1, hyn]
                have HRN := Lib.hid (HNEXT.out y hyn)
                have HOW2 : Hid ((wr.setCell ⟨g, (A + k) / 8, none⟩ (.int .u8 (y.toNat : Int))).ownsRow B 5 1 (.slice (some ⟨g, 0, none⟩) n cap) n (byteCells (s.set ((A + k) / 8) y))) := by
                  have := (HOw.out.stored ((A + k) / 8) (.int .u8 (y.toNat : Int))).1
                  rwa [byteCells_set] at this
                clear hfb hEe hx1 hx2 hy hyn HNEXT
                go_wp2
                go_roundg (32 - (k + 1))
                case measure => omega
                case rel => exact ⟨k + 1, s.set ((A + k) / 8) y, by omega, Nat.le_refl _, by go_num, by rw [List.length_set]; exact hsn, by rw [HU.out]; exact HOW2.out, HRN.out, HBw.out.setCell (p := ⟨g, (A + k) / 8, none⟩) HG.out _⟩
            · have hk2 : k = 32 := by omega
              subst hk2
              have hno : openL s = false := burst_found (bs := bs) (by rw [← HS0.out, hsn]; exact HNN.out) hf h2 (by rw [← HS0.out]; exact HRg.out)
              obtain ⟨g', cap', hv, _, _, hrow⟩ := owns_at HOw.out (by omega)
              cases hv
              have H := open_any s (some ⟨g, 0, none⟩) cap wr hrow (by rw [hsn]; exact HX.out.2.1) (by intro h; cases h) (by omega)
              unfold Opened at H
              rw [hno, hsn] at H
              have H := Lib.hid H
              clear hno hrow HOw HRg
              go_wp2_with fail
              refine H.out.mono ?_
              rintro e w5 ⟨p5, c5, rfl, _, _, _, hb5⟩
              have HB5 : Hid (Below w.heap.size w w5) := below_step HBw.out hb5
              clear hb5 H
              go_wp2
              go_ret
              exact ⟨rfl, HB5.out⟩

end Go.Proofs.Ythohdnijngckiaa
