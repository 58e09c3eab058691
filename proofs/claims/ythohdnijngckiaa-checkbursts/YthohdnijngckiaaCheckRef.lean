
/-
  What the document's own Sum and Seal of layer 6 hand back, for all bytes. No conditions beyond what each theorem states.
-/
import Derived.Test.YthohdnijngckiaaCheckBytes
import Derived.Test.YthohdnijngckiaaPackBase
namespace Go.Proofs.Ythohdnijngckiaa
open Go.ChangeShapes Go.WideShapes Go.ChangeAt Go.RowKit Go.Lib
set_option linter.unusedVariables false
set_option linter.unusedSimpArgs false

theorem reg_lt (s : R32) : s.toNat < 4294967296 := s.isLt
theorem shl_nat (s : R32) : (s <<< 1).toNat = s.toNat * 2 % 4294967296 := by
  rw [BitVec.toNat_shiftLeft, Nat.shiftLeft_eq]
theorem msb_nat (s : R32) : s.toNat / 2147483648 = s.msb.toNat := by
  rw [BitVec.msb_eq_decide]
  have := reg_lt s
  by_cases h : 2147483648 ≤ s.toNat
  · rw [decide_eq_true (by simpa using h)]; simp; omega
  · rw [decide_eq_false (by simpa using h)]; simp; omega
theorem xor_poly (s : R32) : bits .xor .u32 (s.toNat : Int) 517762881 = ((s ^^^ poly).toNat : Int) := by
  have h1 : BitVec.ofInt 32 (s.toNat : Int) = s := by rw [BitVec.ofInt_natCast]; simp
  have e : (BitVec.ofInt 32 (s.toNat : Int) ^^^ BitVec.ofInt 32 517762881) = s ^^^ poly := by rw [h1]; rfl
  show IntKind.u32.wrap ((BitVec.ofInt 32 (s.toNat : Int) ^^^ BitVec.ofInt 32 517762881).toNat : Int) = _
  rw [e, IntKind.wrap_u32]
  have := reg_lt (s ^^^ poly)
  omega
theorem not_nat (s : R32) : (s ^^^ ones).toNat = 4294967295 - s.toNat := by
  have : s ^^^ ones = ~~~ s := by rw [show ones = BitVec.allOnes 32 from rfl, BitVec.xor_allOnes]
  rw [this, BitVec.toNat_not]
set_option maxRecDepth 100000 in
theorem bit_at {n k : Nat} (hn : n < 256) (hk : k < 8) : (n * 2 ^ k % 256) / 128 = (n.testBit (7 - k)).toNat := by
  have : ∀ k, k < 8 → ∀ n, n < 256 → (n * 2 ^ k % 256) / 128 = (n.testBit (7 - k)).toNat := by decide +kernel
  exact this k hk n hn
theorem take_bit (c : UInt8) {k : Nat} (hk : k < 8) : (bitsB c).take (k + 1) = (bitsB c).take k ++ [c.toNat.testBit (7 - k)] := by
  have : k = 0 ∨ k = 1 ∨ k = 2 ∨ k = 3 ∨ k = 4 ∨ k = 5 ∨ k = 6 ∨ k = 7 := by omega
  rcases this with h | h | h | h | h | h | h | h <;> subst h <;> rfl
theorem runB_snoc (s : R32) (l : List Bool) (b : Bool) : runB s (l ++ [b]) = stepB (runB s l) b := by rw [runB_append]; rfl
theorem step_yes {s : R32} {b : Bool} (h : s.msb.toNat ≠ b.toNat) : stepB s b = (s <<< 1) ^^^ poly := by
  unfold stepB
  cases hm : s.msb <;> cases b <;> simp_all
theorem step_no {s : R32} {b : Bool} (h : s.msb.toNat = b.toNat) : stepB s b = s <<< 1 := by
  unfold stepB
  cases hm : s.msb <;> cases b <;> simp_all
theorem regL_snoc {bs : List UInt8} {k : Nat} (h : k < bs.length) (s : R32) : regL s (bs.take (k + 1)) = runB (regL s (bs.take k)) (bitsB (bs.getD k 0)) := by
  rw [List.take_add_one, regL_append]
  simp [h, regL, bitsL]

set_option maxHeartbeats 3200000 in
set_option maxRecDepth 20000 in
theorem refsum_any (bs : List UInt8) (p : Option Addr) (c : Nat) (w : World) (hR : BRow w p bs) (hl : bs.length ≤ 9223372036854775807) :
    Calls Try.prog 7 #[.slice p bs.length c] w fun e w' => e = .returned (.int .u32 ((sumL bs).toNat : Int)) ∧ w' = w := by
  have HR := Lib.hid hR
  clear hR
  go_enter Try.func7, Try.ntmps7
  go_wp2
  go_loopg [3, 4] bs.length (fun g s i wr => ∃ k : Nat, k ≤ bs.length ∧ bs.length - k ≤ g ∧ i = .int .i64 (k : Int) ∧ s = .int .u32 ((regL ones (bs.take k)).toNat : Int) ∧ wr = w)
  case atStart => exact ⟨0, Nat.zero_le _, by omega, rfl, rfl, rfl⟩
  case round =>
    obtain ⟨k, hk, hg, rfl, rfl, rfl⟩ := hrel
    by_cases hlt : k < bs.length
    · obtain ⟨b, o, rfl, hc⟩ := HR.out k hlt
      have hS := regL_snoc hlt ones
      have hcb : (bs.getD k 0).toNat < 256 := (bs.getD k 0).toNat_lt
      rw [show atB bs k = (((bs.getD k 0).toNat : Nat) : Int) from rfl] at hc
      generalize bs.getD k 0 = cc at hc hS hcb
      generalize regL ones (bs.take k) = S0 at hS ⊢
      have HS := Lib.hid hS
      clear hS
      go_wp2
      go_loopg [3, 5, 6] 8 (fun g s cv i wq => ∃ j : Nat, j ≤ 8 ∧ 8 - j ≤ g ∧ i = .int .i64 (j : Int) ∧ cv = .int .u8 ((cc.toNat * 2 ^ j % 256 : Nat) : Int) ∧ s = .int .u32 ((runB S0 ((bitsB cc).take j)).toNat : Int) ∧ wq = wr)
      case atStart => exact ⟨0, by omega, by omega, rfl, by simp [Nat.mod_eq_of_lt hcb], rfl, rfl⟩
      case round =>
        obtain ⟨j, hj, hgj, rfl, rfl, rfl, rfl⟩ := hrel
        by_cases hj8 : j < 8
        · have hj8' : (j : Int) < 8 := by omega
          have hbit := bit_at hcb hj8
          have hnx := runB_snoc S0 ((bitsB cc).take j) (cc.toNat.testBit (7 - j))
          rw [← take_bit cc hj8] at hnx
          have hC2 : cc.toNat * 2 ^ (j + 1) % 256 = cc.toNat * 2 ^ j % 256 * 2 % 256 := by rw [Nat.pow_succ, ← Nat.mul_assoc]; omega
          have hCb : cc.toNat * 2 ^ j % 256 < 256 := Nat.mod_lt _ (by decide)
          generalize cc.toNat * 2 ^ j % 256 = C at hbit hC2 hCb ⊢
          generalize hB : cc.toNat.testBit (7 - j) = B at hbit hnx
          generalize runB S0 ((bitsB cc).take j) = S at hnx ⊢
          have hX := reg_lt S
          have ho := msb_nat S
          have hsh := shl_nat S
          have hxp := xor_poly (S <<< 1)
          have hO : S.msb.toNat < 2 := by cases S.msb <;> decide
          have hBb : B.toNat < 2 := by cases B <;> decide
          by_cases he : S.msb.toNat = B.toNat
          · rw [step_no he] at hnx
            rw [he] at ho
            have HNX : Hid ((runB S0 ((bitsB cc).take (j + 1))).toNat = (S <<< 1).toNat) := by show _ = _; rw [hnx]
            generalize (S <<< 1).toNat = Y at hsh HNX
            generalize S.toNat = X at hX ho hsh
            generalize B.toNat = O at ho hbit
            have q1 : (X : Int) / 2147483648 = (O : Int) := by omega
            have q2 : (C : Int) / 128 = (O : Int) := by omega
            have q3 : IntKind.u32.wrap ((X : Int) * 2) = (Y : Int) := by rw [IntKind.wrap_u32]; omega
            have q4 : IntKind.u8.wrap ((C : Int) * 2) = ((C * 2 % 256 : Nat) : Int) := by rw [IntKind.wrap_u8]; omega
            have HC2 := Lib.hid hC2
            clear hC2 hsh ho hbit hnx hxp he hO hBb
            go_wp2
            go_roundg (8 - (j + 1))
            case measure => omega
            case rel => exact ⟨j + 1, by omega, Nat.le_refl _, by go_num, by rw [HC2.out]; rfl, by rw [HNX.out], rfl⟩
          · rw [step_yes he] at hnx
            have HNX : Hid ((runB S0 ((bitsB cc).take (j + 1))).toNat = ((S <<< 1) ^^^ poly).toNat) := by show _ = _; rw [hnx]
            generalize ((S <<< 1) ^^^ poly).toNat = Z at hxp HNX
            generalize (S <<< 1).toNat = Y at hsh hxp
            generalize S.toNat = X at hX ho hsh
            generalize B.toNat = O at hbit he
            generalize S.msb.toNat = O2 at ho he
            have q1 : (X : Int) / 2147483648 = (O2 : Int) := by omega
            have q2 : (C : Int) / 128 = (O : Int) := by omega
            have q3 : IntKind.u32.wrap ((X : Int) * 2) = (Y : Int) := by rw [IntKind.wrap_u32]; omega
            have q4 : IntKind.u8.wrap ((C : Int) * 2) = ((C * 2 % 256 : Nat) : Int) := by rw [IntKind.wrap_u8]; omega
            have q5 : ((O2 : Int) == (O : Int)) = false := by simp; omega
            have HC2 := Lib.hid hC2
            clear hC2 hsh ho hbit hnx he
            go_wp2
            go_roundg (8 - (j + 1))
            case measure => omega
            case rel => exact ⟨j + 1, by omega, Nat.le_refl _, by go_num, by rw [HC2.out]; rfl, by rw [HNX.out], rfl⟩
        · have hj8' : j = 8 := by omega
          subst hj8'
          have HE : Hid (runB S0 ((bitsB cc).take 8) = regL ones (bs.take (k + 1))) := by show _ = _; rw [HS.out]; rfl
          go_wp2
          go_roundg (bs.length - (k + 1))
          case measure => omega
          case rel => exact ⟨k + 1, by omega, Nat.le_refl _, by go_num, by rw [HE.out], rfl⟩
    · have : k = bs.length := by omega
      subst this
      have hlt32 := reg_lt (regL ones (bs.take bs.length))
      have HX : Hid ((sumL bs).toNat = 4294967295 - (regL ones (bs.take bs.length)).toNat) := by show _ = _; rw [List.take_length, sumL, not_nat]
      generalize (regL ones (bs.take bs.length)).toNat = X at hlt32 HX ⊢
      go_wp2
      go_ret
      exact ⟨by rw [HX.out, show ((4294967295 - X : Nat) : Int) = 4294967295 - (X : Int) by omega]; rfl, rfl⟩

/-- Bytes in new memory of the call's own. -/
def FreshC (bs : List UInt8) (w : World) (e : Ending) (w' : World) : Prop := ∃ v, e = .returned v ∧ w'.ownsRow w.heap.size 5 1 v bs.length (byteCells bs) ∧ Below w.heap.size w w'
theorem four_bytes (w : World) (v : R32) : ∀ j u, (byteCells (be4 v))[j]? = some u → (w.alloc (.cells (byteCells (be4 v)).toArray 5)).cell? ((⟨w.heap.size, 0, none⟩ : Addr).add j) = some u := by
  intro j u hj
  rw [Addr.add_lit, Nat.zero_add, cell_of_block (heap_alloc_new w _)]
  simpa using hj
theorem be4_cells (v : R32) : byteCells (be4 v) = [.int .u8 ((v.toNat / 16777216 : Nat) : Int), .int .u8 ((v.toNat / 65536 % 256 : Nat) : Int), .int .u8 ((v.toNat / 256 % 256 : Nat) : Int), .int .u8 ((v.toNat % 256 : Nat) : Int)] := by
  have hv := reg_lt v
  unfold be4 byteCells
  simp only [List.map_cons, List.map_nil, UInt8.toNat_ofNat']
  rw [Nat.mod_eq_of_lt (show v.toNat / 16777216 < 2 ^ 8 by omega), Nat.mod_eq_of_lt (show v.toNat / 65536 % 256 < 2 ^ 8 by omega), Nat.mod_eq_of_lt (show v.toNat / 256 % 256 < 2 ^ 8 by omega), Nat.mod_eq_of_lt (show v.toNat % 256 < 2 ^ 8 by omega)]

theorem four_at (W : World) (x0 x1 x2 x3 : Value) (t : TypeId) : ∀ j u, [x0, x1, x2, x3][j]? = some u → (W.alloc (.cells #[x0, x1, x2, x3] t)).cell? ((⟨W.heap.size, 0, none⟩ : Addr).add j) = some u := by
  intro j u hj
  rw [Addr.add_lit, Nat.zero_add, cell_of_block (heap_alloc_new W _)]
  simpa using hj
theorem be4_ints (v : R32) : byteCells (be4 v) = [.int .u8 ((v.toNat : Int) / 16777216), .int .u8 ((v.toNat : Int) / 65536 % 256), .int .u8 ((v.toNat : Int) / 256 % 256), .int .u8 ((v.toNat : Int) % 256)] := by
  rw [be4_cells]
  rfl
theorem seal_owns {w w3 : World} {V : R32} {bs : List UInt8} {v' : Value} {n : Nat} (hn : n = bs.length) (h : w3.ownsRow w.heap.size 5 1 v' (n + 4) (byteCells bs ++ byteCells (be4 V))) (hs : sealL bs = bs ++ be4 V) : w3.ownsRow w.heap.size 5 1 v' (sealL bs).length (byteCells (sealL bs)) := by
  rw [hs, byteCells_append, List.length_append, be4_len, ← hn]; exact h

set_option maxHeartbeats 3200000 in
set_option maxRecDepth 20000 in
theorem refseal_any (bs : List UInt8) (p : Option Addr) (c : Nat) (w : World) (hR : BRow w p bs) (hp : p = none → c = 0) (hl : bs.length ≤ 140737488351232) :
    Calls Try.prog 11 #[.slice p bs.length c] w (FreshC (sealL bs) w) := by
  obtain ⟨i0, hi, hz0, hz1, hz2⟩ := info_parts infoB
  have H := refsum_any bs p c w hR (by omega)
  have HR := Lib.hid hR
  have hb4 := be4_ints (sumL bs)
  have hv := reg_lt (sumL bs)
  have HSL : Hid (sealL bs = bs ++ be4 (sumL bs)) := rfl
  generalize sumL bs = V at H hb4 hv HSL
  generalize V.toNat = X at H hb4 hv
  have H := Lib.hid H
  have HB4 := Lib.hid hb4
  have hw1 : (X : Int) / 16777216 < 256 := by omega
  clear hR hb4
  cases p with
  | none =>
    have hc : c = 0 := hp rfl
    subst hc
    have hn : bs.length = 0 := by
      by_cases h : bs.length = 0
      · exact h
      · obtain ⟨b, o, e, _⟩ := HR.out 0 (by omega); cases e
    have he : bs = [] := List.eq_nil_of_length_eq_zero hn
    subst he
    clear hn
    go_enter Try.func11, Try.ntmps11
    go_wp2_with fail
    refine H.out.mono ?_
    rintro e w1 ⟨rfl, hw⟩
    obtain rfl := Eq.symm hw
    clear hw
    go_wp2_with (first
      | (at_builtin; refine wpList_append_own_at _ rfl (.tmp 10) (.tmp 25) 22 rfl w.heap.size 5 i0 (.int .u8 0) 1 1 Try.underlying22 hi hz0 hz1 hz2 rfl (by decide) _ _ _ rfl ((World.ownsRow_nil w w.heap.size 5 1).alloc _) ⟨w.heap.size, 0, none⟩ 4 4 _ rfl rfl (four_at _ _ _ _ _ _) (by intro u hu; simp at hu; rcases hu with rfl | rfl | rfl | rfl <;> rfl) (by decide) (by decide) (by simp) ?_))
    intro v3 w3 hown hgrow _ _
    rw [← HB4.out] at hown
    have HO3 : Hid (w3.ownsRow w.heap.size 5 1 v3 (sealL []).length (byteCells (sealL []))) := by
      show w3.ownsRow w.heap.size 5 1 v3 (sealL []).length (byteCells (sealL []))
      rw [HSL.out, List.nil_append]; exact hown
    have HB3 : Hid (Below w.heap.size w w3) := (below_alloc (Below.refl _ _) _).grown hgrow (by simp) (by intro k e; cases e)
    clear hown hgrow
    go_wp2
    go_ret
    exact ⟨_, rfl, HO3.out, HB3.out⟩
  | some a =>
    go_enter Try.func11, Try.ntmps11
    go_wp2_with fail
    refine H.out.mono ?_
    rintro e w1 ⟨rfl, hw⟩
    obtain rfl := Eq.symm hw
    clear hw
    go_wp2_with (first
      | (at_builtin; refine wpList_append_own_at _ rfl (.tmp 7) (.tmp 8) 22 rfl w.heap.size 5 i0 (.int .u8 0) 1 1 Try.underlying22 hi hz0 hz1 hz2 rfl (by decide) _ _ _ rfl (World.ownsRow_nil w w.heap.size 5 1) a bs.length c (byteCells bs) rfl (by rw [byteCells_length, Nat.mul_one]) (brow_news HR.out) (byteCells_one _) (by unfold maxLen; omega) (by omega) (Nat.le_refl _) ?_))
    intro v2 w2 hown hgrow _ _
    have HO := Lib.hid hown
    have HB2 : Hid (Below w.heap.size w w2) := (Below.refl _ _).grown hgrow (Nat.le_refl _) (by intro k e; cases e)
    clear hown hgrow
    go_wp2_with (first
      | (at_builtin; refine wpList_append_own_at _ rfl (.tmp 10) (.tmp 25) 22 rfl w.heap.size 5 i0 (.int .u8 0) 1 1 Try.underlying22 hi hz0 hz1 hz2 rfl (by decide) _ _ _ rfl (HO.out.alloc _) ⟨w2.heap.size, 0, none⟩ 4 4 _ rfl rfl (four_at _ _ _ _ _ _) (by intro u hu; simp at hu; rcases hu with rfl | rfl | rfl | rfl <;> rfl) (by unfold maxLen; omega) (by omega) (by have := HB2.out.size; simp; omega) ?_))
    intro v3 w3 hown hgrow _ _
    rw [← HB4.out] at hown
    have HO3 : Hid (w3.ownsRow w.heap.size 5 1 v3 (sealL bs).length (byteCells (sealL bs))) := seal_owns rfl hown HSL.out
    have HB3 : Hid (Below w.heap.size w w3) := (below_alloc HB2.out _).grown hgrow (by have := HB2.out.size; simp; omega) (fun k e => (HO.out.lt k e).1)
    clear hown hgrow
    go_wp2
    go_ret
    exact ⟨_, rfl, HO3.out, HB3.out⟩

end Go.Proofs.Ythohdnijngckiaa
