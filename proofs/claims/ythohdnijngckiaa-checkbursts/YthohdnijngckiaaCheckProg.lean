
/-
  What check's Sum, Seal and Open hand back, for all bytes that lie in memory, and moved, bytes.Equal and bytes.Clone, on which they lean. No conditions beyond what each theorem states (at most a million bytes).
-/
import Derived.Test.YthohdnijngckiaaCheckDefs
import Derived.Lib.Walk
namespace Go.Proofs.Ythohdnijngckiaa
open Go.ChangeShapes Go.WideShapes Go.ChangeAt Go.RowKit Go.Lib
set_option linter.unusedVariables false
set_option linter.unusedSimpArgs false
theorem stepT_yes {s : R32} (h : s.msb.toNat = 1) : stepT s = (s <<< 1) ^^^ poly := by
  unfold stepT
  cases hm : s.msb <;> simp_all
theorem stepT_no {s : R32} (h : s.msb.toNat = 0) : stepT s = s <<< 1 := by
  unfold stepT
  cases hm : s.msb <;> simp_all
theorem runT_succ (k : Nat) (s : R32) : runT (k + 1) s = runT k (stepT s) := rfl

set_option maxHeartbeats 1600000 in
set_option maxRecDepth 20000 in
theorem moved_any (s : R32) (w : World) :
    Calls Try.prog 12 #[.int .u32 (s.toNat : Int)] w fun e w' => e = .returned (.int .u32 ((runT 8 s).toNat : Int)) ∧ w' = w := by
  go_enter Try.func12, Try.ntmps12
  go_wp2_with fail
  refine wp_scope_loop 0 (fun a' w' => w' = w ∧ ∃ (S : R32) (k : Nat) (c4 c5 c6 c7 c8 c9 c10 c11 c12 c13 c14 c15 c16 c17 : Value), a' = { tmps := #[.int .u32 (S.toNat : Int), undef, .int .u32 0, .int .i64 (k : Int), c4, c5, c6, c7, c8, c9, c10, c11, c12, c13, c14, c15, c16, c17], defers := [] } ∧ 1 ≤ k ∧ k ≤ 8 ∧ runT k S = runT 8 s) (fun a' _ => natOf (a'.tmps.getD 3 undef)) rfl ?_ ?_
  · intro hpass
    have HP := Lib.hid hpass
    clear hpass
    go_wp2_with fail
    go_step3
    rename_i KK hKK
    exact hKK _ _ (HP.out _ _ ⟨rfl, s, 8, _, _, _, _, _, _, _, _, _, _, _, _, _, _, rfl, by decide, by decide, rfl⟩)
  · rintro a' w' ⟨rfl, S, k, c4, c5, c6, c7, c8, c9, c10, c11, c12, c13, c14, c15, c16, c17, rfl, h1, h2, h3⟩
    obtain ⟨k, rfl⟩ : ∃ j, k = j + 1 := ⟨k - 1, by omega⟩
    rw [runT_succ] at h3
    have hX := reg_lt S
    have ho := msb_nat S
    have hsh := shl_nat S
    have hxp := xor_poly (S <<< 1)
    have hO : S.msb.toNat = 1 ∨ S.msb.toNat = 0 := by cases S.msb <;> decide
    have HX := Lib.hid h3
    clear h3
    rcases hO with he | he
    · have HE := Lib.hid (stepT_yes he)
      rw [he] at ho
      generalize hZ : (S <<< 1) ^^^ poly = Z at hxp HE
      generalize (S <<< 1).toNat = Y at hsh hxp
      generalize S.toNat = X at hX ho hsh
      have q1 : (X : Int) / 2147483648 = 1 := by omega
      have q3 : (X : Int) * 2 % 4294967296 = (Y : Int) := by omega
      have HZ := Lib.hid hZ
      clear hsh ho hZ he
      by_cases hk : 1 < k + 1
      · have hk' : (1 : Int) < ((k + 1 : Nat) : Int) := by omega
        go_wp2_with fail
        go_step3
        exact ⟨rfl, ⟨rfl, Z, k, _, _, _, _, _, _, _, _, _, _, _, _, _, _, by go_num, by omega, by omega, by rw [← HX.out, HE.out]⟩, by show ((k : Nat) : Int).toNat < (((k + 1 : Nat) : Int)).toNat; omega⟩
      · have hk0 : k = 0 := by omega
        subst hk0
        go_wp2_with fail
        simp only [Exit.jump]
        go_ret
        exact ⟨by rw [← HX.out, HE.out]; rfl, rfl⟩
    · have HE := Lib.hid (stepT_no he)
      rw [he] at ho
      generalize hZ : S <<< 1 = Z at hsh HE
      clear hxp
      generalize hY : Z.toNat = Y at hsh
      generalize S.toNat = X at hX ho hsh
      have q1 : (X : Int) / 2147483648 = 0 := by omega
      have q3 : (X : Int) * 2 % 4294967296 = (Y : Int) := by omega
      have HQ : Hid ((Y : Int) = (X : Int) * 2) := by show (Y : Int) = (X : Int) * 2; omega
      have HZ := Lib.hid hZ
      have HY := Lib.hid hY
      clear hsh ho hZ he hY
      by_cases hk : 1 < k + 1
      · have hk' : (1 : Int) < ((k + 1 : Nat) : Int) := by omega
        go_wp2_with fail
        go_step3
        exact ⟨rfl, ⟨rfl, Z, k, _, _, _, _, _, _, _, _, _, _, _, _, _, _, by rw [HY.out, HQ.out], by omega, by omega, by rw [← HX.out, HE.out]⟩, by show ((k : Nat) : Int).toNat < (((k + 1 : Nat) : Int)).toNat; omega⟩
      · have hk0 : k = 0 := by omega
        subst hk0
        go_wp2_with fail
        simp only [Exit.jump]
        go_ret
        exact ⟨by rw [← HX.out, HE.out]; show Ending.returned (.int .u32 ((X : Int) * 2)) = .returned (.int .u32 (Z.toNat : Int)); rw [HY.out, HQ.out], rfl⟩

set_option maxRecDepth 100000 in
theorem word_byte (c : UInt8) : (wordB (bitsB c)).toNat = c.toNat * 16777216 := by
  have h : ∀ n, n < 256 → (wordB [n.testBit 7, n.testBit 6, n.testBit 5, n.testBit 4, n.testBit 3, n.testBit 2, n.testBit 1, n.testBit 0]).toNat = n * 16777216 := by decide +kernel
  exact h c.toNat c.toNat_lt
theorem feed (s : R32) (c : UInt8) : runB s (bitsB c) = runT 8 (s ^^^ wordB (bitsB c)) := runB_word _ (by show 8 ≤ 32; decide) s
theorem xor_nat (s t : R32) : bits .xor .u32 (s.toNat : Int) (t.toNat : Int) = ((s ^^^ t).toNat : Int) := by
  have h1 : ∀ s : R32, BitVec.ofInt 32 (s.toNat : Int) = s := fun s => by rw [BitVec.ofInt_natCast]; simp
  show IntKind.u32.wrap ((BitVec.ofInt 32 (s.toNat : Int) ^^^ BitVec.ofInt 32 (t.toNat : Int)).toNat : Int) = _
  rw [h1, h1, IntKind.wrap_u32]
  have := reg_lt (s ^^^ t)
  omega
theorem feed_nat (s : R32) (c : UInt8) : bits .xor .u32 (s.toNat : Int) ((c.toNat : Int) * 16777216) = ((s ^^^ wordB (bitsB c)).toNat : Int) := by
  rw [← xor_nat, word_byte]; rfl
theorem reg_more {ls : List (List UInt8)} {i : Nat} (h : i < ls.length) (s : R32) : regL s (ls.take (i + 1)).flatten = regL (regL s (ls.take i).flatten) (ls.getD i []) := by
  rw [List.take_add_one, List.flatten_append, regL_append]
  simp [h]

set_option maxHeartbeats 3200000 in
set_option maxRecDepth 20000 in
theorem sum_still (ls : List (List UInt8)) (pp : Option Addr) (cc : Nat) (w : World) (hR : LRow w pp ls) (hn : ls.length ≤ 1000000) (hl : ls.flatten.length ≤ 1000000) :
    Calls Try.prog 8 #[.slice pp ls.length cc] w fun e w' => e = .returned (.int .u32 ((sumL ls.flatten).toNat : Int)) ∧ w' = w := by
  have HR := Lib.hid hR
  have HL := Lib.hid hl
  clear hR hl
  go_enter Try.func8, Try.ntmps8
  go_wp2_with fail
  go_loopg [3, 10] ls.length (fun g s i wr => ∃ k : Nat, k ≤ ls.length ∧ ls.length - k ≤ g ∧ i = .int .i64 (k : Int) ∧ s = .int .u32 ((regL ones (ls.take k).flatten).toNat : Int) ∧ wr = w)
  case atStart => exact ⟨0, Nat.zero_le _, by omega, rfl, rfl, rfl⟩
  case round =>
    obtain ⟨k, hk, hg, rfl, rfl, rfl⟩ := hrel
    by_cases hlt : k < ls.length
    · obtain ⟨b, o, p, c, rfl, hcell, hrow, hlc, hpn⟩ := HR.out k hlt
      have hbl : (ls.getD k []).length ≤ 1000000 := Nat.le_trans (List.sublist_flatten_of_mem (by rw [List.getD_eq_getElem?_getD, List.getElem?_eq_getElem hlt]; exact List.getElem_mem hlt)).length_le HL.out
      have HM := Lib.hid (reg_more hlt ones)
      have HB := Lib.hid hrow
      clear hrow
      generalize ls.getD k [] = bs at hcell HB hlc HM hbl
      generalize regL ones (ls.take k).flatten = S0 at HM ⊢
      go_wp2_with fail
      go_loopg [3, 16] bs.length (fun g s i wq => ∃ j : Nat, j ≤ bs.length ∧ bs.length - j ≤ g ∧ i = .int .i64 (j : Int) ∧ s = .int .u32 ((regL S0 (bs.take j)).toNat : Int) ∧ wq = wr)
      case atStart => exact ⟨0, Nat.zero_le _, by omega, rfl, rfl, rfl⟩
      case round =>
        obtain ⟨j, hj, hgj, rfl, rfl, rfl⟩ := hrel
        by_cases hj8 : j < bs.length
        · obtain ⟨b2, o2, rfl, hc2⟩ := HB.out j hj8
          have hS := regL_snoc hj8 S0
          rw [show atB bs j = (((bs.getD j 0).toNat : Nat) : Int) from rfl] at hc2
          have hcb : (bs.getD j 0).toNat < 256 := (bs.getD j 0).toNat_lt
          generalize bs.getD j 0 = ch at hc2 hS hcb
          rw [feed] at hS
          generalize regL S0 (bs.take j) = S at hS ⊢
          have hf := feed_nat S ch
          have H := moved_any (S ^^^ wordB (bitsB ch)) wr
          rw [← hS] at H
          generalize (S ^^^ wordB (bitsB ch)).toNat = Z at hf H
          generalize S.toNat = X at hf ⊢
          generalize ch.toNat = C at hf hc2 hcb
          have H := Lib.hid H
          clear hS
          have hcb' : (C : Int) * 16777216 < 4294967296 := by omega
          go_wp2_with (first | (go_at_call 12; refine H.out.mono ?_; rintro e w1 ⟨rfl, hw⟩; obtain rfl := Eq.symm hw; clear hw))
          go_roundg (bs.length - (j + 1))
          case measure => omega
          case rel => exact ⟨j + 1, by omega, Nat.le_refl _, by go_num, rfl, rfl⟩
        · have hj8' : j = bs.length := by omega
          subst hj8'
          go_wp2_with fail
          go_roundg (ls.length - (k + 1))
          case measure => omega
          case rel => exact ⟨k + 1, by omega, Nat.le_refl _, by go_num, by rw [HM.out, List.take_length], rfl⟩
    · have : k = ls.length := by omega
      subst this
      have HX : Hid (bits .xor .u32 IntKind.u32.max ((regL ones ls.flatten).toNat : Int) = ((sumL ls.flatten).toNat : Int)) := by
        show bits .xor .u32 IntKind.u32.max ((regL ones ls.flatten).toNat : Int) = ((sumL ls.flatten).toNat : Int)
        rw [sumL, BitVec.xor_comm, ← xor_nat]; rfl
      go_wp2_with fail
      go_ret
      exact ⟨by rw [← HX.out]; rfl, rfl⟩
theorem sum_any (ls : List (List UInt8)) (pp : Option Addr) (cc : Nat) (w : World) (hR : LRow w pp ls) (hl : ls.flatten.length ≤ 1000000) (hn : ls.length ≤ 1000000 := by simp) :
    Calls Try.prog 8 #[.slice pp ls.length cc] w fun e w' => e = .returned (.int .u32 ((sumL ls.flatten).toNat : Int)) ∧ Below w.heap.size w w' :=
  (sum_still ls pp cc w hR hn hl).mono fun e w' h => ⟨h.1, by rw [h.2]; exact Below.refl _ _⟩

set_option maxHeartbeats 3200000 in
set_option maxRecDepth 20000 in
theorem seal_any (bs : List UInt8) (p : Option Addr) (c : Nat) (w : World) (hR : BRow w p bs) (hc : bs.length ≤ c) (hp : p = none → c = 0) (hl : bs.length ≤ 1000000) :
    Calls Try.prog 9 #[.slice p bs.length c] w (Told (sealL bs) w) := by
  obtain ⟨i0, hi, hz0, hz1, hz2⟩ := info_parts infoB
  have H : Calls Try.prog 8 #[.slice (some ⟨w.heap.size, 0, none⟩) 1 1] (w.alloc (.cells #[.slice p bs.length c] 22)) fun e w' => e = .returned (.int .u32 ((sumL bs).toNat : Int)) ∧ w' = w.alloc (.cells #[.slice p bs.length c] 22) := by
    have := sum_still [bs] (some ⟨w.heap.size, 0, none⟩) 1 (w.alloc (.cells #[.slice p bs.length c] 22)) (lrow_one hR hc hp 22) (by simp) (by simpa using hl)
    rwa [show [bs].flatten = bs by simp] at this
  have HR := Lib.hid hR
  have hb4 := be4_ints (sumL bs)
  have hv := reg_lt (sumL bs)
  have HSL : Hid (sealL bs = bs ++ be4 (sumL bs)) := rfl
  generalize sumL bs = V at H hb4 hv HSL
  generalize V.toNat = X at H hb4 hv
  have H := Lib.hid H
  have HB4 := Lib.hid hb4
  have hw1 : (X : Int) / 16777216 < 256 := by omega
  have h0 : p = none → bs.length = 0 := fun h => by
    by_cases h0 : bs.length = 0
    · exact h0
    · obtain ⟨b, o, e, _⟩ := HR.out 0 (by omega)
      rw [h] at e
      exact nomatch e
  have HPN : Hid (p = none → bs.length = 0 ∧ c = 0) := fun h => ⟨h0 h, hp h⟩
  clear hR hb4 hp h0
  go_enter Try.func9, Try.ntmps9
  go_wp2_with fail
  refine H.out.mono ?_
  rintro e w1 ⟨rfl, hw⟩
  obtain rfl := Eq.symm hw
  clear hw H
  go_wp2_with (first
    | (at_make; refine wpList_make_own _ rfl _ _ 22 rfl w.heap.size 5 i0 (.int .u8 0) 1 Try.underlying22 hi hz0 hz1 _ _ _ (bs.length + 4) rfl rfl (by omega) (by rw [hz2]; omega) (by unfold maxLen; omega) (by simp) ?_))
  intro w1 hown hgrow
  have HO := Lib.hid hown
  have HB1 : Hid (Below w.heap.size w w1) := (below_alloc (Below.refl _ _) _).grown hgrow (by simp) (by intro k e; cases e)
  have HR1 : Hid (BRow w1 p bs) := HR.out.below HB1.out
  clear hown hgrow HR
  go_wp2_with (first
    | (at_builtin; refine wpList_append_fits_any _ rfl (.tmp 12) (.tmp 13) 22 rfl w.heap.size 5 i0 1 Try.underlying22 hi hz1 _ _ _ [] rfl HO.out p bs.length c (byteCells bs) rfl (by rw [byteCells_length, Nat.mul_one]) HPN.out (fun ad e => brow_news (e ▸ HR1.out)) (byteCells_one _) (by omega) ?_))
  intro w2 hown hgrow
  have HO2 := Lib.hid hown
  have HB2 : Hid (Below w.heap.size w w2) := HB1.out.grown hgrow HB1.out.size (by intro k e; cases e; simp)
  clear hown hgrow HO
  go_wp2_with (first
    | (at_builtin; refine wpList_append_fits _ rfl (.tmp 15) (.tmp 27) 22 rfl w.heap.size 5 i0 1 Try.underlying22 hi hz1 _ _ _ (byteCells bs) rfl (HO2.out.alloc _) ⟨w2.heap.size, 0, none⟩ 4 4 _ rfl rfl (four_at _ _ _ _ _ _) (by intro u hu; simp at hu; rcases hu with rfl | rfl | rfl | rfl <;> rfl) (by omega) ?_))
  intro w3 hown hgrow
  rw [← HB4.out] at hown
  have HO3 : Hid (w3.ownsRow w.heap.size 5 1 (.slice (some ⟨w.heap.size + 1, 0, none⟩) (bs.length + 4) (bs.length + 4)) (sealL bs).length (byteCells (sealL bs))) := seal_owns rfl hown HSL.out
  have HB3 : Hid (Below w.heap.size w w3) := (below_alloc HB2.out _).grown hgrow (Nat.le_of_succ_le (by have := HB2.out.size; simp; omega)) (by intro k e; cases e; simp)
  clear hown hgrow
  go_wp2
  go_ret
  obtain ⟨g, c', e, hg, hlc, hrow⟩ := owns_at HO3.out (by rw [HSL.out, List.length_append, be4_len]; omega)
  exact ⟨_, _, by rw [← e]; rfl, hrow, hlc, (by intro h; cases h), HB3.out⟩

/-- What string(b) of bytes that lie in memory is. -/
theorem conv_all {w : World} {p : Option Addr} {n c : Nat} {bs : List UInt8} (h : BRow w p bs) (hn : bs.length = n) :
    (convert 22 9 (.slice p n c)).run Try.prog w = .ok (.string ⟨bs.toArray⟩) w := by
  cases p with
  | some a =>
    subst hn
    exact run_convert_bytes_back (P := Try.prog) w 22 9 5 a c bs Try.underlying22 Try.underlying5 Try.underlying9 (fun j hj => by
      obtain ⟨b, o', e, hc⟩ := h j hj
      cases e
      rw [Addr.add_lit, hc]
      simp [atB, hj])
  | none =>
    cases bs with
    | nil =>
      subst hn
      rw [List.length_nil, run_convert_bytes_string (P := Try.prog) w 22 9 5 none 0 c Try.underlying22 Try.underlying5 Try.underlying9]
      rfl
    | cons x xs => obtain ⟨b, o, e, _⟩ := h 0 (by simp); cases e

set_option maxHeartbeats 1600000 in
theorem equal_any (xs ys : List UInt8) (p q : Option Addr) (c d : Nat) (w : World) (hx : BRow w p xs) (hy : BRow w q ys) :
    Calls Try.prog 13 #[.slice p xs.length c, .slice q ys.length d] w fun e w' => e = .returned (.bool (decide (xs = ys))) ∧ w' = w := by
  have h1 := conv_all (c := c) hx rfl
  have h2 := conv_all (c := d) hy rfl
  clear hx hy
  go_enter Try.func13, Try.ntmps13
  go_wp2
  go_ret
  exact ⟨by rw [show decide (xs = ys) = (xs == ys) by rw [Bool.eq_iff_iff]; simp]; rfl, rfl⟩

theorem owns_told {w : World} {B n : Nat} {v : Value} {e : TypeId} {bs : List UInt8} (h : w.ownsRow B e 1 v n (byteCells bs)) : ∃ p c, v = .slice p bs.length c ∧ BRow w p bs ∧ bs.length ≤ c ∧ (p = none → c = 0) := by
  obtain ⟨p, c, rfl, rfl, hr, _⟩ := brow_owns h
  rcases h.2 with ⟨hv, h0⟩ | ⟨g, cap, cur, hv, hb, _, h1, _⟩
  · injection hv with e1 e2 e3
    exact ⟨p, c, rfl, hr, by omega, fun _ => e3⟩
  · cases hv
    exact ⟨_, c, rfl, hr, h1, by intro h; cases h⟩
theorem owns_empty (w : World) : (w.alloc (.cells #[] 5)).ownsRow w.heap.size 5 1 (.slice (some ⟨w.heap.size, 0, none⟩) 0 0) 0 [] :=
  ⟨rfl, .inr ⟨w.heap.size, 0, #[], rfl, Nat.le_refl _, heap_alloc_new w _, by simp, by simp, by simp, by simp⟩⟩

set_option maxHeartbeats 1600000 in
theorem clone_any (bs : List UInt8) (p : Option Addr) (c : Nat) (w : World) (hR : BRow w p bs) (hp : p = none → c = 0) (hl : bs.length ≤ 1000000) :
    Calls Try.prog 14 #[.slice p bs.length c] w (Told bs w) := by
  obtain ⟨i0, hi, hz0, hz1, hz2⟩ := info_parts infoB
  have hnil : ∀ (w : World) (a : Option Addr) (n c n' c' : Nat), (binOp .eql 22 (.slice a n c) (.slice none n' c')).run Try.prog w = .ok (.bool a.isNone) w := fun w a n c n' c' => Lib.run_eql_slice_nil w _ _ a n c n' c' Try.underlying22
  have HR := Lib.hid hR
  clear hR
  cases p with
  | none =>
    have hc : c = 0 := hp rfl
    have h0 : bs = [] := by
      cases bs with
      | nil => rfl
      | cons x xs => obtain ⟨b, o, e, _⟩ := HR.out 0 (by simp); cases e
    subst hc h0
    go_enter Try.func14, Try.ntmps14
    go_wp2
    go_ret
    exact ⟨none, 0, rfl, BRow.nil _ _, by simp, fun _ => rfl, Below.refl _ _⟩
  | some a =>
    go_enter Try.func14, Try.ntmps14
    go_wp2_with (first
      | (at_builtin; refine wpList_append_own_at _ rfl (.tmp 5) (.tmp 6) 22 rfl w.heap.size 5 i0 (.int .u8 0) 1 1 Try.underlying22 hi hz0 hz1 hz2 rfl (by decide) _ 0 [] rfl (owns_empty w) a bs.length c (byteCells bs) rfl (by rw [byteCells_length, Nat.mul_one]) (brow_news (brow_alloc HR.out _)) (byteCells_one _) (by unfold maxLen; omega) (by omega) (by simp) ?_))
    intro v2 w2 hown hgrow _ _
    have HB2 : Hid (Below w.heap.size w w2) := (below_alloc (Below.refl _ _) _).grown hgrow (by simp) (by intro k e; cases e; simp)
    have HO := Lib.hid (owns_told hown)
    clear hown hgrow
    go_wp2
    go_ret
    obtain ⟨p', c', e, hr, hlc, hpn⟩ := HO.out
    exact ⟨p', c', by rw [← e]; rfl, hr, hlc, hpn, HB2.out⟩

set_option maxHeartbeats 3200000 in
theorem open_any (bs : List UInt8) (p : Option Addr) (c : Nat) (w : World) (hR : BRow w p bs) (hc : bs.length ≤ c) (hp : p = none → c = 0) (hl : bs.length ≤ 1000000) :
    Calls Try.prog 10 #[.slice p bs.length c] w (Opened bs w) := by
  by_cases h4 : bs.length < 4
  · have ho : openL bs = false := by unfold openL; rw [decide_eq_false (by omega)]; rfl
    have hb : bodyL bs = [] := by unfold bodyL; rw [ho]; rfl
    have HO := Lib.hid ho
    have HB := Lib.hid hb
    clear hR ho hb
    go_enter Try.func10, Try.ntmps10
    go_wp2
    go_ret2
    exact ⟨none, 0, by rw [HO.out, HB.out]; rfl, by rw [HB.out]; exact BRow.nil _ _, by rw [HB.out]; simp, fun _ => rfl, Below.refl _ _⟩
  · have h4' : (4 : Int) ≤ (bs.length : Int) := by omega
    have hxl : (bs.take (bs.length - 4)).length = bs.length - 4 := by rw [List.length_take]; omega
    have hrx : BRow w p (bs.take (bs.length - 4)) := fun i hi => by
      rw [hxl] at hi
      obtain ⟨b, o, e, h⟩ := hR i (by omega)
      exact ⟨b, o, e, by rw [h, atB_take (by omega)]⟩
    have HIs : Hid (openL bs = decide (sealL (bs.take (bs.length - 4)) = bs)) := by
      show openL bs = decide (sealL (bs.take (bs.length - 4)) = bs)
      by_cases h : sealL (bs.take (bs.length - 4)) = bs
      · rw [decide_eq_true h]; exact seal_open (by omega) h
      · rw [decide_eq_false h]
        cases ho : openL bs with
        | false => rfl
        | true => exact absurd (open_is ho) h
    have HBd : Hid (bodyL bs = if openL bs = true then bs.take (bs.length - 4) else []) := rfl
    have H1 := seal_any (bs.take (bs.length - 4)) p c w hrx (by omega) hp (by omega)
    have H2 := fun W hb => clone_any (bs.take (bs.length - 4)) p c W (hrx.below (w' := W) hb) hp (by omega)
    have H3 := fun W q d hb hy => equal_any (sealL (bs.take (bs.length - 4))) bs q p d c W hy (hR.below (w' := W) hb)
    generalize bs.take (bs.length - 4) = xs at *
    rw [hxl] at H1
    rw [hxl] at H2
    have H1 := Lib.hid H1
    have H2 := Lib.hid H2
    have H3 := Lib.hid H3
    clear hR hrx hxl
    go_enter Try.func10, Try.ntmps10
    go_wp2_with fail
    refine H1.out.mono ?_
    rintro e w1 ⟨p1, c1, rfl, hr1, _, _, hb1⟩
    have HB1 := Lib.hid hb1
    have HR1 := Lib.hid hr1
    clear hr1 hb1 H1
    go_wp2_with fail
    refine (H3.out _ _ _ HB1.out HR1.out).mono ?_
    rintro e w2 ⟨rfl, hw⟩
    obtain rfl := Eq.symm hw
    clear hw H3
    by_cases hs : sealL xs = bs
    · have HT : Hid (openL bs = true) := by rw [HIs.out, decide_eq_true hs]; rfl
      have HBd2 : Hid (bodyL bs = xs) := by rw [HBd.out, if_pos HT.out]; rfl
      rw [decide_eq_true hs]
      clear hs
      go_wp2_with fail
      refine (H2.out _ HB1.out).mono ?_
      rintro e w3 ⟨p3, c3, rfl, hr3, hl3, hp3, hb3⟩
      have HT3 : Hid (Opened bs w (.returned (.tuple #[.slice p3 xs.length c3, .bool true])) w3) := ⟨p3, c3, by rw [HT.out, HBd2.out], by rw [HBd2.out]; exact hr3, by rw [HBd2.out]; exact hl3, hp3, below_step HB1.out hb3⟩
      clear hr3 hl3 hp3 hb3
      go_wp2
      go_ret2
      exact HT3.out
    · have HT : Hid (openL bs = false) := by rw [HIs.out, decide_eq_false hs]; rfl
      have HBd2 : Hid (bodyL bs = []) := by rw [HBd.out, HT.out]; rfl
      rw [decide_eq_false hs]
      clear hs
      go_wp2
      go_ret2
      exact ⟨none, 0, by rw [HT.out, HBd2.out]; rfl, by rw [HBd2.out]; exact BRow.nil _ _, by rw [HBd2.out]; simp, fun _ => rfl, HB1.out⟩

end Go.Proofs.Ythohdnijngckiaa
