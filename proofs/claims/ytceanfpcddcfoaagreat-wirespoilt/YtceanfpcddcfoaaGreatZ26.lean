/-
  Several texts of one proof, joined: each part says at its head what it proves. No conditions beyond what each theorem states.
-/
import Derived.Deep.Cut
import Derived.Deep.CutRange
import Derived.Laws.AppendOwnNone
import Derived.Test.YtceanfpcddcfoaaGreatZ14
import Derived.Test.YtceanfpcddcfoaaGreatZ22
/-
  Turning bits of bytes: what Go's own operators hand back. Of no program; no conditions beyond what each theorem states.
-/
namespace Go.Proofs.YtceanfpcddcfoaaGreat
open Go.ChangeShapes Go.WideShapes Go.ChangeAt Go.RowKit Go.Lib
set_option linter.unusedVariables false
set_option linter.unusedSimpArgs false

theorem and_one {f k : Nat} (hf : f < 4294967296) : bits .and .u32 ((f : Int) / 2 ^ k) 1 = ((f / 2 ^ k % 2 : Nat) : Int) := by
  have e0 : (f : Int) / 2 ^ k = ((f / 2 ^ k : Nat) : Int) := by rw [Int.natCast_ediv]; simp
  have hlt : f / 2 ^ k < 4294967296 := Nat.lt_of_le_of_lt (Nat.div_le_self _ _) hf
  rw [e0]
  generalize f / 2 ^ k = x at hlt
  have h1 : BitVec.ofInt 32 (x : Int) = BitVec.ofNat 32 x := by rw [BitVec.ofInt_natCast]
  have e : (BitVec.ofInt 32 (x : Int) &&& BitVec.ofInt 32 1).toNat = x % 2 := by
    rw [BitVec.toNat_and, h1, BitVec.toNat_ofNat, show (BitVec.ofInt 32 1).toNat = 2 ^ 1 - 1 from rfl, Nat.and_two_pow_sub_one_eq_mod]; omega
  show IntKind.u32.wrap ((BitVec.ofInt 32 (x : Int) &&& BitVec.ofInt 32 1).toNat : Int) = _
  rw [e, IntKind.wrap_u32]; omega
theorem bit_one {f k : Nat} (hf : f < 4294967296) : (bits .and .u32 ((f : Int) / 2 ^ k) 1 == 1) = f.testBit k := by
  rw [and_one hf, Nat.testBit_eq_decide_div_mod_eq]
  by_cases h : f / 2 ^ k % 2 = 1
  · rw [h]; simp
  · have : f / 2 ^ k % 2 = 0 := by omega
    rw [this]; simp
theorem xor_byte {c d : Nat} (hc : c < 256) (hd : d < 256) : bits .xor .u8 (c : Int) (d : Int) = ((c ^^^ d : Nat) : Int) ∧ c ^^^ d < 256 := by
  have hx : c ^^^ d < 2 ^ 8 := Nat.xor_lt_two_pow (by omega) (by omega)
  have e : (BitVec.ofInt 8 (c : Int) ^^^ BitVec.ofInt 8 (d : Int)).toNat = c ^^^ d := by
    rw [BitVec.toNat_xor, BitVec.ofInt_natCast, BitVec.ofInt_natCast, BitVec.toNat_ofNat, BitVec.toNat_ofNat, Nat.mod_eq_of_lt (by omega), Nat.mod_eq_of_lt (by omega)]
  refine ⟨?_, by omega⟩
  show IntKind.u8.wrap ((BitVec.ofInt 8 (c : Int) ^^^ BitVec.ofInt 8 (d : Int)).toNat : Int) = _
  rw [e, IntKind.wrap_u8]; omega

end Go.Proofs.YtceanfpcddcfoaaGreat
/-
  The law WireSpoilt's own function, over what wire's calls hand back. No conditions beyond what each theorem states.
-/
namespace Go.Proofs.YtceanfpcddcfoaaGreat
open Go.ChangeShapes Go.WideShapes Go.ChangeAt Go.RowKit Go.Lib
set_option linter.unusedVariables false
set_option linter.unusedSimpArgs false

/-- Decode tells an error. -/
def NoE (w : World) (r : Ending) (w' : World) : Prop := ∃ p l c tr ts tc tu q m d F, r = .returned (.tuple #[.agg #[.slice p l c, .int .u16 tr, .int .u32 ts, .int .u64 tc, .int .i64 tu, .slice q m d], .int .i64 F]) ∧ F ≠ 0 ∧ Below w.heap.size w w'
def AnyE (w : World) (r : Ending) (w' : World) : Prop := ∃ p l c tr ts tc tu q m d F, r = .returned (.tuple #[.agg #[.slice p l c, .int .u16 tr, .int .u32 ts, .int .u64 tc, .int .i64 tu, .slice q m d], .int .i64 F]) ∧ Below w.heap.size w w'
theorem decode_no (HDE : DecodeSpec) {bs : List UInt8} {p : Option Addr} {n c : Nat} {w : World} (h : BRow w p bs) (hl : bs.length ≤ 60000) (hn : bs.length = n) (hc : n ≤ c) (hp : p = none → c = 0) (h0 : (readE bs).2 ≠ 0) : Calls Tryz.prog 13 #[.slice p n c] w (NoE w) := by
  subst hn
  refine (HDE bs p c w h hl hc hp).mono ?_
  rintro r w' ⟨xs, a, b, q, d, rfl, -, -, hb⟩
  exact ⟨a, _, b, _, _, _, _, q, _, d, _, rfl, h0, hb⟩
theorem decode_any (HDE : DecodeSpec) {bs : List UInt8} {p : Option Addr} {n c : Nat} {w : World} (h : BRow w p bs) (hl : bs.length ≤ 60000) (hn : bs.length = n) (hc : n ≤ c) (hp : p = none → c = 0) : Calls Tryz.prog 13 #[.slice p n c] w (AnyE w) := by
  subst hn
  refine (HDE bs p c w h hl hc hp).mono ?_
  rintro r w' ⟨xs, a, b, q, d, rfl, -, -, hb⟩
  exact ⟨a, _, b, _, _, _, _, q, _, d, _, rfl, hb⟩
theorem owns_emptyB (w : World) : (w.alloc (.cells #[] 5)).ownsRow w.heap.size 5 1 (.slice (some ⟨w.heap.size, 0, none⟩) 0 0) 0 [] :=
  ⟨rfl, .inr ⟨w.heap.size, 0, #[], rfl, Nat.le_refl _, heap_alloc_new w _, by simp, by simp, by simp, by simp⟩⟩
set_option maxHeartbeats 12800000 in
set_option maxRecDepth 200000 in
theorem wirespoilt_any (HEN : EncodeSpec) (HDE : DecodeSpec) (e : Em) (xs : List OV) (p q : Option Addr) (c d : Nat) (a : Int) (f : Nat) (cut : Int) (more : List UInt8) (pm : Option Addr) (cm : Nat) (w : World) (H : InE e xs p c q d w) (hm : e.deps.length ≤ 17592186043904) (hl : e.txn.ops.length ≤ 1954687338211) (hq : ∀ x ∈ xs, x.1.text.length ≤ 9223372036854775807 ∧ x.1.spans.length ≤ 8796093021952)
    (hM : BRow w pm more) (hcm : more.length ≤ cm) (hpm : pm = none → cm = 0) (hml : more.length ≤ 9223372036854775807) (ha0 : -9223372036854775808 ≤ a) (ha1 : a < 9223372036854775808) (hf : f < 4294967296) (hc0 : -9223372036854775808 ≤ cut) (hc1 : cut < 9223372036854775808) :
    Calls Tryz.prog 5 #[ev e p c q d, .int .i64 a, .int .u32 (f : Int), .int .i64 cut, .slice pm more.length cm] w fun r w' => r = .returned (.bool true) ∧ Below w.heap.size w w' := by
  obtain ⟨i0, hi, hz0, hz1, hz2⟩ := info_parts infoB
  have HA := Lib.hid (fun W => anchor10_any HEN W)
  have HSM : Hid (∀ W, Below w.heap.size w W → Calls Tryz.prog 8 #[ev e p c q d] W fun r w' => r = .returned (.bool (smallE e)) ∧ Below W.heap.size W w') := fun W hb => smallE_any e xs p q c d W (H.txn.below hb) (by omega) (fun x hx => ⟨(hq x hx).1, by have := (hq x hx).2; omega⟩)
  have HRF : Hid (∀ W, Below w.heap.size w W → Calls Tryz.prog 9 #[ev e p c q d] W (MadeE e W)) := fun W hb => refE_any e xs p q c d W (H.row.below hb) hm (H.txn.rows.below hb) hl (fun x hx => (hq x hx).2)
  have HFIT : Hid (smallE e = true → ∀ W ys p2 c2 q2 d2, Vec.Row W p2 e.deps → RowT e.txn ys q2 d2 W → Calls Tryz.prog 10 #[ev e p2 c2 q2 d2] W fun r w' => r = .returned (.int .i64 (fitE e)) ∧ Below W.heap.size W w') := fun h W ys p2 c2 q2 d2 h1 h2 => reffitE_any e ys p2 q2 c2 d2 W h1 (by have := (smallE_x H.txn.ops h).1; omega) (h2.inT H.txn.fit).lie (smallE_x h2.ops h).2.1.wide
  have HBY : Hid (smallE e = true → fitE e = 0 → ∀ W ys p2 c2 q2 d2, Vec.Row W p2 e.deps → RowT e.txn ys q2 d2 W → Calls Tryz.prog 14 #[ev e p2 c2 q2 d2] W (Fresh (bytesE e) W)) := fun h h0 W ys p2 c2 q2 d2 h1 h2 => refbytesE_any e ys p2 q2 c2 d2 W h1 H.fits (by have := (smallE_x H.txn.ops h).1; omega) (h2.inT H.txn.fit).lie (smallE_x h2.ops h).2.1.wide h0
  have HBL : Hid (smallE e = true → fitE e = 0 → 11 ≤ (bytesE e).length ∧ (bytesE e).length ≤ 45000) := fun h h0 => bytesE_small H.txn.fit H.fits H.txn.ops h h0
  have HCT : Hid (∀ k, k < (bytesE e).length → (bytesE e).length ≤ 45000 → (readE ((bytesE e).take k)).2 ≠ 0) := fun k h1 h2 => readE_cut h1 (by omega)
  have HMR : Hid (0 < more.length → (bytesE e).length ≤ 45000 → (readE (bytesE e ++ more)).2 ≠ 0) := fun h1 h2 => readE_more h1 (by omega)
  have HBF : Hid (∀ (s : List UInt8) (D : Nat), s.length = (bytesE e).length → f ≠ 0 → regL ones s = regL ones (bytesE e) ^^^ runT D (turnW f 32) → (readE s).2 ≠ 0) := fun s D h1 h2 h3 => readE_shut (burst_found (bs := frameE e) h1 hf h2 h3)
  have HM := Lib.hid hM
  have HDE2 := Lib.hid HDE
  have HDN := Lib.hid (fun bs p n c w => @decode_no HDE bs p n c w)
  have HDA := Lib.hid (fun bs p n c w => @decode_any HDE bs p n c w)
  have HBND : Hid (-9223372036854775808 ≤ a ∧ a < 9223372036854775808 ∧ f < 4294967296 ∧ more.length ≤ cm) := ⟨ha0, ha1, hf, hcm⟩
  have HPM := Lib.hid hpm
  clear H hm hl hq HEN HDE hM ha0 ha1 hf hcm hc0 hc1 hml hpm
  unfold MadeE at HRF
  unfold Fresh at HBY
  unfold NoE at HDN
  unfold AnyE at HDA
  unfold ev at *
  generalize e.deps.length = L at *
  generalize e.txn.ops.length = TL at *
  generalize e.txn.r = tr at *
  generalize e.txn.seq = ts at *
  generalize e.txn.clock = tc at *
  generalize e.txn.user = tu at *
  have HB0 : Hid (Below w.heap.size w (w.alloc (.cells #[.slice p L c, .int .u16 tr, .int .u32 ts, .int .u64 tc, .int .i64 tu, .slice q TL d] 31))) := below_alloc (Below.refl _ _) _
  have HX0 := Lib.hid (heap_alloc_new w (.cells #[.slice p L c, .int .u16 tr, .int .u32 ts, .int .u64 tc, .int .i64 tu, .slice q TL d] 31))
  go_enter Tryz.func5, Tryz.ntmps5
  go_wp2_with fail
  generalize (w.alloc (.cells #[.slice p L c, .int .u16 tr, .int .u32 ts, .int .u64 tc, .int .i64 tu, .slice q TL d] 31)) = w0 at HB0 HX0 ⊢
  have HC : Hid (∀ W, Below w0.heap.size w0 W → _) := fun W hb => six_cells (kept_box HX0.out hb)
  refine (HA.out _).mono ?_
  rintro r w1 ⟨rfl, hb1⟩
  have HB1 := Lib.hid hb1
  clear hb1 HA
  obtain ⟨x0, x1, x2, x3, x4, x5⟩ := HC.out _ HB1.out
  go_wp2_with fail
  refine (HSM.out _ (below_step HB0.out HB1.out)).mono ?_
  rintro r w2 ⟨rfl, hb2⟩
  have HB2 : Hid (Below w0.heap.size w0 w2) := below_step HB1.out hb2
  clear hb2 HSM HB1 x0 x1 x2 x3 x4 x5
  obtain ⟨x0, x1, x2, x3, x4, x5⟩ := HC.out _ HB2.out
  cases hS : smallE e with
  | false =>
    go_wp2
    go_ret
    exact ⟨rfl, below_step HB0.out HB2.out⟩
  | true =>
    have HFIT := Lib.hid (HFIT.out hS)
    have HBY := Lib.hid (HBY.out hS)
    have HBL := Lib.hid (HBL.out hS)
    clear hS
    go_wp2_with fail
    refine (HRF.out _ (below_step HB0.out HB2.out)).mono ?_
    rintro r w3 ⟨ys, p3, c3, q3, d3, rfl, hv3, -, hT3, hb3⟩
    have HB3 : Hid (Below w0.heap.size w0 w3) := below_step HB2.out hb3
    have HV3 := Lib.hid hv3
    have HT3 := Lib.hid hT3
    clear hv3 hT3 hb3 HB2 x0 x1 x2 x3 x4 x5
    go_wp2_with fail
    refine (HFIT.out _ _ _ _ _ _ HV3.out HT3.out).mono ?_
    rintro r w4 ⟨rfl, hb4⟩
    have HB4 : Hid (Below w0.heap.size w0 w4) := below_step HB3.out hb4
    clear hb4 HFIT HV3 HT3 HB3
    obtain ⟨x0, x1, x2, x3, x4, x5⟩ := HC.out _ HB4.out
    generalize hF : fitE e = F at HBY HBL ⊢
    by_cases h0 : F = 0
    case neg =>
      have q1 : (F == 0) = false := beq_no h0
      have q2 : (F != 0) = true := bne_int h0
      go_wp2
      go_ret
      exact ⟨rfl, below_step HB0.out HB4.out⟩
    subst h0
    clear hF
    by_cases hmo : 300 < more.length
    case pos =>
      have hmo' : (300 : Int) < (more.length : Int) := by omega
      go_wp2
      go_ret
      exact ⟨rfl, below_step HB0.out HB4.out⟩
    have hmo' : ¬ (300 : Int) < (more.length : Int) := by omega
    have hBY := HBY.out rfl
    have HBY2 := Lib.hid hBY
    obtain ⟨hb1, hb2⟩ := HBL.out rfl
    clear hBY HBY HBL
    go_wp2_with fail
    refine (HRF.out _ (below_step HB0.out HB4.out)).mono ?_
    rintro r w5 ⟨zs, p5, c5, q5, d5, rfl, hv5, -, hT5, hb5⟩
    have HB5 : Hid (Below w0.heap.size w0 w5) := below_step HB4.out hb5
    have HV5 := Lib.hid hv5
    have HT5 := Lib.hid hT5
    clear hv5 hT5 hb5 HB4 x0 x1 x2 x3 x4 x5 HRF
    go_wp2_with fail
    refine (HBY2.out _ _ _ _ _ _ HV5.out HT5.out).mono ?_
    rintro r w6 ⟨v6, rfl, hown, hb6⟩
    have HB6 : Hid (Below w.heap.size w w6) := below_step (below_step HB0.out HB5.out) hb6
    have hwb : w.heap.size ≤ w5.heap.size := (below_step HB0.out HB5.out).size
    obtain ⟨g, cap, rfl, hg, hcap, hrow⟩ := owns_at hown (by omega)
    have HG : Hid (w.heap.size ≤ g) := Nat.le_trans hwb hg
    have HO6 : Hid (OB w5 (.slice (some ⟨g, 0, none⟩) (bytesE e).length cap) (bytesE e) w6) := ⟨hown, hb6⟩
    clear hown hb6 hg hwb HV5 HT5 HBY2 HB5 HB0 HX0 HC hrow
    generalize bytesE e = s0 at HCT HMR HBF HO6 hb1 hb2 hcap ⊢
    have HCAP : Hid (s0.length ≤ cap ∧ 11 ≤ s0.length ∧ s0.length ≤ 45000 ∧ ¬ 300 < more.length) := ⟨hcap, hb1, hb2, hmo⟩
    clear hcap hb1 hb2 hmo hmo'
    obtain ⟨C, hC⟩ : ∃ C : Bool, C = decide (0 ≤ cut ∧ cut < (s0.length : Int)) := ⟨_, rfl⟩
    have HCC := Lib.hid hC
    clear hC
    go_upto_region 6 with fail
    go_cut [45] from 38 to 45 (fun s45 wx => s45 = .bool C ∧ wx = w6)
    case first =>
      by_cases hc0 : 0 ≤ cut
      · by_cases hc1 : cut < (s0.length : Int)
        · have hd0 : decide (0 ≤ cut) = true := by simp [hc0]
          have hd1 : decide (cut < (s0.length : Int)) = true := by simp [hc1]
          go_wp2_with fail
          go_meet
          case rel => exact ⟨by rw [HCC.out, decide_eq_true (by omega)], rfl⟩
        · have hd0 : decide (0 ≤ cut) = true := by simp [hc0]
          have hd1 : decide (cut < (s0.length : Int)) = false := by simp [hc1]
          go_wp2_with fail
          go_meet
          case rel => exact ⟨by rw [HCC.out, decide_eq_false (by omega)], rfl⟩
      · have hd0 : decide (0 ≤ cut) = false := by simp [hc0]
        go_wp2_with fail
        go_meet
        case rel => exact ⟨by rw [HCC.out, decide_eq_false (by omega)], rfl⟩
    case rest =>
    obtain ⟨rfl, rfl⟩ := hcut
    go_upto_if 45 with fail
    go_cut [12, 13] from 46 to 54 (fun s12 s13 wx => OB w5 (.slice (some ⟨g, 0, none⟩) s0.length cap) s0 wx ∧ Below w.heap.size w wx)
    case first =>
      cases C with
      | true =>
        have hcut : 0 ≤ cut ∧ cut < (s0.length : Int) := of_decide_eq_true HCC.out.symm
        obtain ⟨k, rfl⟩ : ∃ k : Nat, cut = (k : Int) := ⟨cut.toNat, by omega⟩
        have hk : k < s0.length := by omega
        have hk0 : (0 : Int) ≤ (k : Int) := by omega
        have hk1 : (k : Int) < (s0.length : Int) := by omega
        have hkc : (k : Int) ≤ (cap : Int) := by have := HCAP.out; omega
        obtain ⟨g', cap', hv, -, -, hrow⟩ := owns_at HO6.out.1 (by omega)
        cases hv
        have H7 := HDN.out (s0.take k) (some ⟨g, 0, none⟩) k cap _ (brow_cut hrow k) (by rw [List.length_take]; have := HCAP.out; omega) (by rw [List.length_take]; omega) (by omega) (by intro h; cases h) (HCT.out k hk HCAP.out.2.2.1)
        have H7 := Lib.hid H7
        clear hrow hcut hk
        go_wp2_with fail
        refine H7.out.mono ?_
        rintro r w7' ⟨p7, l7, c7, tr7, ts7, tc7, tu7, q7, m7, d7, F7, rfl, hF7, hb7⟩
        have hF7' : (F7 == 0) = false := beq_no hF7
        have HO7 : Hid (OB w5 (.slice (some ⟨g, 0, none⟩) s0.length cap) s0 (w7'.alloc (.cells #[.slice p7 l7 c7, .int .u16 tr7, .int .u32 ts7, .int .u64 tc7, .int .i64 tu7, .slice q7 m7 d7] 31))) := (HO6.out.below hb7).below (below_alloc (Below.refl _ _) _)
        have HB7 : Hid (Below w.heap.size w (w7'.alloc (.cells #[.slice p7 l7 c7, .int .u16 tr7, .int .u32 ts7, .int .u64 tc7, .int .i64 tu7, .slice q7 m7 d7] 31))) := below_alloc (below_step HB6.out hb7) _
        clear hb7 HO6 HB6 H7 hF7 hk0 hk1 hkc
        go_wp2_with fail
        go_meet
        case rel => exact ⟨HO7.out, HB7.out⟩
      | false =>
        go_wp2_with fail
        go_meet
        case rel => exact ⟨HO6.out, HB6.out⟩
    case rest =>
    have HO7 := Lib.hid hcut.1
    have HB7 := Lib.hid hcut.2
    clear hcut HO6 HB6 HCC
    generalize wc = w7 at HO7 HB7 ⊢
    go_upto_region 10 with fail
    go_cut [14, 15] from 55 to 63 (fun s14 s15 wx => ∃ F, s15 = .int .i64 F ∧ (0 < more.length → F ≠ 0) ∧ OB w5 (.slice (some ⟨g, 0, none⟩) s0.length cap) s0 wx ∧ Below w.heap.size w wx)
    case first =>
      obtain ⟨g', cap', hv, -, -, hrow⟩ := owns_at HO7.out.1 (by have := HCAP.out; omega)
      cases hv
      have HR7 := Lib.hid hrow
      have hs45 : s0.length ≤ 45000 := HCAP.out.2.2.1
      clear hrow
      go_wp2_with (first
        | (at_builtin; refine wpList_append_own _ rfl (.tmp 56) (.tmp 57) 42 rfl w7.heap.size 5 i0 (.int .u8 0) 1 1 Tryz.underlying42 hi hz0 hz1 hz2 rfl (by decide) _ 0 [] rfl (owns_emptyB _) ⟨g, 0, none⟩ s0.length cap (byteCells s0) rfl (by rw [byteCells_length, Nat.mul_one]) (brow_news (HR7.out.below (below_alloc (Below.refl _ _) _))) (byteCells_one _) (by unfold maxLen; omega) (by omega) (by simp) ?_))
      intro v8 w8 hown hgrow _
      have hB78 : Below w7.heap.size w7 w8 := (below_alloc (Below.refl _ _) _).grown hgrow (by simp) (fun k e => by cases e; exact Nat.le_refl _)
      have HB8 : Hid (Below w.heap.size w w8) := below_step HB7.out hB78
      have HO8 : Hid (OB w5 (.slice (some ⟨g, 0, none⟩) s0.length cap) s0 w8) := HO7.out.below hB78
      have HE8 : Hid (w8.ownsRow w7.heap.size 5 1 v8 s0.length (byteCells s0)) := by show w8.ownsRow _ _ _ _ _ _; simpa using hown
      have HS8 : Hid (w7.heap.size ≤ w8.heap.size) := hB78.size
      have HB78 := Lib.hid hB78
      clear hown hgrow hB78 HR7
      obtain ⟨g8, c8, rfl, hg8, hc8, hr8⟩ := owns_at HE8.out (by have := HCAP.out; omega)
      have HR8 := Lib.hid hr8
      have HC8 : Hid (s0.length ≤ c8) := hc8
      clear hg8 hc8 hr8
      cases pm with
      | none =>
        have hme : more = [] := by
          cases more with
          | nil => rfl
          | cons x l => obtain ⟨b, o, e, -⟩ := HM.out 0 (by simp); cases e
        subst hme
        obtain rfl : cm = 0 := HPM.out rfl
        go_wp2_with (first
          | (at_builtin; refine wpList_append_own_none rfl (.tmp 58) (.tmp 59) 42 rfl w7.heap.size 5 i0 1 Tryz.underlying42 hi _ _ _ rfl HE8.out rfl ?_))
        have HD9 := Lib.hid (HDA.out s0 (some ⟨g8, 0, none⟩) s0.length c8 w8 HR8.out (by omega) rfl HC8.out (by intro h; cases h))
        go_wp2_with fail
        refine HD9.out.mono ?_
        rintro r w10 ⟨p7, l7, c7, tr7, ts7, tc7, tu7, q7, m7, d7, F7, rfl, hb7⟩
        have HOX : Hid (OB w5 (.slice (some ⟨g, 0, none⟩) s0.length cap) s0 (w10.alloc (.cells #[.slice p7 l7 c7, .int .u16 tr7, .int .u32 ts7, .int .u64 tc7, .int .i64 tu7, .slice q7 m7 d7] 31))) := (HO8.out.below hb7).below (below_alloc (Below.refl _ _) _)
        have HBX : Hid (Below w.heap.size w (w10.alloc (.cells #[.slice p7 l7 c7, .int .u16 tr7, .int .u32 ts7, .int .u64 tc7, .int .i64 tu7, .slice q7 m7 d7] 31))) := below_alloc (below_step HB8.out hb7) _
        clear hb7 HD9
        go_wp2_with fail
        go_meet
        case rel => exact ⟨F7, rfl, fun h => absurd h (by simp), HOX.out, HBX.out⟩
      | some pa =>
        have hm3 : more.length ≤ 300 := by have := HCAP.out; omega
        have HM8 := Lib.hid (HM.out.below HB8.out)
        go_wp2_with (first
          | (at_builtin; refine wpList_append_own _ rfl (.tmp 58) (.tmp 59) 42 rfl w7.heap.size 5 i0 (.int .u8 0) 1 1 Tryz.underlying42 hi hz0 hz1 hz2 rfl (by decide) _ s0.length (byteCells s0) rfl HE8.out pa more.length cm (byteCells more) rfl (by rw [byteCells_length, Nat.mul_one]) (brow_news HM8.out) (byteCells_one _) (by unfold maxLen; omega) (by omega) HS8.out ?_))
        intro v9 w9 hown hgrow _
        have hB89 : Below w7.heap.size w8 w9 := (Below.refl _ _).grown hgrow HS8.out (fun k e => (HE8.out.lt k e).1)
        have HO9 : Hid (OB w5 (.slice (some ⟨g, 0, none⟩) s0.length cap) s0 w9) := HO7.out.below (HB78.out.trans hB89)
        have HB9 : Hid (Below w.heap.size w w9) := below_step HB7.out (HB78.out.trans hB89)
        have HE9 : Hid (w9.ownsRow w7.heap.size 5 1 v9 (s0 ++ more).length (byteCells (s0 ++ more))) := by
          show w9.ownsRow _ _ _ _ _ _
          rw [byteCells_append, List.length_append]; exact hown
        clear hown hgrow hB89 HO7 HB7 HB78 HE8 HR8 HO8 HB8 HM8
        obtain ⟨g9, c9, rfl, hg9, hc9, hr9⟩ := owns_at HE9.out (by rw [List.length_append]; have := HCAP.out; omega)
        have HR9 := Lib.hid hr9
        have HC9 : Hid ((s0 ++ more).length ≤ c9) := hc9
        clear hg9 hc9 hr9 HE9
        have hl9 : (s0 ++ more).length ≤ 60000 := by rw [List.length_append]; omega
        have HMR2 := Lib.hid (fun h => HMR.out h hs45)
        clear hs45 hm3
        generalize s0 ++ more = Z at HR9 HC9 HMR2 hl9 ⊢
        by_cases hm0 : 0 < more.length
        · have HD9 := Lib.hid (HDN.out Z (some ⟨g9, 0, none⟩) Z.length c9 w9 HR9.out hl9 rfl HC9.out (by intro h; cases h) (HMR2.out hm0))
          clear hl9 hm0
          go_wp2_with fail
          refine HD9.out.mono ?_
          rintro r w10 ⟨p7, l7, c7, tr7, ts7, tc7, tu7, q7, m7, d7, F7, rfl, hF7, hb7⟩
          have HF7 := Lib.hid hF7
          clear hF7
          have HOX : Hid (OB w5 (.slice (some ⟨g, 0, none⟩) s0.length cap) s0 (w10.alloc (.cells #[.slice p7 l7 c7, .int .u16 tr7, .int .u32 ts7, .int .u64 tc7, .int .i64 tu7, .slice q7 m7 d7] 31))) := (HO9.out.below hb7).below (below_alloc (Below.refl _ _) _)
          have HBX : Hid (Below w.heap.size w (w10.alloc (.cells #[.slice p7 l7 c7, .int .u16 tr7, .int .u32 ts7, .int .u64 tc7, .int .i64 tu7, .slice q7 m7 d7] 31))) := below_alloc (below_step HB9.out hb7) _
          clear hb7 HD9
          go_wp2_with fail
          go_meet
          case rel => exact ⟨F7, rfl, fun _ => HF7.out, HOX.out, HBX.out⟩
        · have HD9 := Lib.hid (HDA.out Z (some ⟨g9, 0, none⟩) Z.length c9 w9 HR9.out hl9 rfl HC9.out (by intro h; cases h))
          have HM0 : Hid (¬ 0 < more.length) := hm0
          clear hl9 hm0
          go_wp2_with fail
          refine HD9.out.mono ?_
          rintro r w10 ⟨p7, l7, c7, tr7, ts7, tc7, tu7, q7, m7, d7, F7, rfl, hb7⟩
          have HOX : Hid (OB w5 (.slice (some ⟨g, 0, none⟩) s0.length cap) s0 (w10.alloc (.cells #[.slice p7 l7 c7, .int .u16 tr7, .int .u32 ts7, .int .u64 tc7, .int .i64 tu7, .slice q7 m7 d7] 31))) := (HO9.out.below hb7).below (below_alloc (Below.refl _ _) _)
          have HBX : Hid (Below w.heap.size w (w10.alloc (.cells #[.slice p7 l7 c7, .int .u16 tr7, .int .u32 ts7, .int .u64 tc7, .int .i64 tu7, .slice q7 m7 d7] 31))) := below_alloc (below_step HB9.out hb7) _
          clear hb7 HD9
          go_wp2_with fail
          go_meet
          case rel => exact ⟨F7, rfl, fun h => absurd h HM0.out, HOX.out, HBX.out⟩
    case rest =>
    obtain ⟨F, rfl, hF, hO, hB⟩ := hcut
    have HF := Lib.hid hF
    have HO := Lib.hid hO
    have HB := Lib.hid hB
    clear hF hO hB HO7 HB7
    generalize wc = w8 at HO HB ⊢
    go_upto_region 11 with fail
    go_cut [70] from 64 to 70 (fun s70 wx => s70 = .bool false ∧ wx = w8)
    case first =>
      by_cases h0 : F = 0
      · have q1 : (F == 0) = true := by rw [h0]; rfl
        have hm0 : ¬ 0 < more.length := fun h => HF.out h h0
        have hm1 : ¬ (0 : Int) < (more.length : Int) := by omega
        clear h0
        go_wp2_with fail
        go_meet
        case rel => exact ⟨by first | rfl | simp [hm1], rfl⟩
      · have q1 : (F == 0) = false := beq_no h0
        clear h0
        go_wp2_with fail
        go_meet
        case rel => exact ⟨rfl, rfl⟩
    case rest =>
    obtain ⟨rfl, rfl⟩ := hcut
    obtain ⟨hA0, hA1, hff, -⟩ := HBND.out
    have HL : Hid (11 ≤ s0.length ∧ s0.length ≤ 45000 ∧ s0.length ≤ cap) := ⟨HCAP.out.2.1, HCAP.out.2.2.1, HCAP.out.1⟩
    clear HCAP HF HDN HCT HMR
    obtain ⟨n, hnn⟩ : ∃ n, n = s0.length := ⟨_, rfl⟩
    rw [← hnn] at HO HL ⊢
    have HNN := Lib.hid hnn
    have HO1 : Hid (wc.ownsRow w5.heap.size 5 1 (.slice (some ⟨g, 0, none⟩) n cap) n (byteCells s0)) := by
      have h := HO.out.1
      rw [← hnn] at h
      exact h
    clear hnn
    by_cases h2 : f = 0
    · subst h2
      go_wp2
      go_ret
      exact ⟨rfl, HB.out⟩
    · have h2' : ((f : Int) == 0) = false := by simp; omega
      by_cases h3 : a < 0
      · go_wp2
        go_ret
        exact ⟨rfl, HB.out⟩
      · by_cases h4 : 8 * (n : Int) - 32 < a
        · have hn45 : n ≤ 45000 := HL.out.2.1
          clear hA0 hA1
          go_wp2
          go_ret
          exact ⟨rfl, HB.out⟩
        · obtain ⟨A, rfl⟩ : ∃ A : Nat, a = (A : Int) := ⟨a.toNat, by omega⟩
          obtain ⟨D, hD⟩ : ∃ D, D + A = 8 * n := ⟨8 * n - A, by have := HL.out; omega⟩
          have HDD := Lib.hid hD
          have HX : Hid (A + 32 ≤ 8 * n ∧ n ≤ cap ∧ 32 ≤ D) := ⟨by have := HL.out; omega, HL.out.2.2, by have := HL.out; omega⟩
          have hn1 : n ≤ 45000 := HL.out.2.1
          have h4i : ¬ 8 * (n : Int) - 32 < (A : Int) := by have := HX.out; omega
          have h3i : ¬ (A : Int) < 0 := by omega
          clear hA0 hA1 hD h3 h4
          go_wp2
          go_loopg [85] 32 (fun gh i wr => ∃ (k : Nat) (s : List UInt8), k ≤ 32 ∧ 32 - k ≤ gh ∧ i = .int .i64 (k : Int) ∧ s.length = n ∧ wr.ownsRow w5.heap.size 5 1 (.slice (some ⟨g, 0, none⟩) n cap) n (byteCells s) ∧ regL ones s = regL ones s0 ^^^ runT D (turnW f k) ∧ Below w.heap.size w wr)
          case atStart => exact ⟨0, s0, by omega, by omega, rfl, HNN.out.symm, HO1.out, by
            have : ∀ m, runT m 0#32 = 0#32 := fun m => by
              induction m with
              | zero => rfl
              | succ m ih => rw [runT, stepT_zero]; exact ih
            rw [turnW, this, BitVec.xor_zero], HB.out⟩
          case round =>
            obtain ⟨k, s, hk, hgk, rfl, hsn, hown, hreg, hb⟩ := hrel
            have HOw := Lib.hid hown
            have HRg := Lib.hid hreg
            have HBw := Lib.hid hb
            have HSN := Lib.hid hsn
            clear hown hreg hb hsn HB HO HO1
            by_cases hk32 : k < 32
            · have hk32' : (k : Int) < 32 := by omega
              have hbit := bit_one (k := k) hff
              cases hfb : f.testBit k with
              | false =>
                rw [hfb] at hbit
                have HFB := Lib.hid hfb
                clear hfb
                go_wp2
                go_roundg (32 - (k + 1))
                case measure => omega
                case rel => exact ⟨k + 1, s, by omega, Nat.le_refl _, by go_num, HSN.out, HOw.out, by rw [HRg.out, reg_stay (by rw [HFB.out]; simp)], HBw.out⟩
              | true =>
                rw [hfb] at hbit
                have hq : (A + k) / 8 < n := by have := HX.out.1; omega
                have hq' : ((A : Int) + (k : Int)) / 8 < (n : Int) := by omega
                have hcell : wr.cell? ⟨g, (A + k) / 8, none⟩ = some (.int .u8 (((s.getD ((A + k) / 8) 0).toNat : Nat) : Int)) := by
                  rw [HOw.out.cellAt _ (by omega)]; exact atB_get (by rw [HSN.out]; omega)
                have hfz : wr.frozen? ⟨g, (A + k) / 8, none⟩ = false := HOw.out.frozenAt _
                have HNEXT : Hid (∀ d : UInt8, d.toNat = (s.getD ((A + k) / 8) 0).toNat ^^^ (128 / 2 ^ ((A + k) % 8)) → regL ones (s.set ((A + k) / 8) d) = regL ones s0 ^^^ runT D (turnW f (k + 1))) := fun d hd =>
                  reg_next (by rw [HSN.out]; exact HDD.out) HX.out.2.2 hk32 HRg.out hfb hd
                have hcb : (s.getD ((A + k) / 8) 0).toNat < 256 := (s.getD ((A + k) / 8) 0).toNat_lt
                generalize (s.getD ((A + k) / 8) 0).toNat = CC at hcell HNEXT hcb
                have hdb : 128 / 2 ^ ((A + k) % 8) < 256 := Nat.lt_of_le_of_lt (Nat.div_le_self _ _) (by decide)
                have hEe : (128 : Int) / 2 ^ ((A + k) % 8) = ((128 / 2 ^ ((A + k) % 8) : Nat) : Int) := by rw [Int.natCast_ediv]; simp
                obtain ⟨hx1, hx2⟩ := xor_byte hcb hdb
                obtain ⟨y, hy⟩ : ∃ y, y = UInt8.ofNat (CC ^^^ (128 / 2 ^ ((A + k) % 8))) := ⟨_, rfl⟩
                have hyn : y.toNat = CC ^^^ (128 / 2 ^ ((A + k) % 8)) := by rw [hy, u8_nat hx2]
                have HU : Hid (Value.int .u8 (bits .xor .u8 (CC : Int) (128 / 2 ^ ((A + k) % 8))) = Value.int .u8 (y.toNat : Int)) := by show _ = _; rw [hEe, hx1, hyn]
                have HRN := Lib.hid (HNEXT.out y hyn)
                have HOW2 : Hid ((wr.setCell ⟨g, (A + k) / 8, none⟩ (.int .u8 (y.toNat : Int))).ownsRow w5.heap.size 5 1 (.slice (some ⟨g, 0, none⟩) n cap) n (byteCells (s.set ((A + k) / 8) y))) := by
                  have := (HOw.out.stored ((A + k) / 8) (.int .u8 (y.toNat : Int))).1
                  rwa [byteCells_set] at this
                clear hfb hEe hx1 hx2 hy hyn HNEXT
                go_wp2
                go_roundg (32 - (k + 1))
                case measure => omega
                case rel => exact ⟨k + 1, s.set ((A + k) / 8) y, by omega, Nat.le_refl _, by go_num, by rw [List.length_set]; exact HSN.out, by rw [HU.out]; exact HOW2.out, HRN.out, HBw.out.setCell (p := ⟨g, (A + k) / 8, none⟩) HG.out _⟩
            · have hk2 : k = 32 := by omega
              subst hk2
              have hno : (readE s).2 ≠ 0 := HBF.out s D (by rw [HSN.out]; exact HNN.out) h2 HRg.out
              obtain ⟨g', cap', hv, _, _, hrow⟩ := owns_at HOw.out (by rw [HSN.out]; have := HL.out; omega)
              rw [HSN.out] at hv
              cases hv
              have HNO := decode_no HDE2.out hrow (by rw [HSN.out]; omega) HSN.out HX.out.2.1 (by intro h; cases h) hno
              unfold NoE at HNO
              have HNO := Lib.hid HNO
              clear hno hrow HOw HRg
              go_wp2_with fail
              refine HNO.out.mono ?_
              rintro r w10 ⟨p7, l7, c7, tr7, ts7, tc7, tu7, q7, m7, d7, F7, rfl, hF7, hb7⟩
              have HB10 : Hid (Below w.heap.size w (w10.alloc (.cells #[.slice p7 l7 c7, .int .u16 tr7, .int .u32 ts7, .int .u64 tc7, .int .i64 tu7, .slice q7 m7 d7] 31))) := below_alloc (below_step HBw.out hb7) _
              have q1 : (F7 == 0) = false := beq_no hF7
              have q2 : (F7 != 0) = true := bne_int hF7
              clear hb7 hF7
              go_wp2
              go_ret
              exact ⟨rfl, HB10.out⟩
end Go.Proofs.YtceanfpcddcfoaaGreat
