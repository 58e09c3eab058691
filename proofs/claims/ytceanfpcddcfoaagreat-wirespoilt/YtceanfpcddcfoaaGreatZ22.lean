/-
  Several texts of one proof, joined: each part says at its head what it proves. No conditions beyond what each theorem states.
-/
import Derived.Test.YtceanfpcddcfoaaGreatZ15
import Derived.Test.YtceanfpcddcfoaaGreatZ10
import Derived.Test.YtceanfpcddcfoaaGreatZ14
/-
  The law WireBytes' own function, over what wire's calls hand back. No conditions beyond what each theorem states.
-/
namespace Go.Proofs.YtceanfpcddcfoaaGreat
open Go.ChangeShapes Go.WideShapes Go.ChangeAt Go.RowKit Go.Lib
set_option linter.unusedVariables false
set_option linter.unusedSimpArgs false

theorem smallE_x {e : Em} {xs : List OV} (hx : e.txn.ops = xs.map (·.1)) (h : smallE e = true) : e.deps.length ≤ 100 ∧ SmallP xs ∧ xs.length ≤ 40 := by
  unfold smallE at h
  rw [Bool.and_eq_true] at h
  have := smallT_x hx h.2
  exact ⟨of_decide_eq_true h.1, this.1, this.2⟩
theorem bytesE_small {e : Em} {xs : List OV} (hf : FitTm e.txn) (hd : Vec.Fits e.deps) (hx : e.txn.ops = xs.map (·.1)) (h : smallE e = true) (h0 : fitE e = 0) : 11 ≤ (bytesE e).length ∧ (bytesE e).length ≤ 45000 := by
  obtain ⟨s1, s2, s3⟩ := smallE_x hx h
  obtain ⟨-, -, h3⟩ := fitE_ok h0
  obtain ⟨g1, g2, g3, g4, g5, g6, g7, g8, g9⟩ := fitT_ok h3
  have HOK := fitOs_ok e.txn.ops (-1) g9
  have hff := hf
  unfold FitTm at hff
  obtain ⟨f1, f2, f3, f4, f5, f6, f7, f8, f9⟩ := hff
  have hle := flatO_len (l := e.txn.ops) (M := 2000) (fun o ho => by
    have ho' := ho
    rw [hx] at ho'
    obtain ⟨x, hx', rfl⟩ := List.mem_map.1 ho'
    exact (bytesO_small (f9 _ ho) (HOK _ ho).1 (s2 x hx').2).2) e.txn.ops.length
  rw [List.take_length] at hle
  have e1 := encN_len (n := e.txn.r.toNat) (by omega)
  have e2 := encN_len (n := e.txn.seq.toNat) (by omega)
  have e3 := encN_len (n := e.txn.clock.toNat) (by omega)
  have e4 := encN_len (n := e.txn.user.toNat) (by omega)
  have e5 := encN_len (n := e.txn.ops.length) (by omega)
  have e6 := encN_len (n := e.deps.length) (by omega)
  have e7 := bytesD_len hd
  rw [bytesE_len]
  unfold bodyE bytesT
  simp only [List.length_append]
  omega
set_option maxHeartbeats 12800000 in
set_option maxRecDepth 20000 in
theorem wirebytes_any (HFE : FitESpec) (HEN : EncodeSpec) (HDE : DecodeSpec) (e : Em) (xs : List OV) (p q : Option Addr) (c d : Nat) (w : World) (H : InE e xs p c q d w) (hm : e.deps.length ≤ 17592186043904) (hl : e.txn.ops.length ≤ 1954687338211) (hq : ∀ x ∈ xs, x.1.text.length ≤ 9223372036854775807 ∧ x.1.spans.length ≤ 8796093021952) :
    Calls Tryz.prog 3 #[ev e p c q d] w fun r w' => r = .returned (.bool true) ∧ Below w.heap.size w w' := by
  have HA := Lib.hid (fun W => anchor10_any HEN W)
  have HSM : Hid (∀ W, Below w.heap.size w W → Calls Tryz.prog 8 #[ev e p c q d] W fun r w' => r = .returned (.bool (smallE e)) ∧ Below W.heap.size W w') := fun W hb => smallE_any e xs p q c d W (H.txn.below hb) (by omega) (fun x hx => ⟨(hq x hx).1, by have := (hq x hx).2; omega⟩)
  have HRF : Hid (∀ W, Below w.heap.size w W → Calls Tryz.prog 9 #[ev e p c q d] W (MadeE e W)) := fun W hb => refE_any e xs p q c d W (H.row.below hb) hm (H.txn.rows.below hb) hl (fun x hx => (hq x hx).2)
  have HFIT : Hid (smallE e = true → ∀ W ys p2 c2 q2 d2, Vec.Row W p2 e.deps → RowT e.txn ys q2 d2 W → Calls Tryz.prog 10 #[ev e p2 c2 q2 d2] W fun r w' => r = .returned (.int .i64 (fitE e)) ∧ Below W.heap.size W w') := fun h W ys p2 c2 q2 d2 h1 h2 => reffitE_any e ys p2 q2 c2 d2 W h1 (by have := (smallE_x H.txn.ops h).1; omega) (h2.inT H.txn.fit).lie (smallE_x h2.ops h).2.1.wide
  have HENC : Hid (smallE e = true → ∀ W, Below w.heap.size w W → Calls Tryz.prog 11 #[ev e p c q d] W fun r w' => ∃ g k, r = .returned (.tuple #[.slice g (encE e).length k, .int .i64 (fitE e)]) ∧ BRow w' g (encE e) ∧ (encE e).length ≤ k ∧ (g = none → k = 0) ∧ Below W.heap.size W w') := fun h W hb => HEN e xs p q c d W (H.below hb) (smallE_x H.txn.ops h).2.1 (smallE_x H.txn.ops h).1 (smallE_x H.txn.ops h).2.2
  have HFIT2 : Hid (smallE e = true → ∀ W, Below w.heap.size w W → Calls Tryz.prog 12 #[ev e p c q d] W fun r w' => r = .returned (.int .i64 (fitE e)) ∧ Below W.heap.size W w') := fun h W hb => HFE e xs p q c d W (H.below hb) (smallE_x H.txn.ops h).2.1.wide (by have := (smallE_x H.txn.ops h).1; omega) (smallE_x H.txn.ops h).2.2
  have HDEC : Hid (smallE e = true → fitE e = 0 → 1 ≤ (bytesE e).length ∧ (∀ W g k, BRow W g (bytesE e) → (bytesE e).length ≤ k → (g = none → k = 0) → Calls Tryz.prog 13 #[.slice g (bytesE e).length k] W (Decoded e 0 W))) := fun h h0 => by
    have hb := bytesE_small H.txn.fit H.fits H.txn.ops h h0
    refine ⟨by omega, fun W g k h1 h2 h3 => ?_⟩
    have := HDE (bytesE e) g k W h1 (by omega) h2 h3
    rwa [readE_all H.fits (by have := (smallE_x H.txn.ops h).1; omega) H.txn.fit h0 (by omega)] at this
  have HBY : Hid (smallE e = true → fitE e = 0 → ∀ W ys p2 c2 q2 d2, Vec.Row W p2 e.deps → RowT e.txn ys q2 d2 W → Calls Tryz.prog 14 #[ev e p2 c2 q2 d2] W (Fresh (bytesE e) W)) := fun h h0 W ys p2 c2 q2 d2 h1 h2 => refbytesE_any e ys p2 q2 c2 d2 W h1 H.fits (by have := (smallE_x H.txn.ops h).1; omega) (h2.inT H.txn.fit).lie (smallE_x h2.ops h).2.1.wide h0
  have HSA : Hid (smallE e = true → ∀ W us ys p2 p3 q2 q3 c2 c3 d2 d3, Vec.Row W p2 e.deps → Vec.Row W p3 e.deps → RowT e.txn us q2 d2 W → RowT e.txn ys q3 d3 W → Calls Tryz.prog 15 #[ev e p2 c2 q2 d2, ev e p3 c3 q3 d3] W fun r w' => r = .returned (.bool true) ∧ Below W.heap.size W w') := fun h W us ys p2 p3 q2 q3 c2 c3 d2 d3 h1 h2 h3 h4 => sameE_yes e us ys p2 p3 q2 q3 c2 c3 d2 d3 W h1 h2 hm h3 (h4.inT H.txn.fit).lie hl (fun x hx => by have := ((smallE_x h3.ops h).2.1 x hx).2; omega)
  have HEE : Hid (encE e = if fitE e = 0 then bytesE e else []) := rfl
  clear H hm hl hq HFE HEN HDE
  unfold Decoded at HDEC
  unfold MadeE at HRF
  unfold Fresh at HBY
  unfold ev at *
  generalize e.deps.length = L at *
  generalize e.txn.ops.length = TL at *
  generalize e.txn.r = tr at *
  generalize e.txn.seq = ts at *
  generalize e.txn.clock = tc at *
  generalize e.txn.user = tu at *
  have HB0 : Hid (Below w.heap.size w (w.alloc (.cells #[.slice p L c, .int .u16 tr, .int .u32 ts, .int .u64 tc, .int .i64 tu, .slice q TL d] 31))) := below_alloc (Below.refl _ _) _
  have HX0 := Lib.hid (heap_alloc_new w (.cells #[.slice p L c, .int .u16 tr, .int .u32 ts, .int .u64 tc, .int .i64 tu, .slice q TL d] 31))
  go_enter Tryz.func3, Tryz.ntmps3
  go_wp2_with fail
  generalize (w.alloc (.cells #[.slice p L c, .int .u16 tr, .int .u32 ts, .int .u64 tc, .int .i64 tu, .slice q TL d] 31)) = w0 at HB0 HX0 ⊢
  have HC : Hid (∀ W, Below w0.heap.size w0 W → _) := fun W hb => six_cells (kept_box HX0.out hb)
  refine (HA.out _).mono ?_
  rintro r w1 ⟨rfl, hb1⟩
  have HB1 := Lib.hid hb1
  clear hb1 HA
  obtain ⟨x0, x1, x2, x3, x4, x5⟩ := HC.out _ HB1.out
  go_wp2_with fail
  refine (HSM.out _ (below_step HB0.out HB1.out)).mono ?_
  rintro r w2 ⟨rfl, hb2⟩
  have HB2 : Hid (Below w0.heap.size w0 w2) := below_step HB1.out hb2
  clear hb2 HSM HB1 x0 x1 x2 x3 x4 x5
  obtain ⟨x0, x1, x2, x3, x4, x5⟩ := HC.out _ HB2.out
  cases hS : smallE e with
  | false =>
    go_wp2
    go_ret
    exact ⟨rfl, below_step HB0.out HB2.out⟩
  | true =>
    have HFIT := Lib.hid (HFIT.out hS)
    have HENC := Lib.hid (HENC.out hS)
    have HFIT2 := Lib.hid (HFIT2.out hS)
    have HDEC := Lib.hid (HDEC.out hS)
    have HBY := Lib.hid (HBY.out hS)
    have HSA := Lib.hid (HSA.out hS)
    clear hS
    go_wp2_with fail
    refine (HRF.out _ (below_step HB0.out HB2.out)).mono ?_
    rintro r w3 ⟨ys, p3, c3, q3, d3, rfl, hv3, -, hT3, hb3⟩
    have HB3 : Hid (Below w0.heap.size w0 (w3.alloc (.cells #[.slice p3 L c3, .int .u16 tr, .int .u32 ts, .int .u64 tc, .int .i64 tu, .slice q3 TL d3] 39))) := below_alloc (below_step HB2.out hb3) _
    have HX3 := Lib.hid (heap_alloc_new w3 (.cells #[.slice p3 L c3, .int .u16 tr, .int .u32 ts, .int .u64 tc, .int .i64 tu, .slice q3 TL d3] 39))
    have HV3 : Hid (Vec.Row (w3.alloc (.cells #[.slice p3 L c3, .int .u16 tr, .int .u32 ts, .int .u64 tc, .int .i64 tu, .slice q3 TL d3] 39)) p3 e.deps) := hv3.below (below_alloc (Below.refl _ _) _)
    have HT3 : Hid (RowT e.txn ys q3 d3 (w3.alloc (.cells #[.slice p3 L c3, .int .u16 tr, .int .u32 ts, .int .u64 tc, .int .i64 tu, .slice q3 TL d3] 39))) := hT3.below (below_alloc (Below.refl _ _) _)
    clear hv3 hT3 hb3 HRF HB2 x0 x1 x2 x3 x4 x5
    obtain ⟨y0, y1, y2, y3, y4, y5⟩ := six_cells HX3.out
    go_wp2_with fail
    generalize hX : w3.heap.size = X at HX3 ⊢
    generalize (w3.alloc (.cells #[.slice p3 L c3, .int .u16 tr, .int .u32 ts, .int .u64 tc, .int .i64 tu, .slice q3 TL d3] 39)) = w4 at HB3 HX3 HV3 HT3 y0 y1 y2 y3 y4 y5 ⊢
    rw [hX] at y0 y1 y2 y3 y4 y5
    clear hX
    have HD : Hid (∀ W, Below w4.heap.size w4 W → _) := fun W hb => six_cells (kept_box HX3.out hb)
    refine (HFIT.out _ _ _ _ _ _ HV3.out HT3.out).mono ?_
    rintro r w5 ⟨rfl, hb5⟩
    have HB5 := Lib.hid hb5
    clear hb5 HFIT y0 y1 y2 y3 y4 y5
    have HB05 : Hid (Below w0.heap.size w0 w5) := below_step HB3.out HB5.out
    obtain ⟨x0, x1, x2, x3, x4, x5⟩ := HC.out _ HB05.out
    go_wp2_with fail
    refine (HENC.out _ (below_step HB0.out HB05.out)).mono ?_
    rintro r w6 ⟨g6, k6, rfl, hr6, hk6, hg6, hb6⟩
    have HB6 : Hid (Below w4.heap.size w4 w6) := below_step HB5.out hb6
    have HB06 : Hid (Below w0.heap.size w0 w6) := below_step HB05.out hb6
    have HR6 := Lib.hid hr6
    have HK6 := Lib.hid hk6
    have HG6 := Lib.hid hg6
    clear hr6 hk6 hg6 hb6 HENC HB5 HB05 x0 x1 x2 x3 x4 x5
    obtain ⟨x0, x1, x2, x3, x4, x5⟩ := HC.out _ HB06.out
    go_wp2_with fail
    refine (HFIT2.out _ (below_step HB0.out HB06.out)).mono ?_
    rintro r w7 ⟨rfl, hb7⟩
    have HB7 : Hid (Below w4.heap.size w4 w7) := below_step HB6.out hb7
    have HR7 := Lib.hid (HR6.out.below hb7)
    clear hb7 HFIT2 HB6 HB06 HR6 x0 x1 x2 x3 x4 x5
    have HBW : Hid (Below w.heap.size w w4) := below_step HB0.out HB3.out
    clear HB0 HB3
    generalize hF : fitE e = F at HEE HDEC HBY
    by_cases h0 : F = 0
    case neg =>
      have HEE2 : Hid (encE e = []) := by show _ = _; rw [HEE.out, if_neg h0]
      rw [HEE2.out] at HK6
      have hl0 : (encE e).length = 0 := by rw [HEE2.out]; rfl
      generalize (encE e).length = EL at hl0
      subst hl0
      have q1 : (F == 0) = false := beq_no h0
      have q2 : (F != 0) = true := bne_int h0
      go_wp2
      go_ret
      exact ⟨rfl, below_step HBW.out HB7.out⟩
    subst h0
    have HEE2 : Hid (encE e = bytesE e) := by show _ = _; rw [HEE.out, if_pos rfl]
    rw [HEE2.out] at HR7 HK6 ⊢
    obtain ⟨hb1, hDEC⟩ := HDEC.out rfl
    have HDEC2 := Lib.hid hDEC
    have HBY2 := Lib.hid (HBY.out rfl)
    clear hDEC HEE HEE2 hF HDEC HBY
    generalize bytesE e = BE at *
    go_wp2_with fail
    refine (HDEC2.out _ _ _ HR7.out HK6.out HG6.out).mono ?_
    rintro r w8 ⟨us, p8, c8, q8, d8, rfl, hv8, hT8, hb8⟩
    have HB8 : Hid (Below w4.heap.size w4 (w8.alloc (.cells #[.slice p8 L c8, .int .u16 tr, .int .u32 ts, .int .u64 tc, .int .i64 tu, .slice q8 TL d8] 31))) := below_alloc (below_step HB7.out hb8) _
    have HX8 := Lib.hid (heap_alloc_new w8 (.cells #[.slice p8 L c8, .int .u16 tr, .int .u32 ts, .int .u64 tc, .int .i64 tu, .slice q8 TL d8] 31))
    have HV8 : Hid (Vec.Row (w8.alloc (.cells #[.slice p8 L c8, .int .u16 tr, .int .u32 ts, .int .u64 tc, .int .i64 tu, .slice q8 TL d8] 31)) p8 e.deps) := hv8.below (below_alloc (Below.refl _ _) _)
    have HT8 : Hid (RowT e.txn us q8 d8 (w8.alloc (.cells #[.slice p8 L c8, .int .u16 tr, .int .u32 ts, .int .u64 tc, .int .i64 tu, .slice q8 TL d8] 31))) := hT8.below (below_alloc (Below.refl _ _) _)
    have HR8 : Hid (BRow (w8.alloc (.cells #[.slice p8 L c8, .int .u16 tr, .int .u32 ts, .int .u64 tc, .int .i64 tu, .slice q8 TL d8] 31)) g6 BE) := (HR7.out.below hb8).below (below_alloc (Below.refl _ _) _)
    clear hv8 hT8 hb8 HDEC2 HR7 HB7
    go_wp2_with fail
    generalize hY : w8.heap.size = Y at HX8 ⊢
    generalize (w8.alloc (.cells #[.slice p8 L c8, .int .u16 tr, .int .u32 ts, .int .u64 tc, .int .i64 tu, .slice q8 TL d8] 31)) = w9 at HB8 HX8 HV8 HT8 HR8 ⊢
    clear hY
    have HE8 : Hid (∀ W, Below w9.heap.size w9 W → _) := fun W hb => six_cells (kept_box HX8.out hb)
    have hcv : ∀ W, Below w9.heap.size w9 W → (convert 42 9 (.slice g6 BE.length k6)).run Tryz.prog W = .ok (.string ⟨BE.toArray⟩) W := fun W hb => conv_row (HR8.out.below hb) rfl
    have CV := Lib.hid hcv
    have L0 : Below w9.heap.size w9 w9.drew := (Below.refl _ _).drew
    have cv0 := hcv w9.drew L0
    have cv00 := hcv w9 (Below.refl _ _)
    have hcs : ∀ W v2 n, W.ownsRow n 5 1 v2 BE.length (byteCells BE) → ∃ p2 c2, v2 = .slice p2 BE.length c2 ∧ (convert 42 9 v2).run Tryz.prog W = .ok (.string ⟨BE.toArray⟩) W := fun W v2 n h => by
      obtain ⟨p2, c2, rfl, -, hr, -⟩ := brow_owns h
      exact ⟨p2, c2, rfl, conv_row hr rfl⟩
    have CS := Lib.hid hcs
    clear hcv hcs
    have HV39 := Lib.hid (HV3.out.below HB8.out)
    have HT39 := Lib.hid (HT3.out.below HB8.out)
    obtain ⟨y0, y1, y2, y3, y4, y5⟩ := HD.out _ (HB8.out.trans (L0.mono HB8.out.size))
    obtain ⟨z0, z1, z2, z3, z4, z5⟩ := HE8.out _ L0
    go_region_with (first
      | (go_at_call 14; refine (HBY2.out _ _ _ _ _ _ (by exact HV39.out.below L0) (by exact HT39.out.below L0)).mono ?_; rintro e w10 ⟨v10, rfl, hown, hb10⟩
         obtain ⟨p10, c10, rfl, cvo⟩ := CS.out w10 v10 _ hown
         have L10 : Below w9.heap.size w9 w10 := below_step L0 hb10
         have cv10 := CV.out w10 L10
         obtain ⟨t0', t1', t2', t3', t4', t5'⟩ := HD.out _ (HB8.out.trans (L10.mono HB8.out.size))
         obtain ⟨s0', s1', s2', s3', s4', s5'⟩ := HE8.out _ L10
         clear hown hb10)
      | (go_at_call 15; refine (HSA.out _ _ _ _ _ _ _ _ _ _ _ (by exact HV8.out.below L10) (by exact HV39.out.below L10) (by exact HT8.out.below L10) (by exact HT39.out.below L10)).mono ?_; rintro r w11 ⟨rfl, hb11⟩
         have L11 : Below w9.heap.size w9 w11 := below_step L10 hb11
         clear hb11))
    all_goals
      have HL11 := Lib.hid L11
      clear L11
      go_wp2
      go_ret
      exact ⟨rfl, below_step HBW.out (below_step HB8.out HL11.out)⟩
end Go.Proofs.YtceanfpcddcfoaaGreat
/-
  Transactions that come in, and how much they hold. No conditions beyond what each theorem states.
-/
namespace Go.Proofs.YtceanfpcddcfoaaGreat
open Go.ChangeShapes Go.WideShapes Go.ChangeAt Go.RowKit Go.Lib
set_option linter.unusedVariables false
set_option linter.unusedSimpArgs false
set_option maxRecDepth 100000

theorem bytesSp9 : Tryz.prog.bytesOf 160 = 16 := by kernel_rfl
theorem bytesO9 : Tryz.prog.bytesOf 79 = 72 := by kernel_rfl
theorem weights_all_mem {H : Type} {P : Program} {e : TypeId} {d : DataW H} : ∀ {ds : List (DataW H)}, d ∈ ds → ∀ n ∈ d.weights P e, n ∈ DataW.weightsAll P e ds
  | d0 :: ds, h, n, hn => by
    simp only [DataW.weightsAll, List.mem_append]
    rcases List.mem_cons.1 h with rfl | h
    · exact Or.inl hn
    · exact Or.inr (weights_all_mem h n hn)
theorem lay_cells_w {α : Type} [Inhabited α] (R : Nat) (L : Lay α) (Fit : α → Prop) (hpos : 0 < L.k) {H : Type} {enc : TypeId × Value → H} {W : World} {fuel : Nat} {t e : TypeId} {cs : List Value} {x : DataW H × List MemPlace} (hu : Tryz.prog.underlying t = some (.slice e)) (hk : Tryz.prog.cellsOf e = L.k)
    (dec : ∀ n cs' x, DataW.trod enc Tryz.prog W 0 (fun _ => true) true n e cs' = some x → cs'.length = L.k → (∀ m ∈ x.1.weights Tryz.prog e, m ≤ R) → ∃ a, cs' = L.enc a ∧ Fit a)
    (hf : DataW.trod enc Tryz.prog W 0 (fun _ => true) true fuel t cs = some x) (hw : ∀ m ∈ x.1.weights Tryz.prog t, m ≤ R) :
    ∃ l p c, cs = [.slice p l.length c] ∧ GRow L W p l ∧ (∀ x ∈ l, Fit x) ∧ l.length ≤ c ∧ (p = none → c = 0) ∧ l.length ≤ 9223372036854775807 ∧ l.length * Tryz.prog.bytesOf e ≤ R := by
  rcases Go.Deep.open_slice hu hf with ⟨hcs, -⟩ | ⟨a, len, cap, m, n, D, Pl, hcs, -, hl, hm, hmm, hx, hc⟩
  · exact ⟨[], none, 0, hcs, GRow.nil _ _ _, (by intro x hx; simp at hx), by simp, fun _ => rfl, by simp, by simp⟩
  · subst hcs
    subst hx
    simp only [DataW.weights, hu] at hw
    have hlm : len ≤ m := by rw [hmm]; split <;> omega
    have each : ∀ i, i < len → ∃ x : α, (∀ j u, (L.enc x)[j]? = some u → W.cell? (a.add (i * L.k + j)) = some u) ∧ Fit x := fun i hi => by
      obtain ⟨cs', h1, h2⟩ := hc i (by omega)
      rw [hk] at h1
      obtain ⟨_, hlen, hcell⟩ := World.cells?_some h1
      obtain ⟨x, rfl, hfx⟩ := dec _ _ _ h2 hlen (fun m hm => hw m (List.mem_cons_of_mem _ (List.mem_append_left _ (weights_all_mem (List.mem_map.2 ⟨i, List.mem_range.2 hi, rfl⟩) m hm))))
      refine ⟨x, fun j u hj => ?_, hfx⟩
      have hjk : j < L.k := by have := (List.getElem?_eq_some_iff.1 hj).1; rwa [L.len] at this
      have := hcell j hjk
      rw [Go.Deep.add_add] at this
      rw [this]; exact hj
    obtain ⟨q, hq⟩ := Go.Deep.choose_lt each
    refine ⟨(List.range len).map q, some a, cap, by simp, ?_, ?_, by simpa using hl, (by intro h; cases h), (by simp; unfold maxLen at hm; omega), ?_⟩
    · intro m' u hm'
      have hlt : m' < len * L.k := by
        have := (List.getElem?_eq_some_iff.1 hm').1
        rw [L.flat_length] at this
        simpa using this
      have hi : m' / L.k < len := Nat.div_lt_of_lt_mul (by rw [Nat.mul_comm]; exact hlt)
      have hj : m' % L.k < L.k := Nat.mod_lt _ hpos
      have hmm : m' = (m' / L.k) * L.k + m' % L.k := by rw [Nat.mul_comm]; exact (Nat.div_add_mod m' L.k).symm
      have hfl := L.flat_at (q 0) ((List.range len).map q) (m' / L.k) (m' % L.k) (by simpa using hi) hj
      rw [← hmm, hm'] at hfl
      have hgd : ((List.range len).map q).getD (m' / L.k) (q 0) = q (m' / L.k) := by simp [hi]
      rw [hgd] at hfl
      have hcell := (hq _ hi).1 _ _ hfl.symm
      rw [← hmm] at hcell
      obtain ⟨b, o, s⟩ := a
      have h00 := (hq 0 (Nat.lt_of_le_of_lt (Nat.zero_le _) hi)).1 0 _ (List.getElem?_eq_getElem (by rw [L.len]; exact hpos))
      have hs : s = none := by simpa [Addr.add] using World.cell?_spot h00
      subst hs
      rw [Addr.add_lit] at hcell
      exact ⟨b, o, rfl, hcell⟩
    · intro x hx
      simp only [List.mem_map, List.mem_range] at hx
      obtain ⟨i, hi, rfl⟩ := hx
      exact (hq i hi).2
    · have := hw _ (List.mem_cons_self ..)
      simp only [List.length_map, List.length_range] at this ⊢
      exact Nat.le_trans (Nat.mul_le_mul_right _ (by omega)) this
/-- One operation's cells, read, and how much they hold. -/
theorem op_dec_w (R : Nat) {H : Type} {enc : TypeId × Value → H} {W : World} (n : Nat) (cs' : List Value) (x : DataW H × List MemPlace) (h : DataW.trod enc Tryz.prog W 0 (fun _ => true) true n 79 cs' = some x) (hl : cs'.length = 7) (hw : ∀ m ∈ x.1.weights Tryz.prog 79, m ≤ R) : ∃ a : OV, cs' = layO.enc a ∧ InO a.1 a.2.1 a.2.2 W ∧ a.1.text.length ≤ 9223372036854775807 ∧ a.1.spans.length ≤ 9223372036854775807 ∧ a.1.spans.length * 16 ≤ R := by
  obtain ⟨xs, n, -, hx, -, hlen, hfs⟩ := DataW.trod_struct Tryz.underlying79 h
  subst hx
  obtain ⟨z0, z1, z2, z3, z4, z5, rfl⟩ := list6 (by simpa using hlen)
  match cs', hl with
  | [c0, c1, c2, c3, c4, c5, c6], _ =>
    have hw4 : ∀ m ∈ z4.1.weights Tryz.prog 77, m ≤ R := fun m hm => hw m (by
      simp only [DataW.weights, Tryz.underlying79]
      exact DataW.weights_mem_each (j := 4) rfl rfl m hm)
    have h0 := hfs 0 _ rfl
    have h1 := hfs 1 _ rfl
    have h2 := hfs 2 _ rfl
    have h3 := hfs 3 _ rfl
    have h4 := hfs 4 _ rfl
    have h5 := hfs 5 _ rfl
    simp [cellsInt, cellsII, cellsN, cellsSt, cellsSl] at h0 h1 h2 h3 h4 h5
    obtain ⟨k, e0, -, w0⟩ := DataW.trod_int Tryz.underlying3 h0
    obtain ⟨a, e1, fa⟩ := id_dec _ _ _ h1 rfl
    obtain ⟨m, e2, -, w2⟩ := DataW.trod_int Tryz.underlying25 h2
    obtain ⟨s, e3, -, hs⟩ := DataW.trod_string Tryz.underlying9 h3
    obtain ⟨l, p, c, e4, hG, hF, hc, hp, hll, hb⟩ := lay_cells_w R layS FitS layS_pos Tryz.underlying77 cellsSp (fun n cs' x h hl _ => span_dec n cs' x h hl) h4 hw4
    obtain ⟨q, e5, -, w5⟩ := DataW.trod_int Tryz.underlying25 h5
    simp at e0 e1 e2 e3 e4 e5
    obtain ⟨rfl, rfl⟩ := e1
    subst e0 e2 e3 e4 e5
    have b0 := bounds_i64 w0
    have b2 := bounds_u32 w2
    have b5 := bounds_u32 w5
    unfold FitN at fa
    obtain ⟨sd⟩ := s
    obtain ⟨sl⟩ := sd
    refine ⟨(⟨k, a.1, a.2, m, sl, l, q⟩, p, c), rfl, ⟨⟨b0.1, by have := b0.2; simp only; omega, fa.1, fa.2.1, fa.2.2.1, fa.2.2.2, b2.1, by have := b2.2; simp only; omega, hF, b5.1, by have := b5.2; simp only; omega⟩, hG, hc, hp⟩, ?_, hll, by rw [bytesSp9] at hb; exact hb⟩
    unfold maxLen at hs
    have : (⟨⟨sl⟩⟩ : ByteArray).size = sl.length := rfl
    simp only
    omega
/-- A transaction that comes in, and how much it holds. -/
theorem txn_sized {H : Type} {enc : TypeId × Value → H} {W : World} {r : Reach} {base : Nat} {v : Value} {d : DataW H} {ps : List MemPlace} (hv : Value.okWide Tryz.prog W r base 29 v) (h : DataW.Trod enc Tryz.prog W 0 (fun _ => true) true 29 v d ps) (RB : Nat) (hw : ∀ m ∈ d.weights Tryz.prog 29, m ≤ RB) :
    ∃ t xs p c, v = tv t p c ∧ InT t xs p c W ∧ t.ops.length ≤ 9223372036854775807 ∧ t.ops.length * 72 ≤ RB ∧ ∀ x ∈ xs, x.1.text.length ≤ 9223372036854775807 ∧ x.1.spans.length ≤ 9223372036854775807 ∧ x.1.spans.length * 16 ≤ RB := by
  obtain ⟨cs, rfl, hsz⟩ := okWide_struct Tryz.underlying29 hv
  obtain ⟨c0, c1, c2, c3, c4, rfl⟩ := array5 (hsz.trans cells9)
  obtain ⟨fuel, hf⟩ := h
  obtain ⟨xs, n, -, hx, -, hlen, hfs⟩ := DataW.trod_struct Tryz.underlying29 hf
  obtain ⟨rfl, -⟩ := Prod.mk.inj hx
  obtain ⟨z0, z1, z2, z3, z4, rfl⟩ := list5 (by simpa using hlen)
  have hw4 : ∀ m ∈ z4.1.weights Tryz.prog 27, m ≤ RB := fun m hm => hw m (by
    simp only [DataW.weights, Tryz.underlying29]
    exact DataW.weights_mem_each (j := 4) rfl rfl m hm)
  have h0 := hfs 0 _ rfl
  have h1 := hfs 1 _ rfl
  have h2 := hfs 2 _ rfl
  have h3 := hfs 3 _ rfl
  have h4 := hfs 4 _ rfl
  simp [Value.cells, cellsInt, cellsR, cellsN, cellsC, cellsOs] at h0 h1 h2 h3 h4
  obtain ⟨R, e0, -, w0⟩ := DataW.trod_int Tryz.underlying24 h0
  obtain ⟨S, e1, -, w1⟩ := DataW.trod_int Tryz.underlying25 h1
  obtain ⟨C, e2, -, w2⟩ := DataW.trod_int Tryz.underlying26 h2
  obtain ⟨U, e3, -, w3⟩ := DataW.trod_int Tryz.underlying3 h3
  obtain ⟨l, p, c, e4, hG, hF, hc, hp, hll, hb⟩ := @lay_cells_w OV ⟨ov0⟩ RB layO (fun a => InO a.1 a.2.1 a.2.2 W ∧ a.1.text.length ≤ 9223372036854775807 ∧ a.1.spans.length ≤ 9223372036854775807 ∧ a.1.spans.length * 16 ≤ RB) layO_pos H enc W _ _ _ _ _ Tryz.underlying27 cells8 (fun n cs' x h hl hw => op_dec_w RB n cs' x h hl hw) h4 hw4
  simp at e0 e1 e2 e3 e4
  subst e0 e1 e2 e3 e4
  have b0 := bounds_u16 w0
  have b1 := bounds_u32 w1
  have b2 := bounds_u64 w2
  have b3 := bounds_i64 w3
  refine ⟨⟨R, S, C, U, l.map (·.1)⟩, l, p, c, by unfold tv; simp, ⟨⟨b0.1, by have := b0.2; simp only; omega, b1.1, by have := b1.2; simp only; omega, b2.1, by have := b2.2; simp only; omega, b3.1, by have := b3.2; simp only; omega, ?_⟩, rfl, ⟨hG, fun x hx => (hF x hx).1⟩, by simpa using hc, hp⟩, by simpa using hll, by rw [bytesO9] at hb; simpa using hb, fun x hx => (hF x hx).2⟩
  intro o ho
  obtain ⟨x, hx, rfl⟩ := List.mem_map.1 ho
  exact (hF x hx).1.fit
end Go.Proofs.YtceanfpcddcfoaaGreat
/-
  Envelopes and vectors that come in, and how much they hold. No conditions beyond what each theorem states.
-/
namespace Go.Proofs.YtceanfpcddcfoaaGreat
open Go.ChangeShapes Go.WideShapes Go.ChangeAt Go.RowKit Go.Lib
set_option linter.unusedVariables false
set_option linter.unusedSimpArgs false
set_option maxRecDepth 100000

theorem cellsW : Tryz.prog.cellsOf 31 = 6 := by kernel_rfl
theorem cellsVe : Tryz.prog.cellsOf 23 = 1 := by kernel_rfl
theorem cellsEn : Tryz.prog.cellsOf 105 = 2 := by kernel_rfl
theorem bytesEn : Tryz.prog.bytesOf 105 = 8 := by kernel_rfl
def FitV (x : Vec.En) : Prop := 0 ≤ x.1 ∧ x.1 ≤ 65535 ∧ 0 ≤ x.2 ∧ x.2 ≤ 4294967295
theorem entry_dec {H : Type} {enc : TypeId × Value → H} {W : World} {sp : Nat → Bool} (n : Nat) (cs' : List Value) (x : DataW H × List MemPlace) (h : DataW.trod enc Tryz.prog W 0 sp true n 105 cs' = some x) (hl : cs'.length = 2) : ∃ a : Vec.En, cs' = layV.enc a ∧ FitV a := by
  obtain ⟨y0, y1, m, -, -, h0, h1⟩ := trod_struct2 Tryz.underlying105 h
  match cs', hl with
  | [v0, v1], _ =>
    simp [cellsR, cellsN] at h0 h1
    obtain ⟨a, e0, -, wa⟩ := DataW.trod_int Tryz.underlying24 h0
    obtain ⟨b, e1, -, wb⟩ := DataW.trod_int Tryz.underlying25 h1
    simp at e0 e1
    have b0 := bounds_u16 wa
    have b1 := bounds_u32 wb
    exact ⟨(a, b), by rw [e0, e1]; rfl, b0.1, by have := b0.2; simp only; omega, b1.1, by have := b1.2; simp only; omega⟩
/-- One transaction's cells, read, and how much they hold. -/
theorem txn_dec_w (RB : Nat) {H : Type} {enc : TypeId × Value → H} {W : World} (n : Nat) (cs' : List Value) (x : DataW H × List MemPlace) (hf : DataW.trod enc Tryz.prog W 0 (fun _ => true) true n 29 cs' = some x) (hl : cs'.length = 5) (hw : ∀ m ∈ x.1.weights Tryz.prog 29, m ≤ RB) :
    ∃ t xs p c, cs' = [.int .u16 t.r, .int .u32 t.seq, .int .u64 t.clock, .int .i64 t.user, .slice p t.ops.length c] ∧ InT t xs p c W ∧ t.ops.length ≤ 9223372036854775807 ∧ t.ops.length * 72 ≤ RB ∧ ∀ x ∈ xs, x.1.text.length ≤ 9223372036854775807 ∧ x.1.spans.length ≤ 9223372036854775807 ∧ x.1.spans.length * 16 ≤ RB := by
  match cs', hl with
  | [c0, c1, c2, c3, c4], _ =>
    obtain ⟨xs, n, -, hx, -, hlen, hfs⟩ := DataW.trod_struct Tryz.underlying29 hf
    subst hx
    obtain ⟨z0, z1, z2, z3, z4, rfl⟩ := list5 (by simpa using hlen)
    have hw4 : ∀ m ∈ z4.1.weights Tryz.prog 27, m ≤ RB := fun m hm => hw m (by
      simp only [DataW.weights, Tryz.underlying29]
      exact DataW.weights_mem_each (j := 4) rfl rfl m hm)
    have h0 := hfs 0 _ rfl
    have h1 := hfs 1 _ rfl
    have h2 := hfs 2 _ rfl
    have h3 := hfs 3 _ rfl
    have h4 := hfs 4 _ rfl
    simp [cellsInt, cellsR, cellsN, cellsC, cellsOs] at h0 h1 h2 h3 h4
    obtain ⟨R, e0, -, w0⟩ := DataW.trod_int Tryz.underlying24 h0
    obtain ⟨S, e1, -, w1⟩ := DataW.trod_int Tryz.underlying25 h1
    obtain ⟨C, e2, -, w2⟩ := DataW.trod_int Tryz.underlying26 h2
    obtain ⟨U, e3, -, w3⟩ := DataW.trod_int Tryz.underlying3 h3
    obtain ⟨l, p, c, e4, hG, hF, hc, hp, hll, hb⟩ := @lay_cells_w OV ⟨ov0⟩ RB layO (fun a => InO a.1 a.2.1 a.2.2 W ∧ a.1.text.length ≤ 9223372036854775807 ∧ a.1.spans.length ≤ 9223372036854775807 ∧ a.1.spans.length * 16 ≤ RB) layO_pos H enc W _ _ _ _ _ Tryz.underlying27 cells8 (fun n cs' x h hl hw => op_dec_w RB n cs' x h hl hw) h4 hw4
    simp at e0 e1 e2 e3 e4
    subst e0 e1 e2 e3 e4
    have b0 := bounds_u16 w0
    have b1 := bounds_u32 w1
    have b2 := bounds_u64 w2
    have b3 := bounds_i64 w3
    refine ⟨⟨R, S, C, U, l.map (·.1)⟩, l, p, c, by simp, ⟨⟨b0.1, by have := b0.2; simp only; omega, b1.1, by have := b1.2; simp only; omega, b2.1, by have := b2.2; simp only; omega, b3.1, by have := b3.2; simp only; omega, ?_⟩, rfl, ⟨hG, fun x hx => (hF x hx).1⟩, by simpa using hc, hp⟩, by simpa using hll, by rw [bytesO9] at hb; simpa using hb, fun x hx => (hF x hx).2⟩
    intro o ho
    obtain ⟨x, hx, rfl⟩ := List.mem_map.1 ho
    exact (hF x hx).1.fit
theorem array6 {cs : Array Value} (h : cs.size = 6) : ∃ a b c d e f, cs = #[a, b, c, d, e, f] := by
  obtain ⟨l⟩ := cs
  match l, h with
  | [a, b, c, d, e, f], _ => exact ⟨a, b, c, d, e, f, rfl⟩
theorem list2 {α : Type} {l : List α} (h : l.length = 2) : ∃ a b, l = [a, b] := by
  match l, h with
  | [a, b], _ => exact ⟨a, b, rfl⟩
/-- An envelope that comes in, and how much it holds. -/
theorem env_sized {H : Type} {enc : TypeId × Value → H} {W : World} {r : Reach} {base : Nat} {v : Value} {d : DataW H} {ps : List MemPlace} (hv : Value.okWide Tryz.prog W r base 31 v) (h : DataW.Trod enc Tryz.prog W 0 (fun _ => true) true 31 v d ps) (RB : Nat) (hw : ∀ m ∈ d.weights Tryz.prog 31, m ≤ RB) :
    ∃ e xs p q c k, v = ev e p c q k ∧ InE e xs p c q k W ∧ e.deps.length * 8 ≤ RB ∧ e.txn.ops.length ≤ 9223372036854775807 ∧ e.txn.ops.length * 72 ≤ RB ∧ ∀ x ∈ xs, x.1.text.length ≤ 9223372036854775807 ∧ x.1.spans.length ≤ 9223372036854775807 ∧ x.1.spans.length * 16 ≤ RB := by
  obtain ⟨cs, rfl, hsz⟩ := okWide_struct Tryz.underlying31 hv
  obtain ⟨c0, c1, c2, c3, c4, c5, rfl⟩ := array6 (hsz.trans cellsW)
  obtain ⟨fuel, hf⟩ := h
  obtain ⟨xs, n, -, hx, -, hlen, hfs⟩ := DataW.trod_struct Tryz.underlying31 hf
  obtain ⟨rfl, -⟩ := Prod.mk.inj hx
  obtain ⟨z0, z1, rfl⟩ := list2 (by simpa using hlen)
  have hw0 : ∀ m ∈ z0.1.weights Tryz.prog 23, m ≤ RB := fun m hm => hw m (by
    simp only [DataW.weights, Tryz.underlying31]
    exact DataW.weights_mem_each (j := 0) rfl rfl m hm)
  have hw1 : ∀ m ∈ z1.1.weights Tryz.prog 29, m ≤ RB := fun m hm => hw m (by
    simp only [DataW.weights, Tryz.underlying31]
    exact DataW.weights_mem_each (j := 1) rfl rfl m hm)
  have h0 := hfs 0 _ rfl
  have h1 := hfs 1 _ rfl
  simp [Value.cells, cellsVe, cells9] at h0 h1
  obtain ⟨l, p, c, e0, hG, hF, hc, hp, hll, hb⟩ := lay_cells_w RB layV FitV layV_pos Tryz.underlying23 cellsEn (fun n cs' x h hl _ => entry_dec n cs' x h hl) h0 hw0
  obtain ⟨t, us, q, k, e1, hI, b1, b2, b3⟩ := txn_dec_w RB _ _ _ h1 rfl hw1
  simp at e0 e1
  obtain ⟨rfl, rfl, rfl, rfl, rfl⟩ := e1
  subst e0
  rw [bytesEn] at hb
  exact ⟨⟨l, t⟩, us, p, q, c, k, rfl, ⟨vrow hG, fun x hx => hF x hx, hc, hp, hI⟩, hb, b1, b2, b3⟩
theorem env_again {H : Type} {enc : TypeId × Value → H} {W W' : World} {v : Value} {d : DataW H} {ps : List MemPlace} (h : DataW.Trod enc Tryz.prog W 0 (fun _ => true) true 31 v d ps) (hb : Below W.heap.size W W') (hlt : ∀ x ∈ ps, x.block < W.heap.size) :
    DataW.Trod enc Tryz.prog W' 0 (fun b => decide (b < W.heap.size)) true 31 v d ps :=
  Below.trod laidOut (by kernel_rfl) (of_decide_eq_true (by kernel_rfl)) h hb hlt
/-- A vector that comes in, and how much it holds. -/
theorem vec_sized {H : Type} {enc : TypeId × Value → H} {W : World} {r : Reach} {base : Nat} {v : Value} {d : DataW H} {ps : List MemPlace} (hv : Value.okWide Tryz.prog W r base 23 v) (h : DataW.Trod enc Tryz.prog W 0 (fun _ => true) true 23 v d ps) (RB : Nat) (hw : ∀ m ∈ d.weights Tryz.prog 23, m ≤ RB) :
    ∃ l p c, v = .slice p l.length c ∧ Vec.Row W p l ∧ Vec.Fits l ∧ l.length ≤ c ∧ (p = none → c = 0) ∧ l.length * 8 ≤ RB := by
  obtain ⟨a0, len, cap, rfl⟩ := okWide_slice Tryz.underlying23 hv
  obtain ⟨fuel, hf⟩ := h
  obtain ⟨l, p, c, e0, hG, hF, hc, hp, hll, hb⟩ := lay_cells_w RB layV FitV layV_pos Tryz.underlying23 cellsEn (fun n cs' x h hl _ => entry_dec n cs' x h hl) hf hw
  simp [Value.cells] at e0
  obtain ⟨rfl, rfl, rfl⟩ := e0
  rw [bytesEn] at hb
  exact ⟨l, _, _, rfl, vrow hG, fun x hx => hF x hx, hc, hp, hb⟩
theorem vec_again {H : Type} {enc : TypeId × Value → H} {W W' : World} {v : Value} {d : DataW H} {ps : List MemPlace} (h : DataW.Trod enc Tryz.prog W 0 (fun _ => true) true 23 v d ps) (hb : Below W.heap.size W W') (hlt : ∀ x ∈ ps, x.block < W.heap.size) :
    DataW.Trod enc Tryz.prog W' 0 (fun b => decide (b < W.heap.size)) true 23 v d ps :=
  Below.trod laidOut (by kernel_rfl) (of_decide_eq_true (by kernel_rfl)) h hb hlt
end Go.Proofs.YtceanfpcddcfoaaGreat
