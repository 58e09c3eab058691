/-
  Several texts of one proof, joined: each part says at its head what it proves. No conditions beyond what each theorem states.
-/
import Derived.Test.YtedlmngfkkpmgaaZ09
import Derived.Test.YtedlmngfkkpmgaaZ15
/-
  The law TxnFits' own function, over what txn's calls hand back. No conditions beyond what each theorem states.
-/
namespace Go.Proofs.Ytedlmngfkkpmgaa
open Go.ChangeShapes Go.WideShapes Go.ChangeAt Go.RowKit Go.Lib
set_option linter.unusedVariables false
set_option linter.unusedSimpArgs false

theorem atomsL_undone {t : Tm} (h : fitT t = 0) (hk : 3 < (t.ops.getD 0 o0).kind) : atomsL t.ops = 0 := by
  obtain ⟨-, -, -, -, -, -, g7, g8, g9⟩ := fitT_ok h
  have h0 : t.ops.getD 0 o0 ∈ t.ops := getD_mem o0 (by omega)
  have h1 := fitOs_ok t.ops (-1) g9 _ h0
  have h2 := (h1.2 hk).1
  match hm : t.ops, h2 with
  | [o], _ =>
    rw [hm] at hk h1
    rw [atomsL_cons, atomsL_nil, Int.add_zero]
    unfold atomsO
    have hk : 3 < o.kind := hk
    rw [if_neg (by omega), if_neg (by omega)]
set_option maxHeartbeats 12800000 in
set_option maxRecDepth 20000 in
theorem txnfits_any (HFT : FitTSpec) (HID : IDTSpec) (HKE : KeyTSpec) (HUN : UndoesSpec) (HAT : AtomsTSpec) (t : Tm) (xs : List OV) (p : Option Addr) (c : Nat) (n : Int) (w : World) (H : InT t xs p c w) (hl : t.ops.length ≤ 9223372036854775807) (hq : ∀ x ∈ xs, x.1.text.length ≤ 9223372036854775807 ∧ x.1.spans.length ≤ 9223372036854775807) :
    Calls Try.prog 3 #[tv t p c, .int .u32 n] w fun e w' => e = .returned (.bool true) ∧ Below w.heap.size w w' := by
  have hlen : t.ops.length = xs.length := by rw [H.ops, List.length_map]
  have HTV : Hid (∀ p c, tv t p c = .agg #[.int .u16 t.r, .int .u32 t.seq, .int .u64 t.clock, .int .i64 t.user, .slice p xs.length c]) := fun p c => by unfold tv; rw [hlen]
  have HA := Lib.hid (fun W => anchor9_any HFT W)
  have HSM : Hid (∀ W, Below w.heap.size w W → Calls Try.prog 7 #[tv t p c] W fun e w' => e = .returned (.bool (smallT t)) ∧ Below W.heap.size W w') := fun W hb => msmall_any t xs p c W (H.below hb) hl hq
  have HIN := Lib.hid H
  have HB0 : Hid (Below w.heap.size w (w.alloc (.cells #[.int .u16 t.r, .int .u32 t.seq, .int .u64 t.clock, .int .i64 t.user, .slice p xs.length c] 27))) := below_alloc (Below.refl _ _) _
  have HX0 := Lib.hid (heap_alloc_new w (.cells #[.int .u16 t.r, .int .u32 t.seq, .int .u64 t.clock, .int .i64 t.user, .slice p xs.length c] 27))
  rw [HTV.out]
  simp only [HTV.out] at HSM
  clear H hq
  go_enter Try.func3, Try.ntmps3
  go_wp2_with fail
  generalize (w.alloc (.cells #[.int .u16 t.r, .int .u32 t.seq, .int .u64 t.clock, .int .i64 t.user, .slice p xs.length c] 27)) = w0 at HB0 HX0 ⊢
  have HC : Hid (∀ W, Below w0.heap.size w0 W → _) := fun W hb => five_cells (kept_box HX0.out hb)
  refine (HA.out _).mono ?_
  rintro e w1 ⟨rfl, hb1⟩
  have HB1 := Lib.hid hb1
  obtain ⟨x0, x1, x2, x3, x4⟩ := HC.out _ hb1
  clear hb1 HA
  go_wp2_with fail
  refine (HSM.out _ (below_step HB0.out HB1.out)).mono ?_
  rintro e w2 ⟨rfl, hb2⟩
  have HB2 : Hid (Below w0.heap.size w0 w2) := below_step HB1.out hb2
  clear hb2 HB1 HSM x0 x1 x2 x3 x4
  obtain ⟨x0, x1, x2, x3, x4⟩ := HC.out _ HB2.out
  cases hS : smallT t with
  | false =>
    go_wp2
    go_ret
    exact ⟨rfl, below_step HB0.out HB2.out⟩
  | true =>
    obtain ⟨hsx, h40⟩ := smallT_x HIN.out.ops hS
    have HSX := Lib.hid hsx
    have M1 : Hid (∀ W, Below w.heap.size w W → Calls Try.prog 8 #[tv t p c] W (MadeT t W)) := fun W hb => mtxn_any t xs p c W (HIN.out.rows.below hb) (by omega) (fun x hx => by have := (HSX.out x hx).2; omega)
    have HMX : Hid (∀ ys : List OV, t.ops = ys.map (·.1) → SmallX ys) := fun ys h => (smallT_x h hS).1
    clear hsx
    unfold MadeT at M1
    simp only [HTV.out] at M1
    go_wp2_with fail
    refine (M1.out _ (below_step HB0.out HB2.out)).mono ?_
    rintro e w3 ⟨ys, p3, c3, rfl, hT3, hb3⟩
    have HB3 : Hid (Below w0.heap.size w0 w3) := below_step HB2.out hb3
    have HT3 := Lib.hid hT3
    clear hb3 hT3 M1 HB2 x0 x1 x2 x3 x4
    have hyl : ys.length = xs.length := by have := HT3.out.ops; rw [← hlen, this, List.length_map]
    have HB4 : Hid (Below w0.heap.size w0 (w3.alloc (.cells #[.int .u16 t.r, .int .u32 t.seq, .int .u64 t.clock, .int .i64 t.user, .slice p3 xs.length c3] 32))) := below_alloc HB3.out _
    have HX4 := Lib.hid (heap_alloc_new w3 (.cells #[.int .u16 t.r, .int .u32 t.seq, .int .u64 t.clock, .int .i64 t.user, .slice p3 xs.length c3] 32))
    have HT4 : Hid (InT t ys p3 c3 (w3.alloc (.cells #[.int .u16 t.r, .int .u32 t.seq, .int .u64 t.clock, .int .i64 t.user, .slice p3 xs.length c3] 32))) := (HT3.out.inT HIN.out.fit).below (below_alloc (Below.refl _ _) _)
    have F1 := Lib.hid (reffitT_any t ys p3 c3 _ HT4.out (HMX.out ys HT3.out.ops))
    rw [HTV.out] at F1
    go_wp2_with fail
    refine F1.out.mono ?_
    rintro e w5 ⟨rfl, hb5⟩
    generalize hX : w3.heap.size = X at *
    have HB5 : Hid (Below w0.heap.size w0 w5) := below_step HB4.out hb5
    have HT5 : Hid (InT t ys p3 c3 w5) := HT4.out.below hb5
    have HX5 := Lib.hid (kept_box HX4.out hb5)
    clear hb5 HB4 HX4 HT4 F1 HB3 HT3
    have HIN5 : Hid (InT t xs p c w5) := HIN.out.below (below_step HB0.out HB5.out)
    obtain ⟨x0', x1', x2', x3', x4'⟩ := HC.out _ HB5.out
    have x0 := cell_regrown x0'
    have x1 := cell_regrown x1'
    have x2 := cell_regrown x2'
    have x3 := cell_regrown x3'
    have x4 := cell_regrown x4'
    have FF : Hid (∀ dd os, Calls Try.prog 10 #[tv t p c] (Go.Sort.grow (redrawn w5 dd) os) fun e w' => e = .returned (.int .i64 (fitT t)) ∧ Below (Go.Sort.grow (redrawn w5 dd) os).heap.size (Go.Sort.grow (redrawn w5 dd) os) w') := fun dd os => HFT t xs p c _ (HIN5.out.below (below_regrown _ _ _)) HSX.out h40
    have FI : Hid (∀ W, Calls Try.prog 11 #[tv t p c] W fun e w' => e = .returned (.agg #[.int .u16 t.r, .int .u32 t.seq]) ∧ Below W.heap.size W w') := fun W => HID t p c W
    have FK : Hid (∀ W, Calls Try.prog 12 #[tv t p c, .int .u32 n] W fun e w' => e = .returned (.agg #[.int .u64 t.clock, .int .u16 t.r, .int .u32 n]) ∧ Below W.heap.size W w') := fun W => HKE t p c n W
    have HF0 := Lib.hid (fun (h : fitT t = 0) => fitT_ok h)
    have HU : Hid (fitT t = 0 → ∀ W, Below w5.heap.size w5 W → Calls Try.prog 13 #[tv t p c] W fun e w' => e = .returned (.tuple #[.agg #[.int .u16 (undR t), .int .u32 (undS t)], .bool (undB t)]) ∧ Below W.heap.size W w') := fun h W hb => HUN t xs p c W (HIN5.out.below hb) HSX.out h
    have HAA : Hid (fitT t = 0 → ∀ W, Below w5.heap.size w5 W → Calls Try.prog 14 #[tv t p c] W fun e w' => e = .returned (.int .i64 (atomsL t.ops)) ∧ Below W.heap.size W w') := fun h W hb => HAT t xs p c W (HIN5.out.below hb) HSX.out h
    have HAR : Hid (fitT t = 0 → ∀ W, Below w5.heap.size w5 W → Calls Try.prog 15 #[tv t p3 c3] W fun e w' => e = .returned (.int .i64 (atomsL t.ops)) ∧ Below W.heap.size W w') := fun h W hb => refatomsT_any t ys p3 c3 W (HT5.out.below hb) (HMX.out ys HT5.out.ops) h
    have HAU := Lib.hid (fun (h : fitT t = 0) => atomsL_undone h)
    have HO0 : Hid (t.ops.getD 0 o0 = (ys.getD 0 ov0).1 ∨ xs.length = 0) := by
      by_cases h0 : xs.length = 0
      · exact Or.inr h0
      · refine Or.inl ?_
        rw [HT5.out.ops]
        exact getD_map1 ys (by omega)
    simp only [HTV.out] at FF FI FK HU HAA HAR
    clear HFT HID HKE HUN HAT HMX HIN
    generalize fitT t = FT at *
    go_wp2_with fail
    refine wp_region_quiet_below (by kernel_rfl) (by kernel_rfl) ?_
    repeat (first | go_big_quiet_step (first | (go_at_call 10; exact Calls.regrown_of (FF.out _ _)) | (go_at_call 11; exact Calls.regrown_of (FI.out _)) | (go_at_call 12; exact Calls.regrown_of (FK.out _))) | quiet_step (first | (go_at_call 10; exact Calls.regrown_of (FF.out _ _)) | (go_at_call 11; exact Calls.regrown_of (FI.out _)) | (go_at_call 12; exact Calls.regrown_of (FK.out _))))
    refine wpQuiet_nil ?_
    intro _ hw'
    obtain ⟨⟨dq, osq⟩, hw''⟩ := hw'
    subst hw''
    clear x0 x1 x2 x3 x4 FF FI FK
    by_cases h0 : FT = 0
    case neg =>
      have h0' : (FT == 0) = false := beq_no h0
      have h0'' : (FT != 0) = true := bne_int h0
      go_wp2
      go_ret
      exact ⟨rfl, below_step HB0.out (below_step HB5.out (below_regrown _ _ _))⟩
    subst h0
    have h16 := (HF0.out rfl).2.2.2.2.2.2
    have h1y : 0 < ys.length := by omega
    have U1 := Lib.hid (HU.out rfl (Go.Sort.grow (redrawn w5 dq) osq) (below_regrown _ _ _))
    have HOO : Hid (t.ops.getD 0 o0 = (ys.getD 0 ov0).1) := HO0.out.resolve_right (by omega)
    clear HU HF0 HO0
    generalize hom : ys.getD 0 ov0 = yy at HOO
    obtain ⟨om, py, cy⟩ := yy
    simp only at HOO
    obtain ⟨z0', z1', z2', z3', z4'⟩ := HC.out _ HB5.out
    have z0 := cell_regrown z0' dq osq
    have z1 := cell_regrown z1' dq osq
    have z2 := cell_regrown z2' dq osq
    have z3 := cell_regrown z3' dq osq
    have z4 := cell_regrown z4' dq osq
    clear z0' z1' z2' z3' z4' x0' x1' x2' x3' x4'
    by_cases k3 : 3 < om.kind
    · have k3d := Lib.hid k3
      have eR : undR t = t.r := by unfold undR; rw [HOO.out, if_pos k3]
      have eS : undS t = om.seq := by unfold undS; rw [HOO.out, if_pos k3]
      have eB : undB t = true := by unfold undB; rw [HOO.out]; exact decide_eq_true k3
      rw [eR, eS, eB] at U1
      have eA := HAU.out rfl (by rw [HOO.out]; exact k3)
      clear eR eS eB HAU HOO
      go_wp2_with fail
      refine U1.out.mono ?_
      rintro e w7 ⟨rfl, hb7⟩
      have HB7 : Hid (Below w5.heap.size w5 w7) := below_step (below_regrown _ _ _) hb7
      clear hb7 U1 z0 z1 z2 z3 z4
      have HB8 : Hid (Below w5.heap.size w5 (w7.alloc (.cells #[.int .u16 t.r, .int .u32 om.seq] 38))) := below_alloc HB7.out _
      have HX8 := Lib.hid (heap_alloc_new w7 (.cells #[.int .u16 t.r, .int .u32 om.seq] 38))
      have hlt7 : w7.heap.size < (w7.alloc (.cells #[.int .u16 t.r, .int .u32 om.seq] 38)).heap.size := lt_of_block HX8.out
      obtain ⟨xx0, xx1, xx2, xx3, xx4⟩ := five_cells (kept_box HX5.out HB8.out)
      obtain ⟨b, o, rfl, e0, e1, e2, e3, e4, e5, e6⟩ := orow_at (HT5.out.row.row.below HB8.out) h1y
      rw [hom] at e0 e1 e2 e3 e4 e5 e6
      simp only [Nat.zero_mul, Nat.add_zero] at e0 e1 e2 e3 e4 e5 e6
      obtain ⟨i0, i1⟩ := two_cells HX8.out
      obtain ⟨v0', v1', v2', v3', v4'⟩ := HC.out _ (below_step HB5.out HB8.out)
      have hpos : (0 : Int) < (xs.length : Int) := by omega
      go_wp2_with fail
      generalize w7.alloc (.cells #[.int .u16 t.r, .int .u32 om.seq] 38) = W8 at HB8 HX8 xx0 xx1 xx2 xx3 xx4 e0 e1 e2 e3 e4 e5 e6 i0 i1 v0' v1' v2' v3' v4' hlt7 ⊢
      have AA : Hid (∀ dd os, Calls Try.prog 14 #[.agg #[.int .u16 t.r, .int .u32 t.seq, .int .u64 t.clock, .int .i64 t.user, .slice p xs.length c]] (Go.Sort.grow (redrawn W8 dd) os) fun e w' => e = .returned (.int .i64 0) ∧ Below (Go.Sort.grow (redrawn W8 dd) os).heap.size (Go.Sort.grow (redrawn W8 dd) os) w') := fun dd os => by
        have := HAA.out (by simp) (Go.Sort.grow (redrawn W8 dd) os) (below_step HB8.out (below_regrown _ _ _))
        rwa [eA] at this
      have xx4r := cell_regrown xx4
      have xx0r := cell_regrown xx0
      have xx1r := cell_regrown xx1
      have xx2r := cell_regrown xx2
      have xx3r := cell_regrown xx3
      have e6r := cell_regrown e6
      have i0r := cell_regrown i0
      have i1r := cell_regrown i1
      have v0r := cell_regrown v0'
      have v1r := cell_regrown v1'
      have v2r := cell_regrown v2'
      have v3r := cell_regrown v3'
      have v4r := cell_regrown v4'
      clear HAA HAR
      refine wp_region_quiet_below (by kernel_rfl) (by kernel_rfl) ?_
      repeat (first | go_big_quiet_step (first | (go_at_call 14; exact Calls.regrown_of (AA.out _ _))) | quiet_step (first | (go_at_call 14; exact Calls.regrown_of (AA.out _ _))))
      refine wpQuiet_nil ?_
      intro _ hw'
      obtain ⟨⟨dr, osr⟩, hw''⟩ := hw'
      subst hw''
      go_wp2
      go_ret
      exact ⟨by first | rfl | simp, below_step HB0.out (below_step HB5.out (below_step HB8.out (below_regrown _ _ _)))⟩
    · have k3d := Lib.hid k3
      have eR : undR t = 0 := by unfold undR; rw [HOO.out, if_neg k3]
      have eS : undS t = 0 := by unfold undS; rw [HOO.out, if_neg k3]
      have eB : undB t = false := by unfold undB; rw [HOO.out]; exact decide_eq_false k3
      rw [eR, eS, eB] at U1
      clear eR eS eB HAU HOO
      go_wp2_with fail
      refine U1.out.mono ?_
      rintro e w7 ⟨rfl, hb7⟩
      have HB7 : Hid (Below w5.heap.size w5 w7) := below_step (below_regrown _ _ _) hb7
      clear hb7 U1 z0 z1 z2 z3 z4
      have HB8 : Hid (Below w5.heap.size w5 (w7.alloc (.cells #[.int .u16 0, .int .u32 0] 38))) := below_alloc HB7.out _
      have HX8 := Lib.hid (heap_alloc_new w7 (.cells #[.int .u16 0, .int .u32 0] 38))
      have hlt7 : w7.heap.size < (w7.alloc (.cells #[.int .u16 0, .int .u32 0] 38)).heap.size := lt_of_block HX8.out
      obtain ⟨xx0, xx1, xx2, xx3, xx4⟩ := five_cells (kept_box HX5.out HB8.out)
      obtain ⟨b, o, rfl, e0, e1, e2, e3, e4, e5, e6⟩ := orow_at (HT5.out.row.row.below HB8.out) h1y
      rw [hom] at e0 e1 e2 e3 e4 e5 e6
      simp only [Nat.zero_mul, Nat.add_zero] at e0 e1 e2 e3 e4 e5 e6
      obtain ⟨i0, i1⟩ := two_cells HX8.out
      obtain ⟨v0', v1', v2', v3', v4'⟩ := HC.out _ (below_step HB5.out HB8.out)
      have hpos : (0 : Int) < (xs.length : Int) := by omega
      go_wp2_with fail
      generalize w7.alloc (.cells #[.int .u16 0, .int .u32 0] 38) = W8 at HB8 HX8 xx0 xx1 xx2 xx3 xx4 e0 e1 e2 e3 e4 e5 e6 i0 i1 v0' v1' v2' v3' v4' hlt7 ⊢
      have AA : Hid (∀ dd os, Calls Try.prog 14 #[.agg #[.int .u16 t.r, .int .u32 t.seq, .int .u64 t.clock, .int .i64 t.user, .slice p xs.length c]] (Go.Sort.grow (redrawn W8 dd) os) fun e w' => e = .returned (.int .i64 (atomsL t.ops)) ∧ Below (Go.Sort.grow (redrawn W8 dd) os).heap.size (Go.Sort.grow (redrawn W8 dd) os) w') := fun dd os => by
        have := HAA.out (by simp) (Go.Sort.grow (redrawn W8 dd) os) (below_step HB8.out (below_regrown _ _ _))
        exact this
      have AR : Hid (∀ dd os, Calls Try.prog 15 #[.agg #[.int .u16 t.r, .int .u32 t.seq, .int .u64 t.clock, .int .i64 t.user, .slice (some ⟨b, o, none⟩) xs.length c3]] (Go.Sort.grow (redrawn W8 dd) os) fun e w' => e = .returned (.int .i64 (atomsL t.ops)) ∧ Below (Go.Sort.grow (redrawn W8 dd) os).heap.size (Go.Sort.grow (redrawn W8 dd) os) w') := fun dd os => HAR.out (by simp) _ (below_step HB8.out (below_regrown _ _ _))
      have xx4r := cell_regrown xx4
      have xx0r := cell_regrown xx0
      have xx1r := cell_regrown xx1
      have xx2r := cell_regrown xx2
      have xx3r := cell_regrown xx3
      have e6r := cell_regrown e6
      have i0r := cell_regrown i0
      have i1r := cell_regrown i1
      have v0r := cell_regrown v0'
      have v1r := cell_regrown v1'
      have v2r := cell_regrown v2'
      have v3r := cell_regrown v3'
      have v4r := cell_regrown v4'
      clear HAA HAR
      refine wp_region_quiet_below (by kernel_rfl) (by kernel_rfl) ?_
      repeat (first | go_big_quiet_step (first | (go_at_call 14; exact Calls.regrown_of (AA.out _ _)) | (go_at_call 15; exact Calls.regrown_of (AR.out _ _))) | quiet_step (first | (go_at_call 14; exact Calls.regrown_of (AA.out _ _)) | (go_at_call 15; exact Calls.regrown_of (AR.out _ _))))
      refine wpQuiet_nil ?_
      intro _ hw'
      obtain ⟨⟨dr, osr⟩, hw''⟩ := hw'
      subst hw''
      go_wp2
      go_ret
      exact ⟨by first | rfl | simp, below_step HB0.out (below_step HB5.out (below_step HB8.out (below_regrown _ _ _)))⟩
end Go.Proofs.Ytedlmngfkkpmgaa
