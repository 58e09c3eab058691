/-
  Several texts of one proof, joined: each part says at its head what it proves. No conditions beyond what each theorem states.
-/
import Derived.RegionTactic
import Derived.Test.YtedlmngfkkpmgaaZ09
import Derived.Test.YtedlmngfkkpmgaaZ19
import Derived.Test.YtedlmngfkkpmgaaZ06
/-
  The law TxnReads' own function, over what txn's calls hand back. No conditions beyond what each theorem states.
-/
namespace Go.Proofs.Ytedlmngfkkpmgaa
open Go.ChangeShapes Go.WideShapes Go.ChangeAt Go.RowKit Go.Lib
set_option linter.unusedVariables false
set_option linter.unusedSimpArgs false

set_option maxHeartbeats 12800000 in
set_option maxRecDepth 20000 in
theorem txnreads_any (HFT : FitTSpec) (HGE : GetTSpec) (bs : List UInt8) (p : Option Addr) (c : Nat) (w : World) (hR : BRow w p bs) (hb : bs.length ≤ 9223372036854775807) (hcap : bs.length ≤ c) :
    Calls Try.prog 5 #[.slice p bs.length c] w fun e w' => e = .returned (.bool true) ∧ Below w.heap.size w w' := by
  have HA := Lib.hid (anchor9_any HFT w)
  have HR := Lib.hid hR
  clear hR HFT
  go_enter Try.func5, Try.ntmps5
  go_wp2_with fail
  refine HA.out.mono ?_
  rintro e w1 ⟨rfl, hb1⟩
  have HB1 := Lib.hid hb1
  clear hb1 HA
  by_cases hbig : 2000 < bs.length
  · have hbig' : (2000 : Int) < (bs.length : Int) := by omega
    go_wp2
    go_ret
    exact ⟨rfl, HB1.out⟩
  have hbig' : ¬ (2000 : Int) < (bs.length : Int) := by omega
  have H2 := Lib.hid (from_any bs p c w1 (HR.out.below HB1.out) (by omega))
  go_wp2_with fail
  refine H2.out.mono ?_
  rintro e w2 ⟨K, rfl, hK, hrd, hb2⟩
  have HB2 : Hid (Below w.heap.size w w2) := below_step HB1.out hb2
  have HK : Hid (w.heap.size ≤ K) := by have := HB1.out.size; show w.heap.size ≤ K; omega
  have HRD := Lib.hid hrd
  generalize w1.heap.size = D at *
  clear hb2 hrd H2 hK HB1
  have H3 := Lib.hid (HGE bs 0 0 K D w2 HRD.out (by omega) (by omega))
  have H4 : Hid (∀ W, Below w.heap.size w W → Calls Try.prog 23 #[.slice p bs.length c, .int .i64 0] W (Read9At bs 0 W)) := fun W hbW => refread9_at bs 0 (Nat.zero_le _) p c W (HR.out.below hbW) (by omega) hcap
  have hrg := readTx_range (bs := bs) (q := 0) (e := 0) (Nat.zero_le _) (by omega) (by omega)
  have HM : Hid (∀ xs p c W, RowT (readTx bs 0 0).1 xs p c W → Calls Try.prog 8 #[tv (readTx bs 0 0).1 p c] W (MadeT (readTx bs 0 0).1 W)) := fun xs p c W h => mtxn_any _ xs p c W h (by omega) (fun x hx => by have := hrg.2.1 x.1 (by rw [h.ops]; exact List.mem_map.2 ⟨x, hx, rfl⟩); omega)
  have HS : Hid (∀ xs ys p q c d W, RowT (readTx bs 0 0).1 xs p c W → (readTx bs 0 0).1.ops = ys.map (·.1) → GRow layO W q ys → (∀ y ∈ ys, GRow layS W y.2.1 y.1.spans) → Calls Try.prog 20 #[tv (readTx bs 0 0).1 p c, tv (readTx bs 0 0).1 q d] W fun e w' => e = .returned (.bool true) ∧ Below W.heap.size W w') := fun xs ys p q c d W h h1 h2 h3 => msametxn_yes _ xs ys p q c d W h h1 h2 h3 (by omega) (fun x hx => by have := hrg.2.1 x.1 (by rw [h.ops]; exact List.mem_map.2 ⟨x, hx, rfl⟩); omega)
  clear hrg
  unfold GotT at H3
  unfold Read9At at H4
  unfold MadeT at HM
  generalize readTx bs 0 0 = RR at H3 H4 HM HS
  obtain ⟨t, qo, eo⟩ := RR
  simp only at H3 H4 HM HS
  go_wp2_with fail
  refine H3.out.mono ?_
  rintro e w3 ⟨ys3, p3, c3, q3, rfl, hT3, hrd3, hq3, ho3⟩
  have HB3 : Hid (Below w.heap.size w w3) := only_below HB2.out ho3 HK.out
  have HT3 := Lib.hid hT3
  have HRD3 := Lib.hid hrd3
  have HQ3 := Lib.hid hq3
  clear hT3 hrd3 hq3 ho3 H3 HB2 HRD HGE
  have HTV : Hid (∀ p c, tv t p c = .agg #[.int .u16 t.r, .int .u32 t.seq, .int .u64 t.clock, .int .i64 t.user, .slice p t.ops.length c]) := fun p c => rfl
  simp only [HTV.out] at H4 HM HS ⊢
  go_wp2_with fail
  refine (H4.out _ (below_alloc HB3.out _)).mono ?_
  rintro r w4 ⟨ys4, p4, c4, q4, rfl, ho4, hG4, hE4, hq4, hb4⟩
  have HB4 : Hid (Below w.heap.size w w4) := below_step (below_alloc HB3.out _) hb4
  have HX4 := Lib.hid (kept_box (heap_alloc_new w3 _) hb4)
  have HT4 : Hid (RowT t ys3 p3 c3 w4) := (HT3.out.below (below_alloc (Below.refl _ _) _)).below hb4
  have HO4 := Lib.hid ho4
  have HG4 := Lib.hid hG4
  have HE4 := Lib.hid hE4
  have HRD4 := Lib.hid ((HRD3.out.below (below_alloc (Below.refl _ _) _)).below hb4)
  have HQ4 := Lib.hid hq4
  clear hb4 hq4 ho4 hG4 hE4 H4 HB3 HT3 HRD3
  have hX : w3.heap.size < w4.heap.size := lt_of_block HX4.out
  have hne : ¬ w3.heap.size = w4.heap.size := by omega
  have hne' : ¬ w4.heap.size = w3.heap.size := by omega
  have HB5 : Hid (Below w.heap.size w (w4.alloc (.cells #[.int .u16 t.r, .int .u32 t.seq, .int .u64 t.clock, .int .i64 t.user, .slice p4 t.ops.length c4] 32))) := below_alloc HB4.out _
  have HT5 : Hid (RowT t ys3 p3 c3 (w4.alloc (.cells #[.int .u16 t.r, .int .u32 t.seq, .int .u64 t.clock, .int .i64 t.user, .slice p4 t.ops.length c4] 32))) := HT4.out.below (below_alloc (Below.refl _ _) _)
  have HG5 : Hid (GRow layO (w4.alloc (.cells #[.int .u16 t.r, .int .u32 t.seq, .int .u64 t.clock, .int .i64 t.user, .slice p4 t.ops.length c4] 32)) p4 ys4) := HG4.out.alloc _
  have HE5 : Hid (∀ y ∈ ys4, GRow layS (w4.alloc (.cells #[.int .u16 t.r, .int .u32 t.seq, .int .u64 t.clock, .int .i64 t.user, .slice p4 t.ops.length c4] 32)) y.2.1 y.1.spans) := fun y hy => (HE4.out y hy).alloc _
  have HRD5 : Hid (Rd K D bs q3 eo (w4.alloc (.cells #[.int .u16 t.r, .int .u32 t.seq, .int .u64 t.clock, .int .i64 t.user, .slice p4 t.ops.length c4] 32))) := HRD4.out.below (below_alloc (Below.refl _ _) _)
  have HXT : Hid ((w4.alloc (.cells #[.int .u16 t.r, .int .u32 t.seq, .int .u64 t.clock, .int .i64 t.user, .slice p4 t.ops.length c4] 32)).heap[w3.heap.size]? = some (.cells #[.int .u16 t.r, .int .u32 t.seq, .int .u64 t.clock, .int .i64 t.user, .slice p3 t.ops.length c3] 27 (0, 0))) := kept_box HX4.out (below_alloc (Below.refl _ _) _)
  have HXW := Lib.hid (heap_alloc_new w4 (.cells #[.int .u16 t.r, .int .u32 t.seq, .int .u64 t.clock, .int .i64 t.user, .slice p4 t.ops.length c4] 32))
  clear HB4 HT4 HG4 HE4 HRD4 HX4
  go_wp2_with fail
  generalize w4.alloc (.cells #[.int .u16 t.r, .int .u32 t.seq, .int .u64 t.clock, .int .i64 t.user, .slice p4 t.ops.length c4] 32) = W5 at HB5 HT5 HG5 HE5 HRD5 HXT HXW ⊢
  have HC : Hid (∀ W, Below W5.heap.size W5 W → _) := fun W hb => five_cells (kept_box HXT.out hb)
  have HD : Hid (∀ W, Below W5.heap.size W5 W → _) := fun W hb => five_cells (kept_box HXW.out hb)
  have M1 : Hid (∀ W, Below W5.heap.size W5 W → Calls Try.prog 8 #[.agg #[.int .u16 t.r, .int .u32 t.seq, .int .u64 t.clock, .int .i64 t.user, .slice p3 t.ops.length c3]] W fun e w' => ∃ ys p c, e = .returned (.agg #[.int .u16 t.r, .int .u32 t.seq, .int .u64 t.clock, .int .i64 t.user, .slice p t.ops.length c]) ∧ RowT t ys p c w' ∧ Below W.heap.size W w') := fun W hb => HM.out ys3 p3 c3 W (HT5.out.below hb)
  have S1 : Hid (∀ W xs p c, Below W5.heap.size W5 W → RowT t xs p c W → Calls Try.prog 20 #[.agg #[.int .u16 t.r, .int .u32 t.seq, .int .u64 t.clock, .int .i64 t.user, .slice p t.ops.length c], .agg #[.int .u16 t.r, .int .u32 t.seq, .int .u64 t.clock, .int .i64 t.user, .slice p4 t.ops.length c4]] W fun e w' => e = .returned (.bool true) ∧ Below W.heap.size W w') := fun W xs p c hb h => HS.out xs ys4 p p4 c c4 W h HO4.out (HG5.out.below hb) (fun y hy => (HE5.out y hy).below hb)
  have E1 : Hid (∀ W, Below W5.heap.size W5 W → Calls Try.prog 24 #[.pointer (some ⟨K, 0, none⟩)] W fun r w' => r = .returned (.int .i64 (eo : Int)) ∧ Below W.heap.size W w') := fun W hb => (error_any W (HRD5.out.below hb)).mono (by rintro r w' ⟨h, rfl⟩; exact ⟨h, Below.refl _ _⟩)
  have A1 : Hid (∀ W, Below W5.heap.size W5 W → Calls Try.prog 25 #[.pointer (some ⟨K, 0, none⟩)] W fun r w' => r = .returned (.int .i64 (q3 : Int)) ∧ Below W.heap.size W w') := fun W hb => (at_any W (HRD5.out.below hb)).mono (by rintro r w' ⟨h, rfl⟩; exact ⟨h, Below.refl _ _⟩)
  have L0 : Below W5.heap.size W5 W5.drew := (Below.refl _ _).drew
  obtain ⟨x0, x1, x2, x3, x4⟩ := HC.out _ L0
  obtain ⟨y0, y1, y2, y3, y4⟩ := HD.out _ L0
  clear HM HS HT5 HG5 HE5 HRD5 HXT HXW HO4 HTV
  generalize t.ops.length = TL at *
  by_cases hz : eo = 0
  · have hq3' := HQ3.out hz
    have hq4' := HQ4.out hz
    subst hq4'
    subst hq3'
    have hz1 : ((eo : Int) == 0) = true := by rw [hz]; rfl
    have hz2 : ((eo : Int) != 0) = false := by rw [hz]; rfl
    have HZ := Lib.hid hz
    clear hz
    refine wp_region_any (by kernel_rfl) ?_
    change wpAny _ _ _ _ _ _ _ (World.drew _)
    refine wpAny_ready (rs := [0, 2]) (by kernel_rfl) (by simp) ?_
    refine AllReady.cons rfl (fun KK hKK => ?_) <| AllReady.cons rfl (fun KK hKK => ?_) <| AllReady.nil
    · go_simp
      refine hKK _ _ ?_
      clear hKK KK
      refine wpAny_ready (rs := [1, 2]) (by kernel_rfl) (by simp) ?_
      refine AllReady.cons rfl (fun KK hKK => ?_) <| AllReady.cons rfl (fun KK hKK => ?_) <| AllReady.nil
      · go_simp
        refine (M1.out _ (by exact L0)).mono ?_
        rintro e w6 ⟨ys6, p6, c6, rfl, hT6, hb6⟩
        have L6 : Below W5.heap.size W5 w6 := below_step L0 hb6
        obtain ⟨k0, k1, k2, k3, k4⟩ := HD.out _ L6
        clear hb6
        refine hKK _ _ ?_
        clear hKK KK
        refine wpAny_ready (rs := [2]) (by kernel_rfl) (by simp) ?_
        refine AllReady.cons rfl (fun KK hKK => ?_) <| AllReady.nil
        go_simp
        refine hKK _ _ ?_
        clear hKK KK
        refine wpAny_ready (rs := [3]) (by kernel_rfl) (by simp) ?_
        refine AllReady.cons rfl (fun KK hKK => ?_) <| AllReady.nil
        go_simp
        refine (S1.out _ _ _ _ (by exact L6) (by exact hT6)).mono ?_
        rintro e w7 ⟨rfl, hb7⟩
        have L7 : Below W5.heap.size W5 w7 := below_step L6 hb7
        clear hb7
        refine hKK _ _ ?_
        clear hKK KK
        have E2 : Hid (∀ dd os, Calls Try.prog 24 #[.pointer (some ⟨K, 0, none⟩)] (Go.Sort.grow (redrawn w7 dd) os) fun r w' => r = .returned (.int .i64 (eo : Int)) ∧ Below (Go.Sort.grow (redrawn w7 dd) os).heap.size (Go.Sort.grow (redrawn w7 dd) os) w') := fun dd os => E1.out _ (below_step L7 (below_regrown _ _ _))
        have A2 : Hid (∀ dd os, Calls Try.prog 25 #[.pointer (some ⟨K, 0, none⟩)] (Go.Sort.grow (redrawn w7 dd) os) fun r w' => r = .returned (.int .i64 (q3 : Int)) ∧ Below (Go.Sort.grow (redrawn w7 dd) os).heap.size (Go.Sort.grow (redrawn w7 dd) os) w') := fun dd os => A1.out _ (below_step L7 (below_regrown _ _ _))
        refine any_rest 4 (by kernel_rfl) (by kernel_rfl) ?_
        simp only [List.drop_succ_cons, List.drop_zero]
        repeat (first | go_big_quiet_step (first | (go_at_call 24; exact Calls.regrown_of (E2.out _ _)) | (go_at_call 25; exact Calls.regrown_of (A2.out _ _))) | quiet_step (first | (go_at_call 24; exact Calls.regrown_of (E2.out _ _)) | (go_at_call 25; exact Calls.regrown_of (A2.out _ _))))
        refine wpQuiet_nil ?_
        intro _ hw'
        obtain ⟨⟨dq, osq⟩, hw''⟩ := hw'
        subst hw''
        go_wp2
        go_ret
        exact ⟨rfl, below_step HB5.out (below_step L7 (below_regrown _ _ _))⟩
      · go_simp
        refine hKK _ _ ?_
        clear hKK KK
        refine wpAny_ready (rs := [1]) (by kernel_rfl) (by simp) ?_
        refine AllReady.cons rfl (fun KK hKK => ?_) <| AllReady.nil
        go_simp
        refine (M1.out _ (by exact L0)).mono ?_
        rintro e w6 ⟨ys6, p6, c6, rfl, hT6, hb6⟩
        have L6 : Below W5.heap.size W5 w6 := below_step L0 hb6
        obtain ⟨k0, k1, k2, k3, k4⟩ := HD.out _ L6
        clear hb6
        refine hKK _ _ ?_
        clear hKK KK
        refine wpAny_ready (rs := [3]) (by kernel_rfl) (by simp) ?_
        refine AllReady.cons rfl (fun KK hKK => ?_) <| AllReady.nil
        go_simp
        refine (S1.out _ _ _ _ (by exact L6) (by exact hT6)).mono ?_
        rintro e w7 ⟨rfl, hb7⟩
        have L7 : Below W5.heap.size W5 w7 := below_step L6 hb7
        clear hb7
        refine hKK _ _ ?_
        clear hKK KK
        have E2 : Hid (∀ dd os, Calls Try.prog 24 #[.pointer (some ⟨K, 0, none⟩)] (Go.Sort.grow (redrawn w7 dd) os) fun r w' => r = .returned (.int .i64 (eo : Int)) ∧ Below (Go.Sort.grow (redrawn w7 dd) os).heap.size (Go.Sort.grow (redrawn w7 dd) os) w') := fun dd os => E1.out _ (below_step L7 (below_regrown _ _ _))
        have A2 : Hid (∀ dd os, Calls Try.prog 25 #[.pointer (some ⟨K, 0, none⟩)] (Go.Sort.grow (redrawn w7 dd) os) fun r w' => r = .returned (.int .i64 (q3 : Int)) ∧ Below (Go.Sort.grow (redrawn w7 dd) os).heap.size (Go.Sort.grow (redrawn w7 dd) os) w') := fun dd os => A1.out _ (below_step L7 (below_regrown _ _ _))
        refine any_rest 4 (by kernel_rfl) (by kernel_rfl) ?_
        simp only [List.drop_succ_cons, List.drop_zero]
        repeat (first | go_big_quiet_step (first | (go_at_call 24; exact Calls.regrown_of (E2.out _ _)) | (go_at_call 25; exact Calls.regrown_of (A2.out _ _))) | quiet_step (first | (go_at_call 24; exact Calls.regrown_of (E2.out _ _)) | (go_at_call 25; exact Calls.regrown_of (A2.out _ _))))
        refine wpQuiet_nil ?_
        intro _ hw'
        obtain ⟨⟨dq, osq⟩, hw''⟩ := hw'
        subst hw''
        go_wp2
        go_ret
        exact ⟨rfl, below_step HB5.out (below_step L7 (below_regrown _ _ _))⟩
    · go_simp
      refine hKK _ _ ?_
      clear hKK KK
      refine wpAny_ready (rs := [0]) (by kernel_rfl) (by simp) ?_
      refine AllReady.cons rfl (fun KK hKK => ?_) <| AllReady.nil
      go_simp
      refine hKK _ _ ?_
      clear hKK KK
      refine wpAny_ready (rs := [1]) (by kernel_rfl) (by simp) ?_
      refine AllReady.cons rfl (fun KK hKK => ?_) <| AllReady.nil
      go_simp
      refine (M1.out _ (by exact L0)).mono ?_
      rintro e w6 ⟨ys6, p6, c6, rfl, hT6, hb6⟩
      have L6 : Below W5.heap.size W5 w6 := below_step L0 hb6
      obtain ⟨k0, k1, k2, k3, k4⟩ := HD.out _ L6
      clear hb6
      refine hKK _ _ ?_
      clear hKK KK
      refine wpAny_ready (rs := [3]) (by kernel_rfl) (by simp) ?_
      refine AllReady.cons rfl (fun KK hKK => ?_) <| AllReady.nil
      go_simp
      refine (S1.out _ _ _ _ (by exact L6) (by exact hT6)).mono ?_
      rintro e w7 ⟨rfl, hb7⟩
      have L7 : Below W5.heap.size W5 w7 := below_step L6 hb7
      clear hb7
      refine hKK _ _ ?_
      clear hKK KK
      have E2 : Hid (∀ dd os, Calls Try.prog 24 #[.pointer (some ⟨K, 0, none⟩)] (Go.Sort.grow (redrawn w7 dd) os) fun r w' => r = .returned (.int .i64 (eo : Int)) ∧ Below (Go.Sort.grow (redrawn w7 dd) os).heap.size (Go.Sort.grow (redrawn w7 dd) os) w') := fun dd os => E1.out _ (below_step L7 (below_regrown _ _ _))
      have A2 : Hid (∀ dd os, Calls Try.prog 25 #[.pointer (some ⟨K, 0, none⟩)] (Go.Sort.grow (redrawn w7 dd) os) fun r w' => r = .returned (.int .i64 (q3 : Int)) ∧ Below (Go.Sort.grow (redrawn w7 dd) os).heap.size (Go.Sort.grow (redrawn w7 dd) os) w') := fun dd os => A1.out _ (below_step L7 (below_regrown _ _ _))
      refine any_rest 4 (by kernel_rfl) (by kernel_rfl) ?_
      simp only [List.drop_succ_cons, List.drop_zero]
      repeat (first | go_big_quiet_step (first | (go_at_call 24; exact Calls.regrown_of (E2.out _ _)) | (go_at_call 25; exact Calls.regrown_of (A2.out _ _))) | quiet_step (first | (go_at_call 24; exact Calls.regrown_of (E2.out _ _)) | (go_at_call 25; exact Calls.regrown_of (A2.out _ _))))
      refine wpQuiet_nil ?_
      intro _ hw'
      obtain ⟨⟨dq, osq⟩, hw''⟩ := hw'
      subst hw''
      go_wp2
      go_ret
      exact ⟨rfl, below_step HB5.out (below_step L7 (below_regrown _ _ _))⟩
  · have hz1 : ((eo : Int) == 0) = false := beq_no (by omega)
    have hz2 : ((eo : Int) != 0) = true := by rw [bne, hz1]; rfl
    refine wp_region_any (by kernel_rfl) ?_
    change wpAny _ _ _ _ _ _ _ (World.drew _)
    refine wpAny_ready (rs := [0, 2]) (by kernel_rfl) (by simp) ?_
    refine AllReady.cons rfl (fun KK hKK => ?_) <| AllReady.cons rfl (fun KK hKK => ?_) <| AllReady.nil
    · go_simp
      refine hKK _ _ ?_
      clear hKK KK
      refine wpAny_ready (rs := [1, 2]) (by kernel_rfl) (by simp) ?_
      refine AllReady.cons rfl (fun KK hKK => ?_) <| AllReady.cons rfl (fun KK hKK => ?_) <| AllReady.nil
      · go_simp
        refine (M1.out _ (by exact L0)).mono ?_
        rintro e w6 ⟨ys6, p6, c6, rfl, hT6, hb6⟩
        have L6 : Below W5.heap.size W5 w6 := below_step L0 hb6
        obtain ⟨k0, k1, k2, k3, k4⟩ := HD.out _ L6
        clear hb6
        refine hKK _ _ ?_
        clear hKK KK
        refine wpAny_ready (rs := [2]) (by kernel_rfl) (by simp) ?_
        refine AllReady.cons rfl (fun KK hKK => ?_) <| AllReady.nil
        go_simp
        refine hKK _ _ ?_
        clear hKK KK
        refine wpAny_ready (rs := [3]) (by kernel_rfl) (by simp) ?_
        refine AllReady.cons rfl (fun KK hKK => ?_) <| AllReady.nil
        go_simp
        refine (S1.out _ _ _ _ (by exact L6) (by exact hT6)).mono ?_
        rintro e w7 ⟨rfl, hb7⟩
        have L7 : Below W5.heap.size W5 w7 := below_step L6 hb7
        clear hb7
        refine hKK _ _ ?_
        clear hKK KK
        have E2 : Hid (∀ dd os, Calls Try.prog 24 #[.pointer (some ⟨K, 0, none⟩)] (Go.Sort.grow (redrawn w7 dd) os) fun r w' => r = .returned (.int .i64 (eo : Int)) ∧ Below (Go.Sort.grow (redrawn w7 dd) os).heap.size (Go.Sort.grow (redrawn w7 dd) os) w') := fun dd os => E1.out _ (below_step L7 (below_regrown _ _ _))
        have A2 : Hid (∀ dd os, Calls Try.prog 25 #[.pointer (some ⟨K, 0, none⟩)] (Go.Sort.grow (redrawn w7 dd) os) fun r w' => r = .returned (.int .i64 (q3 : Int)) ∧ Below (Go.Sort.grow (redrawn w7 dd) os).heap.size (Go.Sort.grow (redrawn w7 dd) os) w') := fun dd os => A1.out _ (below_step L7 (below_regrown _ _ _))
        refine any_rest 4 (by kernel_rfl) (by kernel_rfl) ?_
        simp only [List.drop_succ_cons, List.drop_zero]
        repeat (first | go_big_quiet_step (first | (go_at_call 24; exact Calls.regrown_of (E2.out _ _)) | (go_at_call 25; exact Calls.regrown_of (A2.out _ _))) | quiet_step (first | (go_at_call 24; exact Calls.regrown_of (E2.out _ _)) | (go_at_call 25; exact Calls.regrown_of (A2.out _ _))))
        refine wpQuiet_nil ?_
        intro _ hw'
        obtain ⟨⟨dq, osq⟩, hw''⟩ := hw'
        subst hw''
        go_wp2
        go_ret
        exact ⟨rfl, below_step HB5.out (below_step L7 (below_regrown _ _ _))⟩
      · go_simp
        refine hKK _ _ ?_
        clear hKK KK
        refine wpAny_ready (rs := [1]) (by kernel_rfl) (by simp) ?_
        refine AllReady.cons rfl (fun KK hKK => ?_) <| AllReady.nil
        go_simp
        refine (M1.out _ (by exact L0)).mono ?_
        rintro e w6 ⟨ys6, p6, c6, rfl, hT6, hb6⟩
        have L6 : Below W5.heap.size W5 w6 := below_step L0 hb6
        obtain ⟨k0, k1, k2, k3, k4⟩ := HD.out _ L6
        clear hb6
        refine hKK _ _ ?_
        clear hKK KK
        refine wpAny_ready (rs := [3]) (by kernel_rfl) (by simp) ?_
        refine AllReady.cons rfl (fun KK hKK => ?_) <| AllReady.nil
        go_simp
        refine (S1.out _ _ _ _ (by exact L6) (by exact hT6)).mono ?_
        rintro e w7 ⟨rfl, hb7⟩
        have L7 : Below W5.heap.size W5 w7 := below_step L6 hb7
        clear hb7
        refine hKK _ _ ?_
        clear hKK KK
        have E2 : Hid (∀ dd os, Calls Try.prog 24 #[.pointer (some ⟨K, 0, none⟩)] (Go.Sort.grow (redrawn w7 dd) os) fun r w' => r = .returned (.int .i64 (eo : Int)) ∧ Below (Go.Sort.grow (redrawn w7 dd) os).heap.size (Go.Sort.grow (redrawn w7 dd) os) w') := fun dd os => E1.out _ (below_step L7 (below_regrown _ _ _))
        have A2 : Hid (∀ dd os, Calls Try.prog 25 #[.pointer (some ⟨K, 0, none⟩)] (Go.Sort.grow (redrawn w7 dd) os) fun r w' => r = .returned (.int .i64 (q3 : Int)) ∧ Below (Go.Sort.grow (redrawn w7 dd) os).heap.size (Go.Sort.grow (redrawn w7 dd) os) w') := fun dd os => A1.out _ (below_step L7 (below_regrown _ _ _))
        refine any_rest 4 (by kernel_rfl) (by kernel_rfl) ?_
        simp only [List.drop_succ_cons, List.drop_zero]
        repeat (first | go_big_quiet_step (first | (go_at_call 24; exact Calls.regrown_of (E2.out _ _)) | (go_at_call 25; exact Calls.regrown_of (A2.out _ _))) | quiet_step (first | (go_at_call 24; exact Calls.regrown_of (E2.out _ _)) | (go_at_call 25; exact Calls.regrown_of (A2.out _ _))))
        refine wpQuiet_nil ?_
        intro _ hw'
        obtain ⟨⟨dq, osq⟩, hw''⟩ := hw'
        subst hw''
        go_wp2
        go_ret
        exact ⟨rfl, below_step HB5.out (below_step L7 (below_regrown _ _ _))⟩
    · go_simp
      refine hKK _ _ ?_
      clear hKK KK
      refine wpAny_ready (rs := [0]) (by kernel_rfl) (by simp) ?_
      refine AllReady.cons rfl (fun KK hKK => ?_) <| AllReady.nil
      go_simp
      refine hKK _ _ ?_
      clear hKK KK
      refine wpAny_ready (rs := [1]) (by kernel_rfl) (by simp) ?_
      refine AllReady.cons rfl (fun KK hKK => ?_) <| AllReady.nil
      go_simp
      refine (M1.out _ (by exact L0)).mono ?_
      rintro e w6 ⟨ys6, p6, c6, rfl, hT6, hb6⟩
      have L6 : Below W5.heap.size W5 w6 := below_step L0 hb6
      obtain ⟨k0, k1, k2, k3, k4⟩ := HD.out _ L6
      clear hb6
      refine hKK _ _ ?_
      clear hKK KK
      refine wpAny_ready (rs := [3]) (by kernel_rfl) (by simp) ?_
      refine AllReady.cons rfl (fun KK hKK => ?_) <| AllReady.nil
      go_simp
      refine (S1.out _ _ _ _ (by exact L6) (by exact hT6)).mono ?_
      rintro e w7 ⟨rfl, hb7⟩
      have L7 : Below W5.heap.size W5 w7 := below_step L6 hb7
      clear hb7
      refine hKK _ _ ?_
      clear hKK KK
      have E2 : Hid (∀ dd os, Calls Try.prog 24 #[.pointer (some ⟨K, 0, none⟩)] (Go.Sort.grow (redrawn w7 dd) os) fun r w' => r = .returned (.int .i64 (eo : Int)) ∧ Below (Go.Sort.grow (redrawn w7 dd) os).heap.size (Go.Sort.grow (redrawn w7 dd) os) w') := fun dd os => E1.out _ (below_step L7 (below_regrown _ _ _))
      have A2 : Hid (∀ dd os, Calls Try.prog 25 #[.pointer (some ⟨K, 0, none⟩)] (Go.Sort.grow (redrawn w7 dd) os) fun r w' => r = .returned (.int .i64 (q3 : Int)) ∧ Below (Go.Sort.grow (redrawn w7 dd) os).heap.size (Go.Sort.grow (redrawn w7 dd) os) w') := fun dd os => A1.out _ (below_step L7 (below_regrown _ _ _))
      refine any_rest 4 (by kernel_rfl) (by kernel_rfl) ?_
      simp only [List.drop_succ_cons, List.drop_zero]
      repeat (first | go_big_quiet_step (first | (go_at_call 24; exact Calls.regrown_of (E2.out _ _)) | (go_at_call 25; exact Calls.regrown_of (A2.out _ _))) | quiet_step (first | (go_at_call 24; exact Calls.regrown_of (E2.out _ _)) | (go_at_call 25; exact Calls.regrown_of (A2.out _ _))))
      refine wpQuiet_nil ?_
      intro _ hw'
      obtain ⟨⟨dq, osq⟩, hw''⟩ := hw'
      subst hw''
      go_wp2
      go_ret
      exact ⟨rfl, below_step HB5.out (below_step L7 (below_regrown _ _ _))⟩
end Go.Proofs.Ytedlmngfkkpmgaa
/-
  How bytes that come in lie in memory. No conditions beyond what each theorem states.
-/
namespace Go.Proofs.Ytedlmngfkkpmgaa
open Go.ChangeShapes Go.WideShapes Go.ChangeAt Go.RowKit Go.Joins Go.Lib
set_option linter.unusedVariables false
set_option linter.unusedSimpArgs false
set_option maxRecDepth 100000

theorem cellsByte : Try.prog.cellsOf 5 = 1 := by kernel_rfl

/-- Bytes that come in. -/
theorem bytes_sized {H : Type} {enc : TypeId × Value → H} {W : World} {r : Reach} {base : Nat} {v : Value} {d : DataW H} {ps : List MemPlace} (hv : Value.okWide Try.prog W r base 52 v) (h : DataW.Trod enc Try.prog W 0 (fun _ => true) true 52 v d ps) :
    ∃ bs p c, v = .slice p bs.length c ∧ BRow W p bs ∧ bs.length ≤ c ∧ bs.length ≤ 9223372036854775807 ∧ (p = none → c = 0) ∧ (bs = [] ∨ ∃ el sp, d = .slice el sp ∧ bs.length = el.length) := by
  obtain ⟨a0, len, cap, rfl⟩ := okWide_slice Try.underlying52 hv
  obtain ⟨fuel, hf⟩ := h
  rcases Go.Deep.open_slice1 Try.underlying52 cellsByte hf with ⟨hcs, -⟩ | ⟨a, len', cap', m, n, V, D, Pl, hcs, -, hl, hm, hmm, hx, hc⟩
  · simp [Value.cells] at hcs
    obtain ⟨rfl, rfl, rfl⟩ := hcs
    exact ⟨[], none, 0, rfl, BRow.nil _ _, by simp, by simp, fun _ => rfl, Or.inl rfl⟩
  · simp [Value.cells] at hcs
    obtain ⟨rfl, rfl, rfl⟩ := hcs
    have hlm : len ≤ m := by rw [hmm]; split <;> omega
    have each : ∀ i, i < len → ∃ x : UInt8, W.cell? (a.add i) = some (.int .u8 (x.toNat : Int)) := fun i hi => by
      obtain ⟨h0, h1⟩ := hc i (by omega)
      obtain ⟨x, e0, -, wx⟩ := DataW.trod_int Try.underlying5 h1
      simp at e0
      rw [e0] at h0
      have b0 := bounds_u8 wx
      refine ⟨UInt8.ofNat x.toNat, ?_⟩
      rw [h0, u8_nat (by omega)]
      congr 2; omega
    obtain ⟨q, hq⟩ := Go.Deep.choose_lt each
    refine ⟨(List.range len).map q, some a, cap, by simp, fun i hi => ?_, by simpa using hl, by simp; unfold maxLen at hm; omega, (by intro h; cases h), Or.inr ⟨_, _, (Prod.mk.inj hx).1, by simp⟩⟩
    have hi' : i < len := by simpa using hi
    have h0 := hq i hi'
    obtain ⟨b, o, s⟩ := a
    have hs : s = none := by simpa [Addr.add] using World.cell?_spot (hq 0 (by omega))
    subst hs
    rw [Addr.add_lit] at h0
    exact ⟨b, o, rfl, by rw [h0]; simp [atB, hi']⟩

theorem bytes_open {H : Type} {enc : TypeId × Value → H} {W : World} {r : Reach} {base : Nat} {v : Value} {d : DataW H} {ps : List MemPlace} (hv : Value.okWide Try.prog W r base 52 v) (h : DataW.Trod enc Try.prog W 0 (fun _ => true) true 52 v d ps) :
    ∃ bs p c, v = .slice p bs.length c ∧ BRow W p bs ∧ bs.length ≤ c ∧ bs.length ≤ 9223372036854775807 ∧ (p = none → c = 0) := by
  obtain ⟨bs, p, c, h1, h2, h3, h4, h5, _⟩ := bytes_sized hv h
  exact ⟨bs, p, c, h1, h2, h3, h4, h5⟩
theorem bytesByte : Try.prog.bytesOf 5 = 1 := by kernel_rfl

theorem bytes_again {H : Type} {enc : TypeId × Value → H} {W W' : World} {v : Value} {d : DataW H} {ps : List MemPlace} (h : DataW.Trod enc Try.prog W 0 (fun _ => true) true 52 v d ps) (hb : Below W.heap.size W W') (hlt : ∀ x ∈ ps, x.block < W.heap.size) :
    DataW.Trod enc Try.prog W' 0 (fun b => decide (b < W.heap.size)) true 52 v d ps :=
  Below.trod laidOut (by kernel_rfl) (of_decide_eq_true (by kernel_rfl)) h hb hlt

end Go.Proofs.Ytedlmngfkkpmgaa
