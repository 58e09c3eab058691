/-
  Several texts of one proof, joined: each part says at its head what it proves. No conditions beyond what each theorem states.
-/
import Derived.Deep.Cut
import Derived.Deep.CutRange
import Derived.Test.YtceanfpcddcfoaaGreatZ22
import Derived.Test.YtceanfpcddcfoaaGreatZ14
import Derived.Test.YtceanfpcddcfoaaGreatZ19
/-
  The law WireReady's own function, over what wire's calls hand back. No conditions beyond what each theorem states.
-/
namespace Go.Proofs.YtceanfpcddcfoaaGreat
open Go.ChangeShapes Go.WideShapes Go.ChangeAt Go.RowKit Go.Lib
set_option linter.unusedVariables false
set_option linter.unusedSimpArgs false

theorem atomsL_nonneg {l : List Om} (h : ∀ o ∈ l, 0 ≤ atomsO o) : 0 ≤ atomsL l := by
  induction l with
  | nil => rw [atomsL_nil]; exact Int.le_refl _
  | cons y l ih => rw [atomsL_cons]; have := h y (by simp); have := ih (fun o ho => h o (by simp [ho])); omega
/-- The atoms of an operation at a place. -/
theorem atomN_place : ∀ (l : List Om), (∀ o ∈ l, 0 ≤ atomsO o) → ∀ (j : Nat) (k : Int), j < l.length → 0 ≤ k → k < atomsO (l.getD j o0) → atomN l (atomsL (l.take j) + k) = ((l.getD j o0).num + k, true) := by
  intro l
  induction l with
  | nil => intro _ j k hj; simp at hj
  | cons x l ih =>
    intro h j k hj h0 hk
    have hx := h x (by simp)
    cases j with
    | zero =>
      simp only [List.getD_cons_zero, List.take_zero, atomsL_nil, Int.zero_add] at hk ⊢
      rw [atomN, if_pos hk]
    | succ j =>
      simp only [List.getD_cons_succ, List.take_succ_cons, atomsL_cons] at hk ⊢
      have hp := atomsL_nonneg (l := l.take j) (fun o ho => h o (by simp [List.mem_of_mem_take ho]))
      rw [atomN, if_neg (by omega), show atomsO x + atomsL (l.take j) + k - atomsO x = atomsL (l.take j) + k by omega]
      exact ih (fun o ho => h o (by simp [ho])) j k (by simpa using hj) h0 hk
/-- Just those below the count are there. -/
theorem atomN_there : ∀ (l : List Om), (∀ o ∈ l, 0 ≤ atomsO o) → ∀ i, 0 ≤ i → ((i < atomsL l → (atomN l i).2 = true) ∧ (atomsL l ≤ i → atomN l i = (0, false))) := by
  intro l
  induction l with
  | nil => intro _ i h0; rw [atomsL_nil]; exact ⟨fun h => by omega, fun _ => rfl⟩
  | cons x l ih =>
    intro h i h0
    have hx := h x (by simp)
    have hl := atomsL_nonneg (l := l) (fun o ho => h o (by simp [ho]))
    rw [atomsL_cons, atomN]
    by_cases hi : i < atomsO x
    · rw [if_pos hi]; exact ⟨fun _ => rfl, fun h => by omega⟩
    · rw [if_neg hi]
      have := ih (fun o ho => h o (by simp [ho])) (i - atomsO x) (by omega)
      exact ⟨fun h => this.1 (by omega), fun h => this.2 (by omega)⟩
set_option maxHeartbeats 12800000 in
set_option maxRecDepth 200000 in
theorem wireready_any (HEN : EncodeSpec) (HND : NeedsESpec) (HRY : ReadyESpec) (HPA : PastESpec) (HAT : AtomESpec) (e : Em) (xs : List OV) (h : List Vec.En) (p q s : Option Addr) (c d f : Nat) (i : Int) (w : World) (H : InE e xs p c q d w) (hm : e.deps.length ≤ 17592186043904) (hl : e.txn.ops.length ≤ 1954687338211) (hq : ∀ x ∈ xs, x.1.text.length ≤ 9223372036854775807 ∧ x.1.spans.length ≤ 8796093021952)
    (hH : Vec.Row w s h) (hHf : Vec.Fits h) (hHc : h.length ≤ f) (hHn : s = none → f = 0) (hHb : h.length ≤ 17592186043904) (hi0 : -9223372036854775808 ≤ i) (hi1 : i < 9223372036854775808) :
    Calls Tryz.prog 6 #[ev e p c q d, .slice s h.length f, .int .i64 i] w fun r w' => r = .returned (.bool true) ∧ Below w.heap.size w w' := by
  have HA := Lib.hid (fun W => anchor10_any HEN W)
  have HSM : Hid (∀ W, Below w.heap.size w W → Calls Tryz.prog 8 #[ev e p c q d] W fun r w' => r = .returned (.bool (smallE e)) ∧ Below W.heap.size W w') := fun W hb => smallE_any e xs p q c d W (H.txn.below hb) (by omega) (fun x hx => ⟨(hq x hx).1, by have := (hq x hx).2; omega⟩)
  have HRF : Hid (∀ W, Below w.heap.size w W → Calls Tryz.prog 9 #[ev e p c q d] W (MadeE e W)) := fun W hb => refE_any e xs p q c d W (H.row.below hb) hm (H.txn.rows.below hb) hl (fun x hx => (hq x hx).2)
  have HDP : Hid (∀ W, Below w.heap.size w W → Calls Tryz.prog 17 #[.slice s h.length f] W (MadeD h W)) := fun W hb => depsL_any h s f W (hH.below hb) hHb
  have HRG : Hid (∀ W p8 c8, Vec.Row W p8 h → Calls Tryz.prog 18 #[.slice p8 h.length c8] W fun r w' => r = .returned (.bool (Vec.rightB h)) ∧ Below W.heap.size W w') := fun W p8 c8 hr => Vec.refright_any h p8 c8 W hr (by omega)
  have HFIT : Hid (smallE e = true → ∀ W ys p2 c2 q2 d2, Vec.Row W p2 e.deps → RowT e.txn ys q2 d2 W → Calls Tryz.prog 10 #[ev e p2 c2 q2 d2] W fun r w' => r = .returned (.int .i64 (fitE e)) ∧ Below W.heap.size W w') := fun h W ys p2 c2 q2 d2 h1 h2 => reffitE_any e ys p2 q2 c2 d2 W h1 (by have := (smallE_x H.txn.ops h).1; omega) (h2.inT H.txn.fit).lie (smallE_x h2.ops h).2.1.wide
  -- behind the guards
  have HOK : Hid (smallE e = true → fitE e = 0 → h.length ≤ 100 → Vec.rightB h = true → (∀ W, Below w.heap.size w W → Calls Tryz.prog 19 #[ev e p c q d, .slice s h.length f] W (Vec.Gave3 W (needsE e h))) ∧ (∀ W, Below w.heap.size w W → Calls Tryz.prog 21 #[ev e p c q d, .slice s h.length f] W fun r w' => r = .returned (.bool (readyE e h)) ∧ Below W.heap.size W w') ∧ (∀ W, Below w.heap.size w W → Calls Tryz.prog 23 #[ev e p c q d, .slice s h.length f] W fun r w' => r = .returned (.bool (pastE e h)) ∧ Below W.heap.size W w') ∧
      (∀ W p2 c2 q2 d2 p8 c8, Vec.Row W p2 e.deps → Vec.Row W p8 h → Calls Tryz.prog 20 #[ev e p2 c2 q2 d2, .slice p8 h.length c8] W (Vec.Gave3 W (needsE e h))) ∧ (∀ W p2 c2 q2 d2 p8 c8, Vec.Row W p2 e.deps → Vec.Row W p8 h → Calls Tryz.prog 22 #[ev e p2 c2 q2 d2, .slice p8 h.length c8] W fun r w' => r = .returned (.bool (readyE e h)) ∧ Below W.heap.size W w') ∧ (∀ W p2 c2 q2 d2 p8 c8, Vec.Row W p8 h → Calls Tryz.prog 24 #[ev e p2 c2 q2 d2, .slice p8 h.length c8] W fun r w' => r = .returned (.bool (pastE e h)) ∧ Below W.heap.size W w') ∧
      (needsE e h).length ≤ 1000 ∧ e.txn.ops.length ≤ 16 ∧ (∀ W, Below w.heap.size w W → ∀ k, -9223372036854775808 ≤ k → k < 9223372036854775808 → Calls Tryz.prog 26 #[ev e p c q d, .int .i64 k] W fun r w' => r = .returned (.tuple #[.agg #[.int .u16 (if (atomE e k).2 = true then e.txn.r else 0), .int .u32 (atomE e k).1], .bool (atomE e k).2]) ∧ Below W.heap.size W w')) := fun hS h0 h100 hR => by
    obtain ⟨s1, s2, s3⟩ := smallE_x H.txn.ops hS
    have hr := rightB_iff.1 hR
    obtain ⟨hrd, hgd, hft⟩ := fitE_ok h0
    have hsq := fitT_ok hft
    have hrr : 0 ≤ e.txn.r ∧ e.txn.r ≤ 65535 := ⟨H.txn.fit.1, H.txn.fit.2.1⟩
    refine ⟨fun W hb => HND e xs h p q s c d f W (H.below hb) s2 h0 (hH.below hb) hHc hHn hHf hr h100 s1, fun W hb => HRY e xs h p q s c d f W (H.below hb) s2 h0 (hH.below hb) hHc hHn hHf hr h100 s1, fun W hb => HPA e xs h p q s c d f W (H.below hb) s2 h0 (hH.below hb) hHc hHn hHf hr h100 s1,
      fun W p2 c2 q2 d2 p8 c8 h1 h2 => refneedsE_any e h p2 q2 p8 c2 d2 c8 W h1 h2 (by omega) (by omega) hHf H.fits hrr ⟨hsq.1, hsq.2.1⟩, fun W p2 c2 q2 d2 p8 c8 h1 h2 => refreadyE_any e h p2 q2 p8 c2 d2 c8 W h1 h2 (by omega) (by omega) hHf H.fits hr, fun W p2 c2 q2 d2 p8 c8 h2 => refpastE_any e h p2 q2 p8 c2 d2 c8 W h2 (by omega), ?_, hsq.2.2.2.2.2.2.2.1, fun W hb k k0 k1 => HAT e xs p q c d k W (H.below hb) s2 h0 k0 k1⟩
    have l1 := Vec.lacksL_le h (Vec.withL e.deps e.txn.r (e.txn.seq - 1))
    have l2 := withL_len e.deps e.txn.r (e.txn.seq - 1)
    unfold needsE
    omega
  have HOPS : Hid (smallE e = true → fitE e = 0 → (∀ o ∈ e.txn.ops, 0 ≤ atomsO o ∧ atomsO o ≤ 1024) ∧ (∀ o ∈ e.txn.ops, 0 < atomsO o → 1 ≤ o.num ∧ o.num ≤ 268435456 ∧ o.num + atomsO o - 1 ≤ 268435456) ∧ ∀ W ys q2 d2, RowT e.txn ys q2 d2 W → ys.length = e.txn.ops.length ∧ (∀ k, k < ys.length → (ys.getD k ov0).1 = e.txn.ops.getD k o0) ∧ ∀ k, k < ys.length → ∀ W', Below W.heap.size W W' → Calls Tryz.prog 25 #[ov (ys.getD k ov0).1 (ys.getD k ov0).2.1 (ys.getD k ov0).2.2] W' fun r w' => r = .returned (.int .i64 (atomsO (ys.getD k ov0).1)) ∧ Below W'.heap.size W' w') := fun hS h0 => by
    have hft := (fitE_ok h0).2.2
    have hok := fitOs_ok e.txn.ops (-1) (fitT_ok hft).2.2.2.2.2.2.2.2
    have hfo := H.txn.fit.2.2.2.2.2.2.2.2
    refine ⟨fun o ho => ?_, fun o ho hp => ?_, fun W ys q2 d2 hT => ?_⟩
    · have := atoms_range (hok o ho).1 (hfo o ho); omega
    · have := atoms_range (hok o ho).1 (hfo o ho)
      exact this.2.2.2.2 (this.2.2.2.1 hp)
    · have hlen : ys.length = e.txn.ops.length := by rw [hT.ops, List.length_map]
      have hget : ∀ k, k < ys.length → (ys.getD k ov0).1 = e.txn.ops.getD k o0 := fun k hk => by rw [hT.ops, getD_map1 ys hk]
      have hsx := (smallE_x hT.ops hS).2.1
      refine ⟨hlen, hget, fun k hk W' hb => ?_⟩
      have hmem : (ys.getD k ov0).1 ∈ e.txn.ops := by rw [hT.ops]; exact List.mem_map.2 ⟨_, getD_mem ov0 hk, rfl⟩
      exact refatoms_any _ _ _ W' ((hT.at hk).1.below hb) (counts_of_fit (hok _ hmem).1) (by have := (hsx.at hk).2; omega) (by have := (hsx.at hk).1; omega)
  have HBI : Hid (-9223372036854775808 ≤ i ∧ i < 9223372036854775808) := ⟨hi0, hi1⟩
  clear H hm hl hq HEN HND HRY HPA HAT hH hHf hHc hHn hi0 hi1
  unfold MadeE at HRF
  unfold MadeD at HDP
  unfold Vec.Gave3 at HOK
  have HAE : Hid (∀ k, 0 ≤ k → atomE e k = atomN e.txn.ops k) := fun k hk => by unfold atomE; rw [if_neg (by omega)]
  have HAN : Hid (∀ k, k < 0 → atomE e k = (0, false)) := fun k hk => by unfold atomE; rw [if_pos hk]
  unfold ev at *
  generalize e.deps.length = L at *
  obtain ⟨ops, hops⟩ : ∃ l, l = e.txn.ops := ⟨_, rfl⟩
  rw [← hops] at HRF HFIT HSM HOK HOPS HAE ⊢
  generalize e.txn.r = tr at *
  generalize e.txn.seq = ts at *
  generalize e.txn.clock = tc at *
  generalize e.txn.user = tu at *
  generalize hTL : ops.length = TL at *
  have HTL := Lib.hid hTL
  clear hTL hops
  have HB0 : Hid (Below w.heap.size w (w.alloc (.cells #[.slice p L c, .int .u16 tr, .int .u32 ts, .int .u64 tc, .int .i64 tu, .slice q TL d] 31))) := below_alloc (Below.refl _ _) _
  have HX0 := Lib.hid (heap_alloc_new w (.cells #[.slice p L c, .int .u16 tr, .int .u32 ts, .int .u64 tc, .int .i64 tu, .slice q TL d] 31))
  go_enter Tryz.func6, Tryz.ntmps6
  go_wp2_with fail
  generalize (w.alloc (.cells #[.slice p L c, .int .u16 tr, .int .u32 ts, .int .u64 tc, .int .i64 tu, .slice q TL d] 31)) = w0 at HB0 HX0 ⊢
  refine (HA.out _).mono ?_
  rintro r w1 ⟨rfl, hb1⟩
  have HB1 : Hid (Below w.heap.size w w1) := below_step HB0.out hb1
  have HX1 := Lib.hid (kept_box HX0.out hb1)
  clear hb1 HA HB0 HX0
  obtain ⟨x0, x1, x2, x3, x4, x5⟩ := six_cells HX1.out
  go_wp2_with fail
  refine (HRF.out _ HB1.out).mono ?_
  rintro r w2 ⟨ys, p3, c3, q3, d3, rfl, hv2, -, hT2, hb2⟩
  have HB2 : Hid (Below w.heap.size w w2) := below_step HB1.out hb2
  have HX2 := Lib.hid (kept_box HX1.out hb2)
  have HV2 := Lib.hid hv2
  have HT2 := Lib.hid hT2
  clear hb2 hv2 hT2 HRF HB1 HX1 x0 x1 x2 x3 x4 x5
  go_wp2_with fail
  refine (HDP.out _ HB2.out).mono ?_
  rintro r w3 ⟨p8, c8, rfl, hv3, -, hb3⟩
  have HB3 : Hid (Below w.heap.size w (w3.alloc (.cells #[.slice p3 L c3, .int .u16 tr, .int .u32 ts, .int .u64 tc, .int .i64 tu, .slice q3 TL d3] 39))) := below_alloc (below_step HB2.out hb3) _
  have HX3 := Lib.hid (kept_box (kept_box HX2.out hb3) (below_alloc (Below.refl _ _) (.cells #[.slice p3 L c3, .int .u16 tr, .int .u32 ts, .int .u64 tc, .int .i64 tu, .slice q3 TL d3] 39)))
  have HY3 := Lib.hid (heap_alloc_new w3 (.cells #[.slice p3 L c3, .int .u16 tr, .int .u32 ts, .int .u64 tc, .int .i64 tu, .slice q3 TL d3] 39))
  have HV3 := Lib.hid ((HV2.out.below hb3).below (below_alloc (Below.refl _ _) (.cells #[.slice p3 L c3, .int .u16 tr, .int .u32 ts, .int .u64 tc, .int .i64 tu, .slice q3 TL d3] 39)))
  have HT3 := Lib.hid ((HT2.out.below hb3).below (below_alloc (Below.refl _ _) (.cells #[.slice p3 L c3, .int .u16 tr, .int .u32 ts, .int .u64 tc, .int .i64 tu, .slice q3 TL d3] 39)))
  have HW3 := Lib.hid (hv3.below (below_alloc (Below.refl _ _) (.cells #[.slice p3 L c3, .int .u16 tr, .int .u32 ts, .int .u64 tc, .int .i64 tu, .slice q3 TL d3] 39)))
  have hlt3 : w.heap.size < w3.heap.size := lt_of_block (kept_box HX2.out hb3)
  clear hb3 hv3 HDP HB2 HX2 HV2 HT2
  have hne : ¬ w.heap.size = w3.heap.size := by omega
  obtain ⟨x0, x1, x2, x3, x4, x5⟩ := six_cells HX3.out
  go_wp2_with fail
  generalize hX : w3.heap.size = X at HY3 hlt3 hne ⊢
  generalize (w3.alloc (.cells #[.slice p3 L c3, .int .u16 tr, .int .u32 ts, .int .u64 tc, .int .i64 tu, .slice q3 TL d3] 39)) = w4 at HB3 HX3 HY3 HV3 HT3 HW3 x0 x1 x2 x3 x4 x5 ⊢
  clear hX
  refine (HSM.out _ HB3.out).mono ?_
  rintro r w5 ⟨rfl, hb5⟩
  have HB5 : Hid (Below w4.heap.size w4 w5) := hb5
  clear hb5 HSM x0 x1 x2 x3 x4 x5
  have HC : Hid (∀ W, Below w4.heap.size w4 W → _) := fun W hb => six_cells (kept_box HX3.out hb)
  have HD : Hid (∀ W, Below w4.heap.size w4 W → _) := fun W hb => six_cells (kept_box HY3.out hb)
  clear HX3 HY3
  cases hS : smallE e with
  | false =>
    go_wp2
    go_ret
    exact ⟨rfl, below_step HB3.out HB5.out⟩
  | true =>
  have HOK1 := Lib.hid (HOK.out hS)
  have HFIT1 := Lib.hid (HFIT.out hS)
  have HOPS1 := Lib.hid (HOPS.out hS)
  clear HOK HFIT HOPS hS
  obtain ⟨y0, y1, y2, y3, y4, y5⟩ := HD.out _ HB5.out
  go_wp2_with fail
  refine (HFIT1.out _ _ _ _ _ _ (HV3.out.below HB5.out) (HT3.out.below HB5.out)).mono ?_
  rintro r w6 ⟨rfl, hb6⟩
  have HB6 : Hid (Below w4.heap.size w4 w6) := below_step HB5.out hb6
  clear hb6 HB5 y0 y1 y2 y3 y4 y5 HFIT1
  generalize fitE e = F at HOK1 HOPS1 ⊢
  by_cases h0 : F = 0
  case neg =>
    have q1 : (F == 0) = false := beq_no h0
    have q2 : (F != 0) = true := bne_int h0
    go_wp2
    go_ret
    exact ⟨rfl, below_step HB3.out HB6.out⟩
  subst h0
  have HOK2 := Lib.hid (HOK1.out rfl)
  have HOPS2 := Lib.hid (HOPS1.out rfl)
  clear HOK1 HOPS1
  by_cases h100 : h.length ≤ 100
  case neg =>
    have h100' : (100 : Int) < (h.length : Int) := by omega
    go_wp2
    go_ret
    exact ⟨rfl, below_step HB3.out HB6.out⟩
  have h100' : ¬ (100 : Int) < (h.length : Int) := by omega
  have HOK3 := Lib.hid (HOK2.out h100)
  clear HOK2
  go_wp2_with fail
  refine (HRG.out _ _ _ (HW3.out.below HB6.out)).mono ?_
  rintro r w7 ⟨rfl, hb7⟩
  have HB7 : Hid (Below w4.heap.size w4 w7) := below_step HB6.out hb7
  clear hb7 HB6 HRG
  cases hRB : Vec.rightB h with
  | false =>
    go_wp2
    go_ret
    exact ⟨rfl, below_step HB3.out HB7.out⟩
  | true =>
  obtain ⟨k1, k2, k3, k4, k5, k6, k7, k8, k9⟩ := HOK3.out hRB
  clear HOK3 hRB
  have K1 := Lib.hid k1
  have K2 := Lib.hid k2
  have K3 := Lib.hid k3
  have K4 : Hid (∀ W, Below w4.heap.size w4 W → _) := fun W hb => k4 W p3 c3 q3 d3 p8 c8 (HV3.out.below hb) (HW3.out.below hb)
  have K5 : Hid (∀ W, Below w4.heap.size w4 W → _) := fun W hb => k5 W p3 c3 q3 d3 p8 c8 (HV3.out.below hb) (HW3.out.below hb)
  have K6 : Hid (∀ W, Below w4.heap.size w4 W → _) := fun W hb => k6 W p3 c3 q3 d3 p8 c8 (HW3.out.below hb)
  have K7 : Hid ((needsE e h).length ≤ 1000 ∧ TL ≤ 16) := ⟨k7, k8⟩
  have K9 := Lib.hid k9
  clear k1 k2 k3 k4 k5 k6 k7 k8 k9 HV3 HW3
  generalize needsE e h = G at K1 K4 K7
  generalize readyE e h = RB at K2 K5
  generalize pastE e h = PB at K3 K6
  generalize h.length = HL at *
  have HW4 : Hid (∀ W, Below w4.heap.size w4 W → Below w.heap.size w W) := fun W hb => below_step HB3.out hb
  go_upto_region 6 with fail
  clear h100 h100'
  go_cut [9, 10] from 44 to 49 (fun s9 s10 wx => ∃ pg cg pw cw, s9 = .slice pg G.length cg ∧ s10 = .slice pw G.length cw ∧ Vec.Row3 wx pg G ∧ Vec.Row3 wx pw G ∧ Below w4.heap.size w4 wx)
  case first =>
    have L0 : Below w4.heap.size w4 w7.drew := HB7.out.drew
    obtain ⟨x0, x1, x2, x3, x4, x5⟩ := HC.out _ L0
    obtain ⟨y0, y1, y2, y3, y4, y5⟩ := HD.out _ L0
    go_region_with (first
      | (go_at_call 19; refine (K1.out _ (by first | exact HW4.out _ L0 | exact HW4.out _ T1)).mono ?_; rintro r wa ⟨pg, cg, rfl, hrg, hba⟩
         have D1 := (by first | exact below_step T1 hba | exact below_step L0 hba : Below w4.heap.size w4 wa)
         obtain ⟨u0, u1, u2, u3, u4, u5⟩ := HC.out _ D1
         obtain ⟨v0, v1, v2, v3, v4, v5⟩ := HD.out _ D1)
      | (go_at_call 20; refine (K4.out _ (by first | exact D1 | exact L0)).mono ?_; rintro r wb ⟨pw, cw, rfl, hrw, hbb⟩
         have T1 := (by first | exact below_step D1 hbb | exact below_step L0 hbb : Below w4.heap.size w4 wb)
         obtain ⟨a0, a1, a2, a3, a4, a5⟩ := HC.out _ T1
         obtain ⟨b0, b1, b2, b3, b4, b5⟩ := HD.out _ T1))
    all_goals first
      | (have hz := hrg.below hbb
         have hz2 := hrw
         have hz3 := T1
         have Z1 := Lib.hid hz
         have Z2 := Lib.hid hz2
         have Z3 := Lib.hid hz3
         clear hz hz2 hz3 hrg hrw T1 D1 hba hbb L0
         go_wp2
         go_meet
         case rel => exact ⟨pg, cg, pw, cw, rfl, rfl, Z1.out, Z2.out, Z3.out⟩)
      | (have hz := hrw.below hba
         have hz2 := hrg
         have hz3 := D1
         have Z1 := Lib.hid hz2
         have Z2 := Lib.hid hz
         have Z3 := Lib.hid hz3
         clear hz hz2 hz3 hrg hrw T1 D1 hba hbb L0
         go_wp2
         go_meet
         case rel => exact ⟨pg, cg, pw, cw, rfl, rfl, Z1.out, Z2.out, Z3.out⟩)
  case rest =>
  obtain ⟨pg, cg, pw, cw, rfl, rfl, hg9, hw9, hb9⟩ := hcut
  have HG9 := Lib.hid hg9
  have HW9 := Lib.hid hw9
  have HB9 := Lib.hid hb9
  clear hg9 hw9 hb9 K1 K4 HB7
  generalize wc = w9 at HG9 HW9 HB9 ⊢
  have hRB : (RB != RB) = false := by cases RB <;> rfl
  have hPB : (PB != PB) = false := by cases PB <;> rfl
  have K2r : Hid (∀ dd os, Calls Tryz.prog 21 #[.agg #[.slice p L c, .int .u16 tr, .int .u32 ts, .int .u64 tc, .int .i64 tu, .slice q TL d], .slice s HL f] (Go.Sort.grow (redrawn w9 dd) os) fun e w' => e = .returned (.bool RB) ∧ Below (Go.Sort.grow (redrawn w9 dd) os).heap.size (Go.Sort.grow (redrawn w9 dd) os) w') := fun dd os => K2.out _ (HW4.out _ (below_step HB9.out (below_regrown _ _ _)))
  have K5r : Hid (∀ dd os, Calls Tryz.prog 22 #[.agg #[.slice p3 L c3, .int .u16 tr, .int .u32 ts, .int .u64 tc, .int .i64 tu, .slice q3 TL d3], .slice p8 HL c8] (Go.Sort.grow (redrawn w9 dd) os) fun e w' => e = .returned (.bool RB) ∧ Below (Go.Sort.grow (redrawn w9 dd) os).heap.size (Go.Sort.grow (redrawn w9 dd) os) w') := fun dd os => K5.out _ (below_step HB9.out (below_regrown _ _ _))
  have K3r : Hid (∀ dd os, Calls Tryz.prog 23 #[.agg #[.slice p L c, .int .u16 tr, .int .u32 ts, .int .u64 tc, .int .i64 tu, .slice q TL d], .slice s HL f] (Go.Sort.grow (redrawn w9 dd) os) fun e w' => e = .returned (.bool PB) ∧ Below (Go.Sort.grow (redrawn w9 dd) os).heap.size (Go.Sort.grow (redrawn w9 dd) os) w') := fun dd os => K3.out _ (HW4.out _ (below_step HB9.out (below_regrown _ _ _)))
  have K6r : Hid (∀ dd os, Calls Tryz.prog 24 #[.agg #[.slice p3 L c3, .int .u16 tr, .int .u32 ts, .int .u64 tc, .int .i64 tu, .slice q3 TL d3], .slice p8 HL c8] (Go.Sort.grow (redrawn w9 dd) os) fun e w' => e = .returned (.bool PB) ∧ Below (Go.Sort.grow (redrawn w9 dd) os).heap.size (Go.Sort.grow (redrawn w9 dd) os) w') := fun dd os => K6.out _ (below_step HB9.out (below_regrown _ _ _))
  obtain ⟨x0', x1', x2', x3', x4', x5'⟩ := HC.out _ HB9.out
  obtain ⟨y0', y1', y2', y3', y4', y5'⟩ := HD.out _ HB9.out
  have x0 := cell_regrown x0'
  have x1 := cell_regrown x1'
  have x2 := cell_regrown x2'
  have x3 := cell_regrown x3'
  have x4 := cell_regrown x4'
  have x5 := cell_regrown x5'
  have y0 := cell_regrown y0'
  have y1 := cell_regrown y1'
  have y2 := cell_regrown y2'
  have y3 := cell_regrown y3'
  have y4 := cell_regrown y4'
  have y5 := cell_regrown y5'
  clear x0' x1' x2' x3' x4' x5' y0' y1' y2' y3' y4' y5' K2 K3 K5 K6
  go_wp2_with fail
  refine wp_region_quiet_below (by kernel_rfl) (by kernel_rfl) ?_
  repeat (first | go_big_quiet_step (first | (go_at_call 21; exact Calls.regrown_of (K2r.out _ _)) | (go_at_call 22; exact Calls.regrown_of (K5r.out _ _)) | (go_at_call 23; exact Calls.regrown_of (K3r.out _ _)) | (go_at_call 24; exact Calls.regrown_of (K6r.out _ _))) | quiet_step (first | (go_at_call 21; exact Calls.regrown_of (K2r.out _ _)) | (go_at_call 22; exact Calls.regrown_of (K5r.out _ _)) | (go_at_call 23; exact Calls.regrown_of (K3r.out _ _)) | (go_at_call 24; exact Calls.regrown_of (K6r.out _ _))))
  refine wpQuiet_nil ?_
  intro w10 hw'
  have hb10 : Below w9.heap.size w9 w10 := by obtain ⟨⟨dq, osq⟩, rfl⟩ := hw'; exact below_regrown _ _ _
  have HB10 : Hid (Below w4.heap.size w4 w10) := below_step HB9.out hb10
  have HG10 := Lib.hid (HG9.out.below hb10)
  have HW10 := Lib.hid (HW9.out.below hb10)
  clear hw' hb10 K2r K3r K5r K6r x0 x1 x2 x3 x4 x5 y0 y1 y2 y3 y4 y5 HG9 HW9 HB9 hRB hPB
  obtain ⟨hG1, hTL16⟩ := K7.out
  go_wp2
  go_loopg [75] G.length (fun g i wr => ∃ k : Nat, k ≤ G.length ∧ G.length - k ≤ g ∧ i = .int .i64 (k : Int) ∧ Below w10.heap.size w10 wr)
  case atStart => exact ⟨0, Nat.zero_le _, by omega, rfl, Below.refl _ _⟩
  case round =>
  obtain ⟨k, hk, hg, rfl, hb⟩ := hrel
  have HB := Lib.hid hb
  clear hb
  by_cases hlt : k < G.length
  · have hkl : (k : Int) < (G.length : Int) := by omega
    obtain ⟨b1, o1, rfl, a0, a1, a2⟩ := (HG10.out.below HB.out) k hlt
    obtain ⟨b2, o2, rfl, e0', e1', e2'⟩ := (HW10.out.below HB.out) k hlt
    generalize Vec.at3 G k = s3 at a0 a1 a2 e0' e1' e2'
    obtain ⟨x, y, z⟩ := s3
    simp only at a0 a1 a2 e0' e1' e2'
    go_wp2_with fail
    go_quiet (fail)
    go_wp2
    go_roundg (G.length - (k + 1))
    case measure => omega
    case rel => exact ⟨k + 1, by omega, Nat.le_refl _, by go_num, below_drewN HB.out _⟩
  have hke : k = G.length := by omega
  subst hke
  have hkl : ¬ (G.length : Int) < (G.length : Int) := by omega
  have HBW : Hid (Below w4.heap.size w4 wr) := below_step HB10.out HB.out
  clear HB HG10 HW10 HB10 hlt hk hg K7
  obtain ⟨y0, y1, y2, y3, y4, y5⟩ := HD.out _ HBW.out
  obtain ⟨hA, hN, hO⟩ := HOPS2.out
  obtain ⟨hyl, hyg, hyc⟩ := hO _ _ _ _ HT3.out
  have HNN : Hid (∀ o ∈ ops, 0 ≤ atomsO o) := fun o ho => (hA o ho).1
  have HA1 := Lib.hid hA
  have HN1 := Lib.hid hN
  have HYL := Lib.hid hyl
  have HYG := Lib.hid hyg
  have HYC := Lib.hid hyc
  clear hA hN hO hyl hyg hyc HOPS2
  have HTK : Hid (∀ j, j < TL → atomsL (ops.take (j + 1)) = atomsL (ops.take j) + atomsO (ops.getD j o0)) := fun j hj => by
    rw [take_getD o0 (by rw [HTL.out]; exact hj), atomsL_append, atomsL_cons, atomsL_nil, Int.add_zero]
  have HTR : Hid (∀ j, j ≤ TL → 0 ≤ atomsL (ops.take j) ∧ atomsL (ops.take j) ≤ j * 1024) := fun j => by
    induction j with
    | zero => intro _; rw [List.take_zero, atomsL_nil]; exact ⟨Int.le_refl _, by omega⟩
    | succ j ih =>
      intro hj
      have i1 := ih (by omega)
      have r1 := HA1.out (ops.getD j o0) (getD_mem o0 (by rw [HTL.out]; omega))
      rw [HTK.out j (by omega)]
      omega
  have HPL : Hid (∀ (j k : Nat), j < TL → (k : Int) < atomsO (ops.getD j o0) → atomE e (atomsL (ops.take j) + (k : Int)) = ((ops.getD j o0).num + (k : Int), true)) := fun j k hj hk => by
    have := (HTR.out j (by omega)).1
    rw [HAE.out _ (by omega)]
    exact atomN_place ops HNN.out j (k : Int) (by rw [HTL.out]; exact hj) (by omega) hk
  go_wp2
  clear y0 y1 y2 y3 y4 y5
  go_loopg [12, 92] TL (fun g n i2 wq => ∃ j : Nat, j ≤ TL ∧ TL - j ≤ g ∧ i2 = .int .i64 (j : Int) ∧ n = .int .i64 (atomsL (ops.take j)) ∧ Below w4.heap.size w4 wq)
  case atStart => exact ⟨0, Nat.zero_le _, by omega, rfl, by rw [List.take_zero, atomsL_nil], HBW.out⟩
  case round =>
  obtain ⟨j, hj, hg, rfl, rfl, hb⟩ := hrel
  have HB := Lib.hid hb
  clear hb HBW
  have htr := HTR.out j hj
  by_cases hlt : j < TL
  · have hkl : (j : Int) < (TL : Int) := by omega
    have hjy : j < ys.length := by rw [HYL.out]; exact hlt
    have HTKj := HTK.out j hlt
    have HPLj := fun k hk => HPL.out j k hlt hk
    have hmem : ops.getD j o0 ∈ ops := getD_mem o0 (by rw [HTL.out]; exact hlt)
    have hAj := HA1.out _ hmem
    have hNj := HN1.out _ hmem
    have hYGj := HYG.out j hjy
    have HYCj := Lib.hid (fun (A : Obj) => HYC.out j hjy (wr.alloc A) (below_alloc HB.out A))
    obtain ⟨b, o, hq3, c0, c1, c2, c3', c4, c5, c6⟩ := orow_at (HT3.out.row.below HB.out) hjy
    rw [← hYGj] at HTKj HPLj hAj hNj
    clear hmem hYGj
    have HTKj := Lib.hid HTKj
    have HPLj := Lib.hid HPLj
    generalize ys.getD j ov0 = yx at c0 c1 c2 c3' c4 c5 c6 HYCj HTKj HPLj hAj hNj
    obtain ⟨om, px, cx⟩ := yx
    simp only at c0 c1 c2 c3' c4 c5 c6 HYCj HTKj HPLj hAj hNj
    cases hq3
    have HOM : Hid (∀ p c, ov om p c = .agg #[.int .i64 om.kind, .int .u16 om.r, .int .u32 om.n, .int .u32 om.num, .string ⟨om.text.toArray⟩, .slice p om.spans.length c, .int .u32 om.seq]) := fun p c => rfl
    rw [HOM.out] at HYCj
    generalize (⟨om.text.toArray⟩ : ByteArray) = bt at c4 HYCj HOM
    obtain ⟨N, hNN⟩ : ∃ N : Nat, atomsO om = (N : Int) := ⟨(atomsO om).toNat, by omega⟩
    rw [hNN] at HYCj HTKj HPLj hAj hNj
    clear hNN HOM
    obtain ⟨A, hAA⟩ : ∃ A : Nat, atomsL (ops.take j) = (A : Int) := ⟨(atomsL (ops.take j)).toNat, by omega⟩
    rw [hAA] at HTKj HPLj htr ⊢
    clear hAA
    have HNB : Hid (0 < N → 1 ≤ om.num ∧ om.num ≤ 268435456 ∧ om.num + (N : Int) - 1 ≤ 268435456) := fun h => hNj (by omega)
    have HAB : Hid (A ≤ 16384 ∧ N ≤ 1024) := ⟨by omega, by omega⟩
    have HATk : Hid (∀ k : Nat, k < N → ∀ W, Below w4.heap.size w4 W → Calls Tryz.prog 26 #[.agg #[.slice p L c, .int .u16 tr, .int .u32 ts, .int .u64 tc, .int .i64 tu, .slice q TL d], .int .i64 ((A : Int) + (k : Int))] W fun r w' => r = .returned (.tuple #[.agg #[.int .u16 tr, .int .u32 (om.num + (k : Int))], .bool true]) ∧ Below W.heap.size W w') := fun k hk W hb => by
      have := K9.out W (HW4.out _ hb) ((A : Int) + (k : Int)) (by omega) (by omega)
      rw [HPLj.out k (by omega)] at this
      exact this
    clear hAj hNj HPLj htr
    have HZ0 := Lib.hid (heap_alloc_new wr (.cells #[.int .i64 om.kind, .int .u16 om.r, .int .u32 om.n, .int .u32 om.num, .string bt, .slice px om.spans.length cx, .int .u32 om.seq] 71))
    have HBA := Lib.hid (below_alloc HB.out (.cells #[.int .i64 om.kind, .int .u16 om.r, .int .u32 om.n, .int .u32 om.num, .string bt, .slice px om.spans.length cx, .int .u32 om.seq] 71))
    obtain ⟨d0, d1, d2, d3', d4, d5, d6⟩ := seven_cells HZ0.out
    have HZX : Hid (∀ B, B = wr.heap.size → Below wr.heap.size wr wr) := fun _ _ => Below.refl _ _
    go_wp2_with fail
    refine (HYCj.out _).mono ?_
    rintro r w12 ⟨rfl, hb12⟩
    have HZ12 := Lib.hid (kept_box HZ0.out hb12)
    have HB12 := Lib.hid (below_step HBA.out hb12)
    clear hb12 HYCj HZ0 HBA d0 d1 d2 d3' d4 d5 d6 c0 c1 c2 c3' c4 c5 c6 HZX
    generalize hB14 : wr.heap.size = B14 at HZ12 ⊢
    clear hB14
    go_wp2
    go_loopg [12, 98] N (fun g n i2 wq => ∃ k : Nat, k ≤ N ∧ N - k ≤ g ∧ i2 = .int .i64 (k : Int) ∧ n = .int .i64 ((A : Int) + (k : Int)) ∧ Below w12.heap.size w12 wq)
    case atStart => exact ⟨0, Nat.zero_le _, by omega, rfl, by simp, Below.refl _ _⟩
    case round =>
    obtain ⟨k, hk, hg2, rfl, rfl, hb⟩ := hrel
    have HB3' := Lib.hid hb
    clear hb
    have hab := HAB.out
    by_cases hkN : k < N
    · have hkl2 : (k : Int) < (N : Int) := by omega
      have hnb := HNB.out (by omega)
      have HBr : Hid (Below w4.heap.size w4 wr) := below_step HB12.out HB3'.out
      obtain ⟨x0, x1, x2, x3, x4, x5⟩ := HC.out _ HBr.out
      go_wp2_with fail
      refine (HATk.out k hkN _ HBr.out).mono ?_
      rintro r w14 ⟨rfl, hb14⟩
      have HBA := Lib.hid (below_alloc (below_step HB3'.out hb14) (.cells #[.int .u16 tr, .int .u32 (om.num + (k : Int))] 73))
      have HZA := Lib.hid (kept_box HZ12.out HBA.out)
      have hlt14 : B14 < w14.heap.size := lt_of_block (kept_box HZ12.out (below_step HB3'.out hb14))
      have hXlt : X < w14.heap.size := block_lt_of_cell (HD.out _ (below_step HBr.out hb14)).1
      have hn1 : ¬ B14 = w14.heap.size := by omega
      have hn3 : ¬ w.heap.size = w14.heap.size := by have := (HW4.out _ (below_step HBr.out hb14)).size; omega
      clear hb14 x0 x1 x2 x3 x4 x5
      obtain ⟨x0, x1, x2, x3, x4, x5⟩ := HC.out _ (below_step HB12.out HBA.out)
      obtain ⟨d0, d1, d2, d3', d4, d5, d6⟩ := seven_cells HZA.out
      have hw1 : IntKind.u32.wrap (k : Int) = (k : Int) := by rw [IntKind.wrap_u32]; omega
      have hw2 : IntKind.u32.wrap (om.num + (k : Int)) = om.num + (k : Int) := by rw [IntKind.wrap_u32]; omega
      have hw3 : IntKind.i64.wrap ((A : Int) + (k : Int) + 1) = (A : Int) + (k : Int) + 1 := by rw [IntKind.wrap_i64]; omega
      go_wp2
      go_roundg (N - (k + 1))
      case measure => omega
      case rel => exact ⟨k + 1, by omega, Nat.le_refl _, by go_num, by first | rfl | go_num | (congr 1; omega), HBA.out⟩
    · have hke : k = N := by omega
      subst hke
      have hkl2 : ¬ (k : Int) < (k : Int) := by omega
      have HBr : Hid (Below w4.heap.size w4 wr) := below_step HB12.out HB3'.out
      go_wp2
      go_roundg (TL - (j + 1))
      case measure => omega
      case rel => exact ⟨j + 1, by omega, Nat.le_refl _, by go_num, by rw [HTKj.out], HBr.out⟩
  · have hje : TL = j := by omega
    subst hje
    have hkl : ¬ (TL : Int) < (TL : Int) := by omega
    have HAL : Hid (atomsL (ops.take TL) = atomsL ops) := by show _ = _; rw [← HTL.out, List.take_length]
    rw [HAL.out] at htr ⊢
    have hth := fun h0 => atomN_there ops HNN.out i h0
    have HAT := Lib.hid (K9.out _ (HW4.out _ HB.out) i HBI.out.1 HBI.out.2)
    have hae := HAE.out i
    have han := HAN.out i
    generalize atomsL ops = AT at htr hth ⊢
    generalize atomN ops i = AN at hth hae
    generalize atomE e i = AE at hae han HAT
    obtain ⟨x0, x1, x2, x3, x4, x5⟩ := HC.out _ HB.out
    have HBF : Hid (Below w.heap.size w wr) := HW4.out _ HB.out
    clear HB
    by_cases hin : 0 ≤ i ∧ i < AT
    · obtain ⟨hi0, hi1⟩ := hin
      have hA2 : AE.2 = true := by rw [hae hi0]; exact (hth hi0).1 hi1
      obtain ⟨N1, B1⟩ := AE
      simp only at hA2
      subst hA2
      have HAT1 : Hid (Calls Tryz.prog 26 #[.agg #[.slice p L c, .int .u16 tr, .int .u32 ts, .int .u64 tc, .int .i64 tu, .slice q TL d], .int .i64 i] wr fun r w' => r = .returned (.tuple #[.agg #[.int .u16 tr, .int .u32 N1], .bool true]) ∧ Below wr.heap.size wr w') := HAT.out
      clear HAT hae han hth
      go_wp2_with fail
      refine HAT1.out.mono ?_
      rintro r w15 ⟨rfl, hb15⟩
      have HB15 : Hid (Below w.heap.size w w15) := below_step HBF.out hb15
      clear hb15 HAT1
      go_wp2
      go_ret
      exact ⟨rfl, below_alloc HB15.out _⟩
    · have hA0 : AE = (0, false) := by
        by_cases hi0 : 0 ≤ i
        · rw [hae hi0]; exact (hth hi0).2 (by omega)
        · exact han (by omega)
      subst hA0
      have HAT1 : Hid (Calls Tryz.prog 26 #[.agg #[.slice p L c, .int .u16 tr, .int .u32 ts, .int .u64 tc, .int .i64 tu, .slice q TL d], .int .i64 i] wr fun r w' => r = .returned (.tuple #[.agg #[.int .u16 0, .int .u32 0], .bool false]) ∧ Below wr.heap.size wr w') := HAT.out
      clear HAT hae han hth
      by_cases hi0 : 0 ≤ i
      · have hi1 : ¬ i < AT := by omega
        have hd1 : decide (i < AT) = false := decide_eq_false hi1
        have hd0 : decide (0 ≤ i) = true := decide_eq_true hi0
        clear hin
        go_wp2_with fail
        refine HAT1.out.mono ?_
        rintro r w15 ⟨rfl, hb15⟩
        have HB15 : Hid (Below w.heap.size w w15) := below_step HBF.out hb15
        clear hb15 HAT1
        go_wp2
        go_ret
        exact ⟨rfl, below_alloc HB15.out _⟩
      · clear hin
        go_wp2_with fail
        refine HAT1.out.mono ?_
        rintro r w15 ⟨rfl, hb15⟩
        have HB15 : Hid (Below w.heap.size w w15) := below_step HBF.out hb15
        clear hb15 HAT1
        go_wp2
        go_ret
        exact ⟨rfl, below_alloc HB15.out _⟩
end Go.Proofs.YtceanfpcddcfoaaGreat
/-
  What the program's Atom of layer 10 hands back. No conditions beyond what each theorem states.
-/
namespace Go.Proofs.YtceanfpcddcfoaaGreat
open Go.ChangeShapes Go.WideShapes Go.ChangeAt Go.RowKit Go.Lib
set_option linter.unusedVariables false
set_option linter.unusedSimpArgs false

/-- The first number that there is. -/
def firstN : List Om → Int
  | [] => 0
  | o :: l => if o.num ≠ 0 then o.num else firstN l
theorem num_atoms {o : Om} (h : fitO o = 0) : (0 < atomsO o ∧ 1 ≤ o.num ∧ o.num ≤ 268435456) ∨ (atomsO o = 0 ∧ o.num = 0) := by
  rcases fitO_cases h with c | c | c | c
  · obtain ⟨k, -, -, ht, -, -, hn⟩ := c
    have hn := of_decide_eq_true hn
    have ha : atomsO o = (o.text.length : Int) := by unfold atomsO; rw [if_pos k]
    have hp : 0 < o.text.length := List.length_pos_iff.2 ht
    exact Or.inl ⟨by omega, by omega, by omega⟩
  · obtain ⟨k, -, -, hp, -⟩ := c
    have hp := of_decide_eq_true hp
    exact Or.inr ⟨by unfold atomsO; rw [if_neg (by omega), if_neg (by omega)], hp.2.2⟩
  · obtain ⟨k, -, -, hl, hn⟩ := c
    have hn := of_decide_eq_true hn
    have ha : atomsO o = (totalL o.spans : Int) := by unfold atomsO; rw [if_neg (by omega), if_pos k]
    have := total_pos hl
    exact Or.inl ⟨by omega, by omega, by omega⟩
  · obtain ⟨k, -, -, hp, -, -⟩ := c
    have hp := of_decide_eq_true hp
    exact Or.inr ⟨by unfold atomsO; rw [if_neg (by omega), if_neg (by omega)], hp.2.2⟩
theorem atomN_at {n : Nat} {seq : Int} : ∀ (l : List Om) (last : Int), fitOs n seq last l = 0 → ∀ i, 0 ≤ i → i < atomsL l → atomN l i = ((if 0 ≤ last then last + 1 else firstN l) + i, true) := by
  intro l
  induction l with
  | nil => intro last _ i h0 h1; rw [atomsL_nil] at h1; omega
  | cons x l ih =>
    intro last h i h0 h1
    have hx := (fitOs_ok (x :: l) last h x (by simp)).1
    rw [fitOs] at h
    rw [if_neg (by rw [hx]; simp)] at h
    by_cases h2 : 3 < x.kind ∧ (n ≠ 1 ∨ seq ≤ x.seq)
    · rw [if_pos h2] at h; cases h
    rw [if_neg h2] at h
    by_cases h3 : 0 < atomsO x ∧ 0 ≤ last ∧ x.num ≠ last + 1
    · rw [if_pos h3] at h; cases h
    rw [if_neg h3] at h
    rw [atomsL_cons] at h1
    rw [atomN, firstN]
    rcases num_atoms hx with ⟨a1, a2, a3⟩ | ⟨a1, a2⟩
    · rw [if_pos a1] at h
      rw [if_pos (show x.num ≠ 0 by omega)]
      by_cases hi : i < atomsO x
      · rw [if_pos hi]
        by_cases hl : 0 ≤ last
        · rw [if_pos hl, show x.num = last + 1 by omega]
        · rw [if_neg hl]
      · rw [if_neg hi, ih _ h _ (by omega) (by omega), if_pos (by omega)]
        by_cases hl : 0 ≤ last
        · rw [if_pos hl, show x.num = last + 1 by omega]; congr 1; omega
        · rw [if_neg hl]; congr 1; omega
    · rw [if_neg (by omega)] at h
      rw [if_neg (show ¬ x.num ≠ 0 by omega), if_neg (by omega), a1, Int.sub_zero]
      exact ih _ h _ h0 (by omega)
theorem atomN_out : ∀ (l : List Om), (∀ o ∈ l, 0 ≤ atomsO o) → ∀ i, atomsL l ≤ i → atomN l i = (0, false) := by
  intro l
  induction l with
  | nil => intro _ i _; rfl
  | cons x l ih =>
    intro h i hi
    have hx := h x (by simp)
    have hl := ih (fun o ho => h o (by simp [ho]))
    have hn : 0 ≤ atomsL l := by
      have h' : ∀ o ∈ l, 0 ≤ atomsO o := fun o ho => h o (by simp [ho])
      clear ih hl hi h hx
      induction l with
      | nil => rw [atomsL_nil]; exact Int.le_refl _
      | cons y l ih => rw [atomsL_cons]; have := h' y (by simp); have := ih (fun o ho => h' o (by simp [ho])); omega
    rw [atomsL_cons] at hi
    rw [atomN, if_neg (by omega)]
    exact hl _ (by omega)
theorem atomsL_pos {l : List Om} (h : ∀ o ∈ l, fitO o = 0) : 0 ≤ atomsL l ∧ (0 < atomsL l → 1 ≤ firstN l ∧ firstN l ≤ 268435456) ∧ (atomsL l = 0 → firstN l = 0) := by
  induction l with
  | nil => rw [atomsL_nil]; exact ⟨Int.le_refl _, fun h => by omega, fun _ => rfl⟩
  | cons x l ih =>
    have i := ih (fun o ho => h o (by simp [ho]))
    rw [atomsL_cons, firstN]
    rcases num_atoms (h x (by simp)) with ⟨a1, a2, a3⟩ | ⟨a1, a2⟩
    · rw [if_pos (show x.num ≠ 0 by omega)]
      exact ⟨by omega, fun _ => ⟨a2, a3⟩, fun h => by omega⟩
    · rw [if_neg (show ¬ x.num ≠ 0 by omega), a1, Int.zero_add]
      exact i
theorem keyID_any (c r n : Int) (w : World) : Calls Tryz.prog 58 #[.agg #[.int .u64 c, .int .u16 r, .int .u32 n]] w fun e w' => e = .returned (.agg #[.int .u16 r, .int .u32 n]) ∧ Below w.heap.size w w' := by
  go_enter Tryz.func58, Tryz.ntmps58
  go_wp2
  (try simp only [Exit.inBlock, Exit.then])
  refine bodyPost_ret (results_cell_row rfl _ _ (w.heap.size + 1) 73 #[.int .u16 r, .int .u32 n] (0, 0) _ rfl (heap_alloc2_new w _ _) Tryz.underlying73 rfl szI) rfl ?_
  exact ⟨rfl, below_alloc (below_alloc (Below.refl _ _) _) _⟩
theorem loadI {w : World} {B : Nat} {cs : Array Value} {t : TypeId} (h : w.heap[B]? = some (.cells cs t (0, 0))) (hs : cs.size = 2) : (loadVar 73 ⟨B, 0, none⟩).run Tryz.prog w = .ok (.agg cs) w :=
  run_loadVar_row w B t 73 _ (0, 0) _ h Tryz.underlying73 rfl (by rw [hs]; exact szI)
set_option maxHeartbeats 6400000 in
set_option maxRecDepth 20000 in
theorem atomE_spec : AtomESpec := by
  intro e xs p q c d i w H hsm h0 hi0 hi1
  obtain ⟨-, -, hft⟩ := fitE_ok h0
  obtain ⟨-, -, -, -, -, -, -, hl16, hos⟩ := fitT_ok hft
  have hT := H.txn
  have hlen : e.txn.ops.length = xs.length := by rw [hT.ops, List.length_map]
  have hX16 : xs.length ≤ 16 := by omega
  have HOK := fitOs_ok e.txn.ops (-1) hos
  have hap := atomsL_pos (fun o ho => (HOK o ho).1)
  have hin := atomN_at e.txn.ops (-1) hos i
  have hout := atomN_out e.txn.ops (fun o ho => by rcases num_atoms (HOK o ho).1 with h | h <;> omega) i
  have hat : atomsL e.txn.ops ≤ 16384 := by
    have hmem : ∀ o ∈ e.txn.ops, atomsO o ≤ 1024 := fun o ho => (atoms_range (HOK o ho).1 (hT.fit.2.2.2.2.2.2.2.2 o ho)).2.1
    have : ∀ l : List Om, (∀ o ∈ l, atomsO o ≤ 1024) → atomsL l ≤ 1024 * l.length := fun l => by
      induction l with
      | nil => intro _; rw [atomsL_nil]; simp
      | cons y l ih => intro h; rw [atomsL_cons, List.length_cons]; have := h y (by simp); have := ih (fun o ho => h o (by simp [ho])); omega
    have := this _ hmem
    omega
  have HATS : Hid (∀ W, Below w.heap.size w W → Calls Tryz.prog 56 #[.agg #[.int .u16 e.txn.r, .int .u32 e.txn.seq, .int .u64 e.txn.clock, .int .i64 e.txn.user, .slice q e.txn.ops.length d]] W fun r w' => r = .returned (.int .i64 (atomsL e.txn.ops)) ∧ Below W.heap.size W w') := fun W hb => atomsT_spec e.txn xs q d W (hT.below hb) (fun x hx => (hsm x hx).elim (fun a b => ⟨a, by omega⟩)) hft
  have HKEY : Hid (∀ n W, Calls Tryz.prog 57 #[.agg #[.int .u16 e.txn.r, .int .u32 e.txn.seq, .int .u64 e.txn.clock, .int .i64 e.txn.user, .slice q e.txn.ops.length d], .int .u32 n] W fun r w' => r = .returned (.agg #[.int .u64 e.txn.clock, .int .u16 e.txn.r, .int .u32 n]) ∧ Below W.heap.size W w') := fun n W => keyT_spec e.txn q d n W
  have HROW : Hid (∀ W, Below w.heap.size w W → GRow layO W q xs) := fun W hb => hT.row.row.below hb
  have HDR : Hid (∀ k, k < xs.length → firstN (e.txn.ops.drop k) = if (xs.getD k ov0).1.num ≠ 0 then (xs.getD k ov0).1.num else firstN (e.txn.ops.drop (k + 1))) := fun k hk => by rw [drop_ops hT.ops hk, firstN]
  have HDE : Hid (firstN (e.txn.ops.drop xs.length) = 0) := by show firstN _ = 0; rw [← hlen, List.drop_length]; rfl
  have HAE : Hid (atomE e i = if i < 0 then (0, false) else atomN e.txn.ops i) := rfl
  clear H hsm h0 hft hos HOK hT
  obtain ⟨deps, ⟨r, seq, clock, user, ops⟩⟩ := e
  unfold ev
  simp only at *
  rw [if_neg (by omega)] at hin
  rw [hlen] at *
  generalize hL : xs.length = L at *
  generalize atomE (⟨deps, ⟨r, seq, clock, user, ops⟩⟩ : Em) i = AE at HAE ⊢
  have HZ0 : Hid (∀ RR N1 B1, (if AE.2 = true then r else 0) = RR → AE.1 = N1 → AE.2 = B1 → ∀ N B, AE = (N, B) → RR = (if B = true then r else 0) ∧ N1 = N ∧ B1 = B) := by
    rintro RR N1 B1 rfl rfl rfl N B h
    rw [h]
    exact ⟨rfl, rfl, rfl⟩
  generalize hRR : (if AE.2 = true then r else 0) = RR
  generalize hN1 : AE.1 = N1
  generalize hB1 : AE.2 = B1
  have HZ := Lib.hid (HZ0.out RR N1 B1 hRR hN1 hB1)
  clear HZ0 hRR hN1 hB1
  generalize atomN ops i = AN at hin hout HAE
  generalize atomsL ops = AL at hap hin hout hat HATS
  obtain ⟨FN, hFN⟩ : ∃ F, F = firstN ops := ⟨_, rfl⟩
  rw [← hFN] at hap hin
  have HFN : Hid (firstN (ops.drop 0) = FN) := by rw [List.drop_zero]; exact hFN.symm
  clear hFN
  generalize deps.length = DL
  have HX := Lib.hid (heap_alloc_new w (.cells #[.slice p DL c, .int .u16 r, .int .u32 seq, .int .u64 clock, .int .i64 user, .slice q L d] 31))
  have HX2 := Lib.hid (heap_alloc2_new w (.cells #[.slice p DL c, .int .u16 r, .int .u32 seq, .int .u64 clock, .int .i64 user, .slice q L d] 31) (.cells #[.int .u16 0, .int .u32 0] 73))
  have HX1 := Lib.hid (kept_box HX.out (below_alloc (Below.refl _ _) (.cells #[.int .u16 0, .int .u32 0] 73)))
  have HB0 : Hid (Below w.heap.size w ((w.alloc (.cells #[.slice p DL c, .int .u16 r, .int .u32 seq, .int .u64 clock, .int .i64 user, .slice q L d] 31)).alloc (.cells #[.int .u16 0, .int .u32 0] 73))) := below_alloc (below_alloc (Below.refl _ _) _) _
  clear HX
  by_cases hneg : i < 0
  · have hAE : Hid (AE = (0, false)) := by show _ = _; rw [HAE.out, if_pos hneg]
    obtain ⟨z1, z2, z3⟩ := HZ.out _ _ hAE.out
    subst z1 z2 z3
    rw [if_neg (by simp)]
    clear hin hout HZ
    obtain ⟨y0, y1⟩ := two_cells HX2.out
    have fr := fun o => frozen_of_block (o := o) HX2.out
    go_enter Tryz.func26, Tryz.ntmps26
    go_wp2
    (try simp only [Exit.inBlock, Exit.then])
    refine bodyPost_ret (results_ct (p := 4) (t := 5) (ty := 73) rfl _ _ ⟨w.heap.size + 1, 0, none⟩ _ rfl (loadI HX2.out rfl)) rfl ?_
    exact ⟨rfl, HB0.out⟩
  have hneg' : ¬ i < 0 := hneg
  have HAE2 : Hid (AE = AN) := by show _ = _; rw [HAE.out, if_neg hneg]
  clear HAE
  go_enter Tryz.func26, Tryz.ntmps26
  obtain ⟨x0, x1, x2, x3, x4, x5⟩ := six_cells HX1.out
  go_wp2_with fail
  generalize ((w.alloc (.cells #[.slice p DL c, .int .u16 r, .int .u32 seq, .int .u64 clock, .int .i64 user, .slice q L d] 31)).alloc (.cells #[.int .u16 0, .int .u32 0] 73)) = w0 at HX1 HX2 HB0 x0 x1 x2 x3 x4 x5 ⊢
  refine (HATS.out _ HB0.out).mono ?_
  rintro e1 w1 ⟨rfl, hb1⟩
  have HB1 : Hid (Below w0.heap.size w0 w1) := hb1
  clear x0 x1 x2 x3 x4 x5 hb1 HATS
  by_cases hge : AL ≤ i
  · have hAE : Hid (AE = (0, false)) := by show _ = _; rw [HAE2.out, hout hge]
    clear hin hout
    have HY := Lib.hid (kept_box HX2.out HB1.out)
    obtain ⟨y0, y1⟩ := two_cells HY.out
    have fr := fun o => frozen_of_block (o := o) HY.out
    go_wp2
    (try simp only [Exit.inBlock, Exit.then])
    refine bodyPost_ret (results_ct (p := 4) (t := 5) (ty := 73) rfl _ _ ⟨w.heap.size + 1, 0, none⟩ _ rfl (loadI (box_two HY.out) rfl)) rfl ?_
    obtain ⟨z1, z2, z3⟩ := HZ.out _ _ hAE.out
    subst z1 z2 z3
    rw [if_neg (by simp)]
    exact ⟨rfl, only_new (below_step HB0.out HB1.out) (only_two _ _ _ _) (by omega)⟩
  have hAN := hin (by omega) (by omega)
  have hf1 := hap.2.1 (by omega)
  have HAE3 : Hid (AE = (FN + i, true)) := by show _ = _; rw [HAE2.out, hAN]
  have HBD : Hid (0 ≤ i ∧ i < 16384 ∧ 1 ≤ FN ∧ FN ≤ 268435456) := ⟨by omega, by omega, hf1.1, hf1.2⟩
  clear hin hout hap hAN HAE2 hat hf1
  obtain ⟨x0, x1, x2, x3, x4, x5⟩ := six_cells (kept_box HX1.out HB1.out)
  go_wp2
  clear x0 x1 x2 x3 x4 x5
  go_loopg [22] L (fun g j wr => ∃ k : Nat, k ≤ L ∧ L - k ≤ g ∧ j = .int .i64 (k : Int) ∧ firstN (ops.drop k) = FN ∧ Below w0.heap.size w0 wr)
  case atStart => exact ⟨0, Nat.zero_le _, by omega, rfl, HFN.out, HB1.out⟩
  case round =>
    obtain ⟨k, hk, hg, rfl, hfn, hB⟩ := hrel
    have HB := Lib.hid hB
    have HF := Lib.hid hfn
    clear hB hfn
    have HBW : Hid (Below w.heap.size w wr) := below_step HB0.out HB.out
    have hbd := HBD.out
    by_cases hlt : k < L
    · have hkl : (k : Int) < (L : Int) := by omega
      have HDRk := Lib.hid (HDR.out k hlt)
      obtain ⟨b, o, rfl, c0, c1, c2, c3, c4, c5, c6⟩ := orow_at (HROW.out wr HBW.out) (by omega : k < xs.length)
      generalize xs.getD k ov0 = x at c0 c1 c2 c3 c4 c5 c6 HDRk
      obtain ⟨om, px, cx⟩ := x
      simp only at c0 c1 c2 c3 c4 c5 c6 HDRk
      generalize (⟨om.text.toArray⟩ : ByteArray) = bt at c4
      obtain ⟨x0, x1, x2, x3, x4, x5⟩ := six_cells (kept_box HX1.out (below_alloc HB.out (.cells #[.int .i64 om.kind, .int .u16 om.r, .int .u32 om.n, .int .u32 om.num, .string bt, .slice px om.spans.length cx, .int .u32 om.seq] 79)))
      by_cases hz : om.num = 0
      · have hz1 : (om.num == 0) = true := by simp [hz]
        have hz2 : (om.num != 0) = false := by simp [hz]
        have HF2 : Hid (firstN (ops.drop (k + 1)) = FN) := by show _ = _; rw [← HF.out, HDRk.out, if_neg (by simp [hz])]
        have HBn := Lib.hid (below_alloc HB.out (.cells #[.int .i64 om.kind, .int .u16 om.r, .int .u32 om.n, .int .u32 om.num, .string bt, .slice px om.spans.length cx, .int .u32 om.seq] 79))
        rw [hz] at c3 HBn x0 x1 x2 x3 x4 x5
        go_wp2
        go_roundg (L - (k + 1))
        case measure => omega
        case rel => exact ⟨k + 1, by omega, Nat.le_refl _, by go_num, HF2.out, HBn.out⟩
      · have hz1 : (om.num == 0) = false := beq_no hz
        have hz2 : (om.num != 0) = true := bne_int hz
        have hN : om.num = FN := by rw [← HF.out, HDRk.out, if_pos hz]
        clear hz HDRk HF
        rw [hN] at c3 hz1 hz2 x0 x1 x2 x3 x4 x5
        clear hN
        go_wp2_with fail
        refine (HKEY.out _ _).mono ?_
        rintro e4 w4 ⟨rfl, hb4⟩
        have HB4 := Lib.hid (below_step (below_alloc HB.out _) hb4)
        clear hb4 x0 x1 x2 x3 x4 x5
        go_wp2_with fail
        refine (keyID_any _ _ _ _).mono ?_
        rintro e5 w5 ⟨rfl, hb5⟩
        have HB5 := Lib.hid (below_step HB4.out hb5)
        clear hb5
        go_wp2_with fail
        refine (plus_any (r, FN) i (FN + i) _ (by omega)).mono ?_
        rintro e6 w6 ⟨rfl, hb6⟩
        have HB6 := Lib.hid (below_step HB5.out hb6)
        clear hb6
        have HY := Lib.hid (kept_box HX2.out HB6.out)
        obtain ⟨y0, y1⟩ := two_cells HY.out
        have fr := fun o => frozen_of_block (o := o) HY.out
        unfold nv
        go_wp2
        (try simp only [Exit.inBlock, Exit.then])
        refine bodyPost_ret (results_ct (p := 4) (t := 5) (ty := 73) rfl _ _ ⟨w.heap.size + 1, 0, none⟩ _ rfl (loadI (box_two HY.out) rfl)) rfl ?_
        obtain ⟨z1, z2, z3⟩ := HZ.out _ _ HAE3.out
        subst z1 z2 z3
        (try rw [if_pos rfl])
        exact ⟨rfl, only_new (below_step HB0.out HB6.out) (only_two _ _ _ _) (by omega)⟩
    · have : k = L := by omega
      subst this
      have := HBD.out
      have h1 := HF.out
      rw [HDE.out] at h1
      omega
end Go.Proofs.YtceanfpcddcfoaaGreat
