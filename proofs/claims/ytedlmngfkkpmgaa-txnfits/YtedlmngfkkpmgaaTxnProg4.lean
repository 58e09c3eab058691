
/-
  What the program's Fit of layer 9 hands back, and what it leans on. No conditions beyond what each theorem states.
-/
import Derived.Test.YtedlmngfkkpmgaaTxnSpec
import Derived.Test.YtedlmngfkkpmgaaOpProg3
namespace Go.Proofs.Ytedlmngfkkpmgaa
open Go.ChangeShapes Go.WideShapes Go.ChangeAt Go.RowKit Go.Lib
set_option linter.unusedVariables false
set_option linter.unusedSimpArgs false

set_option maxHeartbeats 800000 in
theorem tturns_yes (k a b n q : Int) (s : ByteArray) (p : Option Addr) (l c : Nat) (h : k = 4 ∨ k = 5) (w : World) : Calls Try.prog 31 #[.agg #[.int .i64 k, .int .u16 a, .int .u32 b, .int .u32 n, .string s, .slice p l c, .int .u32 q]] w fun e w' => e = .returned (.bool true) ∧ Below w.heap.size w w' := by
  have HX := Lib.hid (heap_alloc_new w (.cells #[.int .i64 k, .int .u16 a, .int .u32 b, .int .u32 n, .string s, .slice p l c, .int .u32 q] 69))
  rcases h with rfl | rfl
  all_goals
    go_enter Try.func31, Try.ntmps31
    go_wp2
    go_ret
    exact ⟨rfl, below_alloc (Below.refl _ _) _⟩
set_option maxHeartbeats 800000 in
theorem tturns_no (k a b n q : Int) (s : ByteArray) (p : Option Addr) (l c : Nat) (h4 : ¬ k = 4) (h5 : ¬ k = 5) (w : World) : Calls Try.prog 31 #[.agg #[.int .i64 k, .int .u16 a, .int .u32 b, .int .u32 n, .string s, .slice p l c, .int .u32 q]] w fun e w' => e = .returned (.bool false) ∧ Below w.heap.size w w' := by
  have HX := Lib.hid (heap_alloc_new w (.cells #[.int .i64 k, .int .u16 a, .int .u32 b, .int .u32 n, .string s, .slice p l c, .int .u32 q] 69))
  have h4' : (k == 4) = false := beq_no h4
  have h5' : (k == 5) = false := beq_no h5
  go_enter Try.func31, Try.ntmps31
  go_wp2
  go_ret
  exact ⟨rfl, below_alloc (Below.refl _ _) _⟩
set_option maxHeartbeats 1600000 in
theorem head_yes (r seq clock user : Int) (p : Option Addr) (l c : Nat) (h0 : 1 ≤ seq) (h1 : seq ≤ 268435456) (h2 : 1 ≤ clock) (h3 : clock ≤ 1099511627776) (h4 : 0 ≤ user) (h5 : user ≤ 7) (w : World) : Calls Try.prog 29 #[.agg #[.int .u16 r, .int .u32 seq, .int .u64 clock, .int .i64 user, .slice p l c]] w fun e w' => e = .returned (.bool true) ∧ Below w.heap.size w w' := by
  have HX := Lib.hid (heap_alloc_new w (.cells #[.int .u16 r, .int .u32 seq, .int .u64 clock, .int .i64 user, .slice p l c] 27))
  go_enter Try.func29, Try.ntmps29
  go_wp2
  go_ret
  exact ⟨rfl, below_alloc (Below.refl _ _) _⟩
set_option maxHeartbeats 3200000 in
theorem head_no (r seq clock user : Int) (p : Option Addr) (l c : Nat) (h : seq < 1 ∨ 268435456 < seq ∨ clock < 1 ∨ 1099511627776 < clock ∨ user < 0 ∨ 7 < user) (w : World) : Calls Try.prog 29 #[.agg #[.int .u16 r, .int .u32 seq, .int .u64 clock, .int .i64 user, .slice p l c]] w fun e w' => e = .returned (.bool false) ∧ Below w.heap.size w w' := by
  have HX := Lib.hid (heap_alloc_new w (.cells #[.int .u16 r, .int .u32 seq, .int .u64 clock, .int .i64 user, .slice p l c] 27))
  by_cases g0 : 1 ≤ seq
  case neg =>
    clear h
    go_enter Try.func29, Try.ntmps29
    go_wp2
    go_ret
    exact ⟨rfl, below_alloc (Below.refl _ _) _⟩
  by_cases g1 : seq ≤ 268435456
  case neg =>
    clear h
    go_enter Try.func29, Try.ntmps29
    go_wp2
    go_ret
    exact ⟨rfl, below_alloc (Below.refl _ _) _⟩
  by_cases g2 : 1 ≤ clock
  case neg =>
    clear h
    go_enter Try.func29, Try.ntmps29
    go_wp2
    go_ret
    exact ⟨rfl, below_alloc (Below.refl _ _) _⟩
  by_cases g3 : clock ≤ 1099511627776
  case neg =>
    clear h
    go_enter Try.func29, Try.ntmps29
    go_wp2
    go_ret
    exact ⟨rfl, below_alloc (Below.refl _ _) _⟩
  by_cases g4 : 0 ≤ user
  case neg =>
    clear h
    go_enter Try.func29, Try.ntmps29
    go_wp2
    go_ret
    exact ⟨rfl, below_alloc (Below.refl _ _) _⟩
  have g5 : ¬ user ≤ 7 := by omega
  clear h
  go_enter Try.func29, Try.ntmps29
  go_wp2
  go_ret
  exact ⟨rfl, below_alloc (Below.refl _ _) _⟩
set_option maxHeartbeats 12800000 in
set_option maxRecDepth 20000 in
theorem fitOps_any (HFO0 : FitOSpec) (t : Tm) (xs : List OV) (p : Option Addr) (c : Nat) (w : World) (H : InT t xs p c w) (hs : SmallX xs) (hl16 : xs.length ≤ 16) :
    Calls Try.prog 30 #[tv t p c] w fun e w' => e = .returned (.int .i64 (fitOs xs.length t.seq (-1) t.ops)) ∧ Below w.heap.size w w' := by
  have hlen : t.ops.length = xs.length := by rw [H.ops, List.length_map]
  have HR := Lib.hid H.row.row
  have HDR : Hid (∀ k, k < xs.length → t.ops.drop k = (xs.getD k ov0).1 :: t.ops.drop (k + 1)) := fun k hk => drop_ops H.ops hk
  have HFI : Hid (∀ k, k < xs.length → FitOm (xs.getD k ov0).1) := fun k hk => (H.row.at hk).fit
  have HTV : Hid (∀ p c, tv t p c = .agg #[.int .u16 t.r, .int .u32 t.seq, .int .u64 t.clock, .int .i64 t.user, .slice p xs.length c]) := fun p c => by unfold tv; rw [hlen]
  have hfi := H.fit
  have HFO : Hid (∀ k, k < xs.length → ∀ W, Below w.heap.size w W → Calls Try.prog 50 #[ov (xs.getD k ov0).1 (xs.getD k ov0).2.1 (xs.getD k ov0).2.2] W fun e w' => e = .returned (.int .i64 (fitO (xs.getD k ov0).1)) ∧ Below W.heap.size W w') := fun k hk W hb => HFO0 _ _ _ W ((H.row.at hk).below hb) (hs.at hk).1 (hs.at hk).2
  have HAT : Hid (∀ k, k < xs.length → fitO (xs.getD k ov0).1 = 0 → ∀ W, Below w.heap.size w W → Calls Try.prog 32 #[ov (xs.getD k ov0).1 (xs.getD k ov0).2.1 (xs.getD k ov0).2.2] W fun e w' => e = .returned (.int .i64 (atomsO (xs.getD k ov0).1)) ∧ Below W.heap.size W w') := fun k hk h0 W hb => atoms_spec _ _ _ W ((H.row.at hk).below hb) (hs.at hk).1 (hs.at hk).2 h0
  clear H
  unfold FitTm at hfi
  obtain ⟨f1, f2, f3, f4, f5, f6, f7, f8, -⟩ := hfi
  rw [HTV.out]
  generalize hFT : fitOs xs.length t.seq (-1) t.ops = FT
  have HFT0 : Hid (FT = fitOs xs.length t.seq (0 - 1) (t.ops.drop 0)) := by show _ = _; rw [List.drop_zero, ← hFT]; rfl
  clear hFT
  have HX := Lib.hid (heap_alloc_new w (.cells #[.int .u16 t.r, .int .u32 t.seq, .int .u64 t.clock, .int .i64 t.user, .slice p xs.length c] 27))
  go_enter Try.func30, Try.ntmps30
  go_wp2_with fail
  refine wp_scope_loop 0 (fun a' w' => ∃ (k : Nat) (next : Int) (c5 c6 c7 c8 c9 c10 c11 c12 c13 c14 c15 c16 c17 c18 c19 c20 c21 c22 c23 c24 c25 c26 c27 c28 c29 c30 c31 c32 c33 c34 c35 c36 c37 c38 c39 c40 c41 c42 c43 c44 c45 c46 c47 c48 c49 c50 c51 c52 c53 c54 c55 c56 : Value), a' = { tmps := #[.agg #[.int .u16 t.r, .int .u32 t.seq, .int .u64 t.clock, .int .i64 t.user, .slice p xs.length c], .pointer (some ⟨w.heap.size, 0, none⟩), .int .i64 0, .int .i64 (k : Int), .int .u32 next, c5, c6, c7, c8, c9, c10, c11, c12, c13, c14, c15, c16, c17, c18, c19, c20, c21, c22, c23, c24, c25, c26, c27, c28, c29, c30, c31, c32, c33, c34, c35, c36, c37, c38, c39, c40, c41, c42, c43, c44, c45, c46, c47, c48, c49, c50, c51, c52, c53, c54, c55, c56], defers := [] } ∧ k ≤ xs.length ∧ 0 ≤ next ∧ next ≤ 268435457 ∧ FT = fitOs xs.length t.seq (next - 1) (t.ops.drop k) ∧ Below (w.alloc (.cells #[.int .u16 t.r, .int .u32 t.seq, .int .u64 t.clock, .int .i64 t.user, .slice p xs.length c] 27)).heap.size (w.alloc (.cells #[.int .u16 t.r, .int .u32 t.seq, .int .u64 t.clock, .int .i64 t.user, .slice p xs.length c] 27)) w') (fun a' _ => xs.length - natOf (a'.tmps.getD 3 undef)) rfl ?_ ?_
  · intro hpass
    have HP := Lib.hid hpass
    clear hpass
    go_wp2_with fail
    go_step3
    rename_i KK hKK
    exact hKK _ _ (HP.out _ _ ⟨0, 0, _, _, _, _, _, _, _, _, _, _, _, _, _, _, _, _, _, _, _, _, _, _, _, _, _, _, _, _, _, _, _, _, _, _, _, _, _, _, _, _, _, _, _, _, _, _, _, _, _, _, _, _, rfl, Nat.zero_le _, by omega, by omega, HFT0.out, Below.refl _ _⟩)
  · clear HFT0
    rintro a' wr ⟨k, next, c5, c6, c7, c8, c9, c10, c11, c12, c13, c14, c15, c16, c17, c18, c19, c20, c21, c22, c23, c24, c25, c26, c27, c28, c29, c30, c31, c32, c33, c34, c35, c36, c37, c38, c39, c40, c41, c42, c43, c44, c45, c46, c47, c48, c49, c50, c51, c52, c53, c54, c55, c56, rfl, hk, hn0, hn1, hFT, hB⟩
    have HB := Lib.hid hB
    have HFT := Lib.hid hFT
    have HBW : Hid (Below w.heap.size w wr) := below_step (below_alloc (Below.refl _ _) _) HB.out
    have HXK := Lib.hid (kept_box HX.out HB.out)
    obtain ⟨z0, z1, z2, z3, z4⟩ := five_cells HXK.out
    clear hB hFT
    by_cases hlt : k < xs.length
    · have hkl : (k : Int) < (xs.length : Int) := by omega
      have hke : ((k : Int) == (xs.length : Int)) = false := beq_no (by omega)
      have HFOk := Lib.hid (HFO.out k hlt)
      have HATk := Lib.hid (HAT.out k hlt)
      have hfk := HFI.out k hlt
      rw [HDR.out k hlt, fitOs] at HFT
      obtain ⟨b, o, rfl, d0, d1, d2, d3, d4, d5, d6⟩ := orow_at (HR.out.below HBW.out) hlt
      generalize xs.getD k ov0 = x at d0 d1 d2 d3 d4 d5 d6 HFOk HATk HFT hfk
      obtain ⟨om, px, cx⟩ := x
      simp only at d0 d1 d2 d3 d4 d5 d6 HFOk HATk HFT hfk
      have hrg := fun h => atoms_range (o := om) h hfk
      have hks : fitO om = 0 → 1 ≤ om.kind ∧ om.kind ≤ 5 := fun h => by rcases fitO_cases h with c | c | c | c <;> omega
      have HOM : Hid (∀ p c, ov om p c = .agg #[.int .i64 om.kind, .int .u16 om.r, .int .u32 om.n, .int .u32 om.num, .string ⟨om.text.toArray⟩, .slice p om.spans.length c, .int .u32 om.seq]) := fun p c => rfl
      rw [HOM.out] at HFOk HATk
      generalize (⟨om.text.toArray⟩ : ByteArray) = bt at d4 HFOk HATk HOM
      unfold FitOm at hfk
      obtain ⟨q1, q2, q3, q4, q5, q6, q7, q8, -, q10, q11⟩ := hfk
      generalize fitO om = FO at HFOk HATk HFT hrg hks
      generalize atomsO om = AO at HATk HFT hrg
      go_wp2_with fail
      refine (HFOk.out _ (below_alloc HBW.out _)).mono ?_
      rintro e w1 ⟨rfl, hb1⟩
      have HB1 := Lib.hid (below_step (below_alloc HB.out (.cells #[.int .i64 om.kind, .int .u16 om.r, .int .u32 om.n, .int .u32 om.num, .string bt, .slice px om.spans.length cx, .int .u32 om.seq] 69)) hb1)
      have HBW1 := Lib.hid (below_step (below_alloc HBW.out (.cells #[.int .i64 om.kind, .int .u16 om.r, .int .u32 om.n, .int .u32 om.num, .string bt, .slice px om.spans.length cx, .int .u32 om.seq] 69)) hb1)
      have HY1 := Lib.hid (kept_box (heap_alloc_new wr (.cells #[.int .i64 om.kind, .int .u16 om.r, .int .u32 om.n, .int .u32 om.num, .string bt, .slice px om.spans.length cx, .int .u32 om.seq] 69)) hb1)
      have HX1 := Lib.hid (kept_box HX.out HB1.out)
      clear hb1 z0 z1 z2 z3 z4 d0 d1 d2 d3 d4 d5 d6 HXK
      obtain ⟨z0, z1, z2, z3, z4⟩ := five_cells HX1.out
      obtain ⟨y0, y1, y2, y3, y4, y5, y6⟩ := seven_cells HY1.out
      by_cases e0 : FO = 0
      · subst e0
        rw [if_neg (show ¬ (0 : Int) ≠ 0 by simp)] at HFT
        obtain ⟨r1, r2, r3, r4, r5⟩ := hrg rfl
        have hk5 := hks rfl
        have HAT1 := Lib.hid (HATk.out rfl)
        clear HFOk HATk hrg hks
        by_cases k3 : 3 < om.kind
        · have HTY := Lib.hid (tturns_yes om.kind om.r om.n om.num om.seq bt px om.spans.length cx (by omega))
          have a0 : AO = 0 := r3 k3
          subst a0
          go_wp2_with fail
          refine (HTY.out w1).mono ?_
          rintro e w2 ⟨rfl, hb2⟩
          have HB2 := Lib.hid (below_step HB1.out hb2)
          have HBW2 := Lib.hid (below_step HBW1.out hb2)
          have HY2 := Lib.hid (kept_box HY1.out hb2)
          have HX2 := Lib.hid (kept_box HX1.out hb2)
          clear hb2 z0 z1 z2 z3 z4 y0 y1 y2 y3 y4 y5 y6
          obtain ⟨z0, z1, z2, z3, z4⟩ := five_cells HX2.out
          obtain ⟨y0, y1, y2, y3, y4, y5, y6⟩ := seven_cells HY2.out
          by_cases n1 : xs.length = 1
          · have n1' : ¬ (1 : Int) < (xs.length : Int) := by omega
            have N1 := Lib.hid n1
            clear n1
            by_cases s1 : t.seq ≤ om.seq
            · rw [if_pos ⟨k3, Or.inr s1⟩] at HFT
              go_wp2_with fail
              simp only [Exit.jump]
              go_ret
              exact ⟨by rw [HFT.out]; rfl, HBW2.out⟩
            · rw [if_neg (by rintro ⟨_, a | a⟩; exact a N1.out; exact s1 a), if_neg (by omega), if_neg (by omega)] at HFT
              go_wp2_with fail
              refine (HAT1.out w2 HBW2.out).mono ?_
              rintro e w3 ⟨rfl, hb3⟩
              have HB3 := Lib.hid (below_step HB2.out hb3)
              have HBW3 := Lib.hid (below_step HBW2.out hb3)
              have HY3 := Lib.hid (kept_box HY2.out hb3)
              clear hb3 y0 y1 y2 y3 y4 y5 y6
              obtain ⟨y0, y1, y2, y3, y4, y5, y6⟩ := seven_cells HY3.out
              go_wp2_with fail
              go_step3
              exact ⟨rfl, ⟨k + 1, next, _, _, _, _, _, _, _, _, _, _, _, _, _, _, _, _, _, _, _, _, _, _, _, _, _, _, _, _, _, _, _, _, _, _, _, _, _, _, _, _, _, _, _, _, _, _, _, _, _, _, _, _, by first | rfl | go_num | (simp only [Act.put, List.setIfInBounds_toArray, List.set_cons_succ, List.set_cons_zero]; go_num), by omega, hn0, hn1, HFT.out, HB3.out⟩, by show xs.length - (((k + 1 : Nat) : Int)).toNat < xs.length - ((k : Nat) : Int).toNat; omega⟩
          · have n1' : (1 : Int) < (xs.length : Int) := by omega
            rw [if_pos ⟨k3, Or.inl n1⟩] at HFT
            go_wp2_with fail
            simp only [Exit.jump]
            go_ret
            exact ⟨by rw [HFT.out]; rfl, HBW2.out⟩
        · rw [if_neg (fun h => k3 h.1)] at HFT
          have HTN := Lib.hid (tturns_no om.kind om.r om.n om.num om.seq bt px om.spans.length cx (by omega) (by omega))
          go_wp2_with fail
          refine (HTN.out w1).mono ?_
          rintro e w2 ⟨rfl, hb2⟩
          have HB2 := Lib.hid (below_step HB1.out hb2)
          have HBW2 := Lib.hid (below_step HBW1.out hb2)
          have HY2 := Lib.hid (kept_box HY1.out hb2)
          have HX2 := Lib.hid (kept_box HX1.out hb2)
          clear hb2 z0 z1 z2 z3 z4 y0 y1 y2 y3 y4 y5 y6
          obtain ⟨z0, z1, z2, z3, z4⟩ := five_cells HX2.out
          obtain ⟨y0, y1, y2, y3, y4, y5, y6⟩ := seven_cells HY2.out
          by_cases a0 : 0 < AO
          · have hkk : om.kind = 1 ∨ om.kind = 3 := r4 a0
            obtain ⟨v1, v2, v3⟩ := r5 hkk
            have hwA : IntKind.u32.wrap AO = AO := by rw [IntKind.wrap_u32]; omega
            have hwS : IntKind.u32.wrap (om.num + AO) = om.num + AO := by rw [IntKind.wrap_u32]; omega
            by_cases l0 : next = 0
            · subst l0
              rw [if_neg (fun h => by have := h.2.1; omega), if_pos a0] at HFT
              go_wp2_with fail
              refine (HAT1.out w2 HBW2.out).mono ?_
              rintro e w3 ⟨rfl, hb3⟩
              have HB3 := Lib.hid (below_step HB2.out hb3)
              have HBW3 := Lib.hid (below_step HBW2.out hb3)
              have HY3 := Lib.hid (kept_box HY2.out hb3)
              clear hb3 y0 y1 y2 y3 y4 y5 y6
              obtain ⟨y0, y1, y2, y3, y4, y5, y6⟩ := seven_cells HY3.out
              go_wp2_with fail
              go_step3
              exact ⟨rfl, ⟨k + 1, om.num + AO, _, _, _, _, _, _, _, _, _, _, _, _, _, _, _, _, _, _, _, _, _, _, _, _, _, _, _, _, _, _, _, _, _, _, _, _, _, _, _, _, _, _, _, _, _, _, _, _, _, _, _, _, by first | rfl | go_num | (simp only [Act.put, List.setIfInBounds_toArray, List.set_cons_succ, List.set_cons_zero]; go_num), by omega, by omega, by omega, HFT.out, HB3.out⟩, by show xs.length - (((k + 1 : Nat) : Int)).toNat < xs.length - ((k : Nat) : Int).toNat; omega⟩
            · have l0' : (next != 0) = true := bne_int l0
              by_cases m0 : om.num = next
              · rw [if_neg (fun h => h.2.2 (by omega)), if_pos a0] at HFT
                have hm : (om.num != next) = false := by rw [m0]; simp
                clear m0
                go_wp2_with fail
                refine (HAT1.out w2 HBW2.out).mono ?_
                rintro e w3 ⟨rfl, hb3⟩
                have HB3 := Lib.hid (below_step HB2.out hb3)
                have HBW3 := Lib.hid (below_step HBW2.out hb3)
                have HY3 := Lib.hid (kept_box HY2.out hb3)
                clear hb3 y0 y1 y2 y3 y4 y5 y6
                obtain ⟨y0, y1, y2, y3, y4, y5, y6⟩ := seven_cells HY3.out
                go_wp2_with fail
                go_step3
                exact ⟨rfl, ⟨k + 1, om.num + AO, _, _, _, _, _, _, _, _, _, _, _, _, _, _, _, _, _, _, _, _, _, _, _, _, _, _, _, _, _, _, _, _, _, _, _, _, _, _, _, _, _, _, _, _, _, _, _, _, _, _, _, _, by first | rfl | go_num | (simp only [Act.put, List.setIfInBounds_toArray, List.set_cons_succ, List.set_cons_zero]; go_num), by omega, by omega, by omega, HFT.out, HB3.out⟩, by show xs.length - (((k + 1 : Nat) : Int)).toNat < xs.length - ((k : Nat) : Int).toNat; omega⟩
              · rw [if_pos ⟨a0, by omega, by omega⟩] at HFT
                have hm : (om.num != next) = true := bne_int m0
                go_wp2_with fail
                refine (HAT1.out w2 HBW2.out).mono ?_
                rintro e w3 ⟨rfl, hb3⟩
                have HB3 := Lib.hid (below_step HB2.out hb3)
                have HBW3 := Lib.hid (below_step HBW2.out hb3)
                have HY3 := Lib.hid (kept_box HY2.out hb3)
                clear hb3 y0 y1 y2 y3 y4 y5 y6
                obtain ⟨y0, y1, y2, y3, y4, y5, y6⟩ := seven_cells HY3.out
                go_wp2_with fail
                simp only [Exit.jump]
                go_ret
                exact ⟨by rw [HFT.out]; rfl, HBW3.out⟩
          · rw [if_neg (fun h => a0 h.1), if_neg a0] at HFT
            go_wp2_with fail
            refine (HAT1.out w2 HBW2.out).mono ?_
            rintro e w3 ⟨rfl, hb3⟩
            have HB3 := Lib.hid (below_step HB2.out hb3)
            have HBW3 := Lib.hid (below_step HBW2.out hb3)
            have HY3 := Lib.hid (kept_box HY2.out hb3)
            clear hb3 y0 y1 y2 y3 y4 y5 y6
            obtain ⟨y0, y1, y2, y3, y4, y5, y6⟩ := seven_cells HY3.out
            go_wp2_with fail
            go_step3
            exact ⟨rfl, ⟨k + 1, next, _, _, _, _, _, _, _, _, _, _, _, _, _, _, _, _, _, _, _, _, _, _, _, _, _, _, _, _, _, _, _, _, _, _, _, _, _, _, _, _, _, _, _, _, _, _, _, _, _, _, _, _, by first | rfl | go_num | (simp only [Act.put, List.setIfInBounds_toArray, List.set_cons_succ, List.set_cons_zero]; go_num), by omega, hn0, hn1, HFT.out, HB3.out⟩, by show xs.length - (((k + 1 : Nat) : Int)).toNat < xs.length - ((k : Nat) : Int).toNat; omega⟩
      · rw [if_pos e0] at HFT
        have e0' := beq_no e0
        have e0'' := bne_int e0
        go_wp2_with fail
        simp only [Exit.jump]
        go_ret
        exact ⟨by rw [HFT.out]; rfl, HBW1.out⟩
    · have : k = xs.length := by omega
      subst this
      have HE : Hid (FT = 0) := by show _ = _; rw [HFT.out, ← hlen, List.drop_length]; rfl
      go_wp2_with fail
      simp only [Exit.jump]
      go_ret
      exact ⟨by rw [HE.out]; rfl, HBW.out⟩
set_option maxHeartbeats 3200000 in
set_option maxRecDepth 20000 in
theorem fitT_of (HFO0 : FitOSpec) (t : Tm) (xs : List OV) (p : Option Addr) (c : Nat) (w : World) (H : InT t xs p c w) (hs : SmallX xs) :
    Calls Try.prog 10 #[tv t p c] w fun e w' => e = .returned (.int .i64 (fitT t)) ∧ Below w.heap.size w w' := by
  have HFT := Lib.hid (fun (W : World) (hb : Below w.heap.size w W) (h16 : xs.length ≤ 16) => fitOps_any HFO0 t xs p c W (H.below hb) hs h16)
  have hfi := H.fit
  have hlen : t.ops.length = xs.length := by rw [H.ops, List.length_map]
  have HTV : Hid (∀ p c, tv t p c = .agg #[.int .u16 t.r, .int .u32 t.seq, .int .u64 t.clock, .int .i64 t.user, .slice p xs.length c]) := fun p c => by unfold tv; rw [hlen]
  have HT : Hid (fitT t = if t.seq < 1 ∨ 268435456 < t.seq ∨ t.clock < 1 ∨ 1099511627776 < t.clock ∨ t.user < 0 ∨ 7 < t.user ∨ xs.length = 0 then 11 else if 16 < xs.length then 13 else fitOs xs.length t.seq (-1) t.ops) := by show _ = _; rw [← hlen]; rfl
  clear H hs
  rw [HTV.out] at HFT ⊢
  generalize fitT t = FT at HT ⊢
  generalize fitOs xs.length t.seq (-1) t.ops = FS at HT HFT
  have HX := Lib.hid (heap_alloc_new w (.cells #[.int .u16 t.r, .int .u32 t.seq, .int .u64 t.clock, .int .i64 t.user, .slice p xs.length c] 27))
  have HBA := Lib.hid (below_alloc (Below.refl w.heap.size w) (.cells #[.int .u16 t.r, .int .u32 t.seq, .int .u64 t.clock, .int .i64 t.user, .slice p xs.length c] 27))
  obtain ⟨z0, z1, z2, z3, z4⟩ := five_cells HX.out
  by_cases hd : t.seq < 1 ∨ 268435456 < t.seq ∨ t.clock < 1 ∨ 1099511627776 < t.clock ∨ t.user < 0 ∨ 7 < t.user
  · have HE : Hid (FT = 11) := by show _ = _; rw [HT.out, if_pos (by omega)]
    have HH := Lib.hid (head_no t.r t.seq t.clock t.user p xs.length c hd)
    clear hd HT HFT
    go_enter Try.func10, Try.ntmps10
    go_wp2_with fail
    refine (HH.out _).mono ?_
    rintro e w1 ⟨rfl, hb1⟩
    have HB1 := Lib.hid (below_step HBA.out hb1)
    have HX1 := Lib.hid (kept_box HX.out hb1)
    clear hb1 z0 z1 z2 z3 z4 HH
    obtain ⟨z0, z1, z2, z3, z4⟩ := five_cells HX1.out
    go_wp2
    go_ret
    exact ⟨by rw [HE.out]; rfl, HB1.out⟩
  have HH := Lib.hid (head_yes t.r t.seq t.clock t.user p xs.length c (by omega) (by omega) (by omega) (by omega) (by omega) (by omega))
  by_cases g6 : xs.length = 0
  · have HE : Hid (FT = 11) := by show _ = _; rw [HT.out, if_pos (by omega)]
    have g6' : ((xs.length : Int) == 0) = true := by rw [g6]; rfl
    clear hd HT HFT g6
    go_enter Try.func10, Try.ntmps10
    go_wp2_with fail
    refine (HH.out _).mono ?_
    rintro e w1 ⟨rfl, hb1⟩
    have HB1 := Lib.hid (below_step HBA.out hb1)
    have HX1 := Lib.hid (kept_box HX.out hb1)
    clear hb1 z0 z1 z2 z3 z4 HH
    obtain ⟨z0, z1, z2, z3, z4⟩ := five_cells HX1.out
    go_wp2
    go_ret
    exact ⟨by rw [HE.out]; rfl, HB1.out⟩
  have g6' : ((xs.length : Int) == 0) = false := beq_no (by omega)
  have HT2 : Hid (FT = if 16 < xs.length then 13 else FS) := by show _ = _; rw [HT.out, if_neg (by omega)]
  clear HT hd
  by_cases g7 : 16 < xs.length
  · have HE : Hid (FT = 13) := by show _ = _; rw [HT2.out, if_pos g7]
    have g7' : (16 : Int) < (xs.length : Int) := by omega
    clear HT2 HFT
    go_enter Try.func10, Try.ntmps10
    go_wp2_with fail
    refine (HH.out _).mono ?_
    rintro e w1 ⟨rfl, hb1⟩
    have HB1 := Lib.hid (below_step HBA.out hb1)
    have HX1 := Lib.hid (kept_box HX.out hb1)
    clear hb1 z0 z1 z2 z3 z4 HH
    obtain ⟨z0, z1, z2, z3, z4⟩ := five_cells HX1.out
    go_wp2
    go_ret
    exact ⟨by rw [HE.out]; rfl, HB1.out⟩
  have g7' : ¬ (16 : Int) < (xs.length : Int) := by omega
  have HE : Hid (FT = FS) := by show _ = _; rw [HT2.out, if_neg g7]
  have HF1 := Lib.hid (fun W hb => HFT.out W hb (by omega))
  clear HT2 HFT
  go_enter Try.func10, Try.ntmps10
  go_wp2_with fail
  refine (HH.out _).mono ?_
  rintro e w1 ⟨rfl, hb1⟩
  have HB1 := Lib.hid (below_step HBA.out hb1)
  have HX1 := Lib.hid (kept_box HX.out hb1)
  clear hb1 z0 z1 z2 z3 z4 HH
  obtain ⟨z0, z1, z2, z3, z4⟩ := five_cells HX1.out
  go_wp2_with fail
  refine (HF1.out _ HB1.out).mono ?_
  rintro e w2 ⟨rfl, hb2⟩
  have HB2 := Lib.hid (below_step HB1.out hb2)
  clear hb2
  go_wp2
  go_ret
  exact ⟨by rw [HE.out]; rfl, HB2.out⟩
end Go.Proofs.Ytedlmngfkkpmgaa
