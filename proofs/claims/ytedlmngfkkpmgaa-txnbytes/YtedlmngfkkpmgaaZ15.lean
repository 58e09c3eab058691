/-
  Several texts of one proof, joined: each part says at its head what it proves. No conditions beyond what each theorem states.
-/
import Derived.Test.YtedlmngfkkpmgaaZ08
/-
  What the document's Fit of layer 9 hands back. No conditions beyond what each theorem states.
-/
namespace Go.Proofs.Ytedlmngfkkpmgaa
open Go.ChangeShapes Go.WideShapes Go.ChangeAt Go.RowKit Go.Lib
set_option linter.unusedVariables false
set_option linter.unusedSimpArgs false

set_option maxHeartbeats 6400000 in
set_option maxRecDepth 20000 in
theorem reffitT_any (t : Tm) (xs : List OV) (p : Option Addr) (c : Nat) (w : World) (H : InT t xs p c w) (hs : SmallX xs) :
    Calls Try.prog 9 #[tv t p c] w fun e w' => e = .returned (.int .i64 (fitT t)) ∧ Below w.heap.size w w' := by
  have hlen : t.ops.length = xs.length := by rw [H.ops, List.length_map]
  have HR := Lib.hid H.row.row
  have HDR : Hid (∀ k, k < xs.length → t.ops.drop k = (xs.getD k ov0).1 :: t.ops.drop (k + 1)) := fun k hk => drop_ops H.ops hk
  have HFI : Hid (∀ k, k < xs.length → FitOm (xs.getD k ov0).1) := fun k hk => (H.row.at hk).fit
  have HTV : Hid (∀ p c, tv t p c = .agg #[.int .u16 t.r, .int .u32 t.seq, .int .u64 t.clock, .int .i64 t.user, .slice p xs.length c]) := fun p c => by unfold tv; rw [hlen]
  have hfi := H.fit
  have HFO : Hid (∀ k, k < xs.length → ∀ W, Below w.heap.size w W → Calls Try.prog 27 #[ov (xs.getD k ov0).1 (xs.getD k ov0).2.1 (xs.getD k ov0).2.2] W fun e w' => e = .returned (.int .i64 (fitO (xs.getD k ov0).1)) ∧ Below W.heap.size W w') := fun k hk W hb => reffit8_any _ _ _ W ⟨(H.row.at hk).fit, (H.row.at hk).row.below hb, by have := (hs.at hk).2; omega, by have := (hs.at hk).1; omega⟩
  have HAT : Hid (∀ k, k < xs.length → fitO (xs.getD k ov0).1 = 0 → ∀ W, Below w.heap.size w W → Calls Try.prog 28 #[ov (xs.getD k ov0).1 (xs.getD k ov0).2.1 (xs.getD k ov0).2.2] W fun e w' => e = .returned (.int .i64 (atomsO (xs.getD k ov0).1)) ∧ Below W.heap.size W w') := fun k hk h0 W hb => refatoms_any _ _ _ W ((H.row.at hk).row.below hb) (counts_of_fit h0) (by have := (hs.at hk).2; omega) (by have := (hs.at hk).1; omega)
  have HT : Hid (fitT t = if t.seq < 1 ∨ 268435456 < t.seq ∨ t.clock < 1 ∨ 1099511627776 < t.clock ∨ t.user < 0 ∨ 7 < t.user ∨ xs.length = 0 then 11 else if 16 < xs.length then 13 else fitOs xs.length t.seq (-1) t.ops) := by show _ = _; rw [← hlen]; rfl
  clear H
  unfold FitTm at hfi
  obtain ⟨f1, f2, f3, f4, f5, f6, f7, f8, -⟩ := hfi
  rw [HTV.out]
  generalize fitT t = FT at HT ⊢
  have HX := Lib.hid (heap_alloc_new w (.cells #[.int .u16 t.r, .int .u32 t.seq, .int .u64 t.clock, .int .i64 t.user, .slice p xs.length c] 32))
  by_cases g0 : t.seq < 1
  · have HE : Hid (FT = 11) := by show _ = _; rw [HT.out, if_pos (Or.inl g0)]
    clear HT HFO HAT HR HDR HFI HX
    go_enter Try.func9, Try.ntmps9
    go_wp2
    go_ret
    exact ⟨by rw [HE.out]; rfl, below_alloc (Below.refl _ _) _⟩
  by_cases g1 : 268435456 < t.seq
  · have HE : Hid (FT = 11) := by show _ = _; rw [HT.out, if_pos (Or.inr (Or.inl g1))]
    clear HT HFO HAT HR HDR HFI HX
    go_enter Try.func9, Try.ntmps9
    go_wp2
    go_ret
    exact ⟨by rw [HE.out]; rfl, below_alloc (Below.refl _ _) _⟩
  by_cases g2 : t.clock < 1
  · have HE : Hid (FT = 11) := by show _ = _; rw [HT.out, if_pos (Or.inr (Or.inr (Or.inl g2)))]
    clear HT HFO HAT HR HDR HFI HX
    go_enter Try.func9, Try.ntmps9
    go_wp2
    go_ret
    exact ⟨by rw [HE.out]; rfl, below_alloc (Below.refl _ _) _⟩
  by_cases g3 : 1099511627776 < t.clock
  · have HE : Hid (FT = 11) := by show _ = _; rw [HT.out, if_pos (Or.inr (Or.inr (Or.inr (Or.inl g3))))]
    clear HT HFO HAT HR HDR HFI HX
    go_enter Try.func9, Try.ntmps9
    go_wp2
    go_ret
    exact ⟨by rw [HE.out]; rfl, below_alloc (Below.refl _ _) _⟩
  by_cases g4 : t.user < 0
  · have HE : Hid (FT = 11) := by show _ = _; rw [HT.out, if_pos (Or.inr (Or.inr (Or.inr (Or.inr (Or.inl g4)))))]
    clear HT HFO HAT HR HDR HFI HX
    go_enter Try.func9, Try.ntmps9
    go_wp2
    go_ret
    exact ⟨by rw [HE.out]; rfl, below_alloc (Below.refl _ _) _⟩
  by_cases g5 : 7 < t.user
  · have HE : Hid (FT = 11) := by show _ = _; rw [HT.out, if_pos (Or.inr (Or.inr (Or.inr (Or.inr (Or.inr (Or.inl g5))))))]
    clear HT HFO HAT HR HDR HFI HX
    go_enter Try.func9, Try.ntmps9
    go_wp2
    go_ret
    exact ⟨by rw [HE.out]; rfl, below_alloc (Below.refl _ _) _⟩
  by_cases g6 : xs.length = 0
  · have HE : Hid (FT = 11) := by show _ = _; rw [HT.out, if_pos (Or.inr (Or.inr (Or.inr (Or.inr (Or.inr (Or.inr g6))))))]
    have g6' : ((xs.length : Int) == 0) = true := by rw [g6]; rfl
    clear HT HFO HAT HR HDR HFI HX
    go_enter Try.func9, Try.ntmps9
    go_wp2
    go_ret
    exact ⟨by rw [HE.out]; rfl, below_alloc (Below.refl _ _) _⟩
  have g6' : ((xs.length : Int) == 0) = false := beq_no (by omega)
  have HT2 : Hid (FT = if 16 < xs.length then 13 else fitOs xs.length t.seq (-1) t.ops) := by show _ = _; rw [HT.out, if_neg (by rintro (a | a | a | a | a | a | a); exact g0 a; exact g1 a; exact g2 a; exact g3 a; exact g4 a; exact g5 a; exact g6 a)]
  clear HT
  by_cases g7 : 16 < xs.length
  · have HE : Hid (FT = 13) := by show _ = _; rw [HT2.out, if_pos g7]
    have g7' : (16 : Int) < (xs.length : Int) := by omega
    clear HT2 HFO HAT HR HDR HFI HX
    go_enter Try.func9, Try.ntmps9
    go_wp2
    go_ret
    exact ⟨by rw [HE.out]; rfl, below_alloc (Below.refl _ _) _⟩
  have g7' : ¬ (16 : Int) < (xs.length : Int) := by omega
  have HT3 : Hid (FT = fitOs xs.length t.seq (-1) t.ops) := by show _ = _; rw [HT2.out, if_neg g7]
  clear HT2
  go_enter Try.func9, Try.ntmps9
  go_wp2
  go_loopg [3, 4] xs.length (fun g a i wr => ∃ (k : Nat) (last : Int), k ≤ xs.length ∧ xs.length - k ≤ g ∧ i = .int .i64 (k : Int) ∧ a = .int .i64 last ∧ -1 ≤ last ∧ last ≤ 268435456 ∧ FT = fitOs xs.length t.seq last (t.ops.drop k) ∧ Below (w.alloc (.cells #[.int .u16 t.r, .int .u32 t.seq, .int .u64 t.clock, .int .i64 t.user, .slice p xs.length c] 32)).heap.size (w.alloc (.cells #[.int .u16 t.r, .int .u32 t.seq, .int .u64 t.clock, .int .i64 t.user, .slice p xs.length c] 32)) wr)
  case atStart => exact ⟨0, -1, Nat.zero_le _, by omega, rfl, rfl, by omega, by omega, by rw [List.drop_zero]; exact HT3.out, Below.refl _ _⟩
  case round =>
    clear HT3
    obtain ⟨k, last, hk, hg, rfl, rfl, hl0, hl1, hFT, hB⟩ := hrel
    have HB := Lib.hid hB
    have HFT := Lib.hid hFT
    have HBW : Hid (Below w.heap.size w wr) := below_step (below_alloc (Below.refl _ _) _) HB.out
    have HXK := Lib.hid (kept_box HX.out HB.out)
    obtain ⟨z0, z1, z2, z3, z4⟩ := five_cells HXK.out
    clear hB hFT
    by_cases hlt : k < xs.length
    · have hkl : (k : Int) < (xs.length : Int) := by omega
      have HFOk := Lib.hid (HFO.out k hlt)
      have HATk := Lib.hid (HAT.out k hlt)
      have hfk := HFI.out k hlt
      rw [HDR.out k hlt, fitOs] at HFT
      obtain ⟨b, o, rfl, c0, c1, c2, c3, c4, c5, c6⟩ := orow_at (HR.out.below HBW.out) hlt
      generalize xs.getD k ov0 = x at c0 c1 c2 c3 c4 c5 c6 HFOk HATk HFT hfk
      obtain ⟨om, px, cx⟩ := x
      simp only at c0 c1 c2 c3 c4 c5 c6 HFOk HATk HFT hfk
      have hrg := fun h => atoms_range (o := om) h hfk
      have HOM : Hid (∀ p c, ov om p c = .agg #[.int .i64 om.kind, .int .u16 om.r, .int .u32 om.n, .int .u32 om.num, .string ⟨om.text.toArray⟩, .slice p om.spans.length c, .int .u32 om.seq]) := fun p c => rfl
      rw [HOM.out] at HFOk HATk
      generalize (⟨om.text.toArray⟩ : ByteArray) = bt at c4 HFOk HATk HOM
      unfold FitOm at hfk
      obtain ⟨q1, q2, q3, q4, q5, q6, q7, q8, -, q10, q11⟩ := hfk
      generalize fitO om = FO at HFOk HATk HFT hrg
      generalize atomsO om = AO at HATk HFT hrg
      go_wp2_with fail
      refine (HFOk.out _ (below_alloc HBW.out _)).mono ?_
      rintro e w1 ⟨rfl, hb1⟩
      have HB1 := Lib.hid (below_step (below_alloc HB.out (.cells #[.int .i64 om.kind, .int .u16 om.r, .int .u32 om.n, .int .u32 om.num, .string bt, .slice px om.spans.length cx, .int .u32 om.seq] 49)) hb1)
      have HBW1 := Lib.hid (below_step (below_alloc HBW.out (.cells #[.int .i64 om.kind, .int .u16 om.r, .int .u32 om.n, .int .u32 om.num, .string bt, .slice px om.spans.length cx, .int .u32 om.seq] 49)) hb1)
      have HY1 := Lib.hid (kept_box (heap_alloc_new wr (.cells #[.int .i64 om.kind, .int .u16 om.r, .int .u32 om.n, .int .u32 om.num, .string bt, .slice px om.spans.length cx, .int .u32 om.seq] 49)) hb1)
      have HX1 := Lib.hid (kept_box HX.out HB1.out)
      clear hb1 z0 z1 z2 z3 z4 c0 c1 c2 c3 c4 c5 c6 HXK
      obtain ⟨z0, z1, z2, z3, z4⟩ := five_cells HX1.out
      obtain ⟨y0, y1, y2, y3, y4, y5, y6⟩ := seven_cells HY1.out
      by_cases e0 : FO = 0
      · subst e0
        rw [if_neg (show ¬ (0 : Int) ≠ 0 by simp)] at HFT
        obtain ⟨r1, r2, r3, r4, r5⟩ := hrg rfl
        have HAT1 := Lib.hid (HATk.out rfl w1 HBW1.out)
        clear HFOk HATk hrg
        by_cases k3 : 3 < om.kind
        · have a0 : AO = 0 := r3 k3
          subst a0
          by_cases n1 : xs.length = 1
          · have n1' : ((xs.length : Int) != 1) = false := by rw [n1]; rfl
            have N1 := Lib.hid n1
            clear n1
            by_cases s1 : t.seq ≤ om.seq
            · rw [if_pos ⟨k3, Or.inr s1⟩] at HFT
              go_wp2
              go_ret
              exact ⟨by rw [HFT.out]; rfl, HBW1.out⟩
            · rw [if_neg (by rintro ⟨_, a | a⟩; exact a N1.out; exact s1 a), if_neg (by omega), if_neg (by omega)] at HFT
              go_wp2_with fail
              refine HAT1.out.mono ?_
              rintro e w2 ⟨rfl, hb2⟩
              have HB2 := Lib.hid (below_step HB1.out hb2)
              clear hb2
              go_wp2
              go_roundg (xs.length - (k + 1))
              case measure => omega
              case rel => exact ⟨k + 1, last, by omega, Nat.le_refl _, by go_num, rfl, hl0, hl1, HFT.out, HB2.out⟩
          · have n1' : ((xs.length : Int) != 1) = true := bne_int (by omega)
            rw [if_pos ⟨k3, Or.inl n1⟩] at HFT
            go_wp2
            go_ret
            exact ⟨by rw [HFT.out]; rfl, HBW1.out⟩
        · rw [if_neg (fun h => k3 h.1)] at HFT
          by_cases a0 : 0 < AO
          · by_cases l0 : 0 ≤ last
            · by_cases m0 : om.num = last + 1
              · rw [if_neg (fun h => h.2.2 m0), if_pos a0] at HFT
                have M0 := Lib.hid m0
                have hw1 : IntKind.i64.wrap (last + 1) = last + 1 := by rw [IntKind.wrap_i64]; omega
                have hw2 : IntKind.i64.wrap om.num = om.num := by rw [IntKind.wrap_i64]; omega
                have hw3 : IntKind.i64.wrap (om.num + AO) = om.num + AO := by rw [IntKind.wrap_i64]; omega
                have hw4 : IntKind.i64.wrap (om.num + AO - 1) = om.num + AO - 1 := by rw [IntKind.wrap_i64]; omega
                have hm : (om.num != last + 1) = false := by rw [m0]; simp
                clear m0
                have hkk : om.kind = 1 ∨ om.kind = 3 := r4 a0
                go_wp2_with fail
                refine HAT1.out.mono ?_
                rintro e w2 ⟨rfl, hb2⟩
                have HB2 := Lib.hid (below_step HB1.out hb2)
                have HY2 := Lib.hid (kept_box HY1.out hb2)
                clear hb2 y0 y1 y2 y3 y4 y5 y6
                obtain ⟨y0, y1, y2, y3, y4, y5, y6⟩ := seven_cells HY2.out
                go_wp2
                go_roundg (xs.length - (k + 1))
                case measure => omega
                case rel => exact ⟨k + 1, om.num + AO - 1, by omega, Nat.le_refl _, by go_num, rfl, by have := r5 hkk; omega, by have := r5 hkk; omega, HFT.out, HB2.out⟩
              · rw [if_pos ⟨a0, l0, m0⟩] at HFT
                have hw1 : IntKind.i64.wrap (last + 1) = last + 1 := by rw [IntKind.wrap_i64]; omega
                have hw2 : IntKind.i64.wrap om.num = om.num := by rw [IntKind.wrap_i64]; omega
                have hm : (om.num != last + 1) = true := bne_int m0
                go_wp2_with fail
                refine HAT1.out.mono ?_
                rintro e w2 ⟨rfl, hb2⟩
                have HB2 := Lib.hid (below_step HB1.out hb2)
                have HY2 := Lib.hid (kept_box HY1.out hb2)
                have HBW2 := Lib.hid (below_step HBW1.out hb2)
                clear hb2 y0 y1 y2 y3 y4 y5 y6
                obtain ⟨y0, y1, y2, y3, y4, y5, y6⟩ := seven_cells HY2.out
                go_wp2
                go_ret
                exact ⟨by rw [HFT.out]; rfl, HBW2.out⟩
            · rw [if_neg (fun h => l0 h.2.1), if_pos a0] at HFT
              have hw2 : IntKind.i64.wrap om.num = om.num := by rw [IntKind.wrap_i64]; omega
              have hw3 : IntKind.i64.wrap (om.num + AO) = om.num + AO := by rw [IntKind.wrap_i64]; omega
              have hw4 : IntKind.i64.wrap (om.num + AO - 1) = om.num + AO - 1 := by rw [IntKind.wrap_i64]; omega
              have hkk : om.kind = 1 ∨ om.kind = 3 := r4 a0
              go_wp2_with fail
              refine HAT1.out.mono ?_
              rintro e w2 ⟨rfl, hb2⟩
              have HB2 := Lib.hid (below_step HB1.out hb2)
              have HY2 := Lib.hid (kept_box HY1.out hb2)
              have HBW2 := Lib.hid (below_step HBW1.out hb2)
              clear hb2 y0 y1 y2 y3 y4 y5 y6
              obtain ⟨y0, y1, y2, y3, y4, y5, y6⟩ := seven_cells HY2.out
              go_wp2
              go_roundg (xs.length - (k + 1))
              case measure => omega
              case rel => exact ⟨k + 1, om.num + AO - 1, by omega, Nat.le_refl _, by go_num, rfl, by have := r5 hkk; omega, by have := r5 hkk; omega, HFT.out, HB2.out⟩
          · rw [if_neg (fun h => a0 h.1), if_neg a0] at HFT
            go_wp2_with fail
            refine HAT1.out.mono ?_
            rintro e w2 ⟨rfl, hb2⟩
            have HB2 := Lib.hid (below_step HB1.out hb2)
            have HY2 := Lib.hid (kept_box HY1.out hb2)
            have HBW2 := Lib.hid (below_step HBW1.out hb2)
            clear hb2 y0 y1 y2 y3 y4 y5 y6
            obtain ⟨y0, y1, y2, y3, y4, y5, y6⟩ := seven_cells HY2.out
            go_wp2
            go_roundg (xs.length - (k + 1))
            case measure => omega
            case rel => exact ⟨k + 1, last, by omega, Nat.le_refl _, by go_num, rfl, hl0, hl1, HFT.out, HB2.out⟩
      · rw [if_pos e0] at HFT
        have e0' := beq_no e0
        have e0'' := bne_int e0
        go_wp2
        go_ret
        exact ⟨by rw [HFT.out]; rfl, HBW1.out⟩
    · have : k = xs.length := by omega
      subst this
      have hkl : ¬ (xs.length : Int) < (xs.length : Int) := by omega
      have HE : Hid (FT = 0) := by show _ = _; rw [HFT.out, ← hlen, List.drop_length]; rfl
      go_wp2
      go_ret
      exact ⟨by rw [HE.out]; rfl, HBW.out⟩

end Go.Proofs.Ytedlmngfkkpmgaa
