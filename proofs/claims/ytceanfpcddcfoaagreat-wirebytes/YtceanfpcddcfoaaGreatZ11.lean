/-
  Several texts of one proof, joined: each part says at its head what it proves. No conditions beyond what each theorem states.
-/
import Derived.Test.YtceanfpcddcfoaaGreatZ10
import Derived.Test.YtceanfpcddcfoaaGreatZ09
import Derived.Test.YtceanfpcddcfoaaGreatZ08
import Derived.Test.YtceanfpcddcfoaaGreatZ07
import Derived.Test.YtceanfpcddcfoaaGreatZ03
/-
  What the document's Fit of layer 9 hands back. No conditions beyond what each theorem states.
-/
namespace Go.Proofs.YtceanfpcddcfoaaGreat
open Go.ChangeShapes Go.WideShapes Go.ChangeAt Go.RowKit Go.Lib
set_option linter.unusedVariables false
set_option linter.unusedSimpArgs false

set_option maxHeartbeats 6400000 in
set_option maxRecDepth 20000 in
theorem reffitT_any (t : Tm) (xs : List OV) (p : Option Addr) (c : Nat) (w : World) (H : LieT t xs p w) (hs : SmallX xs) :
    Calls Tryz.prog 30 #[tv t p c] w fun e w' => e = .returned (.int .i64 (fitT t)) ∧ Below w.heap.size w w' := by
  have hlen : t.ops.length = xs.length := by rw [H.ops, List.length_map]
  have HR := Lib.hid H.row
  have HDR : Hid (∀ k, k < xs.length → t.ops.drop k = (xs.getD k ov0).1 :: t.ops.drop (k + 1)) := fun k hk => drop_ops H.ops hk
  have HFI : Hid (∀ k, k < xs.length → FitOm (xs.getD k ov0).1) := fun k hk => (H.fitAt hk)
  have HTV : Hid (∀ p c, tv t p c = .agg #[.int .u16 t.r, .int .u32 t.seq, .int .u64 t.clock, .int .i64 t.user, .slice p xs.length c]) := fun p c => by unfold tv; rw [hlen]
  have hfi := H.fit
  have HFO : Hid (∀ k, k < xs.length → ∀ W, Below w.heap.size w W → Calls Tryz.prog 61 #[ov (xs.getD k ov0).1 (xs.getD k ov0).2.1 (xs.getD k ov0).2.2] W fun e w' => e = .returned (.int .i64 (fitO (xs.getD k ov0).1)) ∧ Below W.heap.size W w') := fun k hk W hb => reffit8_any _ _ _ W ⟨(H.fitAt hk), (H.rowAt hk).below hb, by have := (hs.at hk).2; omega, by have := (hs.at hk).1; omega⟩
  have HAT : Hid (∀ k, k < xs.length → fitO (xs.getD k ov0).1 = 0 → ∀ W, Below w.heap.size w W → Calls Tryz.prog 25 #[ov (xs.getD k ov0).1 (xs.getD k ov0).2.1 (xs.getD k ov0).2.2] W fun e w' => e = .returned (.int .i64 (atomsO (xs.getD k ov0).1)) ∧ Below W.heap.size W w') := fun k hk h0 W hb => refatoms_any _ _ _ W ((H.rowAt hk).below hb) (counts_of_fit h0) (by have := (hs.at hk).2; omega) (by have := (hs.at hk).1; omega)
  have HT : Hid (fitT t = if t.seq < 1 ∨ 268435456 < t.seq ∨ t.clock < 1 ∨ 1099511627776 < t.clock ∨ t.user < 0 ∨ 7 < t.user ∨ xs.length = 0 then 11 else if 16 < xs.length then 13 else fitOs xs.length t.seq (-1) t.ops) := by show _ = _; rw [← hlen]; rfl
  clear H
  unfold FitTm at hfi
  obtain ⟨f1, f2, f3, f4, f5, f6, f7, f8, -⟩ := hfi
  rw [HTV.out]
  generalize fitT t = FT at HT ⊢
  have HX := Lib.hid (heap_alloc_new w (.cells #[.int .u16 t.r, .int .u32 t.seq, .int .u64 t.clock, .int .i64 t.user, .slice p xs.length c] 37))
  by_cases g0 : t.seq < 1
  · have HE : Hid (FT = 11) := by show _ = _; rw [HT.out, if_pos (Or.inl g0)]
    clear HT HFO HAT HR HDR HFI HX
    go_enter Tryz.func30, Tryz.ntmps30
    go_wp2
    go_ret
    exact ⟨by rw [HE.out]; rfl, below_alloc (Below.refl _ _) _⟩
  by_cases g1 : 268435456 < t.seq
  · have HE : Hid (FT = 11) := by show _ = _; rw [HT.out, if_pos (Or.inr (Or.inl g1))]
    clear HT HFO HAT HR HDR HFI HX
    go_enter Tryz.func30, Tryz.ntmps30
    go_wp2
    go_ret
    exact ⟨by rw [HE.out]; rfl, below_alloc (Below.refl _ _) _⟩
  by_cases g2 : t.clock < 1
  · have HE : Hid (FT = 11) := by show _ = _; rw [HT.out, if_pos (Or.inr (Or.inr (Or.inl g2)))]
    clear HT HFO HAT HR HDR HFI HX
    go_enter Tryz.func30, Tryz.ntmps30
    go_wp2
    go_ret
    exact ⟨by rw [HE.out]; rfl, below_alloc (Below.refl _ _) _⟩
  by_cases g3 : 1099511627776 < t.clock
  · have HE : Hid (FT = 11) := by show _ = _; rw [HT.out, if_pos (Or.inr (Or.inr (Or.inr (Or.inl g3))))]
    clear HT HFO HAT HR HDR HFI HX
    go_enter Tryz.func30, Tryz.ntmps30
    go_wp2
    go_ret
    exact ⟨by rw [HE.out]; rfl, below_alloc (Below.refl _ _) _⟩
  by_cases g4 : t.user < 0
  · have HE : Hid (FT = 11) := by show _ = _; rw [HT.out, if_pos (Or.inr (Or.inr (Or.inr (Or.inr (Or.inl g4)))))]
    clear HT HFO HAT HR HDR HFI HX
    go_enter Tryz.func30, Tryz.ntmps30
    go_wp2
    go_ret
    exact ⟨by rw [HE.out]; rfl, below_alloc (Below.refl _ _) _⟩
  by_cases g5 : 7 < t.user
  · have HE : Hid (FT = 11) := by show _ = _; rw [HT.out, if_pos (Or.inr (Or.inr (Or.inr (Or.inr (Or.inr (Or.inl g5))))))]
    clear HT HFO HAT HR HDR HFI HX
    go_enter Tryz.func30, Tryz.ntmps30
    go_wp2
    go_ret
    exact ⟨by rw [HE.out]; rfl, below_alloc (Below.refl _ _) _⟩
  by_cases g6 : xs.length = 0
  · have HE : Hid (FT = 11) := by show _ = _; rw [HT.out, if_pos (Or.inr (Or.inr (Or.inr (Or.inr (Or.inr (Or.inr g6))))))]
    have g6' : ((xs.length : Int) == 0) = true := by rw [g6]; rfl
    clear HT HFO HAT HR HDR HFI HX
    go_enter Tryz.func30, Tryz.ntmps30
    go_wp2
    go_ret
    exact ⟨by rw [HE.out]; rfl, below_alloc (Below.refl _ _) _⟩
  have g6' : ((xs.length : Int) == 0) = false := beq_no (by omega)
  have HT2 : Hid (FT = if 16 < xs.length then 13 else fitOs xs.length t.seq (-1) t.ops) := by show _ = _; rw [HT.out, if_neg (by rintro (a | a | a | a | a | a | a); exact g0 a; exact g1 a; exact g2 a; exact g3 a; exact g4 a; exact g5 a; exact g6 a)]
  clear HT
  by_cases g7 : 16 < xs.length
  · have HE : Hid (FT = 13) := by show _ = _; rw [HT2.out, if_pos g7]
    have g7' : (16 : Int) < (xs.length : Int) := by omega
    clear HT2 HFO HAT HR HDR HFI HX
    go_enter Tryz.func30, Tryz.ntmps30
    go_wp2
    go_ret
    exact ⟨by rw [HE.out]; rfl, below_alloc (Below.refl _ _) _⟩
  have g7' : ¬ (16 : Int) < (xs.length : Int) := by omega
  have HT3 : Hid (FT = fitOs xs.length t.seq (-1) t.ops) := by show _ = _; rw [HT2.out, if_neg g7]
  clear HT2
  go_enter Tryz.func30, Tryz.ntmps30
  go_wp2
  go_loopg [3, 4] xs.length (fun g a i wr => ∃ (k : Nat) (last : Int), k ≤ xs.length ∧ xs.length - k ≤ g ∧ i = .int .i64 (k : Int) ∧ a = .int .i64 last ∧ -1 ≤ last ∧ last ≤ 268435456 ∧ FT = fitOs xs.length t.seq last (t.ops.drop k) ∧ Below (w.alloc (.cells #[.int .u16 t.r, .int .u32 t.seq, .int .u64 t.clock, .int .i64 t.user, .slice p xs.length c] 37)).heap.size (w.alloc (.cells #[.int .u16 t.r, .int .u32 t.seq, .int .u64 t.clock, .int .i64 t.user, .slice p xs.length c] 37)) wr)
  case atStart => exact ⟨0, -1, Nat.zero_le _, by omega, rfl, rfl, by omega, by omega, by rw [List.drop_zero]; exact HT3.out, Below.refl _ _⟩
  case round =>
    clear HT3
    obtain ⟨k, last, hk, hg, rfl, rfl, hl0, hl1, hFT, hB⟩ := hrel
    have HB := Lib.hid hB
    have HFT := Lib.hid hFT
    have HBW : Hid (Below w.heap.size w wr) := below_step (below_alloc (Below.refl _ _) _) HB.out
    have HXK := Lib.hid (kept_box HX.out HB.out)
    obtain ⟨z0, z1, z2, z3, z4⟩ := five_cells HXK.out
    clear hB hFT
    by_cases hlt : k < xs.length
    · have hkl : (k : Int) < (xs.length : Int) := by omega
      have HFOk := Lib.hid (HFO.out k hlt)
      have HATk := Lib.hid (HAT.out k hlt)
      have hfk := HFI.out k hlt
      rw [HDR.out k hlt, fitOs] at HFT
      obtain ⟨b, o, rfl, c0, c1, c2, c3, c4, c5, c6⟩ := orow_at (HR.out.below HBW.out) hlt
      generalize xs.getD k ov0 = x at c0 c1 c2 c3 c4 c5 c6 HFOk HATk HFT hfk
      obtain ⟨om, px, cx⟩ := x
      simp only at c0 c1 c2 c3 c4 c5 c6 HFOk HATk HFT hfk
      have hrg := fun h => atoms_range (o := om) h hfk
      have HOM : Hid (∀ p c, ov om p c = .agg #[.int .i64 om.kind, .int .u16 om.r, .int .u32 om.n, .int .u32 om.num, .string ⟨om.text.toArray⟩, .slice p om.spans.length c, .int .u32 om.seq]) := fun p c => rfl
      rw [HOM.out] at HFOk HATk
      generalize (⟨om.text.toArray⟩ : ByteArray) = bt at c4 HFOk HATk HOM
      unfold FitOm at hfk
      obtain ⟨q1, q2, q3, q4, q5, q6, q7, q8, -, q10, q11⟩ := hfk
      generalize fitO om = FO at HFOk HATk HFT hrg
      generalize atomsO om = AO at HATk HFT hrg
      go_wp2_with fail
      refine (HFOk.out _ (below_alloc HBW.out _)).mono ?_
      rintro e w1 ⟨rfl, hb1⟩
      have HB1 := Lib.hid (below_step (below_alloc HB.out (.cells #[.int .i64 om.kind, .int .u16 om.r, .int .u32 om.n, .int .u32 om.num, .string bt, .slice px om.spans.length cx, .int .u32 om.seq] 71)) hb1)
      have HBW1 := Lib.hid (below_step (below_alloc HBW.out (.cells #[.int .i64 om.kind, .int .u16 om.r, .int .u32 om.n, .int .u32 om.num, .string bt, .slice px om.spans.length cx, .int .u32 om.seq] 71)) hb1)
      have HY1 := Lib.hid (kept_box (heap_alloc_new wr (.cells #[.int .i64 om.kind, .int .u16 om.r, .int .u32 om.n, .int .u32 om.num, .string bt, .slice px om.spans.length cx, .int .u32 om.seq] 71)) hb1)
      have HX1 := Lib.hid (kept_box HX.out HB1.out)
      clear hb1 z0 z1 z2 z3 z4 c0 c1 c2 c3 c4 c5 c6 HXK
      obtain ⟨z0, z1, z2, z3, z4⟩ := five_cells HX1.out
      obtain ⟨y0, y1, y2, y3, y4, y5, y6⟩ := seven_cells HY1.out
      by_cases e0 : FO = 0
      · subst e0
        rw [if_neg (show ¬ (0 : Int) ≠ 0 by simp)] at HFT
        obtain ⟨r1, r2, r3, r4, r5⟩ := hrg rfl
        have HAT1 := Lib.hid (HATk.out rfl w1 HBW1.out)
        clear HFOk HATk hrg
        by_cases k3 : 3 < om.kind
        · have a0 : AO = 0 := r3 k3
          subst a0
          by_cases n1 : xs.length = 1
          · have n1' : ((xs.length : Int) != 1) = false := by rw [n1]; rfl
            have N1 := Lib.hid n1
            clear n1
            by_cases s1 : t.seq ≤ om.seq
            · rw [if_pos ⟨k3, Or.inr s1⟩] at HFT
              go_wp2
              go_ret
              exact ⟨by rw [HFT.out]; rfl, HBW1.out⟩
            · rw [if_neg (by rintro ⟨_, a | a⟩; exact a N1.out; exact s1 a), if_neg (by omega), if_neg (by omega)] at HFT
              go_wp2_with fail
              refine HAT1.out.mono ?_
              rintro e w2 ⟨rfl, hb2⟩
              have HB2 := Lib.hid (below_step HB1.out hb2)
              clear hb2
              go_wp2
              go_roundg (xs.length - (k + 1))
              case measure => omega
              case rel => exact ⟨k + 1, last, by omega, Nat.le_refl _, by go_num, rfl, hl0, hl1, HFT.out, HB2.out⟩
          · have n1' : ((xs.length : Int) != 1) = true := bne_int (by omega)
            rw [if_pos ⟨k3, Or.inl n1⟩] at HFT
            go_wp2
            go_ret
            exact ⟨by rw [HFT.out]; rfl, HBW1.out⟩
        · rw [if_neg (fun h => k3 h.1)] at HFT
          by_cases a0 : 0 < AO
          · by_cases l0 : 0 ≤ last
            · by_cases m0 : om.num = last + 1
              · rw [if_neg (fun h => h.2.2 m0), if_pos a0] at HFT
                have M0 := Lib.hid m0
                have hw1 : IntKind.i64.wrap (last + 1) = last + 1 := by rw [IntKind.wrap_i64]; omega
                have hw2 : IntKind.i64.wrap om.num = om.num := by rw [IntKind.wrap_i64]; omega
                have hw3 : IntKind.i64.wrap (om.num + AO) = om.num + AO := by rw [IntKind.wrap_i64]; omega
                have hw4 : IntKind.i64.wrap (om.num + AO - 1) = om.num + AO - 1 := by rw [IntKind.wrap_i64]; omega
                have hm : (om.num != last + 1) = false := by rw [m0]; simp
                clear m0
                have hkk : om.kind = 1 ∨ om.kind = 3 := r4 a0
                go_wp2_with fail
                refine HAT1.out.mono ?_
                rintro e w2 ⟨rfl, hb2⟩
                have HB2 := Lib.hid (below_step HB1.out hb2)
                have HY2 := Lib.hid (kept_box HY1.out hb2)
                clear hb2 y0 y1 y2 y3 y4 y5 y6
                obtain ⟨y0, y1, y2, y3, y4, y5, y6⟩ := seven_cells HY2.out
                go_wp2
                go_roundg (xs.length - (k + 1))
                case measure => omega
                case rel => exact ⟨k + 1, om.num + AO - 1, by omega, Nat.le_refl _, by go_num, rfl, by have := r5 hkk; omega, by have := r5 hkk; omega, HFT.out, HB2.out⟩
              · rw [if_pos ⟨a0, l0, m0⟩] at HFT
                have hw1 : IntKind.i64.wrap (last + 1) = last + 1 := by rw [IntKind.wrap_i64]; omega
                have hw2 : IntKind.i64.wrap om.num = om.num := by rw [IntKind.wrap_i64]; omega
                have hm : (om.num != last + 1) = true := bne_int m0
                go_wp2_with fail
                refine HAT1.out.mono ?_
                rintro e w2 ⟨rfl, hb2⟩
                have HB2 := Lib.hid (below_step HB1.out hb2)
                have HY2 := Lib.hid (kept_box HY1.out hb2)
                have HBW2 := Lib.hid (below_step HBW1.out hb2)
                clear hb2 y0 y1 y2 y3 y4 y5 y6
                obtain ⟨y0, y1, y2, y3, y4, y5, y6⟩ := seven_cells HY2.out
                go_wp2
                go_ret
                exact ⟨by rw [HFT.out]; rfl, HBW2.out⟩
            · rw [if_neg (fun h => l0 h.2.1), if_pos a0] at HFT
              have hw2 : IntKind.i64.wrap om.num = om.num := by rw [IntKind.wrap_i64]; omega
              have hw3 : IntKind.i64.wrap (om.num + AO) = om.num + AO := by rw [IntKind.wrap_i64]; omega
              have hw4 : IntKind.i64.wrap (om.num + AO - 1) = om.num + AO - 1 := by rw [IntKind.wrap_i64]; omega
              have hkk : om.kind = 1 ∨ om.kind = 3 := r4 a0
              go_wp2_with fail
              refine HAT1.out.mono ?_
              rintro e w2 ⟨rfl, hb2⟩
              have HB2 := Lib.hid (below_step HB1.out hb2)
              have HY2 := Lib.hid (kept_box HY1.out hb2)
              have HBW2 := Lib.hid (below_step HBW1.out hb2)
              clear hb2 y0 y1 y2 y3 y4 y5 y6
              obtain ⟨y0, y1, y2, y3, y4, y5, y6⟩ := seven_cells HY2.out
              go_wp2
              go_roundg (xs.length - (k + 1))
              case measure => omega
              case rel => exact ⟨k + 1, om.num + AO - 1, by omega, Nat.le_refl _, by go_num, rfl, by have := r5 hkk; omega, by have := r5 hkk; omega, HFT.out, HB2.out⟩
          · rw [if_neg (fun h => a0 h.1), if_neg a0] at HFT
            go_wp2_with fail
            refine HAT1.out.mono ?_
            rintro e w2 ⟨rfl, hb2⟩
            have HB2 := Lib.hid (below_step HB1.out hb2)
            have HY2 := Lib.hid (kept_box HY1.out hb2)
            have HBW2 := Lib.hid (below_step HBW1.out hb2)
            clear hb2 y0 y1 y2 y3 y4 y5 y6
            obtain ⟨y0, y1, y2, y3, y4, y5, y6⟩ := seven_cells HY2.out
            go_wp2
            go_roundg (xs.length - (k + 1))
            case measure => omega
            case rel => exact ⟨k + 1, last, by omega, Nat.le_refl _, by go_num, rfl, hl0, hl1, HFT.out, HB2.out⟩
      · rw [if_pos e0] at HFT
        have e0' := beq_no e0
        have e0'' := bne_int e0
        go_wp2
        go_ret
        exact ⟨by rw [HFT.out]; rfl, HBW1.out⟩
    · have : k = xs.length := by omega
      subst this
      have hkl : ¬ (xs.length : Int) < (xs.length : Int) := by omega
      have HE : Hid (FT = 0) := by show _ = _; rw [HFT.out, ← hlen, List.drop_length]; rfl
      go_wp2
      go_ret
      exact ⟨by rw [HE.out]; rfl, HBW.out⟩

end Go.Proofs.YtceanfpcddcfoaaGreat
/-
  What the document's Fit, Ready, Past and Needs of layer 10 hand back. No conditions beyond what each theorem states.
-/
namespace Go.Proofs.YtceanfpcddcfoaaGreat
open Go.ChangeShapes Go.WideShapes Go.ChangeAt Go.RowKit Go.Lib
set_option linter.unusedVariables false
set_option linter.unusedSimpArgs false

/-- An envelope as a value: its parts, and where its entries and its operations lie. -/
def ev (e : Em) (p : Option Addr) (c : Nat) (q : Option Addr) (d : Nat) : Value := .agg #[.slice p e.deps.length c, .int .u16 e.txn.r, .int .u32 e.txn.seq, .int .u64 e.txn.clock, .int .i64 e.txn.user, .slice q e.txn.ops.length d]
theorem six_cells {w : World} {B : Nat} {a b c d e f : Value} {t : TypeId} (h : w.heap[B]? = some (.cells #[a, b, c, d, e, f] t (0, 0))) : w.cell? ⟨B, 0, none⟩ = some a ∧ w.cell? ⟨B, 1, none⟩ = some b ∧ w.cell? ⟨B, 2, none⟩ = some c ∧ w.cell? ⟨B, 3, none⟩ = some d ∧ w.cell? ⟨B, 4, none⟩ = some e ∧ w.cell? ⟨B, 5, none⟩ = some f :=
  ⟨by rw [cell_of_block h]; rfl, by rw [cell_of_block h]; rfl, by rw [cell_of_block h]; rfl, by rw [cell_of_block h]; rfl, by rw [cell_of_block h]; rfl, by rw [cell_of_block h]; rfl⟩
set_option maxHeartbeats 3200000 in
set_option maxRecDepth 20000 in
theorem reffitE_any (e : Em) (xs : List OV) (p q : Option Addr) (c d : Nat) (w : World) (hR : Vec.Row w p e.deps) (hl : e.deps.length ≤ 1000000) (H : LieT e.txn xs q w) (hs : SmallX xs) :
    Calls Tryz.prog 10 #[ev e p c q d] w fun r w' => r = .returned (.int .i64 (fitE e)) ∧ Below w.heap.size w w' := by
  have H1 : Hid (∀ W, Below w.heap.size w W → Calls Tryz.prog 18 #[.slice p e.deps.length c] W fun r w' => r = .returned (.bool (Vec.rightB e.deps)) ∧ Below W.heap.size W w') := fun W hb => Vec.refright_any e.deps p c W (hR.below hb) (by omega)
  have H2 : Hid (∀ W, Below w.heap.size w W → Calls Tryz.prog 29 #[.slice p e.deps.length c, .int .u16 e.txn.r] W fun r w' => r = .returned (.int .u32 (Vec.getL e.deps e.txn.r)) ∧ w' = W) := fun W hb => Vec.refget_any e.deps e.txn.r p c W (hR.below hb) (by omega)
  have H3 : Hid (∀ W, Below w.heap.size w W → Calls Tryz.prog 30 #[.agg #[.int .u16 e.txn.r, .int .u32 e.txn.seq, .int .u64 e.txn.clock, .int .i64 e.txn.user, .slice q e.txn.ops.length d]] W fun r w' => r = .returned (.int .i64 (fitT e.txn)) ∧ Below W.heap.size W w') := fun W hb => reffitT_any e.txn xs q d W (H.below hb) hs
  have HF : Hid (fitE e = if Vec.rightB e.deps = false ∨ Vec.getL e.deps e.txn.r ≠ 0 then 11 else fitT e.txn) := rfl
  clear hR H hs
  obtain ⟨deps, ⟨r, seq, clock, user, ops⟩⟩ := e
  unfold ev
  simp only at *
  generalize fitE (⟨deps, ⟨r, seq, clock, user, ops⟩⟩ : Em) = F at HF ⊢
  generalize Vec.rightB deps = B at H1 HF
  generalize fitT (⟨r, seq, clock, user, ops⟩ : Tm) = FT at H3 HF
  generalize Vec.getL deps r = G at H2 HF
  generalize ops.length = TL at H3 ⊢
  generalize deps.length = L at H1 H2 hl ⊢
  have HX := Lib.hid (heap_alloc_new w (.cells #[.slice p L c, .int .u16 r, .int .u32 seq, .int .u64 clock, .int .i64 user, .slice q TL d] 39))
  have HB0 : Hid (Below w.heap.size w (w.alloc (.cells #[.slice p L c, .int .u16 r, .int .u32 seq, .int .u64 clock, .int .i64 user, .slice q TL d] 39))) := below_alloc (Below.refl _ _) _
  go_enter Tryz.func10, Tryz.ntmps10
  go_wp2_with fail
  generalize (w.alloc (.cells #[.slice p L c, .int .u16 r, .int .u32 seq, .int .u64 clock, .int .i64 user, .slice q TL d] 39)) = w0 at HX HB0 ⊢
  refine (H1.out _ HB0.out).mono ?_
  rintro e w1 ⟨rfl, hb1⟩
  have HB1 : Hid (Below w.heap.size w w1) := below_step HB0.out hb1
  obtain ⟨x0, x1, x2, x3, x4, x5⟩ := six_cells (kept_box HX.out hb1)
  clear hb1 HB0 H1
  cases B with
  | false =>
    have HF2 : Hid (F = 11) := by show _ = _; rw [HF.out]; rfl
    go_wp2
    go_ret
    exact ⟨by rw [HF2.out]; rfl, HB1.out⟩
  | true =>
    go_wp2_with fail
    refine (H2.out _ HB1.out).mono ?_
    rintro e w2 ⟨rfl, hw⟩
    obtain rfl := Eq.symm hw
    clear hw H2
    by_cases hG : G = 0
    · subst hG
      have HF2 : Hid (F = FT) := by show _ = _; rw [HF.out]; rfl
      go_wp2_with fail
      refine (H3.out _ HB1.out).mono ?_
      rintro e w3 ⟨rfl, hb3⟩
      have HB3 : Hid (Below w.heap.size w w3) := below_step HB1.out hb3
      clear hb3 H3
      go_wp2
      go_ret
      exact ⟨by rw [HF2.out]; rfl, HB3.out⟩
    · have hG' : (G != 0) = true := bne_int hG
      have HF2 : Hid (F = 11) := by show _ = _; rw [HF.out, if_pos (Or.inr hG)]
      go_wp2
      go_ret
      exact ⟨by rw [HF2.out]; rfl, HB1.out⟩

set_option maxHeartbeats 3200000 in
set_option maxRecDepth 20000 in
theorem refpastE_any (e : Em) (h : List Vec.En) (p q s : Option Addr) (c d f : Nat) (w : World) (hH : Vec.Row w s h) (hl : h.length ≤ 1000000) :
    Calls Tryz.prog 24 #[ev e p c q d, .slice s h.length f] w fun r w' => r = .returned (.bool (pastE e h)) ∧ Below w.heap.size w w' := by
  have H2 : Hid (∀ W, Below w.heap.size w W → Calls Tryz.prog 29 #[.slice s h.length f, .int .u16 e.txn.r] W fun r w' => r = .returned (.int .u32 (Vec.getL h e.txn.r)) ∧ w' = W) := fun W hb => Vec.refget_any h e.txn.r s f W (hH.below hb) (by omega)
  have HF : Hid (pastE e h = decide (e.txn.seq ≤ Vec.getL h e.txn.r)) := rfl
  clear hH
  obtain ⟨deps, ⟨r, seq, clock, user, ops⟩⟩ := e
  unfold ev
  simp only at *
  generalize pastE (⟨deps, ⟨r, seq, clock, user, ops⟩⟩ : Em) h = F at HF ⊢
  generalize Vec.getL h r = G at H2 HF
  generalize ops.length = TL
  generalize deps.length = L
  generalize h.length = HL at H2 hl ⊢
  have HX := Lib.hid (heap_alloc_new w (.cells #[.slice p L c, .int .u16 r, .int .u32 seq, .int .u64 clock, .int .i64 user, .slice q TL d] 39))
  have HB0 : Hid (Below w.heap.size w (w.alloc (.cells #[.slice p L c, .int .u16 r, .int .u32 seq, .int .u64 clock, .int .i64 user, .slice q TL d] 39))) := below_alloc (Below.refl _ _) _
  go_enter Tryz.func24, Tryz.ntmps24
  go_wp2_with fail
  generalize hw0 : (w.alloc (.cells #[.slice p L c, .int .u16 r, .int .u32 seq, .int .u64 clock, .int .i64 user, .slice q TL d] 39)) = w0 at HX HB0 ⊢
  clear hw0
  obtain ⟨x0', x1', x2', x3', x4', x5'⟩ := six_cells HX.out
  have x1 := cell_regrown x1'
  have x2 := cell_regrown x2'
  have HG : Hid (∀ dd os, Calls Tryz.prog 29 #[.slice s HL f, .int .u16 r] (Go.Sort.grow (redrawn w0 dd) os) fun e w' => e = .returned (.int .u32 G) ∧ Below (Go.Sort.grow (redrawn w0 dd) os).heap.size (Go.Sort.grow (redrawn w0 dd) os) w') := fun dd os => (H2.out _ (below_step HB0.out (below_regrown _ _ _))).mono (by rintro r w' ⟨h, rfl⟩; exact ⟨h, Below.refl _ _⟩)
  clear x0' x1' x2' x3' x4' x5'
  refine wp_region_quiet_below (by kernel_rfl) (by kernel_rfl) ?_
  repeat (first | go_big_quiet_step ((go_at_call 29; exact Calls.regrown_of (HG.out _ _))) | quiet_step ((go_at_call 29; exact Calls.regrown_of (HG.out _ _))))
  refine wpQuiet_nil ?_
  intro w3 hw'
  have HB3 : Hid (Below w.heap.size w w3) := by obtain ⟨⟨dq, osq⟩, rfl⟩ := hw'; exact below_step HB0.out (below_regrown _ _ _)
  clear hw' HG
  go_wp2
  go_ret
  exact ⟨by rw [HF.out]; rfl, HB3.out⟩

set_option maxHeartbeats 3200000 in
set_option maxRecDepth 20000 in
theorem refreadyE_any (e : Em) (h : List Vec.En) (p q s : Option Addr) (c d f : Nat) (w : World) (hR : Vec.Row w p e.deps) (hH : Vec.Row w s h) (hl : h.length ≤ 1000) (hm : e.deps.length ≤ 1000) (hfx : Vec.Fits h) (hfy : Vec.Fits e.deps) (hr : Vec.RightP h) :
    Calls Tryz.prog 22 #[ev e p c q d, .slice s h.length f] w fun r w' => r = .returned (.bool (readyE e h)) ∧ Below w.heap.size w w' := by
  have H2 : Hid (∀ W, Below w.heap.size w W → Calls Tryz.prog 29 #[.slice s h.length f, .int .u16 e.txn.r] W fun r w' => r = .returned (.int .u32 (Vec.getL h e.txn.r)) ∧ w' = W) := fun W hb => Vec.refget_any h e.txn.r s f W (hH.below hb) (by omega)
  have H3 : Hid (∀ W, Below w.heap.size w W → Calls Tryz.prog 54 #[.slice s h.length f, .slice p e.deps.length c] W fun r w' => r = .returned (.bool (Vec.coversL h e.deps)) ∧ Below W.heap.size W w') := fun W hb => Vec.refcovers_any h e.deps s p f c W (hH.below hb) (hR.below hb) hfx hfy hl hm
  have HF : Hid (readyE e h = (decide (Vec.getL h e.txn.r + 1 = e.txn.seq) && Vec.coversL h e.deps)) := rfl
  obtain ⟨g1, g2⟩ := getL_right hr e.txn.r
  clear hH hR hfx hfy hr
  obtain ⟨deps, ⟨r, seq, clock, user, ops⟩⟩ := e
  unfold ev
  simp only at *
  generalize readyE (⟨deps, ⟨r, seq, clock, user, ops⟩⟩ : Em) h = F at HF ⊢
  generalize Vec.getL h r = G at H2 HF g1 g2
  generalize Vec.coversL h deps = C at H3 HF
  generalize ops.length = TL
  generalize deps.length = L at H3 hm ⊢
  generalize h.length = HL at H2 H3 hl ⊢
  have HX := Lib.hid (heap_alloc_new w (.cells #[.slice p L c, .int .u16 r, .int .u32 seq, .int .u64 clock, .int .i64 user, .slice q TL d] 39))
  have HB0 : Hid (Below w.heap.size w (w.alloc (.cells #[.slice p L c, .int .u16 r, .int .u32 seq, .int .u64 clock, .int .i64 user, .slice q TL d] 39))) := below_alloc (Below.refl _ _) _
  have hwr : IntKind.u32.wrap (G + 1) = G + 1 := by rw [IntKind.wrap_u32]; omega
  have hwr' : (G + 1) % 4294967296 = G + 1 := by omega
  go_enter Tryz.func22, Tryz.ntmps22
  go_wp2_with fail
  generalize hw0 : (w.alloc (.cells #[.slice p L c, .int .u16 r, .int .u32 seq, .int .u64 clock, .int .i64 user, .slice q TL d] 39)) = w0 at HX HB0 ⊢
  clear hw0
  obtain ⟨x0', x1', x2', x3', x4', x5'⟩ := six_cells HX.out
  have x0 := cell_regrown x0'
  have x1 := cell_regrown x1'
  have x2 := cell_regrown x2'
  have HG : Hid (∀ dd os, Calls Tryz.prog 29 #[.slice s HL f, .int .u16 r] (Go.Sort.grow (redrawn w0 dd) os) fun e w' => e = .returned (.int .u32 G) ∧ Below (Go.Sort.grow (redrawn w0 dd) os).heap.size (Go.Sort.grow (redrawn w0 dd) os) w') := fun dd os => (H2.out _ (below_step HB0.out (below_regrown _ _ _))).mono (by rintro r w' ⟨h, rfl⟩; exact ⟨h, Below.refl _ _⟩)
  have HC : Hid (∀ dd os, Calls Tryz.prog 54 #[.slice s HL f, .slice p L c] (Go.Sort.grow (redrawn w0 dd) os) fun e w' => e = .returned (.bool C) ∧ Below (Go.Sort.grow (redrawn w0 dd) os).heap.size (Go.Sort.grow (redrawn w0 dd) os) w') := fun dd os => H3.out _ (below_step HB0.out (below_regrown _ _ _))
  clear x0' x1' x2' x3' x4' x5'
  by_cases hE : G + 1 = seq
  · have hE' : (G + 1 == seq) = true := by simp [hE]
    have HF2 : Hid (F = C) := by show _ = _; rw [HF.out, decide_eq_true hE, Bool.true_and]
    clear hE
    refine wp_region_quiet_below (by kernel_rfl) (by kernel_rfl) ?_
    repeat (first | go_big_quiet_step (first | (go_at_call 29; exact Calls.regrown_of (HG.out _ _)) | (go_at_call 54; exact Calls.regrown_of (HC.out _ _))) | quiet_step (first | (go_at_call 29; exact Calls.regrown_of (HG.out _ _)) | (go_at_call 54; exact Calls.regrown_of (HC.out _ _))))
    refine wpQuiet_nil ?_
    intro w3 hw'
    have HB3 : Hid (Below w.heap.size w w3) := by obtain ⟨⟨dq, osq⟩, rfl⟩ := hw'; exact below_step HB0.out (below_regrown _ _ _)
    clear hw' HG HC
    go_wp2
    go_ret
    exact ⟨by rw [HF2.out]; rfl, HB3.out⟩
  · have hE' : (G + 1 == seq) = false := by simp [hE]
    have HF2 : Hid (F = false) := by show _ = _; rw [HF.out, decide_eq_false hE, Bool.false_and]
    clear hE
    refine wp_region_quiet_below (by kernel_rfl) (by kernel_rfl) ?_
    repeat (first | go_big_quiet_step (first | (go_at_call 29; exact Calls.regrown_of (HG.out _ _)) | (go_at_call 54; exact Calls.regrown_of (HC.out _ _))) | quiet_step (first | (go_at_call 29; exact Calls.regrown_of (HG.out _ _)) | (go_at_call 54; exact Calls.regrown_of (HC.out _ _))))
    refine wpQuiet_nil ?_
    intro w3 hw'
    have HB3 : Hid (Below w.heap.size w w3) := by obtain ⟨⟨dq, osq⟩, rfl⟩ := hw'; exact below_step HB0.out (below_regrown _ _ _)
    clear hw' HG HC
    go_wp2
    go_ret
    exact ⟨by rw [HF2.out]; rfl, HB3.out⟩

theorem withL_fits {xs : List Vec.En} {r s : Int} (h : Vec.Fits xs) (hr : 0 ≤ r ∧ r ≤ 65535) (hs : 0 ≤ s ∧ s ≤ 4294967295) : Vec.Fits (Vec.withL xs r s) := fun x hx => by
  unfold Vec.withL at hx
  rcases List.mem_append.1 hx with hx | hx
  · rcases List.mem_append.1 hx with hx | hx
    · exact h x (List.mem_filter.1 hx).1
    · unfold Vec.mid at hx
      split at hx
      · rw [List.mem_singleton.1 hx]; exact ⟨hr.1, hr.2, hs.1, hs.2⟩
      · cases hx
  · exact h x (List.mem_filter.1 hx).1
theorem withL_len (xs : List Vec.En) (r s : Int) : (Vec.withL xs r s).length ≤ 2 * xs.length + 1 := by
  have h1 := Vec.lo_le xs r
  have h2 := Vec.hi_le xs r
  have h3 : (Vec.mid r s).length ≤ 1 := by unfold Vec.mid; split <;> simp
  unfold Vec.withL
  rw [List.length_append, List.length_append]
  omega
set_option maxHeartbeats 3200000 in
set_option maxRecDepth 20000 in
theorem refneedsE_any (e : Em) (h : List Vec.En) (p q s : Option Addr) (c d f : Nat) (w : World) (hR : Vec.Row w p e.deps) (hH : Vec.Row w s h) (hl : h.length ≤ 400) (hm : e.deps.length ≤ 400) (hfx : Vec.Fits h) (hfy : Vec.Fits e.deps) (hrr : 0 ≤ e.txn.r ∧ e.txn.r ≤ 65535) (hss : 1 ≤ e.txn.seq ∧ e.txn.seq ≤ 268435456) :
    Calls Tryz.prog 20 #[ev e p c q d, .slice s h.length f] w (Vec.Gave3 w (needsE e h)) := by
  have H2 : Hid (∀ W, Below w.heap.size w W → Calls Tryz.prog 52 #[.slice p e.deps.length c, .int .u16 e.txn.r, .int .u32 (e.txn.seq - 1)] W (Vec.Gave W (Vec.withL e.deps e.txn.r (e.txn.seq - 1)))) := fun W hb => Vec.refwith_any e.deps e.txn.r (e.txn.seq - 1) p c W (hR.below hb) (by omega)
  have hwl := withL_len e.deps e.txn.r (e.txn.seq - 1)
  have H3 : Hid (∀ W p' c', Below w.heap.size w W → Vec.Row W p' (Vec.withL e.deps e.txn.r (e.txn.seq - 1)) → Calls Tryz.prog 51 #[.slice s h.length f, .slice p' (Vec.withL e.deps e.txn.r (e.txn.seq - 1)).length c'] W (Vec.Gave3 W (needsE e h))) := fun W p' c' hb hr => Vec.reflacks_any h _ s p' f c' W (hH.below hb) hr hfx (withL_fits hfy hrr ⟨by omega, by omega⟩) (by omega) (by omega)
  clear hH hR hfx hfy hwl
  obtain ⟨deps, ⟨r, seq, clock, user, ops⟩⟩ := e
  unfold ev
  unfold Vec.Gave3 at H3 ⊢
  unfold Vec.Gave at H2
  simp only at *
  generalize needsE (⟨deps, ⟨r, seq, clock, user, ops⟩⟩ : Em) h = F at H3 ⊢
  generalize Vec.withL deps r (seq - 1) = WL at H2 H3
  generalize ops.length = TL
  generalize deps.length = L at H2 hm ⊢
  generalize h.length = HL at H3 hl ⊢
  have HX := Lib.hid (heap_alloc_new w (.cells #[.slice p L c, .int .u16 r, .int .u32 seq, .int .u64 clock, .int .i64 user, .slice q TL d] 39))
  have HB0 : Hid (Below w.heap.size w (w.alloc (.cells #[.slice p L c, .int .u16 r, .int .u32 seq, .int .u64 clock, .int .i64 user, .slice q TL d] 39))) := below_alloc (Below.refl _ _) _
  have hwr : IntKind.u32.wrap (seq - 1) = seq - 1 := by rw [IntKind.wrap_u32]; omega
  go_enter Tryz.func20, Tryz.ntmps20
  obtain ⟨x0, x1, x2, x3, x4, x5⟩ := six_cells HX.out
  go_wp2_with fail
  generalize (w.alloc (.cells #[.slice p L c, .int .u16 r, .int .u32 seq, .int .u64 clock, .int .i64 user, .slice q TL d] 39)) = w0 at HX HB0 x0 x1 x2 x3 x4 x5 ⊢
  refine (H2.out _ HB0.out).mono ?_
  rintro e w1 ⟨p1, c1, rfl, hr1, hb1⟩
  have HB1 : Hid (Below w.heap.size w w1) := below_step HB0.out hb1
  have HR1 := Lib.hid hr1
  clear hb1 HB0 H2 hr1 x0 x1 x2 x3 x4 x5
  go_wp2_with fail
  refine (H3.out _ _ _ HB1.out HR1.out).mono ?_
  rintro e w2 ⟨p2, c2, rfl, hr2, hb2⟩
  have HB2 : Hid (Below w.heap.size w w2) := below_step HB1.out hb2
  have HR2 := Lib.hid hr2
  clear hb2 hr2
  go_wp2
  go_ret
  exact ⟨p2, c2, rfl, HR2.out, HB2.out⟩
end Go.Proofs.YtceanfpcddcfoaaGreat
/-
  What the document's Read of layer 8 hands back: where an anchor and a number stand behind the kind. No conditions beyond what each theorem states.
-/
namespace Go.Proofs.YtceanfpcddcfoaaGreat
open Go.ChangeShapes Go.WideShapes Go.ChangeAt Go.RowKit Go.Lib
set_option linter.unusedVariables false
set_option linter.unusedSimpArgs false

set_option maxHeartbeats 12800000 in
set_option maxRecDepth 20000 in
theorem read8_3 (bs : List UInt8) (Q : Nat) (hQ : Q ≤ bs.length) (p : Option Addr) (c : Nat) (w : World) (hR : BRow w p bs) (hl : bs.length ≤ 1000000) (hcap : bs.length ≤ c) (he0 : (rdN bs Q 0 5).2.2 = 0) (h2 : (rdN bs Q 0 5).1 = 3) :
    Calls Tryz.prog 106 #[.slice p bs.length c, .int .i64 (Q : Int)] w (Read8At bs Q w) := by
  have H0 := Lib.hid (fun W (hb : Below w.heap.size w W) => readnum_any bs Q 5 p c (by omega) hQ hl W (hR.below hb))
  have hf0 := rdN_fits (bs := bs) (q := Q) (e := 0) (limit := 5) hQ
  have HO : Hid (readO bs Q 0 = readB bs 3 (rdP bs (rdN bs Q 0 5).2.1 0).1 (rdP bs (rdN bs Q 0 5).2.1 0).2.1 (rdP bs (rdN bs Q 0 5).2.1 0).2.2) := by
    show _ = _
    unfold readO
    rw [if_pos (by omega), he0, h2]
  have HBR : Hid (∀ W, Below w.heap.size w W → BRow W p bs) := fun W hb => hR.below hb
  generalize rdN bs Q 0 5 = kk at H0 he0 h2 hf0 HO
  obtain ⟨k, q0, e0⟩ := kk
  simp only at H0 he0 h2 hf0 HO
  subst he0 h2
  clear hR
  have HRS := Lib.hid (RS.new w)
  go_enter Tryz.func106, Tryz.ntmps106
  go_wp2_with fail
  generalize (w.alloc (.cells #[.int .i64 0, .int .u16 0, .int .u32 0, .int .u32 0, .string ⟨#[]⟩, .slice none 0 0, .int .u32 0] 71)).alloc (.cells #[.int .i64 0, .int .u16 0, .int .u32 0, .int .u32 0, .string ⟨#[]⟩, .slice none 0 0, .int .u32 0] 71) = W0 at HRS ⊢
  refine (H0.out _ HRS.out.bel).mono ?_
  rintro r w1 ⟨rfl, hw1⟩
  obtain rfl := Eq.symm hw1
  have HRS1 := Lib.hid (HRS.out.set 0 (.int .i64 3) (k' := 3) (a' := 0) (b' := 0) (c' := 0) (s' := ⟨#[]⟩) (v' := .slice none 0 0) (q' := 0) rfl)
  obtain ⟨x0, x1, x2, x3, x4, x5, x6⟩ := seven_cells HRS.out.box
  obtain ⟨y0, y1, y2, y3, y4, y5, y6⟩ := seven_cells HRS.out.res
  obtain ⟨fr, fb⟩ := HRS.out.frozen
  have hne : ¬ w.heap.size + 1 = w.heap.size := by omega
  have hne' : ¬ w.heap.size = w.heap.size + 1 := by omega
  clear hw1 H0
  go_wp2_with fail
  clear x0 x1 x2 x3 x4 x5 x6 y0 y1 y2 y3 y4 y5 y6 fr fb
  have hWs : (W0.setCell ⟨w.heap.size + 1, 0, none⟩ (.int .i64 3)).heap.size = W0.heap.size := by simp
  generalize W0.setCell ⟨w.heap.size + 1, 0, none⟩ (.int .i64 3) = W1 at HRS1 hWs ⊢
  rw [← hWs]
  clear hWs HRS
  have hX1 : w.heap.size + 1 < W1.heap.size := lt_of_block HRS1.out.box
  have hL0 := (B3.new W1 165 65535 268435456 268435456).alloc (.cells #[.int .u64 0, .int .u64 0, .int .u64 0] 165)
  have hV0 : B3 165 (W1.heap.size + 1) 0 0 0 ((W1.alloc (.cells #[.int .u64 65535, .int .u64 268435456, .int .u64 268435456] 165)).alloc (.cells #[.int .u64 0, .int .u64 0, .int .u64 0] 165)) := by
    have := B3.new (W1.alloc (.cells #[.int .u64 65535, .int .u64 268435456, .int .u64 268435456] 165)) 165 0 0 0
    simpa using this
  have hRS := HRS1.out.below (below_alloc (below_alloc (Below.refl _ _) (.cells #[.int .u64 65535, .int .u64 268435456, .int .u64 268435456] 165)) (.cells #[.int .u64 0, .int .u64 0, .int .u64 0] 165))
  clear HRS1
  generalize (W1.alloc (.cells #[.int .u64 65535, .int .u64 268435456, .int .u64 268435456] 165)).alloc (.cells #[.int .u64 0, .int .u64 0, .int .u64 0] 165) = W9 at hL0 hV0 hRS ⊢
  generalize W1.heap.size = V0 at hX1 hL0 hV0 ⊢
  have HL0 := Lib.hid hL0
  have HV0 := Lib.hid hV0
  have HRS0 := Lib.hid hRS
  clear hL0 hV0 hRS
  go_loopg [1, 9, 12] 4 (fun g at' er i wq => ∃ (j a b c' q1 e1 : Nat), j ≤ 3 ∧ 4 - j ≤ g ∧ i = .int .i64 (j : Int) ∧ at' = .int .i64 (q1 : Int) ∧ er = .int .i64 (e1 : Int) ∧ q1 ≤ bs.length ∧ e1 < 16 ∧ St8 bs q0 j a b c' q1 e1 ∧ (a ≤ 65535 ∧ b ≤ 268435456 ∧ c' ≤ 268435456) ∧ B3 165 (V0 + 1) (a : Int) (b : Int) (c' : Int) wq ∧ B3 165 V0 65535 268435456 268435456 wq ∧ RS w 3 0 0 0 ⟨#[]⟩ (.slice none 0 0) 0 wq)
  case atStart => exact ⟨0, 0, 0, 0, q0, 0, by omega, by omega, rfl, rfl, rfl, hf0.1, by omega, ⟨rfl, rfl, rfl, rfl, rfl⟩, ⟨by omega, by omega, by omega⟩, HV0.out, HL0.out, HRS0.out⟩
  case round =>
    clear HL0 HV0 HRS0
    obtain ⟨j, a, b, c', q1, e1, hj, hgj, rfl, rfl, rfl, hq1, he1, hst, ⟨ha, hb, hc⟩, hV, hL, hRQ⟩ := hrel
    have HST := Lib.hid hst
    have HRQ := Lib.hid hRQ
    have HV := Lib.hid hV
    have HL := Lib.hid hL
    obtain ⟨v0, v1, v2⟩ := hV.cells
    obtain ⟨l0, l1, l2⟩ := hL.cells
    clear hst hV hL hRQ
    by_cases hj3 : j = 3
    · subst hj3
      have HD := Lib.hid (HST.out.done (by omega) (Or.inl rfl))
      have HO2 : Hid (readO bs Q 0 = readB bs 3 (a, b, c') q1 e1) := by show _ = _; rw [HO.out, HD.out]
      have z1 : IntKind.u16.wrap (a : Int) = (a : Int) := by rw [IntKind.wrap_u16]; omega
      have z2 : IntKind.u32.wrap (b : Int) = (b : Int) := by rw [IntKind.wrap_u32]; omega
      have z3 : IntKind.u32.wrap (c' : Int) = (c' : Int) := by rw [IntKind.wrap_u32]; omega
      obtain ⟨x0, x1, x2, x3, x4, x5, x6⟩ := seven_cells HRQ.out.box
      obtain ⟨y0, y1, y2, y3, y4, y5, y6⟩ := seven_cells HRQ.out.res
      obtain ⟨fr, fb⟩ := HRQ.out.frozen
      have HRS3 := Lib.hid (((HRQ.out.set 1 (.int .u16 (a : Int)) (k' := 3) (a' := (a : Int)) (b' := 0) (c' := 0) (s' := ⟨#[]⟩) (v' := .slice none 0 0) (q' := 0) rfl).set 2 (.int .u32 (b : Int)) (k' := 3) (a' := (a : Int)) (b' := (b : Int)) (c' := 0) (s' := ⟨#[]⟩) (v' := .slice none 0 0) (q' := 0) rfl).set 3 (.int .u32 (c' : Int)) (k' := 3) (a' := (a : Int)) (b' := (b : Int)) (c' := (c' : Int)) (s' := ⟨#[]⟩) (v' := .slice none 0 0) (q' := 0) rfl)
      have hv1 : ¬ w.heap.size + 1 = V0 + 1 := by omega
      have hv2 : ¬ V0 + 1 = w.heap.size + 1 := by omega
      clear HO HD HST
      by_cases hz : e1 = 0
      · subst hz
        have HO : Hid (readO bs Q 0 = if (readS bs q1 0).2.2 = 0 then (⟨3, (a : Int), (b : Int), (c' : Int), [], (readS bs q1 0).1, 0⟩, (readS bs q1 0).2) else (o0, (readS bs q1 0).2)) := by
          show _ = _
          rw [HO2.out]
          unfold readB
          rw [if_neg (by decide), if_pos (Or.inr rfl)]
          rfl
        have HS := Lib.hid (fun W (hb : Below w.heap.size w W) => refread_at bs q1 hq1 p c W (HBR.out W hb) hl)
        unfold ReadAt at HS
        generalize readS bs q1 0 = ss at HO HS
        clear HO2
        obtain ⟨L, q2, e2⟩ := ss
        simp only at HO HS
        go_wp2_with fail
        clear x0 x1 x2 x3 x4 x5 x6 y0 y1 y2 y3 y4 y5 y6 fr fb v0 v1 v2 l0 l1 l2 z1 z2 z3 HV HL
        generalize ((wr.setCell ⟨w.heap.size + 1, 1, none⟩ (.int .u16 (a : Int))).setCell ⟨w.heap.size + 1, 2, none⟩ (.int .u32 (b : Int))).setCell ⟨w.heap.size + 1, 3, none⟩ (.int .u32 (c' : Int)) = W3 at HRS3 ⊢
        obtain ⟨x0, x1, x2, x3, x4, x5, x6⟩ := seven_cells HRS3.out.box
        obtain ⟨y0, y1, y2, y3, y4, y5, y6⟩ := seven_cells HRS3.out.res
        obtain ⟨fr, fb⟩ := HRS3.out.frozen
        refine (HS.out _ HRS3.out.bel).mono ?_
        rintro r w2 ⟨v2, rfl, hH⟩
        have HR2 := Lib.hid (HRS3.out.below hH.2)
        obtain ⟨pv, cv, rfl, hG, hcv, hpv⟩ := hH.gave layS_pos
        have hX1 : w.heap.size + 1 < W3.heap.size := lt_of_block HRS3.out.box
        have hP : ∀ q, pv = some q → W3.heap.size ≤ q.block := fun q e => by
          subst e
          exact (hH.1.lt q.block rfl).1
        have HRS2 := Lib.hid (HR2.out.set 5 (.slice pv L.length cv) (k' := 3) (a' := (a : Int)) (b' := (b : Int)) (c' := (c' : Int)) (s' := ⟨#[]⟩) (v' := .slice pv L.length cv) (q' := 0) rfl)
        have HG2 : Hid (GRow layS (w2.setCell ⟨w.heap.size + 1, 5, none⟩ (.slice pv L.length cv)) pv L) := hG.kept (only_set _ _ _ _) (fun q e ee => by have := hP q e; have ee : q.block = w.heap.size + 1 := ee; omega)
        have HK2 : Hid (KindAt 136 (w2.setCell ⟨w.heap.size + 1, 5, none⟩ (.slice pv L.length cv)) pv) := (kind_owns hH.1).kept (only_set _ _ _ _) (fun q e ee => by have := hP q e; have ee : q.block = w.heap.size + 1 := ee; omega)
        have HP : Hid (∀ q, pv = some q → q.block ≠ w.heap.size) := fun q e => by have := hP q e; omega
        clear x0 x1 x2 x3 x4 x5 x6 y0 y1 y2 y3 y4 y5 y6 fr fb
        obtain ⟨x0, x1, x2, x3, x4, x5, x6⟩ := seven_cells HR2.out.box
        obtain ⟨y0, y1, y2, y3, y4, y5, y6⟩ := seven_cells HR2.out.res
        obtain ⟨fr, fb⟩ := HR2.out.frozen
        clear hH hG hP HS
        by_cases hz : e2 = 0
        · subst hz
          have HO2 : Hid (readO bs Q 0 = (⟨3, (a : Int), (b : Int), (c' : Int), [], L, 0⟩, q2, 0)) := by show _ = _; rw [HO.out, if_pos rfl]
          go_wp2
          (try simp only [Exit.inBlock, Exit.then])
          refine bodyPost_ret (results_ctt (p := 4) (t := 5) (u := 6) (ty := 71) rfl _ _ ⟨w.heap.size, 0, none⟩ _ rfl (load8 (box_seven HRS2.out.res) rfl)) rfl ?_
          exact read8_some (o := ⟨3, (a : Int), (b : Int), (c' : Int), [], L, 0⟩) (p := pv) (cc := cv) (q := 0) (pos := q2) HRS2.out HG2.out HP.out HK2.out HO2.out
        · have hee : ((e2 : Int) == 0) = false := beq_no (by omega)
          have hee' : ((e2 : Int) != 0) = true := by simp; omega
          have HO2 : Hid (readO bs Q 0 = (o0, q2, e2)) := by show _ = _; rw [HO.out, if_neg hz]
          go_wp2
          (try simp only [Exit.inBlock, Exit.then])
          refine bodyPost_ret (results_ctt (p := 4) (t := 5) (u := 6) (ty := 71) rfl _ _ ⟨w.heap.size, 0, none⟩ _ rfl (load8 (box_seven HRS2.out.res) rfl)) rfl ?_
          exact read8_zero (pos := q2) HRS2.out HO2.out hz
      · have hee : ((e1 : Int) == 0) = false := beq_no (by omega)
        have hee' : ((e1 : Int) != 0) = true := by simp; omega
        have HO3 : Hid (readO bs Q 0 = (o0, q1, e1)) := by show _ = _; rw [HO2.out]; exact readB_err hz
        go_wp2
        (try simp only [Exit.inBlock, Exit.then])
        refine bodyPost_ret (results_ctt (p := 4) (t := 5) (u := 6) (ty := 71) rfl _ _ ⟨w.heap.size, 0, none⟩ _ rfl (load8 (box_seven HRS3.out.res) rfl)) rfl ?_
        exact read8_zero (pos := q1) HRS3.out HO3.out hz
    · by_cases hez1 : e1 = 0
      · subst hez1
        have : j = 0 ∨ j = 1 ∨ j = 2 := by omega
        rcases this with rfl | rfl | rfl
        · have hfit := rdN_fits (bs := bs) (q := q1) (e := 0) (limit := 65535) hq1
          have HC := readnum_any bs q1 65535 p c (by omega) hq1 hl wr (HBR.out _ HRQ.out.bel)
          have HST2 := Lib.hid (HST.out.next0)
          generalize rdN bs q1 0 65535 = r1 at HC HST2 hfit
          obtain ⟨x1, x2, x3⟩ := r1
          simp only at HC HST2 hfit
          have HC := Lib.hid HC
          have f0 := HV.out.frozen 0
          have HVV := Lib.hid (HV.out.set0 (x1 : Int))
          have HLL := Lib.hid (HL.out.other (K := V0 + 1) (o := 0) (by omega) (.int .u64 (x1 : Int)))
          have HRQ3 := Lib.hid (HRQ.out.other (V := V0 + 1) (o := 0) (by omega) (.int .u64 (x1 : Int)))
          clear HST
          go_wp2_with fail
          refine HC.out.mono ?_
          rintro e w5 ⟨rfl, hw5⟩
          obtain rfl := Eq.symm hw5
          clear hw5 HC
          go_wp2
          go_roundg (4 - (0 + 1))
          case measure => omega
          case rel => exact ⟨0 + 1, x1, b, c', x2, x3, by omega, Nat.le_refl _, by go_num, rfl, rfl, hfit.1, by omega, HST2.out, ⟨hfit.2.1, hb, hc⟩, HVV.out, HLL.out, HRQ3.out⟩
        · have hfit := rdN_fits (bs := bs) (q := q1) (e := 0) (limit := 268435456) hq1
          have HC := readnum_any bs q1 268435456 p c (by omega) hq1 hl wr (HBR.out _ HRQ.out.bel)
          have HST2 := Lib.hid (HST.out.next1)
          generalize rdN bs q1 0 268435456 = r1 at HC HST2 hfit
          obtain ⟨x1, x2, x3⟩ := r1
          simp only at HC HST2 hfit
          have HC := Lib.hid HC
          have f0 := HV.out.frozen 1
          have HVV := Lib.hid (HV.out.set1 (x1 : Int))
          have HLL := Lib.hid (HL.out.other (K := V0 + 1) (o := 1) (by omega) (.int .u64 (x1 : Int)))
          have HRQ3 := Lib.hid (HRQ.out.other (V := V0 + 1) (o := 1) (by omega) (.int .u64 (x1 : Int)))
          clear HST
          go_wp2_with fail
          refine HC.out.mono ?_
          rintro e w5 ⟨rfl, hw5⟩
          obtain rfl := Eq.symm hw5
          clear hw5 HC
          go_wp2
          go_roundg (4 - (1 + 1))
          case measure => omega
          case rel => exact ⟨1 + 1, a, x1, c', x2, x3, by omega, Nat.le_refl _, by go_num, rfl, rfl, hfit.1, by omega, HST2.out, ⟨ha, hfit.2.1, hc⟩, HVV.out, HLL.out, HRQ3.out⟩
        · have hfit := rdN_fits (bs := bs) (q := q1) (e := 0) (limit := 268435456) hq1
          have HC := readnum_any bs q1 268435456 p c (by omega) hq1 hl wr (HBR.out _ HRQ.out.bel)
          have HST2 := Lib.hid (HST.out.next2)
          generalize rdN bs q1 0 268435456 = r1 at HC HST2 hfit
          obtain ⟨x1, x2, x3⟩ := r1
          simp only at HC HST2 hfit
          have HC := Lib.hid HC
          have f0 := HV.out.frozen 2
          have HVV := Lib.hid (HV.out.set2 (x1 : Int))
          have HLL := Lib.hid (HL.out.other (K := V0 + 1) (o := 2) (by omega) (.int .u64 (x1 : Int)))
          have HRQ3 := Lib.hid (HRQ.out.other (V := V0 + 1) (o := 2) (by omega) (.int .u64 (x1 : Int)))
          clear HST
          go_wp2_with fail
          refine HC.out.mono ?_
          rintro e w5 ⟨rfl, hw5⟩
          obtain rfl := Eq.symm hw5
          clear hw5 HC
          go_wp2
          go_roundg (4 - (2 + 1))
          case measure => omega
          case rel => exact ⟨2 + 1, a, b, x1, x2, x3, by omega, Nat.le_refl _, by go_num, rfl, rfl, hfit.1, by omega, HST2.out, ⟨ha, hb, hfit.2.1⟩, HVV.out, HLL.out, HRQ3.out⟩
      · have hez' : ((e1 : Int) == 0) = false := beq_no (by omega)
        have hez'' : ((e1 : Int) != 0) = true := by simp; omega
        have hj3' : (j : Int) < 3 := by omega
        have HD := Lib.hid (HST.out.done (by omega) (Or.inr hez1))
        have HO3 : Hid (readO bs Q 0 = (o0, q1, e1)) := by show _ = _; rw [HO.out, HD.out]; exact readB_err hez1
        have z1 : IntKind.u16.wrap (a : Int) = (a : Int) := by rw [IntKind.wrap_u16]; omega
        have z2 : IntKind.u32.wrap (b : Int) = (b : Int) := by rw [IntKind.wrap_u32]; omega
        have z3 : IntKind.u32.wrap (c' : Int) = (c' : Int) := by rw [IntKind.wrap_u32]; omega
        obtain ⟨x0, x1, x2, x3, x4, x5, x6⟩ := seven_cells HRQ.out.box
        obtain ⟨y0, y1, y2, y3, y4, y5, y6⟩ := seven_cells HRQ.out.res
        obtain ⟨fr, fb⟩ := HRQ.out.frozen
        have HRS3 := Lib.hid (((HRQ.out.set 1 (.int .u16 (a : Int)) (k' := 3) (a' := (a : Int)) (b' := 0) (c' := 0) (s' := ⟨#[]⟩) (v' := .slice none 0 0) (q' := 0) rfl).set 2 (.int .u32 (b : Int)) (k' := 3) (a' := (a : Int)) (b' := (b : Int)) (c' := 0) (s' := ⟨#[]⟩) (v' := .slice none 0 0) (q' := 0) rfl).set 3 (.int .u32 (c' : Int)) (k' := 3) (a' := (a : Int)) (b' := (b : Int)) (c' := (c' : Int)) (s' := ⟨#[]⟩) (v' := .slice none 0 0) (q' := 0) rfl)
        have hv1 : ¬ w.heap.size + 1 = V0 + 1 := by omega
        have hv2 : ¬ V0 + 1 = w.heap.size + 1 := by omega
        clear HO HD HST
        go_wp2
        (try simp only [Exit.inBlock, Exit.then])
        refine bodyPost_ret (results_ctt (p := 4) (t := 5) (u := 6) (ty := 71) rfl _ _ ⟨w.heap.size, 0, none⟩ _ rfl (load8 (box_seven HRS3.out.res) rfl)) rfl ?_
        exact read8_zero (pos := q1) HRS3.out HO3.out hez1
/-- The document's Read, of any bytes, at any place. -/
theorem refread8_at (bs : List UInt8) (Q : Nat) (hQ : Q ≤ bs.length) (p : Option Addr) (c : Nat) (w : World) (hR : BRow w p bs) (hl : bs.length ≤ 1000000) (hcap : bs.length ≤ c) :
    Calls Tryz.prog 106 #[.slice p bs.length c, .int .i64 (Q : Int)] w (Read8At bs Q w) := by
  by_cases he : (rdN bs Q 0 5).2.2 = 0
  · by_cases h1 : (rdN bs Q 0 5).1 = 1
    · exact read8_1 bs Q hQ p c w hR hl hcap he h1
    · by_cases h2 : (rdN bs Q 0 5).1 = 2
      · exact read8_2 bs Q hQ p c w hR hl he h2
      · by_cases h3 : (rdN bs Q 0 5).1 = 3
        · exact read8_3 bs Q hQ p c w hR hl hcap he h3
        · exact read8_s bs Q hQ p c w hR hl he h1 h2 h3
  · exact read8_k bs Q hQ p c w hR hl he
theorem refread8_any (bs : List UInt8) (p : Option Addr) (c : Nat) (w : World) (hR : BRow w p bs) (hl : bs.length ≤ 1000000) (hcap : bs.length ≤ c) :
    Calls Tryz.prog 106 #[.slice p bs.length c, .int .i64 0] w (Read8 bs w) :=
  (refread8_at bs 0 (Nat.zero_le _) p c w hR hl hcap).mono (by rintro e w' ⟨p1, c1, q1, h1, h2, h3, h4, -⟩; exact ⟨p1, c1, q1, h1, h2, h3, h4⟩)
end Go.Proofs.YtceanfpcddcfoaaGreat
