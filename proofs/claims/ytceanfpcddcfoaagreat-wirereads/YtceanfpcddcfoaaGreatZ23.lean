/-
  Several texts of one proof, joined: each part says at its head what it proves. No conditions beyond what each theorem states.
-/
import Derived.Test.YtceanfpcddcfoaaGreatZ14
import Derived.Test.YtceanfpcddcfoaaGreatZ19
import Derived.Test.YtceanfpcddcfoaaGreatZ08
import Derived.Test.YtceanfpcddcfoaaGreatZ20
import Derived.Test.YtceanfpcddcfoaaGreatZ21
import Derived.Test.YtceanfpcddcfoaaGreatZ15
/-
  What the program's getDeps of layer 10 leaves. No conditions beyond what each theorem states.
-/
namespace Go.Proofs.YtceanfpcddcfoaaGreat
open Go.ChangeShapes Go.WideShapes Go.ChangeAt Go.RowKit Go.Lib
set_option linter.unusedVariables false
set_option linter.unusedSimpArgs false

theorem rdN_none {bs : List UInt8} {q e limit : Nat} (h : (rdN bs q e limit).2.2 ≠ 0) : (rdN bs q e limit).1 = 0 := by
  by_cases he : e = 0
  · subst he
    rw [rdN_read] at h ⊢
    have := read_fair (bs.drop q) limit
    unfold Fair at this
    simp only at h ⊢
    omega
  · rw [rdN_err he]
/-- What getDeps holds: the row of entries, and the reader. -/
structure GD (w : World) (K D : Nat) (bs : List UInt8) (q e : Nat) (v : Value) (ys : List Vec.En) (W : World) : Prop where
  own : W.ownsRow w.heap.size 105 2 v ys.length (layV.flat ys)
  only : Only K w W
  lt : K < w.heap.size
  ltD : D < w.heap.size
  rd : Rd K D bs q e W
theorem GD.on {w W W' : World} {K D : Nat} {bs : List UInt8} {q e q' e' : Nat} {v : Value} {ys : List Vec.En} (h : GD w K D bs q e v ys W) (hr : Rd K D bs q' e' W') (ho : Only K W W') : GD w K D bs q' e' v ys W' :=
  ⟨h.own.kept (row := some K) ⟨ho.os, ho.tape, ho.output, ho.size, fun k hk hn => ho.block k hk (fun e => hn (by rw [e]))⟩ (Or.inr fun e => by have := (h.own.lt _ e).1; have := h.lt; omega), Kept.trans h.only ho (fun _ _ e => e), h.lt, h.ltD, hr⟩
theorem GD.below {w W W' : World} {K D : Nat} {bs : List UInt8} {q e : Nat} {v : Value} {ys : List Vec.En} (h : GD w K D bs q e v ys W) (hb : Below W.heap.size W W') : GD w K D bs q e v ys W' := h.on (h.rd.below hb) (Kept.ofBelow hb)
theorem GD.onto {w W W' : World} {K D : Nat} {bs : List UInt8} {q e n : Nat} {v v' : Value} {ys : List Vec.En} {y : Vec.En} {cs : List Value} (h : GD w K D bs q e v ys W) (hcs : cs = layV.enc y) (hn : n = ys.length + 1) (hown : W'.ownsRow w.heap.size 105 2 v' n (layV.flat ys ++ cs)) (hg : W.grownBy W' v.ownBlock) : GD w K D bs q e v' (ys ++ [y]) W' := by
  have hk : Kept (fun i => v.ownBlock = some i) W W' := ⟨hg.os, hg.tape, hg.output, hg.size, fun k hk hn => hg.block k hk (fun e => hn e.symm)⟩
  refine ⟨?_, Kept.trans h.only hk (fun i hi e => by have := (h.own.lt _ e).1; omega), h.lt, h.ltD, h.rd.kept hk (fun e => by have := (h.own.lt _ e).1; have := h.lt; omega) (fun e => by have := (h.own.lt _ e).1; have := h.ltD; omega)⟩
  rw [layV.flat_append, layV.flat_one, List.length_append, ← hcs]
  rw [hn] at hown
  exact hown
/-- What getDeps leaves. -/
def GotD (bs : List UInt8) (d : List Vec.En × Nat × Nat) (K D : Nat) (w : World) (r : Ending) (w' : World) : Prop := ∃ l p c q', r = .returned (.slice p l.length c) ∧ Vec.Row w' p l ∧ KindAt 105 w' p ∧ l.length ≤ c ∧ (p = none → c = 0) ∧ Rd K D bs q' d.2.2 w' ∧ (d.2.2 = 0 → l = d.1 ∧ q' = d.2.1) ∧ Only K w w'
set_option maxHeartbeats 3200000 in
set_option maxRecDepth 20000 in
theorem getD_any (bs : List UInt8) (q e K D : Nat) (w : World) (hR : Rd K D bs q e w) (hb : bs.length ≤ 100000) :
    Calls Tryz.prog 41 #[.pointer (some ⟨K, 0, none⟩)] w (GotD bs (rdDs bs (rdN bs q e 65536).1 (rdN bs q e 65536).2.1 (rdN bs q e 65536).2.2) K D w) := by
  obtain ⟨i0, hi, hz0, hz1, hz2⟩ := info_parts Vec.info55
  have hK := lt_of_block hR.box
  have hD := lt_of_block hR.row
  have H0 := rnum_any 65536 (by decide) w hR
  have hf0 := rdN_fits (e := e) (limit := 65536) hR.fits
  have hnz := @rdN_none bs q e 65536
  generalize rdN bs q e 65536 = N0 at H0 hf0 hnz ⊢
  obtain ⟨n, q1, e1⟩ := N0
  simp only at H0 hf0 hnz ⊢
  have H0 := Lib.hid H0
  have HNZ : Hid (0 < n → e1 = 0) := fun h => by
    by_cases h1 : e1 = 0
    · exact h1
    · have := hnz h1; omega
  clear hnz hR
  go_enter Tryz.func41, Tryz.ntmps41
  go_wp2_with fail
  refine H0.out.mono ?_
  rintro r w1 ⟨rfl, hr1, ho1⟩
  have T1 : Hid (GD w K D bs q1 e1 (.slice none 0 0) [] w1) := ⟨World.ownsRow_nil _ w.heap.size 105 2, ho1, hK, hD, hr1⟩
  clear hr1 ho1 H0
  go_wp2
  go_loopg [3, 7] n (fun g u i wr => ∃ (k : Nat) (ys : List Vec.En) (q' e' : Nat), k ≤ n ∧ n - k ≤ g ∧ i = .int .u64 (k : Int) ∧ ys.length = k ∧ (k < n → e' = 0) ∧ rdDs bs n q1 e1 = (ys ++ (rdDs bs (n - k) q' e').1, (rdDs bs (n - k) q' e').2) ∧ GD w K D bs q' e' u ys wr)
  case atStart => exact ⟨0, [], q1, e1, Nat.zero_le _, by omega, rfl, rfl, HNZ.out, by simp, T1.out⟩
  case round =>
    clear T1
    obtain ⟨k, ys, q', e', hk, hg, rfl, hyl, hez, hS, hT⟩ := hrel
    have HYL := Lib.hid hyl
    have HS := Lib.hid hS
    have T := Lib.hid hT
    clear hS hT hyl
    by_cases hlt : k < n
    · have hkn : (k : Int) < (n : Int) := by omega
      have he0 := hez hlt
      subst he0
      clear hez
      have hstep := @rdDs_step bs n k q' hlt
      have hrg := rdD_range (bs := bs) (q := q') T.out.rd.fits
      have HC1 := rnum_any 65535 (by decide) wr T.out.rd
      have HC2 : Hid (∀ W, Rd K D bs (rdN bs q' 0 65535).2.1 (rdN bs q' 0 65535).2.2 W → Calls Tryz.prog 73 #[.pointer (some ⟨K, 0, none⟩), .int .u64 268435456] W fun r w' => r = .returned (.int .u64 (rdD bs q').1.2) ∧ Rd K D bs (rdD bs q').2.1 (rdD bs q').2.2 w' ∧ Only K W w') := fun W h => rnum_any 268435456 (by decide) W h
      have hr1 : ((rdN bs q' 0 65535).1 : Int) = (rdD bs q').1.1 := rfl
      rw [hr1] at HC1
      have HC1 := Lib.hid HC1
      have HS2 : Hid (rdDs bs n q1 e1 = (ys ++ ((rdD bs q').1 :: (rdDs bs (n - (k + 1)) (rdD bs q').2.1 (rdD bs q').2.2).1), (rdDs bs (n - (k + 1)) (rdD bs q').2.1 (rdD bs q').2.2).2)) := by show _ = _; rw [HS.out, hstep]
      clear hstep hr1 HS
      generalize rdN bs q' 0 65535 = N1 at HC1 HC2
      generalize rdD bs q' = R at HC1 HC2 hrg HS2
      obtain ⟨⟨a, b⟩, q2, e2⟩ := R
      simp only at HC1 HC2 hrg HS2
      obtain ⟨A, rfl⟩ : ∃ A : Nat, a = (A : Int) := ⟨a.toNat, by omega⟩
      obtain ⟨B, rfl⟩ : ∃ B : Nat, b = (B : Int) := ⟨b.toNat, by omega⟩
      have za : IntKind.u16.wrap (A : Int) = (A : Int) := by rw [IntKind.wrap_u16]; omega
      have zb : IntKind.u32.wrap (B : Int) = (B : Int) := by rw [IntKind.wrap_u32]; omega
      go_wp2_with fail
      refine HC1.out.mono ?_
      rintro r w2 ⟨rfl, hr2, ho2⟩
      have T2 := Lib.hid (T.out.on hr2 ho2)
      clear hr2 ho2 HC1
      go_wp2_with fail
      refine (HC2.out _ T2.out.rd).mono ?_
      rintro r w3 ⟨rfl, hr3, ho3⟩
      have T3 := Lib.hid (T2.out.on hr3 ho3)
      clear hr3 ho3 HC2 T2 T
      have T4 := Lib.hid (T3.out.below (below_alloc (Below.refl _ _) (.cells #[.int .u16 (A : Int), .int .u32 (B : Int)] 105)))
      have HE := Lib.hid (fun (A : Obj) => error_any (w3.alloc A) (T3.out.below (below_alloc (Below.refl _ _) A)).rd) 
      go_wp2_with fail
      refine (HE.out _).mono ?_
      rintro r w5 ⟨rfl, hw5⟩
      obtain rfl := Eq.symm hw5
      clear hw5 HE T3
      by_cases hz : e2 = 0
      · subst hz
        obtain ⟨x0, x1⟩ := two_cells (heap_alloc_new w3 (.cells #[.int .u16 (A : Int), .int .u32 (B : Int)] 105))
        generalize hw4 : w3.alloc (.cells #[.int .u16 (A : Int), .int .u32 (B : Int)] 105) = w4 at T4 x0 x1 ⊢
        clear hw4
        go_wp2_with (first
          | (at_builtin; refine wpList_append_own _ rfl (.tmp 19) (.tmp 21) 23 rfl w.heap.size 105 i0 (.agg #[.int .u16 0, .int .u32 0]) 2 8 Tryz.underlying23 hi hz0 hz1 hz2 rfl (by decide) _ ys.length (layV.flat ys) rfl ((T4.out.below (below_alloc (Below.refl _ _) _)).own) ⟨w4.heap.size, 0, none⟩ 1 1 [.int .u16 (A : Int), .int .u32 (B : Int)] rfl rfl (Vec.cells_pair 105 (by simp) (by simp)) (Vec.pair_one (A : Int) (B : Int)) (by have := HYL.out; unfold maxLen; omega) (by have := HYL.out; omega) (by have := (T4.out.below (below_alloc (Below.refl _ _) (.cells #[.int .u16 (A : Int), .int .u32 (B : Int)] 105))).only.size; simpa using this) ?_))
        intro v6 w6 hown hgrow _
        have T6 : Hid (GD w K D bs q2 0 v6 (ys ++ [((A : Int), (B : Int))]) w6) := (T4.out.below (below_alloc (Below.refl _ _) _)).onto (y := ((A : Int), (B : Int))) rfl rfl hown hgrow
        clear hown hgrow T4
        go_wp2
        go_roundg (n - (k + 1))
        case measure => omega
        case rel => exact ⟨k + 1, ys ++ [((A : Int), (B : Int))], q2, 0, by omega, Nat.le_refl _, by go_num, by rw [List.length_append, HYL.out]; rfl, fun _ => rfl, by rw [HS2.out]; simp, T6.out⟩
      · have hz1' : ((e2 : Int) == 0) = false := beq_no (by omega)
        have hz2' : ((e2 : Int) != 0) = true := bne_int (by omega)
        have HD2 : Hid ((rdDs bs n q1 e1).2 = (q2, e2)) := by show _ = _; rw [HS2.out, rdDs_err _ _ _ _ hz]
        have HD22 : Hid ((rdDs bs n q1 e1).2.2 = e2) := by show _ = _; rw [HD2.out]
        go_wp2
        go_ret
        unfold GotD
        rw [HD22.out]
        exact ⟨[], none, 0, q2, rfl, fun i hi => by simp at hi, KindAt.nil _ _, Nat.le_refl _, fun _ => rfl, T4.out.rd, fun h => absurd h hz, T4.out.only⟩
    · have : k = n := by omega
      subst this
      have hkk : ¬ (k : Int) < (k : Int) := by omega
      have HD : Hid (rdDs bs k q1 e1 = (ys, q', e')) := by show _ = _; rw [HS.out, Nat.sub_self]; simp [rdDs]
      obtain ⟨p1, c1, hv, -, g1, g2, g3⟩ := grow_owns layV_pos T.out.own
      have hown := T.out.own
      rw [hv] at hown
      have HGR := Lib.hid (vrow g1)
      have HKO := Lib.hid (kind_owns hown)
      have HC := Lib.hid g2
      have HN := Lib.hid g3
      clear hown g1 g2 g3 HS
      subst hv
      go_wp2
      go_ret
      unfold GotD
      rw [HD.out]
      exact ⟨ys, p1, c1, q', rfl, HGR.out, HKO.out, HC.out, HN.out, T.out.rd, fun _ => ⟨rfl, rfl⟩, T.out.only⟩
end Go.Proofs.YtceanfpcddcfoaaGreat
/-
  What the program's Decode of layer 10 tells. No conditions beyond what each theorem states.
-/
namespace Go.Proofs.YtceanfpcddcfoaaGreat
open Go.ChangeShapes Go.WideShapes Go.ChangeAt Go.RowKit Go.Lib
set_option linter.unusedVariables false
set_option linter.unusedSimpArgs false

theorem szW : (Tryz.prog.info? 31).map (·.size) = some 6 := by kernel_rfl
theorem loadW {w : World} {B : Nat} {cs : Array Value} {t : TypeId} (h : w.heap[B]? = some (.cells cs t (0, 0))) (hs : cs.size = 6) : (loadVar 31 ⟨B, 0, none⟩).run Tryz.prog w = .ok (.agg cs) w :=
  run_loadVar_row w B t 31 _ (0, 0) _ h Tryz.underlying31 rfl (by rw [hs]; exact szW)
/-- What is wrong of bytes, by their frame. -/
theorem readE_frame {bs : List UInt8} (hl : bs.length ≤ 1000000) : (frameF bs ≠ 0 ∧ readE bs = (e0, frameF bs)) ∨ (frameF bs = 0 ∧ 11 ≤ bs.length ∧ readE bs = (if openL bs = false then (e0, 31) else readBody ((bs.take (bs.length - 4)).drop 7))) := by
  unfold frameF readE
  by_cases h1 : bs.length < 11
  · rw [if_pos h1, if_pos h1]; exact Or.inl ⟨by omega, rfl⟩
  rw [if_neg h1, if_neg h1, if_neg (show ¬ 1048576 < bs.length by omega), if_neg (show ¬ 1048576 < bs.length by omega)]
  have ht := take_head (bs := bs) (by omega) (by omega)
  by_cases h2 : bs.take 7 = headE bs.length
  · have h3 := ht.1 h2
    rw [if_pos h2, if_neg (by omega)]
    exact Or.inr ⟨rfl, by omega, rfl⟩
  · rw [if_neg h2, if_pos (by
      by_cases a0 : (bs.getD 0 0).toNat = 67
      · by_cases a1 : (bs.getD 1 0).toNat = 80
        · by_cases a2 : (bs.getD 2 0).toNat = 1
          · by_cases a3 : num4 bs = bs.length
            · exact absurd (ht.2 ⟨a0, a1, a2, a3⟩) h2
            · omega
          · omega
        · omega
      · omega)]
    exact Or.inl ⟨by omega, rfl⟩
/-- Where whatever is wrong leads to. -/
def JD (e : Em × Int) (w : World) (a : Act) (W : World) : Prop := ∃ (F : Int) (c0 c1 c3 c4 c5 c6 c7 c9 c10 c11 c12 c13 c14 c15 c16 c17 c18 c19 c20 c21 c22 c23 c24 c25 c26 c27 c28 c29 c30 c31 c32 c33 c34 c35 c36 c37 c38 c39 : Value), a = { tmps := #[c0, c1, .pointer (some ⟨w.heap.size, 0, none⟩), c3, c4, c5, c6, c7, .int .i64 F, c9, c10, c11, c12, c13, c14, c15, c16, c17, c18, c19, c20, c21, c22, c23, c24, c25, c26, c27, c28, c29, c30, c31, c32, c33, c34, c35, c36, c37, c38, c39], defers := [] } ∧ e = (e0, F) ∧ W.heap[w.heap.size]? = some (.cells #[.slice none 0 0, .int .u16 0, .int .u32 0, .int .u64 0, .int .i64 0, .slice none 0 0] 31 (0, 0)) ∧ Below w.heap.size w W
theorem row_zeroT (w : World) : RowT t0 [] none 0 w := ⟨rfl, GRow.nil _ _ _, fun y hy => (by cases hy), Nat.le_refl _, fun _ => rfl⟩
/-- What Get leaves, by another name. -/
def GotT2 (t : Tm × Nat × Nat) (bs : List UInt8) (K D : Nat) (w : World) (r : Ending) (w' : World) : Prop := ∃ ys p c q', r = .returned (tv t.1 p c) ∧ RowT t.1 ys p c w' ∧ Rd K D bs q' t.2.2 w' ∧ (t.2.2 = 0 → q' = t.2.1) ∧ Only K w w'
set_option maxHeartbeats 12800000 in
set_option maxRecDepth 20000 in
theorem decodeE_spec : DecodeSpec := by
  intro bs p c w hR hl hc hp
  have hfr := readE_frame (bs := bs) (by omega)
  have HFF : Hid (∀ W, Below w.heap.size w W → Calls Tryz.prog 38 #[.slice p bs.length c] W fun e w' => e = .returned (.int .i64 (frameF bs)) ∧ Below W.heap.size W w') := fun W hb => fitFrame_any bs p c W (hR.below hb) (by omega) hc
  have HOP : Hid (∀ W, Below w.heap.size w W → Calls Tryz.prog 39 #[.slice p bs.length c] W (Opened bs W)) := fun W hb => open_any bs p c W (hR.below hb) hc hp (by omega)
  have HBO : Hid (openL bs = true → bodyL bs = bs.take (bs.length - 4)) := fun h => by show _ = _; unfold bodyL; rw [if_pos h]
  generalize readE bs = RR at hfr ⊢
  generalize frameF bs = F0 at hfr HFF
  have HX0 := Lib.hid (heap_alloc2_old w (.cells #[.slice none 0 0, .int .u16 0, .int .u32 0, .int .u64 0, .int .i64 0, .slice none 0 0] 31) (.cells #[.slice none 0 0, .int .u16 0, .int .u32 0, .int .u64 0, .int .i64 0, .slice none 0 0] 31))
  have HX := Lib.hid (heap_alloc2_new w (.cells #[.slice none 0 0, .int .u16 0, .int .u32 0, .int .u64 0, .int .i64 0, .slice none 0 0] 31) (.cells #[.slice none 0 0, .int .u16 0, .int .u32 0, .int .u64 0, .int .i64 0, .slice none 0 0] 31))
  have HB0 : Hid (Below w.heap.size w ((w.alloc (.cells #[.slice none 0 0, .int .u16 0, .int .u32 0, .int .u64 0, .int .i64 0, .slice none 0 0] 31)).alloc (.cells #[.slice none 0 0, .int .u16 0, .int .u32 0, .int .u64 0, .int .i64 0, .slice none 0 0] 31))) := below_alloc (below_alloc (Below.refl _ _) _) _
  clear hR
  go_enter Tryz.func13, Tryz.ntmps13
  go_wp2_with fail
  refine wp_scope_loop 0 (JD RR w) (fun _ _ => 0) rfl ?_ ?_
  case refine_2 =>
    rintro a' w' ⟨F, c0, c1, c3, c4, c5, c6, c7, c9, c10, c11, c12, c13, c14, c15, c16, c17, c18, c19, c20, c21, c22, c23, c24, c25, c26, c27, c28, c29, c30, c31, c32, c33, c34, c35, c36, c37, c38, c39, rfl, he, hbox, hb⟩
    have HE := Lib.hid he
    have HBX := Lib.hid hbox
    have HB := Lib.hid hb
    obtain ⟨s0, s1, s2, s3, s4, s5⟩ := six_cells hbox
    have fr := fun o => frozen_of_block (o := o) hbox
    clear he hbox hb hfr HFF HOP HBO HX0 HX HB0
    go_wp2_with fail
    simp only [Exit.jump]
    refine bodyPost_ret (results_ct (p := 2) (t := 3) (ty := 31) rfl _ _ ⟨w.heap.size, 0, none⟩ _ rfl (loadW (box_six HBX.out) rfl)) rfl ?_
    unfold Decoded
    rw [HE.out]
    exact ⟨[], none, 0, none, 0, rfl, row_none_nil _, row_zeroT _, only_new HB.out (only_six _ _ _ _ _ _ _ _) (Nat.le_refl _)⟩
  intro hpass
  clear hpass
  go_wp2_with fail
  generalize hw0 : ((w.alloc (.cells #[.slice none 0 0, .int .u16 0, .int .u32 0, .int .u64 0, .int .i64 0, .slice none 0 0] 31)).alloc (.cells #[.slice none 0 0, .int .u16 0, .int .u32 0, .int .u64 0, .int .i64 0, .slice none 0 0] 31)) = w0 at HX0 HX HB0 ⊢
  clear hw0
  refine (HFF.out _ HB0.out).mono ?_
  rintro e1 w1 ⟨rfl, hb1⟩
  have HB1 : Hid (Below w.heap.size w w1) := below_step HB0.out hb1
  have HX01 := Lib.hid (kept_box HX0.out hb1)
  have HX1 := Lib.hid (kept_box HX.out hb1)
  clear hb1 HFF HX0 HX HB0
  rcases hfr with ⟨hF, hRR⟩ | ⟨hF, h11, hRR⟩
  · have q1 : (F0 == 0) = false := beq_no hF
    have q2 : (F0 != 0) = true := bne_int hF
    have HRR := Lib.hid hRR
    clear hRR hF
    go_wp2_with fail
    go_step3
    exact ⟨rfl, F0, _, _, _, _, _, _, _, _, _, _, _, _, _, _, _, _, _, _, _, _, _, _, _, _, _, _, _, _, _, _, _, _, _, _, _, _, _, _, rfl, HRR.out, HX01.out, HB1.out⟩
  subst hF
  have HRR := Lib.hid hRR
  clear hRR
  have HOP1 := Lib.hid (HOP.out _ HB1.out)
  unfold Opened at HOP1
  go_wp2_with fail
  refine HOP1.out.mono ?_
  rintro e2 w2 ⟨p2, c2, rfl, hr2, hc2, hp2, hb2⟩
  have HB2 : Hid (Below w.heap.size w w2) := below_step HB1.out hb2
  have HX02 := Lib.hid (kept_box HX01.out hb2)
  have HX2 := Lib.hid (kept_box HX1.out hb2)
  clear hb2 HOP HOP1 HB1 HX01 HX1
  by_cases ho : openL bs = true
  case neg =>
    have ho' : openL bs = false := by simpa using ho
    have HRR2 : Hid (RR = (e0, 31)) := by show _ = _; rw [HRR.out, if_pos ho']
    rw [ho']
    clear ho ho' hr2 hc2 hp2 HRR HBO
    go_wp2_with fail
    go_step3
    exact ⟨rfl, 31, _, _, _, _, _, _, _, _, _, _, _, _, _, _, _, _, _, _, _, _, _, _, _, _, _, _, _, _, _, _, _, _, _, _, _, _, _, _, rfl, HRR2.out, HX02.out, HB2.out⟩
  have HRR2 : Hid (RR = readBody ((bs.take (bs.length - 4)).drop 7)) := by show _ = _; rw [HRR.out, if_neg (by rw [ho]; simp)]
  have hbo := HBO.out ho
  rw [ho]
  rw [hbo] at hr2 hc2 ⊢
  clear HBO hbo ho HRR
  have hI : (bs.take (bs.length - 4)).length = bs.length - 4 := by rw [List.length_take]; omega
  rw [hI] at hc2 ⊢
  obtain ⟨b2, o2, rfl, -⟩ := hr2 0 (by rw [hI]; omega)
  have hr3 := brow_tail hr2 7
  rw [Addr.add_lit] at hr3
  have hJ : ((bs.take (bs.length - 4)).drop 7).length = bs.length - 4 - 7 := by rw [List.length_drop, hI]
  generalize (bs.take (bs.length - 4)).drop 7 = IN at HRR2 hr3 hJ
  have hin7 : c2 = 7 → IN = [] := fun h => List.eq_nil_of_length_eq_zero (by omega)
  have HFR7 : Hid (c2 = 7 → Calls Tryz.prog 40 #[.slice (some ⟨b2, o2, none⟩) 0 0] w2 fun e w' => ∃ K, e = .returned (.pointer (some ⟨K, 0, none⟩)) ∧ w2.heap.size < K ∧ Rd K w2.heap.size IN 0 0 w' ∧ Below w2.heap.size w2 w') := fun h => by
    have := from_any IN (some ⟨b2, o2, none⟩) 0 w2 (by rw [hin7 h]; exact BRow.nil _ _) (by omega)
    rwa [show IN.length = 0 by rw [hin7 h]; rfl] at this
  have HFR8 : Hid (Calls Tryz.prog 40 #[.slice (some ⟨b2, o2 + 7, none⟩) (bs.length - 4 - 7) (c2 - 7)] w2 fun e w' => ∃ K, e = .returned (.pointer (some ⟨K, 0, none⟩)) ∧ w2.heap.size < K ∧ Rd K w2.heap.size IN 0 0 w' ∧ Below w2.heap.size w2 w') := by
    have := from_any IN (some ⟨b2, o2 + 7, none⟩) (c2 - 7) w2 hr3 (by omega)
    rwa [hJ] at this
  have hIN : IN.length ≤ 60000 := by omega
  have hs7 : 7 ≤ bs.length - 4 := by omega
  have hs7' : bs.length - 4 ≤ c2 := hc2
  clear hr2 hr3 hI
  -- the numbers
  have hN0 : ∃ N, rdN IN 0 0 65536 = N := ⟨_, rfl⟩
  obtain ⟨N0, hN0⟩ := hN0
  obtain ⟨D0, hD0⟩ : ∃ D, rdDs IN N0.1 N0.2.1 N0.2.2 = D := ⟨_, rfl⟩
  obtain ⟨T0, hT0⟩ : ∃ T, readTx IN D0.2.1 D0.2.2 = T := ⟨_, rfl⟩
  have hRB := readBody_eq IN hN0 hD0 hT0
  rw [← HRR2.out] at hRB
  have f1 := rdN_fits (bs := IN) (q := 0) (e := 0) (limit := 65536) (Nat.zero_le _)
  rw [hN0] at f1
  have f2 := rdDs_range (bs := IN) N0.1 N0.2.1 N0.2.2 f1.1 (by omega)
  rw [hD0] at f2
  have f3 := readTx_range (bs := IN) (q := D0.2.1) (e := D0.2.2) f2.1 f2.2.1 (by omega)
  have f4 := readTx_short IN D0.2.1 D0.2.2
  have HDT : Hid (D0.2.2 ≠ 0 → T0.2.2 = D0.2.2) := fun h => by rw [← hT0, readTx_err h]
  have HGD : Hid (∀ K D W, Rd K D IN 0 0 W → Calls Tryz.prog 41 #[.pointer (some ⟨K, 0, none⟩)] W (GotD IN D0 K D W)) := fun K D W h => by
    have := getD_any IN 0 0 K D W h (by omega)
    rwa [hN0, hD0] at this
  have HGT : Hid (∀ K D q5 W, (D0.2.2 = 0 → q5 = D0.2.1) → Rd K D IN q5 D0.2.2 W → Calls Tryz.prog 42 #[.pointer (some ⟨K, 0, none⟩)] W (GotT2 T0 IN K D W)) := fun K D q5 W hq h => by
    refine (getT_spec IN q5 D0.2.2 K D W h (by omega) f2.2.1).mono ?_
    rintro r w' ⟨ys, p, c, q', h1, h2, h3, h4, h5⟩
    by_cases hz : D0.2.2 = 0
    · rw [hq hz, hT0] at h1 h2 h3 h4
      exact ⟨ys, p, c, q', h1, h2, h3, h4, h5⟩
    · rw [readTx_err hz] at h1 h2 h3 h4
      have e : T0 = (t0, D0.2.1, D0.2.2) := by rw [← hT0, readTx_err hz]
      rw [e]
      exact ⟨ys, p, c, q', h1, h2, h3, fun h => absurd h hz, h5⟩
  rw [hT0] at f3 f4
  have HD0 := Lib.hid f2
  have HT0 := Lib.hid f3
  have HT4 := Lib.hid f4
  clear f1 f2 f3 f4 hN0 hD0 hT0 HRR2
  have HRB := Lib.hid hRB
  clear hRB
  unfold GotD at HGD
  unfold GotT2 at HGT
  obtain ⟨dl, dq, de⟩ := D0
  obtain ⟨⟨tr, ts, tc, tu, tops⟩, tq, te⟩ := T0
  unfold tv at HGT
  simp only at HGD HGT HRB HD0 HT0 HT4 HDT
  clear hin7
  by_cases hc7 : c2 = 7
  case' pos =>
    have HFR := Lib.hid (HFR7.out hc7)
    subst hc7
    clear HFR7 HFR8
    go_wp2_with fail
    refine HFR.out.mono ?_
    clear HFR
  case' neg =>
    have hc7' : ¬ (c2 : Int) = 7 := by omega
    clear HFR7
    go_wp2_with fail
    refine HFR8.out.mono ?_
    clear HFR8
  all_goals
    rintro e3 w3 ⟨K, rfl, hKD, hrd3, hb3⟩
    have HB3 : Hid (Below w.heap.size w w3) := below_step HB2.out hb3
    have HX03 := Lib.hid (kept_box HX02.out hb3)
    have HX3 := Lib.hid (kept_box HX2.out hb3)
    have HRD3 := Lib.hid hrd3
    have hX0lt := lt_of_block HX2.out
    obtain ⟨D, hD⟩ : ∃ D, w2.heap.size = D := ⟨_, rfl⟩
    rw [hD] at hKD hX0lt
    have HRD3 : Hid (Rd K D IN 0 0 w3) := by rw [← hD]; exact HRD3.out
    have HKD : Hid (w.heap.size + 1 < D ∧ D < K) := ⟨hX0lt, hKD⟩
    clear hrd3 hb3 hD HB2 HX02 HX2 hKD hX0lt
    have HG3 := Lib.hid (HGD.out K D w3 HRD3.out)
    go_wp2_with fail
    refine HG3.out.mono ?_
    rintro e5 w5 ⟨l, p5, c5, q5, rfl, hv5, hk5, hlc5, hpn5, hrd5, hq5, ho5⟩
    have hkd := HKD.out
    have HB5 : Hid (Below w.heap.size w w5) := only_new HB3.out ho5 (by omega)
    have hx05 := only_box HX03.out (by omega) ho5
    have hx5 := only_box HX3.out (by omega) ho5
    have HX5 := Lib.hid hx5
    have HX05 := Lib.hid hx05
    have HV5 := Lib.hid hv5
    have HK5 := Lib.hid hk5
    have HRD5 := Lib.hid hrd5
    have HLC := Lib.hid hlc5
    have HPN := Lib.hid hpn5
    have HQ5 := Lib.hid hq5
    have HRL := Lib.hid HRB.out
    clear hv5 hk5 hrd5 hlc5 hpn5 hq5 ho5 HGD HG3 HRD3 HB3 HX03 HX3 hx05
    have fx5 := fun o => frozen_of_block (o := o) hx5
    obtain ⟨y0, y1, y2, y3, y4, y5⟩ := six_cells hx5
    clear hx5
    go_wp2_with fail
    have ho6 := only_set w5 (w.heap.size + 1) 0 (.slice p5 l.length c5)
    have HX6 : Hid ((w5.setCell ⟨w.heap.size + 1, 0, none⟩ (.slice p5 l.length c5)).heap[w.heap.size + 1]? = some (.cells #[.slice p5 l.length c5, .int .u16 0, .int .u32 0, .int .u64 0, .int .i64 0, .slice none 0 0] 31 (0, 0))) := by
      show _ = _
      have := heap_setCell_same w5 (w.heap.size + 1) 0 _ _ (.slice p5 l.length c5) HX5.out
      simpa using this
    have HX06 := Lib.hid (only_box HX05.out (by omega) ho6)
    have HB6 : Hid (Below w.heap.size w (w5.setCell ⟨w.heap.size + 1, 0, none⟩ (.slice p5 l.length c5))) := only_new HB5.out ho6 (by omega)
    have HRD6 := Lib.hid (HRD5.out.kept ho6 (by omega) (by omega))
    have hap5 := HK5.out.apart (by decide) HX5.out
    have HV6 := Lib.hid (vrow_kept HV5.out ho6 hap5)
    have HK6 := Lib.hid (HK5.out.kept ho6 hap5)
    clear ho6 HX5 HX05 HB5 HRD5 HV5 HK5 fx5 hap5 y0 y1 y2 y3 y4 y5
    generalize w5.setCell ⟨w.heap.size + 1, 0, none⟩ (.slice p5 l.length c5) = w6 at HX6 HX06 HB6 HRD6 HV6 HK6 ⊢
    have HG6 := Lib.hid (HGT.out K D q5 w6 (fun h => (HQ5.out h).2) HRD6.out)
    go_wp2_with fail
    refine HG6.out.mono ?_
    rintro e7 w7 ⟨ys, p7, c7, q7, rfl, ht7, hrd7, hq7, ho7⟩
    have HB7 : Hid (Below w.heap.size w w7) := only_new HB6.out ho7 (by omega)
    have hx7 := only_box HX6.out (by omega) ho7
    have HX7 := Lib.hid hx7
    have HX07 := Lib.hid (only_box HX06.out (by omega) ho7)
    have hap6 := HK6.out.apart (by decide) HRD6.out.box
    have HV7 := Lib.hid (vrow_kept HV6.out ho7 hap6)
    have HK7 := Lib.hid (HK6.out.kept ho7 hap6)
    have HT7 := Lib.hid ht7
    have HRD7 := Lib.hid hrd7
    have HQ7 := Lib.hid hq7
    clear ht7 hrd7 hq7 ho7 hap6 HG6 HGT HX6 HX06 HB6 HRD6 HV6 HK6
    have fx7 := fun o => frozen_of_block (o := o) hx7
    obtain ⟨z0, z1, z2, z3, z4, z5⟩ := six_cells hx7
    clear hx7
    go_wp2_with fail
    have ho8 := only_txn w7 (w.heap.size + 1) (.int .u16 tr) (.int .u32 ts) (.int .u64 tc) (.int .i64 tu) (.slice p7 tops.length c7)
    have HX8 := Lib.hid (box_txn (b' := .int .u16 tr) (c' := .int .u32 ts) (d' := .int .u64 tc) (e' := .int .i64 tu) (f' := .slice p7 tops.length c7) HX7.out)
    have HX08 := Lib.hid (only_box HX07.out (by omega) ho8)
    have HB8 := Lib.hid (only_new HB7.out ho8 (by omega))
    have HRD8 := Lib.hid (HRD7.out.kept ho8 (by omega) (by omega))
    have hap7 := HK7.out.apart (by decide) HX7.out
    have HV8 := Lib.hid (vrow_kept HV7.out ho8 hap7)
    have HK8 := Lib.hid (HK7.out.kept ho8 hap7)
    have HT8 := Lib.hid (HT7.out.only HX7.out ho8)
    clear ho8 HX7 HX07 HB7 HRD7 HV7 HK7 HT7 fx7 hap7 z0 z1 z2 z3 z4 z5
    generalize (((((w7.setCell ⟨w.heap.size + 1, 1, none⟩ (.int .u16 tr)).setCell ⟨w.heap.size + 1, 2, none⟩ (.int .u32 ts)).setCell ⟨w.heap.size + 1, 3, none⟩ (.int .u64 tc)).setCell ⟨w.heap.size + 1, 4, none⟩ (.int .i64 tu)).setCell ⟨w.heap.size + 1, 5, none⟩ (.slice p7 tops.length c7)) = w8 at HX8 HX08 HB8 HRD8 HV8 HK8 HT8 ⊢
    have HDN := Lib.hid (done_any w8 HRD8.out)
    go_wp2_with fail
    refine HDN.out.mono ?_
    rintro e9 w9 ⟨rfl, hb9⟩
    have HB9 : Hid (Below w.heap.size w w9) := below_step HB8.out hb9
    have HX9 := Lib.hid (kept_box HX8.out hb9)
    have HX09 := Lib.hid (kept_box HX08.out hb9)
    have HV9 := Lib.hid (HV8.out.below hb9)
    have HK9 := Lib.hid (HK8.out.below hb9)
    have HT9 := Lib.hid (HT8.out.below hb9)
    clear hb9 HDN HX8 HX08 HB8 HRD8 HV8 HK8 HT8
    by_cases hte : te = 0
    case neg =>
      have HRR : Hid (RR = (e0, (te : Int))) := by show _ = _; rw [HRB.out, if_pos hte]
      rw [if_neg hte]
      have q1 : ((te : Int) == 0) = false := beq_no (by omega)
      have q2 : ((te : Int) != 0) = true := bne_int (by omega)
      go_wp2_with fail
      go_step3
      exact ⟨rfl, (te : Int), _, _, _, _, _, _, _, _, _, _, _, _, _, _, _, _, _, _, _, _, _, _, _, _, _, _, _, _, _, _, _, _, _, _, _, _, _, _, rfl, HRR.out, HX09.out, HB9.out⟩
    rw [if_pos hte]
    have hq7 := HQ7.out hte
    have hde : de = 0 := by
      by_cases hd : de = 0
      · exact hd
      · have := HDT.out hd; omega
    obtain ⟨hll, -⟩ := HQ5.out hde
    subst hll
    by_cases hlt : tq < IN.length
    · have HRR : Hid (RR = (e0, 15)) := by show _ = _; rw [HRB.out, if_neg (by omega), if_pos hlt]
      rw [if_pos (by omega)]
      have q0 : (15 : Int) ≠ 0 := by omega
      go_wp2_with fail
      go_step3
      exact ⟨rfl, 15, _, _, _, _, _, _, _, _, _, _, _, _, _, _, _, _, _, _, _, _, _, _, _, _, _, _, _, _, _, _, _, _, _, _, _, _, _, _, rfl, HRR.out, HX09.out, HB9.out⟩
    rw [if_neg (by omega)]
    have HRB2 := HRB.out
    rw [if_neg (by omega), if_neg hlt] at HRB2
    have HRB3 := Lib.hid HRB2
    clear HRB2 HRB hq7 hlt
    have HFE : Hid (Calls Tryz.prog 12 #[.agg #[.slice p5 l.length c5, .int .u16 tr, .int .u32 ts, .int .u64 tc, .int .i64 tu, .slice p7 tops.length c7]] w9 fun r w' => r = .returned (.int .i64 (fitE ⟨l, ⟨tr, ts, tc, tu, tops⟩⟩)) ∧ Below w9.heap.size w9 w') := by
      have hlo := HT9.out.ops
      have hll : tops.length = ys.length := by have := congrArg List.length hlo; simpa using this
      have h1 := HD0.out.2.2.2
      have h2 := HT0.out.2.2
      exact fitE_spec ⟨l, ⟨tr, ts, tc, tu, tops⟩⟩ ys p5 p7 c5 c7 w9 ⟨HV9.out, HD0.out.2.2.1, HLC.out, HPN.out, HT9.out.inT HT0.out.1⟩ (fun x hx => by
        have hm : x.1 ∈ tops := by
          have : tops = ys.map (·.1) := hlo
          rw [this]; exact List.mem_map.2 ⟨x, hx, rfl⟩
        have h3 := HT4.out x.1 hm
        have h4 := HT0.out.2.1 x.1 hm
        exact ⟨by omega, h4⟩) (by simp only; omega) (by omega)
    have HEV : Hid (ev ⟨l, ⟨tr, ts, tc, tu, tops⟩⟩ p5 c5 p7 c7 = .agg #[.slice p5 l.length c5, .int .u16 tr, .int .u32 ts, .int .u64 tc, .int .i64 tu, .slice p7 tops.length c7]) := rfl
    generalize fitE ⟨l, ⟨tr, ts, tc, tu, tops⟩⟩ = FE at HFE HRB3
    obtain ⟨x0, x1, x2, x3, x4, x5⟩ := six_cells HX9.out
    go_wp2_with fail
    refine HFE.out.mono ?_
    rintro e10 w10 ⟨rfl, hb10⟩
    have HB10 : Hid (Below w.heap.size w w10) := below_step HB9.out hb10
    have HX10 := Lib.hid (kept_box HX9.out hb10)
    have HX010 := Lib.hid (kept_box HX09.out hb10)
    have HV10 := Lib.hid (HV9.out.below hb10)
    have HK10 := Lib.hid (HK9.out.below hb10)
    have HT10 := Lib.hid (HT9.out.below hb10)
    clear hb10 HFE HX9 HX09 HV9 HK9 HT9 HB9 x0 x1 x2 x3 x4 x5
    by_cases hfe : FE = 0
    case neg =>
      have HRR : Hid (RR = (e0, FE)) := by show _ = _; rw [HRB3.out, if_pos hfe]
      have q1 : (FE == 0) = false := beq_no hfe
      have q2 : (FE != 0) = true := bne_int hfe
      go_wp2_with fail
      go_step3
      exact ⟨rfl, FE, _, _, _, _, _, _, _, _, _, _, _, _, _, _, _, _, _, _, _, _, _, _, _, _, _, _, _, _, _, _, _, _, _, _, _, _, _, _, rfl, HRR.out, HX010.out, HB10.out⟩
    subst hfe
    have HRR : Hid (RR = (⟨l, ⟨tr, ts, tc, tu, tops⟩⟩, 0)) := by show _ = _; rw [HRB3.out, if_neg (by simp)]
    obtain ⟨x0, x1, x2, x3, x4, x5⟩ := six_cells HX10.out
    obtain ⟨s0, s1, s2, s3, s4, s5⟩ := six_cells HX010.out
    have fr := fun o => frozen_of_block (o := o) HX010.out
    go_wp2_with fail
    simp only [Exit.jump]
    have hS := only_six w10 w.heap.size (.slice p5 l.length c5) (.int .u16 tr) (.int .u32 ts) (.int .u64 tc) (.int .i64 tu) (.slice p7 tops.length c7)
    refine bodyPost_ret (results_ct (p := 2) (t := 3) (ty := 31) rfl _ _ ⟨w.heap.size, 0, none⟩ _ rfl (loadW (box_six HX010.out) rfl)) rfl ?_
    unfold Decoded
    rw [HRR.out]
    exact ⟨ys, p5, c5, p7, c7, by rw [HEV.out]; rfl, vrow_kept HV10.out hS (HK10.out.apart (by decide) HX010.out), HT10.out.only HX010.out hS, only_new HB10.out hS (Nat.le_refl _)⟩
end Go.Proofs.YtceanfpcddcfoaaGreat
