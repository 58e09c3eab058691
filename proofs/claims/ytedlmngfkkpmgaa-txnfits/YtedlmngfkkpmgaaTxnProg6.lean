
/-
  What the program's Get of layer 9 leaves. No conditions beyond what each theorem states.
-/
import Derived.Test.YtedlmngfkkpmgaaTxnSpec
import Derived.Test.YtedlmngfkkpmgaaOpProg5
import Derived.Deep.RegionLaw
namespace Go.Proofs.Ytedlmngfkkpmgaa
open Go.ChangeShapes Go.WideShapes Go.ChangeAt Go.RowKit Go.Lib
set_option linter.unusedVariables false
set_option linter.unusedSimpArgs false

theorem szT9 : (Try.prog.info? 27).map (·.size) = some 5 := by kernel_rfl
theorem infoO9 : (Try.prog.info? 69).map (fun i => (i.zero, i.size, i.bytes)) = some (some (.agg #[.int .i64 0, .int .u16 0, .int .u32 0, .int .u32 0, .string ⟨#[]⟩, .slice none 0 0, .int .u32 0]), 7, 72) := by kernel_rfl
/-- Behind an error nothing is read. -/
theorem readO_err {bs : List UInt8} {q e : Nat} (h : e ≠ 0) : readO bs q e = (o0, q, e) := by
  unfold readO
  rw [rdN_err h]
  simp only
  rw [if_neg (by decide)]
  unfold readB
  rw [if_neg (by decide), if_neg (by decide), rdN_err h]
  simp only
  rw [if_neg h]
/-- Operations that are read on behind an error too: what is read so far. -/
def Sofar (bs : List UInt8) (n q0 e0 k : Nat) (l : List Om) (q e : Nat) : Prop := (e = 0 ∧ rdOs bs n q0 e0 = (l ++ (rdOs bs (n - k) q 0).1, (rdOs bs (n - k) q 0).2)) ∨ (e ≠ 0 ∧ (rdOs bs n q0 e0).2.2 = e)
theorem Sofar.start (bs : List UInt8) (n q e : Nat) : Sofar bs n q e 0 [] q e := by
  by_cases h : e = 0
  · subst h; exact Or.inl ⟨rfl, rfl⟩
  · exact Or.inr ⟨h, by rw [rdOs_err bs n q e h]⟩
theorem Sofar.next {bs : List UInt8} {n q0 e0 k q e q' : Nat} {l : List Om} (h : Sofar bs n q0 e0 k l q e) (hk : k < n) (hq : (readO bs q e).2.2 = 0 → q' = (readO bs q e).2.1) : Sofar bs n q0 e0 (k + 1) (l ++ [(readO bs q e).1]) q' (readO bs q e).2.2 := by
  rcases h with ⟨rfl, h⟩ | ⟨h1, h⟩
  · rw [rdOs_step hk] at h
    by_cases hz : (readO bs q 0).2.2 = 0
    · refine Or.inl ⟨hz, ?_⟩
      rw [h, hq hz, hz]
      simp
    · refine Or.inr ⟨hz, ?_⟩
      rw [h, rdOs_err _ _ _ _ hz]
  · have he : (readO bs q e).2.2 = e := by rw [readO_err h1]
    exact Or.inr ⟨by rw [he]; exact h1, by rw [he]; exact h⟩
theorem Sofar.done {bs : List UInt8} {n q0 e0 q e : Nat} {l : List Om} (h : Sofar bs n q0 e0 n l q e) : (e = 0 ∧ rdOs bs n q0 e0 = (l, q, 0)) ∨ (e ≠ 0 ∧ (rdOs bs n q0 e0).2.2 = e) := by
  rcases h with ⟨h1, h⟩ | h
  · refine Or.inl ⟨h1, ?_⟩
    rw [h, Nat.sub_self]
    simp [rdOs]
  · exact Or.inr h
/-- What Get holds: its result (still nothing), its variable, the row of operations in it, and the reader. -/
structure RT (w : World) (K D : Nat) (bs : List UInt8) (q e X : Nat) (a b c d : Int) (u v : Value) (ys : List OV) (W : World) : Prop where
  res : W.heap[w.heap.size]? = some (.cells #[.int .u16 0, .int .u32 0, .int .u64 0, .int .i64 0, .slice none 0 0] 27 (0, 0))
  box : W.heap[X]? = some (.cells #[.int .u16 a, .int .u32 b, .int .u64 c, .int .i64 d, u] 27 (0, 0))
  far : w.heap.size < X
  own : W.ownsRow w.heap.size 69 7 v ys.length (layO.flat ys)
  each : ∀ y ∈ ys, OwnO 114 W y
  only : Only K w W
  lt : K < w.heap.size
  ltD : D < w.heap.size
  rd : Rd K D bs q e W
theorem RT.on {w W W' : World} {K D : Nat} {bs : List UInt8} {q e q' e' X : Nat} {a b c d : Int} {u v : Value} {ys : List OV} (h : RT w K D bs q e X a b c d u v ys W) (hr : Rd K D bs q' e' W') (ho : Only K W W') : RT w K D bs q' e' X a b c d u v ys W' :=
  ⟨only_box h.res (by have := h.lt; omega) ho, only_box h.box (by have := h.lt; have := h.far; omega) ho, h.far,
   h.own.kept (row := some K) ⟨ho.os, ho.tape, ho.output, ho.size, fun k hk hn => ho.block k hk (fun e => hn (by rw [e]))⟩ (Or.inr fun e => by have := (h.own.lt _ e).1; have := h.lt; omega),
   fun y hy => (h.each y hy).only (by decide) h.rd.box ho, Kept.trans h.only ho (fun _ _ e => e), h.lt, h.ltD, hr⟩
theorem RT.below {w W W' : World} {K D : Nat} {bs : List UInt8} {q e X : Nat} {a b c d : Int} {u v : Value} {ys : List OV} (h : RT w K D bs q e X a b c d u v ys W) (hb : Below W.heap.size W W') : RT w K D bs q e X a b c d u v ys W' := h.on (h.rd.below hb) (Kept.ofBelow hb)
theorem RT.onto {w W W' : World} {K D : Nat} {bs : List UInt8} {q e X n : Nat} {a b c d : Int} {u v v' : Value} {ys : List OV} {y : OV} {cs : List Value} (h : RT w K D bs q e X a b c d u v ys W) (hy : OwnO 114 W y) (hcs : cs = layO.enc y) (hn : n = ys.length + 1) (hown : W'.ownsRow w.heap.size 69 7 v' n (layO.flat ys ++ cs)) (hg : W.grownBy W' v.ownBlock) : RT w K D bs q e X a b c d u v' (ys ++ [y]) W' := by
  have hk : Kept (fun i => v.ownBlock = some i) W W' := ⟨hg.os, hg.tape, hg.output, hg.size, fun k hk hn => hg.block k hk (fun e => hn e.symm)⟩
  refine ⟨box_grown (by decide) h.res h.own hg, box_grown (by decide) h.box h.own hg, h.far, ?_, ?_, Kept.trans h.only hk (fun i hi e => by have := (h.own.lt _ e).1; omega), h.lt, h.ltD, h.rd.kept hk (fun e => by have := (h.own.lt _ e).1; have := h.lt; omega) (fun e => by have := (h.own.lt _ e).1; have := h.ltD; omega)⟩
  · rw [layO.flat_append, layO.flat_one, List.length_append, ← hcs]
    rw [hn] at hown
    exact hown
  · intro z hz
    rcases List.mem_append.1 hz with hz | hz
    · exact (h.each z hz).grown (by decide) h.own hg
    · rw [List.mem_singleton.1 hz]; exact hy.grown (by decide) h.own hg
theorem RT.set {w W : World} {K D : Nat} {bs : List UInt8} {q e X : Nat} {a b c d : Int} {u v : Value} {ys : List OV} (h : RT w K D bs q e X a b c d u v ys W) (u' : Value) : RT w K D bs q e X a b c d u' v ys (W.setCell ⟨X, 4, none⟩ u') := by
  have hs := only_set W X 4 u'
  have hap := kind_apart (by decide) h.box h.own
  refine ⟨by rw [heap_setCell_other _ _ _ _ (by have := h.far; simp; omega)]; exact h.res, by rw [heap_setCell_same W _ 4 _ _ u' h.box]; rfl, h.far, ?_, fun y hy => (h.each y hy).only (by decide) h.box hs, Kept.trans h.only hs (fun i hi e => by have := h.far; omega), h.lt, h.ltD, h.rd.kept hs (by have := h.far; have := h.lt; omega) (by have := h.far; have := h.ltD; omega)⟩
  exact h.own.kept (row := some X) ⟨hs.os, hs.tape, hs.output, hs.size, fun k hk hn => hs.block k hk (fun e => hn (by rw [e]))⟩ (Or.inr hap)
theorem RT.new {w w1 : World} {K D : Nat} {bs : List UInt8} {q e : Nat} (a b c d : Int) (hK : K < w.heap.size) (hD : D < w.heap.size) (hR : Rd K D bs q e w1) (ho : Only K (w.alloc (.cells #[.int .u16 0, .int .u32 0, .int .u64 0, .int .i64 0, .slice none 0 0] 27)) w1) :
    RT w K D bs q e w1.heap.size a b c d (.slice none 0 0) (.slice none 0 0) [] (w1.alloc (.cells #[.int .u16 a, .int .u32 b, .int .u64 c, .int .i64 d, .slice none 0 0] 27)) := by
  have hX : w1.heap[w.heap.size]? = some (.cells #[.int .u16 0, .int .u32 0, .int .u64 0, .int .i64 0, .slice none 0 0] 27 (0, 0)) := only_box (heap_alloc_new w _) (by omega) ho
  have hl := lt_of_block hX
  exact ⟨kept_box hX (below_alloc (Below.refl _ _) _), heap_alloc_new w1 _, hl, World.ownsRow_nil _ w.heap.size 69 7, fun y hy => (by cases hy), (Kept.trans (Kept.ofBelow (below_alloc (Below.refl _ _) _)) ho (fun _ _ e => e)).alloc _, hK, hD, hR.below (below_alloc (Below.refl _ _) _)⟩
/-- What Get leaves, and in blocks of which kind. -/
def GotTK (bs : List UInt8) (q e K D : Nat) (w : World) (r : Ending) (w' : World) : Prop := ∃ ys p c q', r = .returned (tv (readTx bs q e).1 p c) ∧ RowT (readTx bs q e).1 ys p c w' ∧ Rd K D bs q' (readTx bs q e).2.2 w' ∧ ((readTx bs q e).2.2 = 0 → q' = (readTx bs q e).2.1) ∧ Only K w w' ∧ KindAt 69 w' p ∧ ∀ y ∈ ys, KindAt 114 w' y.2.1
set_option maxHeartbeats 6400000 in
set_option maxRecDepth 20000 in
theorem getT_kind (bs : List UInt8) (q e K D : Nat) (w : World) (hR : Rd K D bs q e w) (hb : bs.length ≤ 100000) (he : e < 16) : Calls Try.prog 21 #[.pointer (some ⟨K, 0, none⟩)] w (GotTK bs q e K D w) := by
  obtain ⟨i0, hi, hz0, hz1, hz2⟩ := info_parts infoO9
  have hK := lt_of_block hR.box
  have hD := lt_of_block hR.row
  have HRT := Lib.hid (readTx_ch bs q e)
  have L5 := chS_le (E := e) hR.fits 5
  have HC : Hid (∀ i (l : Int), l = (lim9 i : Int) → ∀ (W : World), Rd K D bs (chS bs q e i).1 (chS bs q e i).2 W → Calls Try.prog 39 #[.pointer (some ⟨K, 0, none⟩), .int .u64 l] W fun r w' => r = .returned (.int .u64 (chV bs q e i : Int)) ∧ Rd K D bs (chS bs q e (i + 1)).1 (chS bs q e (i + 1)).2 w' ∧ Only K W w') := fun i l hl W h => by
    subst hl
    exact rnum_any (lim9 i) (by match i with | 0 => decide | 1 => decide | 2 => decide | 3 => decide | n + 4 => exact (show (16 : Nat) < 18446744073709551616 from by decide)) W h
  have H0 := Lib.hid (fun (o : Obj) => HC.out 0 65535 rfl (w.alloc o) (hR.below (below_alloc (Below.refl _ _) o)))
  have H1 := Lib.hid (HC.out 1 268435456 rfl)
  have H2 := Lib.hid (HC.out 2 1099511627776 rfl)
  have H3 := Lib.hid (HC.out 3 7 rfl)
  have H4 := Lib.hid (HC.out 4 16 rfl)
  have l0 := chV_le (E := e) hR.fits 0
  have l1 := chV_le (E := e) hR.fits 1
  have l2 := chV_le (E := e) hR.fits 2
  have l3 := chV_le (E := e) hR.fits 3
  have l4 := chV_le (E := e) hR.fits 4
  simp only [lim9] at l0 l1 l2 l3 l4
  have he5 : (chS bs q e 5).2 < 16 := by omega
  simp only [show 0 + 1 = 1 from rfl, show 1 + 1 = 2 from rfl, show 2 + 1 = 3 from rfl, show 3 + 1 = 4 from rfl, show 4 + 1 = 5 from rfl] at H0 H1 H2 H3 H4
  clear HC hR L5
  generalize chV bs q e 0 = a at *
  generalize chV bs q e 1 = b at *
  generalize chV bs q e 2 = c at *
  generalize chV bs q e 3 = d at *
  generalize chV bs q e 4 = n at *
  generalize chS bs q e 1 = s1 at *
  generalize chS bs q e 2 = s2 at *
  generalize chS bs q e 3 = s3 at *
  generalize chS bs q e 4 = s4 at *
  generalize chS bs q e 5 = s5 at *
  obtain ⟨q5, e5⟩ := s5
  simp only at *
  have za : IntKind.u16.wrap (a : Int) = (a : Int) := by rw [IntKind.wrap_u16]; omega
  have zb : IntKind.u32.wrap (b : Int) = (b : Int) := by rw [IntKind.wrap_u32]; omega
  have zd : IntKind.i64.wrap (d : Int) = (d : Int) := by rw [IntKind.wrap_i64]; omega
  unfold GotTK
  go_enter Try.func21, Try.ntmps21
  go_wp2_with fail
  refine (H0.out _).mono ?_
  rintro r w1 ⟨rfl, hr1, ho1⟩
  have HR1 := Lib.hid hr1
  have HO1 := Lib.hid ho1
  clear hr1 ho1
  go_wp2_with fail
  refine (H1.out _ HR1.out).mono ?_
  rintro r w2 ⟨rfl, hr2, ho2⟩
  have HR2 := Lib.hid hr2
  have HO2 := Lib.hid (HO1.out.step ho2)
  clear hr2 ho2
  go_wp2_with fail
  refine (H2.out _ HR2.out).mono ?_
  rintro r w3 ⟨rfl, hr3, ho3⟩
  have HR3 := Lib.hid hr3
  have HO3 := Lib.hid (HO2.out.step ho3)
  clear hr3 ho3
  go_wp2_with fail
  refine (H3.out _ HR3.out).mono ?_
  rintro r w4 ⟨rfl, hr4, ho4⟩
  have HR4 := Lib.hid hr4
  have HO4 := Lib.hid (HO3.out.step ho4)
  clear hr4 ho4
  have T0 := Lib.hid (RT.new (a : Int) (b : Int) (c : Int) (d : Int) hK hD HR4.out HO4.out)
  generalize hX : w4.heap.size = X at T0
  clear HR1 HR2 HR3 HR4 HO1 HO2 HO3 HO4
  go_wp2_with fail
  refine (H4.out _ T0.out.rd).mono ?_
  rintro r w5 ⟨rfl, hr5, ho5⟩
  have T5 := Lib.hid (T0.out.on hr5 ho5)
  clear hr5 ho5 T0 hX
  clear H0 H1 H2 H3 H4
  go_wp2
  go_loopg [18] n (fun g i wr => ∃ (k : Nat) (v : Value) (ys : List OV) (q' e' : Nat), k ≤ n ∧ n - k ≤ g ∧ i = .int .u64 (k : Int) ∧ ys.length = k ∧ e' < 16 ∧ Sofar bs n q5 e5 k (ys.map (·.1)) q' e' ∧ RT w K D bs q' e' X a b c d v v ys wr)
  case atStart => exact ⟨0, .slice none 0 0, [], q5, e5, Nat.zero_le _, by omega, rfl, rfl, he5, Sofar.start _ _ _ _, T5.out⟩
  case round =>
    clear T5
    obtain ⟨k, v, ys, q', e', hk, hg, rfl, hyl, he', hS, hT⟩ := hrel
    have HYL := Lib.hid hyl
    have HS := Lib.hid hS
    have T := Lib.hid hT
    clear hS hT hyl
    by_cases hlt : k < n
    · have hkn : (k : Int) < (n : Int) := by omega
      have hk16 : k < 16 := by omega
      have HG := Lib.hid (getO_kind bs q' e' K D (wr.drew) (T.out.rd.below (below_drewN (Below.refl _ _) 1)) hb he')
      unfold GotOK at HG
      have hre := (readO_range (e := e') T.out.rd.fits he' (by omega)).2.1
      have HSN := Lib.hid (fun (q2 : Nat) (h : (readO bs q' e').2.2 = 0 → q2 = (readO bs q' e').2.1) => HS.out.next hlt h)
      generalize readO bs q' e' = ro at HG HSN hre
      obtain ⟨om, qo, eo⟩ := ro
      simp only at HG HSN hre
      have HOM : Hid (∀ p c, ov om p c = .agg #[.int .i64 om.kind, .int .u16 om.r, .int .u32 om.n, .int .u32 om.num, .string ⟨om.text.toArray⟩, .slice p om.spans.length c, .int .u32 om.seq]) := fun p c => rfl
      generalize hcc : (⟨om.text.toArray⟩ : ByteArray) = bt at HOM
      obtain ⟨z0, z1, z2, z3, z4⟩ := five_cells T.out.box
      have hX2 : X < wr.heap.size := lt_of_block T.out.box
      have hne1 : ¬ X = wr.heap.size := by omega
      have hne2 : ¬ wr.heap.size = X := by omega
      go_wp2_with fail
      go_region_law (first
        | (refine step_append_own rfl (.tmp 21) (.tmp 24) 25 rfl w.heap.size 69 i0 (.agg #[.int .i64 0, .int .u16 0, .int .u32 0, .int .u32 0, .string ⟨#[]⟩, .slice none 0 0, .int .u32 0]) 7 72 Try.underlying25 hi hz0 hz1 hz2 rfl (by decide) v ys.length (layO.flat ys) (by simp [Act.eval, Act.put]) T5.out.own ⟨w4.heap.size, 0, none⟩ 1 1 [.int .i64 om.kind, .int .u16 om.r, .int .u32 om.n, .int .u32 om.num, .string bt, .slice p4 om.spans.length c4, .int .u32 om.seq] (by simp [Act.eval, Act.put]) rfl (by have := @cells_new w4 [.int .i64 om.kind, .int .u16 om.r, .int .u32 om.n, .int .u32 om.num, .string bt, .slice p4 om.spans.length c4, .int .u32 om.seq] 69; simpa using this) (by have := layO.one (om, p4, c4); rw [← hcc]; exact this) (by have := HYL.out; unfold maxLen; omega) (by have := HYL.out; omega) T5.out.only.size ?_; intro v' w6 hown' hgrow; obtain ⟨pv, cv, rfl⟩ := owns_slice hown'; have T6 := Lib.hid (T5.out.onto HY5.out (by rw [← hcc]; rfl) (by rfl) hown' hgrow); have z6 := (five_cells T6.out.box).2.2.2.2; have f6 : w6.frozen? ⟨X, 4, none⟩ = false := frozen_of_block T6.out.box)
        | (go_simp; go_wp2_with (go_at_call 40; refine HG.out.mono ?_; rintro r w4 ⟨p4, c4, q4, rfl, hG, hc4, hp4, hr4, hq4, ho4, hk4⟩; rw [HOM.out]; have T4 := Lib.hid ((T.out.below (below_drewN (Below.refl _ _) 1)).on hr4 ho4); have HQ4 := Lib.hid hq4; have k4 := (five_cells T4.out.box).2.2.2.2; have T5 := Lib.hid (T4.out.below (below_alloc (Below.refl _ _) (.cells #[.int .i64 om.kind, .int .u16 om.r, .int .u32 om.n, .int .u32 om.num, .string bt, .slice p4 om.spans.length c4, .int .u32 om.seq] 69))); have k5 := (five_cells T5.out.box).2.2.2.2; have HY5 : Hid (OwnO 114 (w4.alloc (.cells #[.int .i64 om.kind, .int .u16 om.r, .int .u32 om.n, .int .u32 om.num, .string bt, .slice p4 om.spans.length c4, .int .u32 om.seq] 69)) (om, p4, c4)) := (OwnO.below (show OwnO 114 w4 (om, p4, c4) from ⟨⟨hG, hc4, hp4⟩, hk4⟩) (below_alloc (Below.refl _ _) _)); have hX4 : ¬ X = w4.heap.size := (by have := lt_of_block T4.out.box; omega); clear hG hr4 ho4 hq4 hk4)))
      all_goals
        have T7 : Hid (RT w K D bs q4 eo X a b c d (.slice pv (ys.length + 1) cv) (.slice pv (ys.length + 1) cv) (ys ++ [(om, p4, c4)]) (w6.setCell ⟨X, 4, none⟩ (.slice pv (ys.length + 1) cv))) := T6.out.set _
        have HS7 : Hid (Sofar bs n q5 e5 (k + 1) ((ys ++ [(om, p4, c4)]).map (·.1)) q4 eo) := by rw [List.map_append]; exact HSN.out q4 HQ4.out
        clear hown' hgrow
        go_wp2
        go_roundg (n - (k + 1))
        case measure => omega
        case rel => exact ⟨k + 1, _, ys ++ [(om, p4, c4)], q4, eo, by omega, Nat.le_refl _, by go_num, by rw [List.length_append, HYL.out]; rfl, hre, HS7.out, T7.out⟩
    · have : k = n := by omega
      subst this
      have hkk : ¬ (k : Int) < (k : Int) := by omega
      have HE := Lib.hid (error_any wr T.out.rd)
      have HDN := Lib.hid HS.out.done
      obtain ⟨z0, z1, z2, z3, z4⟩ := five_cells T.out.box
      obtain ⟨x0, x1, x2, x3, x4⟩ := five_cells T.out.res
      have fx : ∀ o, wr.frozen? ⟨w.heap.size, o, none⟩ = false := fun o => frozen_of_block T.out.res
      have hne : ¬ w.heap.size = X := by have := T.out.far; omega
      have hne2 : ¬ X = w.heap.size := by have := T.out.far; omega
      obtain ⟨p1, c1, hv, -, g1, g2, g3⟩ := grow_owns layO_pos T.out.own
      have hown := T.out.own
      rw [hv] at hown z4
      have HGR := Lib.hid g1
      have HKO := Lib.hid (kind_owns hown)
      clear hown g1 HS hv
      go_wp2_with fail
      refine HE.out.mono ?_
      rintro r w8 ⟨rfl, he8⟩
      obtain rfl := Eq.symm he8
      by_cases h0 : e' = 0
      · subst h0
        have HR : Hid (readTx bs q e = (⟨(a : Int), (b : Int), (c : Int), (d : Int), ys.map (·.1)⟩, q', 0)) := by
          show _ = _
          rcases HDN.out with ⟨-, h⟩ | ⟨h, -⟩
          · rw [HRT.out, h]; rfl
          · exact absurd rfl h
        go_wp2
        (try simp only [Exit.inBlock, Exit.then])
        have hS := only_five wr w.heap.size (.int .u16 (a : Int)) (.int .u32 (b : Int)) (.int .u64 (c : Int)) (.int .i64 (d : Int)) (.slice p1 ys.length c1)
        refine bodyPost_ret (results_cell_row rfl _ _ w.heap.size 27 #[.int .u16 (a : Int), .int .u32 (b : Int), .int .u64 (c : Int), .int .i64 (d : Int), .slice p1 ys.length c1] (0, 0) _ rfl (box_five T.out.res) Try.underlying27 rfl szT9) rfl ?_
        rw [HR.out]
        have hap := HKO.out.apart (by decide) T.out.res
        refine ⟨ys, p1, c1, q', by unfold tv; simp only [List.length_map], ⟨rfl, HGR.out.kept hS hap, fun y hy => ((T.out.each y hy).only (by decide) T.out.res hS).1, by simpa using g2, g3⟩, T.out.rd.kept hS (by have := T.out.lt; omega) (by have := T.out.ltD; omega), fun _ => rfl, Kept.trans T.out.only hS (fun i hi e => by omega), HKO.out.kept hS hap, fun y hy => ((T.out.each y hy).only (by decide) T.out.res hS).2⟩
      · have hz1 : ((e' : Int) == 0) = false := beq_no (by omega)
        have hz2 : ((e' : Int) != 0) = true := bne_int (by omega)
        have HR : Hid (readTx bs q e = (t0, (rdOs bs k q5 e5).2.1, e')) := by
          show _ = _
          rcases HDN.out with ⟨h, -⟩ | ⟨h, h2⟩
          · exact absurd h h0
          · rw [HRT.out, h2, if_neg h0, ← h2]
        go_wp2
        (try simp only [Exit.inBlock, Exit.then])
        have hS := only_five wr w.heap.size (.int .u16 0) (.int .u32 0) (.int .u64 0) (.int .i64 0) (.slice none 0 0)
        refine bodyPost_ret (results_cell_row rfl _ _ w.heap.size 27 #[.int .u16 0, .int .u32 0, .int .u64 0, .int .i64 0, .slice none 0 0] (0, 0) _ rfl (box_five T.out.res) Try.underlying27 rfl szT9) rfl ?_
        rw [HR.out]
        refine ⟨[], none, 0, q', rfl, ⟨rfl, GRow.nil _ _ _, fun y hy => (by cases hy), Nat.le_refl _, fun _ => rfl⟩, T.out.rd.kept hS (by have := T.out.lt; omega) (by have := T.out.ltD; omega), fun h => absurd h h0, Kept.trans T.out.only hS (fun i hi e => by omega), KindAt.nil _ _, fun y hy => (by cases hy)⟩
theorem getT_spec : GetTSpec := fun bs q e K D w hR hb he => (getT_kind bs q e K D w hR hb he).mono (by rintro r w' ⟨ys, p, c, q', h1, h2, h3, h4, h5, -, -⟩; exact ⟨ys, p, c, q', h1, h2, h3, h4, h5⟩)
end Go.Proofs.Ytedlmngfkkpmgaa
