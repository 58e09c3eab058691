/-
  Several texts of one proof, joined: each part says at its head what it proves. No conditions beyond what each theorem states.
-/
import Derived.Deep.SlicePairs
import Derived.Deep.DeepHandedRow
import Derived.Carry
import Derived.ChangeSame
import Derived.Test.YtceanfpcddcfoaaGreatZ09
import Derived.Test.YtceanfpcddcfoaaGreatZ06
import Derived.Test.YtceanfpcddcfoaaGreatZ07
import Derived.Test.YtceanfpcddcfoaaGreatZ01
import Derived.Test.YtceanfpcddcfoaaGreatZ05
/-
  What the laws' own copyistmade.Op hands back. No conditions beyond what each theorem states.
-/
namespace Go.Proofs.YtceanfpcddcfoaaGreat
open Go.ChangeShapes Go.WideShapes Go.ChangeAt Go.RowKit Go.Lib
set_option linter.unusedVariables false
set_option linter.unusedSimpArgs false

theorem Hold.skind {w wr : World} {v : Value} {l : List Sp} (h : Hold layS w 136 v l wr) : ∃ p c, v = .slice p l.length c ∧ GRow layS wr p l ∧ l.length ≤ c ∧ (p = none → c = 0) ∧ KindAt 136 wr p := by
  obtain ⟨p, c, rfl, h1, h2, h3⟩ := h.gave layS_pos
  exact ⟨p, c, rfl, h1, h2, h3, kind_owns h.1⟩
/-- An operation that a call hands back, with spans of its own in a block of their kind. -/
def MadeO (o : Om) (w : World) (e : Ending) (w' : World) : Prop := ∃ p c, e = .returned (ov o p c) ∧ GRow layS w' p o.spans ∧ o.spans.length ≤ c ∧ (p = none → c = 0) ∧ KindAt 136 w' p ∧ Below w.heap.size w w'
theorem szR8 : (Tryz.prog.info? 71).map (·.size) = some 7 := by kernel_rfl
set_option maxHeartbeats 3200000 in
set_option maxRecDepth 20000 in
theorem mop_any (o : Om) (p : Option Addr) (c : Nat) (w : World) (hR : GRow layS w p o.spans) (hl : o.spans.length ≤ 8796093021952) :
    Calls Tryz.prog 60 #[ov o p c] w (MadeO o w) := by
  have HM : Hid (∀ W, Below w.heap.size w W → Calls Tryz.prog 83 #[.slice p o.spans.length c] W (Made layS 136 W o.spans)) := fun W hb => mspans_any o.spans p c W (hR.below hb) hl
  clear hR
  obtain ⟨kind, r, n, num, text, spans, seq⟩ := o
  unfold MadeO ov
  simp only at HM hl ⊢
  generalize (⟨text.toArray⟩ : ByteArray) = bt
  go_enter Tryz.func60, Tryz.ntmps60
  go_wp2_with fail
  have HX := Lib.hid (heap_alloc2_new w (.cells #[.int .i64 kind, .int .u16 r, .int .u32 n, .int .u32 num, .string bt, .slice p spans.length c, .int .u32 seq] 79) (.cells #[.int .i64 0, .int .u16 0, .int .u32 0, .int .u32 0, .string ⟨#[]⟩, .slice none 0 0, .int .u32 0] 71))
  have HY := Lib.hid (heap_alloc2_old w (.cells #[.int .i64 kind, .int .u16 r, .int .u32 n, .int .u32 num, .string bt, .slice p spans.length c, .int .u32 seq] 79) (.cells #[.int .i64 0, .int .u16 0, .int .u32 0, .int .u32 0, .string ⟨#[]⟩, .slice none 0 0, .int .u32 0] 71))
  obtain ⟨s0, s1, s2, s3, s4, s5, s6⟩ := seven_cells HY.out
  have t0 := cell_regrown s0
  have t1 := cell_regrown s1
  have t2 := cell_regrown s2
  have t3 := cell_regrown s3
  have t4 := cell_regrown s4
  have t5 := cell_regrown s5
  have t6 := cell_regrown s6
  clear s0 s1 s2 s3 s4 s5 s6
  refine wp_region_mix_below [0, 1, 2, 3, 4, 5, 6, 7, 8, 9, 11, 12] [10, 13] [14] (by kernel_rfl) (by kernel_rfl) (fun _ _ d _ _ h => by cases d <;> exact h) ?_
  simp only [pickOps, List.filterMap_cons, List.filterMap_nil, List.getElem?_cons_zero, List.getElem?_cons_succ]
  repeat (first | go_big_quiet_step (fail) | quiet_step (fail))
  refine wpQuiet_nil ?_
  clear t0 t1 t2 t3 t4 t5 t6
  refine seqM_step fun K hK => ?_
  go_wp2_with fail
  refine (HM.out _ (below_drewN (below_alloc (below_alloc (Below.refl _ _) _) _) 1)).mono ?_
  rintro e w4 ⟨v4, rfl, hH⟩
  obtain ⟨p4, c4, rfl, hG, hc4, hp4, hS⟩ := hH.skind
  have HB := Lib.hid (below_of_drew hH.2)
  have HG := Lib.hid hG
  have HS := Lib.hid hS
  have HX4 := Lib.hid (kept_box HX.out HB.out)
  clear hH hG hS
  go_wp2_with fail
  refine hK _ _ (regrown_of_below HB.out) ?_
  clear hK K
  refine seqM_step fun K hK => ?_
  go_wp2_with fail
  refine hK _ _ (regrown_of_below HB.out) ?_
  clear hK K
  refine seqM_nil ?_
  obtain ⟨x0, x1, x2, x3, x4, x5, x6⟩ := seven_cells HX4.out
  have fx : ∀ o, w4.frozen? ⟨w.heap.size + 1, o, none⟩ = false := fun o => frozen_of_block HX4.out
  go_wp2
  (try simp only [Exit.inBlock, Exit.then])
  have hS7 := only_seven w4 (w.heap.size + 1) (.int .i64 kind) (.int .u16 r) (.int .u32 n) (.int .u32 num) (.string bt) (.slice p4 spans.length c4) (.int .u32 seq)
  refine bodyPost_ret (results_cell_row rfl _ _ (w.heap.size + 1) 71 #[.int .i64 kind, .int .u16 r, .int .u32 n, .int .u32 num, .string bt, .slice p4 spans.length c4, .int .u32 seq] (0, 0) _ rfl (box_seven HX4.out) Tryz.underlying71 rfl szR8) rfl ?_
  have hap := HS.out.apart (by decide) HX4.out
  refine ⟨p4, c4, rfl, HG.out.kept hS7 hap, hc4, hp4, HS.out.kept hS7 hap, ?_⟩
  have hB4 : Below w.heap.size w w4 := below_step (below_alloc (below_alloc (Below.refl _ _) _) _) HB.out
  exact hB4.trans (hS7.below (Nat.le_trans hB4.size (Nat.le_refl _)) (fun k ek => by have ek : k = w.heap.size + 1 := ek; omega))
end Go.Proofs.YtceanfpcddcfoaaGreat
/-
  How a slice of things of one kind that comes in lies in memory. Of no program but its own alias; no conditions beyond what each theorem states.
-/
namespace Go.Proofs.YtceanfpcddcfoaaGreat
open Go.ChangeShapes Go.WideShapes Go.ChangeAt Go.RowKit Go.Joins Go.Lib
set_option linter.unusedVariables false
set_option linter.unusedSimpArgs false

theorem own : ownKnob Tryz.prog.godebug = none := by kernel_rfl
theorem laidOut : laidOutB Tryz.prog = true := by kernel_rfl

set_option maxRecDepth 100000 in
/-- Things that come in: each of its cells read by 'dec'. -/
theorem lay_open {α : Type} [Inhabited α] (L : Lay α) (Fit : α → Prop) (hpos : 0 < L.k) {H : Type} {enc : TypeId × Value → H} {W : World} {r : Reach} {base : Nat} {t e : TypeId} {v : Value} {d : DataW H} {ps : List MemPlace} (hu : Tryz.prog.underlying t = some (.slice e)) (hk : Tryz.prog.cellsOf e = L.k)
    (dec : ∀ n cs' x, DataW.trod enc Tryz.prog W 0 (fun _ => true) true n e cs' = some x → cs'.length = L.k → ∃ a, cs' = L.enc a ∧ Fit a)
    (hv : Value.okWide Tryz.prog W r base t v) (h : DataW.Trod enc Tryz.prog W 0 (fun _ => true) true t v d ps) :
    ∃ l p c, v = .slice p l.length c ∧ GRow L W p l ∧ (∀ x ∈ l, Fit x) ∧ l.length ≤ c ∧ (p = none → c = 0) ∧ l.length ≤ 9223372036854775807 ∧ (l = [] ∨ ∃ el sp, d = .slice el sp ∧ l.length = el.length) := by
  obtain ⟨a0, len, cap, rfl⟩ := okWide_slice hu hv
  obtain ⟨fuel, hf⟩ := h
  rcases Go.Deep.open_slice hu hf with ⟨hcs, -⟩ | ⟨a, len', cap', m, n, D, Pl, hcs, -, hl, hm, hmm, hx, hc⟩
  · simp [Value.cells] at hcs
    obtain ⟨rfl, rfl, rfl⟩ := hcs
    exact ⟨[], none, 0, rfl, GRow.nil _ _ _, (by intro x hx; simp at hx), by simp, fun _ => rfl, by simp, Or.inl rfl⟩
  · simp [Value.cells] at hcs
    obtain ⟨rfl, rfl, rfl⟩ := hcs
    have hlm : len ≤ m := by rw [hmm]; split <;> omega
    have each : ∀ i, i < len → ∃ x : α, (∀ j u, (L.enc x)[j]? = some u → W.cell? (a.add (i * L.k + j)) = some u) ∧ Fit x := fun i hi => by
      obtain ⟨cs', h1, h2⟩ := hc i (by omega)
      rw [hk] at h1
      obtain ⟨_, hlen, hcell⟩ := World.cells?_some h1
      obtain ⟨x, rfl, hfx⟩ := dec _ _ _ h2 hlen
      refine ⟨x, fun j u hj => ?_, hfx⟩
      have hjk : j < L.k := by have := (List.getElem?_eq_some_iff.1 hj).1; rwa [L.len] at this
      have := hcell j hjk
      rw [Go.Deep.add_add] at this
      rw [this]; exact hj
    obtain ⟨q, hq⟩ := Go.Deep.choose_lt each
    refine ⟨(List.range len).map q, some a, cap, by simp, ?_, ?_, by simpa using hl, (by intro h; cases h), (by simp; unfold maxLen at hm; omega), Or.inr ⟨_, _, (Prod.mk.inj hx).1, by simp⟩⟩
    · intro m' u hm'
      have hlt : m' < len * L.k := by
        have := (List.getElem?_eq_some_iff.1 hm').1
        rw [L.flat_length] at this
        simpa using this
      have hi : m' / L.k < len := Nat.div_lt_of_lt_mul (by rw [Nat.mul_comm]; exact hlt)
      have hj : m' % L.k < L.k := Nat.mod_lt _ hpos
      have hmm : m' = (m' / L.k) * L.k + m' % L.k := by rw [Nat.mul_comm]; exact (Nat.div_add_mod m' L.k).symm
      have hfl := L.flat_at (q 0) ((List.range len).map q) (m' / L.k) (m' % L.k) (by simpa using hi) hj
      rw [← hmm, hm'] at hfl
      have hgd : ((List.range len).map q).getD (m' / L.k) (q 0) = q (m' / L.k) := by simp [hi]
      rw [hgd] at hfl
      have hcell := (hq _ hi).1 _ _ hfl.symm
      rw [← hmm] at hcell
      obtain ⟨b, o, s⟩ := a
      have h00 := (hq 0 (Nat.lt_of_le_of_lt (Nat.zero_le _) hi)).1 0 _ (List.getElem?_eq_getElem (by rw [L.len]; exact hpos))
      have hs : s = none := by simpa [Addr.add] using World.cell?_spot h00
      subst hs
      rw [Addr.add_lit] at hcell
      exact ⟨b, o, rfl, hcell⟩
    · intro x hx
      simp only [List.mem_map, List.mem_range] at hx
      obtain ⟨i, hi, rfl⟩ := hx
      exact (hq i hi).2

end Go.Proofs.YtceanfpcddcfoaaGreat
/-
  How spans, names, and one name that come in lie in memory. No conditions beyond what each theorem states.
-/
namespace Go.Proofs.YtceanfpcddcfoaaGreat
open Go.ChangeShapes Go.WideShapes Go.ChangeAt Go.RowKit Go.Joins Go.Lib
set_option linter.unusedVariables false
set_option linter.unusedSimpArgs false
set_option maxRecDepth 100000

theorem cellsSp : Tryz.prog.cellsOf 160 = 3 := by kernel_rfl
theorem cellsII : Tryz.prog.cellsOf 73 = 2 := by kernel_rfl
theorem cellsR : Tryz.prog.cellsOf 24 = 1 := by kernel_rfl
theorem cellsN : Tryz.prog.cellsOf 25 = 1 := by kernel_rfl
theorem cellsInt : Tryz.prog.cellsOf 3 = 1 := by kernel_rfl
theorem bytesSp : Tryz.prog.bytesOf 160 = 16 := by kernel_rfl

theorem id_dec {H : Type} {enc : TypeId × Value → H} {W : World} {sp : Nat → Bool} (n : Nat) (cs' : List Value) (x : DataW H × List MemPlace) (h : DataW.trod enc Tryz.prog W 0 sp true n 73 cs' = some x) (hl : cs'.length = 2) : ∃ a : Nm, cs' = [.int .u16 a.1, .int .u32 a.2] ∧ FitN a := by
  obtain ⟨y0, y1, m, -, -, h0, h1⟩ := trod_struct2 Tryz.underlying73 h
  match cs', hl with
  | [v0, v1], _ =>
    simp [cellsR, cellsN] at h0 h1
    obtain ⟨a, e0, -, wa⟩ := DataW.trod_int Tryz.underlying24 h0
    obtain ⟨b, e1, -, wb⟩ := DataW.trod_int Tryz.underlying25 h1
    simp at e0 e1
    have b0 := bounds_u16 wa
    have b1 := bounds_u32 wb
    exact ⟨(a, b), by rw [e0, e1], b0.1, by have := b0.2; simp only; omega, b1.1, by have := b1.2; simp only; omega⟩
theorem span_dec {H : Type} {enc : TypeId × Value → H} {W : World} {sp : Nat → Bool} (n : Nat) (cs' : List Value) (x : DataW H × List MemPlace) (h : DataW.trod enc Tryz.prog W 0 sp true n 160 cs' = some x) (hl : cs'.length = 3) : ∃ a : Sp, cs' = [.int .u16 a.1, .int .u32 a.2.1, .int .i64 a.2.2] ∧ FitS a := by
  obtain ⟨y0, y1, m, -, -, h0, h1⟩ := trod_struct2 Tryz.underlying160 h
  match cs', hl with
  | [v0, v1, v2], _ =>
    simp [cellsII, cellsInt] at h0 h1
    obtain ⟨a, e0, hfa⟩ := id_dec _ _ _ h0 rfl
    obtain ⟨b, e1, -, wb⟩ := DataW.trod_int Tryz.underlying3 h1
    simp at e0 e1
    obtain ⟨rfl, rfl⟩ := e0
    subst e1
    have b1 := bounds_i64 wb
    unfold FitN at hfa
    exact ⟨(a.1, a.2, b), rfl, hfa.1, hfa.2.1, hfa.2.2.1, hfa.2.2.2, b1.1, by have := b1.2; simp only; omega⟩
/-- Spans that come in. -/
theorem spans_open {H : Type} {enc : TypeId × Value → H} {W : World} {r : Reach} {base : Nat} {v : Value} {d : DataW H} {ps : List MemPlace} (hv : Value.okWide Tryz.prog W r base 77 v) (h : DataW.Trod enc Tryz.prog W 0 (fun _ => true) true 77 v d ps) :
    ∃ l p c, v = .slice p l.length c ∧ GRow layS W p l ∧ FitSs l ∧ l.length ≤ c ∧ (p = none → c = 0) ∧ l.length ≤ 9223372036854775807 ∧ (l = [] ∨ ∃ el sp, d = .slice el sp ∧ l.length = el.length) :=
  lay_open layS FitS layS_pos Tryz.underlying77 cellsSp (fun n cs' x h hl => span_dec n cs' x h hl) hv h
theorem spans_again {H : Type} {enc : TypeId × Value → H} {W W' : World} {v : Value} {d : DataW H} {ps : List MemPlace} (h : DataW.Trod enc Tryz.prog W 0 (fun _ => true) true 77 v d ps) (hb : Below W.heap.size W W') (hlt : ∀ x ∈ ps, x.block < W.heap.size) :
    DataW.Trod enc Tryz.prog W' 0 (fun b => decide (b < W.heap.size)) true 77 v d ps :=
  Below.trod laidOut (by kernel_rfl) (of_decide_eq_true (by kernel_rfl)) h hb hlt
end Go.Proofs.YtceanfpcddcfoaaGreat
/-
  Operations that come in, opened; and that they are as they were. No conditions beyond what each theorem states.
-/
namespace Go.Proofs.YtceanfpcddcfoaaGreat
open Go.ChangeShapes Go.WideShapes Go.ChangeAt Go.RowKit Go.Lib
set_option linter.unusedVariables false
set_option linter.unusedSimpArgs false
set_option maxRecDepth 100000

/-- Things behind a slice that is one of several cells. -/
theorem lay_cells {α : Type} [Inhabited α] (L : Lay α) (Fit : α → Prop) (hpos : 0 < L.k) {H : Type} {enc : TypeId × Value → H} {W : World} {fuel : Nat} {t e : TypeId} {cs : List Value} {x : DataW H × List MemPlace} (hu : Tryz.prog.underlying t = some (.slice e)) (hk : Tryz.prog.cellsOf e = L.k)
    (dec : ∀ n cs' x, DataW.trod enc Tryz.prog W 0 (fun _ => true) true n e cs' = some x → cs'.length = L.k → ∃ a, cs' = L.enc a ∧ Fit a)
    (hf : DataW.trod enc Tryz.prog W 0 (fun _ => true) true fuel t cs = some x) :
    ∃ l p c, cs = [.slice p l.length c] ∧ GRow L W p l ∧ (∀ x ∈ l, Fit x) ∧ l.length ≤ c ∧ (p = none → c = 0) ∧ l.length ≤ 9223372036854775807 := by
  rcases Go.Deep.open_slice hu hf with ⟨hcs, -⟩ | ⟨a, len, cap, m, n, D, Pl, hcs, -, hl, hm, hmm, hx, hc⟩
  · exact ⟨[], none, 0, hcs, GRow.nil _ _ _, (by intro x hx; simp at hx), by simp, fun _ => rfl, by simp⟩
  · subst hcs
    have hlm : len ≤ m := by rw [hmm]; split <;> omega
    have each : ∀ i, i < len → ∃ x : α, (∀ j u, (L.enc x)[j]? = some u → W.cell? (a.add (i * L.k + j)) = some u) ∧ Fit x := fun i hi => by
      obtain ⟨cs', h1, h2⟩ := hc i (by omega)
      rw [hk] at h1
      obtain ⟨_, hlen, hcell⟩ := World.cells?_some h1
      obtain ⟨x, rfl, hfx⟩ := dec _ _ _ h2 hlen
      refine ⟨x, fun j u hj => ?_, hfx⟩
      have hjk : j < L.k := by have := (List.getElem?_eq_some_iff.1 hj).1; rwa [L.len] at this
      have := hcell j hjk
      rw [Go.Deep.add_add] at this
      rw [this]; exact hj
    obtain ⟨q, hq⟩ := Go.Deep.choose_lt each
    refine ⟨(List.range len).map q, some a, cap, by simp, ?_, ?_, by simpa using hl, (by intro h; cases h), (by simp; unfold maxLen at hm; omega)⟩
    · intro m' u hm'
      have hlt : m' < len * L.k := by
        have := (List.getElem?_eq_some_iff.1 hm').1
        rw [L.flat_length] at this
        simpa using this
      have hi : m' / L.k < len := Nat.div_lt_of_lt_mul (by rw [Nat.mul_comm]; exact hlt)
      have hj : m' % L.k < L.k := Nat.mod_lt _ hpos
      have hmm : m' = (m' / L.k) * L.k + m' % L.k := by rw [Nat.mul_comm]; exact (Nat.div_add_mod m' L.k).symm
      have hfl := L.flat_at (q 0) ((List.range len).map q) (m' / L.k) (m' % L.k) (by simpa using hi) hj
      rw [← hmm, hm'] at hfl
      have hgd : ((List.range len).map q).getD (m' / L.k) (q 0) = q (m' / L.k) := by simp [hi]
      rw [hgd] at hfl
      have hcell := (hq _ hi).1 _ _ hfl.symm
      rw [← hmm] at hcell
      obtain ⟨b, o, s⟩ := a
      have h00 := (hq 0 (Nat.lt_of_le_of_lt (Nat.zero_le _) hi)).1 0 _ (List.getElem?_eq_getElem (by rw [L.len]; exact hpos))
      have hs : s = none := by simpa [Addr.add] using World.cell?_spot h00
      subst hs
      rw [Addr.add_lit] at hcell
      exact ⟨b, o, rfl, hcell⟩
    · intro x hx
      simp only [List.mem_map, List.mem_range] at hx
      obtain ⟨i, hi, rfl⟩ := hx
      exact (hq i hi).2


theorem cells8 : Tryz.prog.cellsOf 79 = 7 := by kernel_rfl
theorem cellsSt : Tryz.prog.cellsOf 9 = 1 := by kernel_rfl
theorem cellsSl : Tryz.prog.cellsOf 77 = 1 := by kernel_rfl
theorem array7 {cs : Array Value} (h : cs.size = 7) : ∃ a b c d e f g, cs = #[a, b, c, d, e, f, g] := by
  obtain ⟨l⟩ := cs
  match l, h with
  | [a, b, c, d, e, f, g], _ => exact ⟨a, b, c, d, e, f, g, rfl⟩
theorem list6 {α : Type} {l : List α} (h : l.length = 6) : ∃ a b c d e f, l = [a, b, c, d, e, f] := by
  match l, h with
  | [a, b, c, d, e, f], _ => exact ⟨a, b, c, d, e, f, rfl⟩
/-- An operation that comes in. -/
theorem op_open {H : Type} {enc : TypeId × Value → H} {W : World} {r : Reach} {base : Nat} {v : Value} {d : DataW H} {ps : List MemPlace} (hv : Value.okWide Tryz.prog W r base 79 v) (h : DataW.Trod enc Tryz.prog W 0 (fun _ => true) true 79 v d ps) :
    ∃ o p c, v = ov o p c ∧ InO o p c W ∧ o.text.length ≤ 9223372036854775807 ∧ o.spans.length ≤ 9223372036854775807 := by
  obtain ⟨cs, rfl, hsz⟩ := okWide_struct Tryz.underlying79 hv
  obtain ⟨c0, c1, c2, c3, c4, c5, c6, rfl⟩ := array7 (hsz.trans cells8)
  obtain ⟨fuel, hf⟩ := h
  obtain ⟨xs, n, -, -, -, hlen, hfs⟩ := DataW.trod_struct Tryz.underlying79 hf
  obtain ⟨z0, z1, z2, z3, z4, z5, rfl⟩ := list6 (by simpa using hlen)
  have h0 := hfs 0 _ rfl
  have h1 := hfs 1 _ rfl
  have h2 := hfs 2 _ rfl
  have h3 := hfs 3 _ rfl
  have h4 := hfs 4 _ rfl
  have h5 := hfs 5 _ rfl
  simp [Value.cells, cellsInt, cellsII, cellsN, cellsSt, cellsSl] at h0 h1 h2 h3 h4 h5
  obtain ⟨k, e0, -, w0⟩ := DataW.trod_int Tryz.underlying3 h0
  obtain ⟨a, e1, fa⟩ := id_dec _ _ _ h1 rfl
  obtain ⟨m, e2, -, w2⟩ := DataW.trod_int Tryz.underlying25 h2
  obtain ⟨s, e3, -, hs⟩ := DataW.trod_string Tryz.underlying9 h3
  obtain ⟨l, p, c, e4, hG, hF, hc, hp, hll⟩ := lay_cells layS FitS layS_pos Tryz.underlying77 cellsSp (fun n cs' x h hl => span_dec n cs' x h hl) h4
  obtain ⟨q, e5, -, w5⟩ := DataW.trod_int Tryz.underlying25 h5
  simp at e0 e1 e2 e3 e4 e5
  obtain ⟨rfl, rfl⟩ := e1
  subst e0 e2 e3 e4 e5
  have b0 := bounds_i64 w0
  have b2 := bounds_u32 w2
  have b5 := bounds_u32 w5
  unfold FitN at fa
  obtain ⟨sd⟩ := s
  obtain ⟨sl⟩ := sd
  refine ⟨⟨k, a.1, a.2, m, sl, l, q⟩, p, c, rfl, ⟨⟨b0.1, by have := b0.2; simp only; omega, fa.1, fa.2.1, fa.2.2.1, fa.2.2.2, b2.1, by have := b2.2; simp only; omega, hF, b5.1, by have := b5.2; simp only; omega⟩, hG, hc, hp⟩, ?_, hll⟩
  unfold maxLen at hs
  have : (⟨⟨sl⟩⟩ : ByteArray).size = sl.length := rfl
  simp only
  omega
theorem op_again {H : Type} {enc : TypeId × Value → H} {W W' : World} {v : Value} {d : DataW H} {ps : List MemPlace} (h : DataW.Trod enc Tryz.prog W 0 (fun _ => true) true 79 v d ps) (hb : Below W.heap.size W W') (hlt : ∀ x ∈ ps, x.block < W.heap.size) :
    DataW.Trod enc Tryz.prog W' 0 (fun b => decide (b < W.heap.size)) true 79 v d ps :=
  Below.trod laidOut (by kernel_rfl) (of_decide_eq_true (by kernel_rfl)) h hb hlt

end Go.Proofs.YtceanfpcddcfoaaGreat
/-
  Rows of operations, each with its own spans. No conditions beyond what each theorem states.
-/
namespace Go.Proofs.YtceanfpcddcfoaaGreat
open Go.ChangeShapes Go.WideShapes Go.ChangeAt Go.RowKit Go.Lib
set_option linter.unusedVariables false
set_option linter.unusedSimpArgs false
set_option maxRecDepth 100000

/-- An operation as it lies in memory: what it is, and where its spans lie. -/
abbrev OV := Om × Option Addr × Nat
def ov0 : OV := (o0, none, 0)
def layO : Lay OV := ⟨7, fun x => [.int .i64 x.1.kind, .int .u16 x.1.r, .int .u32 x.1.n, .int .u32 x.1.num, .string ⟨x.1.text.toArray⟩, .slice x.2.1 x.1.spans.length x.2.2, .int .u32 x.1.seq], fun _ => rfl, fun x u hu => by
  simp at hu
  rcases hu with rfl | rfl | rfl | rfl | rfl | rfl | rfl <;> rfl⟩
theorem layO_pos : 0 < layO.k := by decide
theorem orow_at {w : World} {p : Option Addr} {xs : List OV} (h : GRow layO w p xs) {i : Nat} (hi : i < xs.length) : ∃ b o, p = some ⟨b, o, none⟩ ∧ w.cell? ⟨b, o + i * 7, none⟩ = some (.int .i64 (xs.getD i ov0).1.kind) ∧ w.cell? ⟨b, o + i * 7 + 1, none⟩ = some (.int .u16 (xs.getD i ov0).1.r) ∧ w.cell? ⟨b, o + i * 7 + 2, none⟩ = some (.int .u32 (xs.getD i ov0).1.n) ∧ w.cell? ⟨b, o + i * 7 + 3, none⟩ = some (.int .u32 (xs.getD i ov0).1.num) ∧ w.cell? ⟨b, o + i * 7 + 4, none⟩ = some (.string ⟨(xs.getD i ov0).1.text.toArray⟩) ∧ w.cell? ⟨b, o + i * 7 + 5, none⟩ = some (.slice (xs.getD i ov0).2.1 (xs.getD i ov0).1.spans.length (xs.getD i ov0).2.2) ∧ w.cell? ⟨b, o + i * 7 + 6, none⟩ = some (.int .u32 (xs.getD i ov0).1.seq) := by
  obtain ⟨b, o, rfl, h0⟩ := h.cell ov0 (j := 0) hi rfl
  obtain ⟨b1, o1, e1, h1⟩ := h.cell ov0 (j := 1) hi rfl
  obtain ⟨b2, o2, e2, h2⟩ := h.cell ov0 (j := 2) hi rfl
  obtain ⟨b3, o3, e3, h3⟩ := h.cell ov0 (j := 3) hi rfl
  obtain ⟨b4, o4, e4, h4⟩ := h.cell ov0 (j := 4) hi rfl
  obtain ⟨b5, o5, e5, h5⟩ := h.cell ov0 (j := 5) hi rfl
  obtain ⟨b6, o6, e6, h6⟩ := h.cell ov0 (j := 6) hi rfl
  cases e1; cases e2; cases e3; cases e4; cases e5; cases e6
  exact ⟨b, o, rfl, h0, h1, h2, h3, h4, h5, h6⟩
/-- Operations behind an address, each one with its spans. -/
structure ORow (w : World) (p : Option Addr) (xs : List OV) : Prop where
  row : GRow layO w p xs
  each : ∀ x ∈ xs, InO x.1 x.2.1 x.2.2 w
theorem ORow.below {w w' : World} {p : Option Addr} {xs : List OV} (h : ORow w p xs) (hb : Below w.heap.size w w') : ORow w' p xs := ⟨h.row.below hb, fun x hx => (h.each x hx).below hb⟩
theorem ORow.at {w : World} {p : Option Addr} {xs : List OV} (h : ORow w p xs) {i : Nat} (hi : i < xs.length) : InO (xs.getD i ov0).1 (xs.getD i ov0).2.1 (xs.getD i ov0).2.2 w := h.each _ (getD_mem ov0 hi)
/-- One operation's cells, read. -/
theorem op_dec {H : Type} {enc : TypeId × Value → H} {W : World} (n : Nat) (cs' : List Value) (x : DataW H × List MemPlace) (h : DataW.trod enc Tryz.prog W 0 (fun _ => true) true n 79 cs' = some x) (hl : cs'.length = 7) : ∃ a : OV, cs' = layO.enc a ∧ InO a.1 a.2.1 a.2.2 W ∧ a.1.text.length ≤ 9223372036854775807 ∧ a.1.spans.length ≤ 9223372036854775807 := by
  obtain ⟨xs, n, -, -, -, hlen, hfs⟩ := DataW.trod_struct Tryz.underlying79 h
  obtain ⟨z0, z1, z2, z3, z4, z5, rfl⟩ := list6 (by simpa using hlen)
  match cs', hl with
  | [c0, c1, c2, c3, c4, c5, c6], _ =>
    have h0 := hfs 0 _ rfl
    have h1 := hfs 1 _ rfl
    have h2 := hfs 2 _ rfl
    have h3 := hfs 3 _ rfl
    have h4 := hfs 4 _ rfl
    have h5 := hfs 5 _ rfl
    simp [cellsInt, cellsII, cellsN, cellsSt, cellsSl] at h0 h1 h2 h3 h4 h5
    obtain ⟨k, e0, -, w0⟩ := DataW.trod_int Tryz.underlying3 h0
    obtain ⟨a, e1, fa⟩ := id_dec _ _ _ h1 rfl
    obtain ⟨m, e2, -, w2⟩ := DataW.trod_int Tryz.underlying25 h2
    obtain ⟨s, e3, -, hs⟩ := DataW.trod_string Tryz.underlying9 h3
    obtain ⟨l, p, c, e4, hG, hF, hc, hp, hll⟩ := lay_cells layS FitS layS_pos Tryz.underlying77 cellsSp (fun n cs' x h hl => span_dec n cs' x h hl) h4
    obtain ⟨q, e5, -, w5⟩ := DataW.trod_int Tryz.underlying25 h5
    simp at e0 e1 e2 e3 e4 e5
    obtain ⟨rfl, rfl⟩ := e1
    subst e0 e2 e3 e4 e5
    have b0 := bounds_i64 w0
    have b2 := bounds_u32 w2
    have b5 := bounds_u32 w5
    unfold FitN at fa
    obtain ⟨sd⟩ := s
    obtain ⟨sl⟩ := sd
    refine ⟨(⟨k, a.1, a.2, m, sl, l, q⟩, p, c), rfl, ⟨⟨b0.1, by have := b0.2; simp only; omega, fa.1, fa.2.1, fa.2.2.1, fa.2.2.2, b2.1, by have := b2.2; simp only; omega, hF, b5.1, by have := b5.2; simp only; omega⟩, hG, hc, hp⟩, ?_, hll⟩
    unfold maxLen at hs
    have : (⟨⟨sl⟩⟩ : ByteArray).size = sl.length := rfl
    simp only
    omega
end Go.Proofs.YtceanfpcddcfoaaGreat
/-
  Transactions that come in, opened; and that they are as they were. No conditions beyond what each theorem states.
-/
namespace Go.Proofs.YtceanfpcddcfoaaGreat
open Go.ChangeShapes Go.WideShapes Go.ChangeAt Go.RowKit Go.Lib
set_option linter.unusedVariables false
set_option linter.unusedSimpArgs false
set_option maxRecDepth 100000

/-- A transaction as a value: its parts, and where its operations lie. -/
def tv (t : Tm) (p : Option Addr) (c : Nat) : Value := .agg #[.int .u16 t.r, .int .u32 t.seq, .int .u64 t.clock, .int .i64 t.user, .slice p t.ops.length c]
/-- A transaction that comes in: its operations behind their address, each with its spans. -/
structure InT (t : Tm) (xs : List OV) (p : Option Addr) (c : Nat) (w : World) : Prop where
  fit : FitTm t
  ops : t.ops = xs.map (·.1)
  row : ORow w p xs
  cap : t.ops.length ≤ c
  nil : p = none → c = 0
theorem InT.below {t : Tm} {xs : List OV} {p : Option Addr} {c : Nat} {w w' : World} (h : InT t xs p c w) (hb : Below w.heap.size w w') : InT t xs p c w' := ⟨h.fit, h.ops, h.row.below hb, h.cap, h.nil⟩
/-- A transaction that lies behind an address: what the document's own functions lean on. -/
structure LieT (t : Tm) (xs : List OV) (p : Option Addr) (w : World) : Prop where
  fit : FitTm t
  ops : t.ops = xs.map (·.1)
  row : GRow layO w p xs
  each : ∀ x ∈ xs, GRow layS w x.2.1 x.1.spans
theorem LieT.below {t : Tm} {xs : List OV} {p : Option Addr} {w w' : World} (h : LieT t xs p w) (hb : Below w.heap.size w w') : LieT t xs p w' := ⟨h.fit, h.ops, h.row.below hb, fun x hx => (h.each x hx).below hb⟩
theorem LieT.fitOf {t : Tm} {xs : List OV} {p : Option Addr} {w : World} (h : LieT t xs p w) {x : OV} (hx : x ∈ xs) : FitOm x.1 := h.fit.2.2.2.2.2.2.2.2 x.1 (by rw [h.ops]; exact List.mem_map.2 ⟨x, hx, rfl⟩)
theorem LieT.fitAt {t : Tm} {xs : List OV} {p : Option Addr} {w : World} (h : LieT t xs p w) {k : Nat} (hk : k < xs.length) : FitOm (xs.getD k ov0).1 := h.fitOf (getD_mem ov0 hk)
theorem LieT.rowAt {t : Tm} {xs : List OV} {p : Option Addr} {w : World} (h : LieT t xs p w) {k : Nat} (hk : k < xs.length) : GRow layS w (xs.getD k ov0).2.1 (xs.getD k ov0).1.spans := h.each _ (getD_mem ov0 hk)
theorem InT.lie {t : Tm} {xs : List OV} {p : Option Addr} {c : Nat} {w : World} (h : InT t xs p c w) : LieT t xs p w := ⟨h.fit, h.ops, h.row.row, fun x hx => (h.row.each x hx).row⟩
theorem cells9 : Tryz.prog.cellsOf 29 = 5 := by kernel_rfl
theorem cellsC : Tryz.prog.cellsOf 26 = 1 := by kernel_rfl
theorem cellsOs : Tryz.prog.cellsOf 27 = 1 := by kernel_rfl
theorem array5 {cs : Array Value} (h : cs.size = 5) : ∃ a b c d e, cs = #[a, b, c, d, e] := by
  obtain ⟨l⟩ := cs
  match l, h with
  | [a, b, c, d, e], _ => exact ⟨a, b, c, d, e, rfl⟩
theorem list5 {α : Type} {l : List α} (h : l.length = 5) : ∃ a b c d e, l = [a, b, c, d, e] := by
  match l, h with
  | [a, b, c, d, e], _ => exact ⟨a, b, c, d, e, rfl⟩
/-- A transaction that comes in. -/
theorem txn_open {H : Type} {enc : TypeId × Value → H} {W : World} {r : Reach} {base : Nat} {v : Value} {d : DataW H} {ps : List MemPlace} (hv : Value.okWide Tryz.prog W r base 29 v) (h : DataW.Trod enc Tryz.prog W 0 (fun _ => true) true 29 v d ps) :
    ∃ t xs p c, v = tv t p c ∧ InT t xs p c W ∧ t.ops.length ≤ 9223372036854775807 ∧ ∀ x ∈ xs, x.1.text.length ≤ 9223372036854775807 ∧ x.1.spans.length ≤ 9223372036854775807 := by
  obtain ⟨cs, rfl, hsz⟩ := okWide_struct Tryz.underlying29 hv
  obtain ⟨c0, c1, c2, c3, c4, rfl⟩ := array5 (hsz.trans cells9)
  obtain ⟨fuel, hf⟩ := h
  obtain ⟨xs, n, -, -, -, hlen, hfs⟩ := DataW.trod_struct Tryz.underlying29 hf
  obtain ⟨z0, z1, z2, z3, z4, rfl⟩ := list5 (by simpa using hlen)
  have h0 := hfs 0 _ rfl
  have h1 := hfs 1 _ rfl
  have h2 := hfs 2 _ rfl
  have h3 := hfs 3 _ rfl
  have h4 := hfs 4 _ rfl
  simp [Value.cells, cellsInt, cellsR, cellsN, cellsC, cellsOs] at h0 h1 h2 h3 h4
  obtain ⟨R, e0, -, w0⟩ := DataW.trod_int Tryz.underlying24 h0
  obtain ⟨S, e1, -, w1⟩ := DataW.trod_int Tryz.underlying25 h1
  obtain ⟨C, e2, -, w2⟩ := DataW.trod_int Tryz.underlying26 h2
  obtain ⟨U, e3, -, w3⟩ := DataW.trod_int Tryz.underlying3 h3
  obtain ⟨l, p, c, e4, hG, hF, hc, hp, hll⟩ := @lay_cells OV ⟨ov0⟩ layO (fun a => InO a.1 a.2.1 a.2.2 W ∧ a.1.text.length ≤ 9223372036854775807 ∧ a.1.spans.length ≤ 9223372036854775807) layO_pos H enc W _ _ _ _ _ Tryz.underlying27 cells8 (fun n cs' x h hl => op_dec n cs' x h hl) h4
  simp at e0 e1 e2 e3 e4
  subst e0 e1 e2 e3 e4
  have b0 := bounds_u16 w0
  have b1 := bounds_u32 w1
  have b2 := bounds_u64 w2
  have b3 := bounds_i64 w3
  refine ⟨⟨R, S, C, U, l.map (·.1)⟩, l, p, c, by unfold tv; simp, ⟨⟨b0.1, by have := b0.2; simp only; omega, b1.1, by have := b1.2; simp only; omega, b2.1, by have := b2.2; simp only; omega, b3.1, by have := b3.2; simp only; omega, ?_⟩, rfl, ⟨hG, fun x hx => (hF x hx).1⟩, by simpa using hc, hp⟩, by simpa using hll, fun x hx => (hF x hx).2⟩
  intro o ho
  obtain ⟨x, hx, rfl⟩ := List.mem_map.1 ho
  exact (hF x hx).1.fit
theorem txn_again {H : Type} {enc : TypeId × Value → H} {W W' : World} {v : Value} {d : DataW H} {ps : List MemPlace} (h : DataW.Trod enc Tryz.prog W 0 (fun _ => true) true 29 v d ps) (hb : Below W.heap.size W W') (hlt : ∀ x ∈ ps, x.block < W.heap.size) :
    DataW.Trod enc Tryz.prog W' 0 (fun b => decide (b < W.heap.size)) true 29 v d ps :=
  Below.trod laidOut (by kernel_rfl) (of_decide_eq_true (by kernel_rfl)) h hb hlt
end Go.Proofs.YtceanfpcddcfoaaGreat
/-
  What the laws' own copyistmade.Txn hands back. No conditions beyond what each theorem states.
-/
namespace Go.Proofs.YtceanfpcddcfoaaGreat
open Go.ChangeShapes Go.WideShapes Go.ChangeAt Go.RowKit Go.Lib
set_option linter.unusedVariables false
set_option linter.unusedSimpArgs false

theorem szR9 : (Tryz.prog.info? 37).map (·.size) = some 5 := by kernel_rfl
theorem infoR8 : (Tryz.prog.info? 71).map (fun i => (i.zero, i.size, i.bytes)) = some (some (.agg #[.int .i64 0, .int .u16 0, .int .u32 0, .int .u32 0, .string ⟨#[]⟩, .slice none 0 0, .int .u32 0]), 7, 72) := by kernel_rfl
theorem five_cells {w : World} {B : Nat} {a b c d e : Value} {t : TypeId} (h : w.heap[B]? = some (.cells #[a, b, c, d, e] t (0, 0))) : w.cell? ⟨B, 0, none⟩ = some a ∧ w.cell? ⟨B, 1, none⟩ = some b ∧ w.cell? ⟨B, 2, none⟩ = some c ∧ w.cell? ⟨B, 3, none⟩ = some d ∧ w.cell? ⟨B, 4, none⟩ = some e :=
  ⟨by rw [cell_of_block h]; rfl, by rw [cell_of_block h]; rfl, by rw [cell_of_block h]; rfl, by rw [cell_of_block h]; rfl, by rw [cell_of_block h]; rfl⟩
theorem box_five {w : World} {B : Nat} {a b c d e a' b' c' d' e' : Value} {t : TypeId} (h : w.heap[B]? = some (.cells #[a, b, c, d, e] t (0, 0))) :
    (((((w.setCell ⟨B, 0, none⟩ a').setCell ⟨B, 1, none⟩ b').setCell ⟨B, 2, none⟩ c').setCell ⟨B, 3, none⟩ d').setCell ⟨B, 4, none⟩ e').heap[B]? = some (.cells #[a', b', c', d', e'] t (0, 0)) := by
  have h1 := heap_setCell_same w B 0 _ t a' h
  have h2 := heap_setCell_same _ B 1 _ t b' h1
  have h3 := heap_setCell_same _ B 2 _ t c' h2
  have h4 := heap_setCell_same _ B 3 _ t d' h3
  have h5 := heap_setCell_same _ B 4 _ t e' h4
  simpa using h5
theorem only_five (w : World) (B : Nat) (a b c d e : Value) :
    Only B w (((((w.setCell ⟨B, 0, none⟩ a).setCell ⟨B, 1, none⟩ b).setCell ⟨B, 2, none⟩ c).setCell ⟨B, 3, none⟩ d).setCell ⟨B, 4, none⟩ e) :=
  ((((only_set w B 0 a).trans (only_set _ B 1 b)).trans (only_set _ B 2 c)).trans (only_set _ B 3 d)).trans (only_set _ B 4 e)
/-- An operation's spans, where they lie. -/
def RowO (w : World) (y : OV) : Prop := GRow layS w y.2.1 y.1.spans ∧ y.1.spans.length ≤ y.2.2 ∧ (y.2.1 = none → y.2.2 = 0)
/-- .. in a block of their kind. -/
def OwnO (s : TypeId) (w : World) (y : OV) : Prop := RowO w y ∧ KindAt s w y.2.1
theorem OwnO.below {s : TypeId} {w w' : World} {y : OV} (h : OwnO s w y) (hb : Below w.heap.size w w') : OwnO s w' y := ⟨⟨h.1.1.below hb, h.1.2⟩, h.2.below hb⟩
theorem OwnO.only {s : TypeId} {w w' : World} {y : OV} {X : Nat} {cs : Array Value} {t : TypeId} {f : Nat × Nat} (h : OwnO s w y) (ht : t ≠ s) (hX : w.heap[X]? = some (.cells cs t f)) (ho : Only X w w') : OwnO s w' y :=
  ⟨⟨h.1.1.kept ho (h.2.apart ht hX), h.1.2⟩, h.2.kept ho (h.2.apart ht hX)⟩
theorem OwnO.grown {s : TypeId} {w w' : World} {y : OV} {base size n : Nat} {v : Value} {xs : List Value} {t : TypeId} (h : OwnO s w y) (ht : t ≠ s) (hown : w.ownsRow base t size v n xs) (hg : w.grownBy w' v.ownBlock) : OwnO s w' y := by
  have hk : Kept (fun k => v.ownBlock = some k) w w' := Kept.ofGrown hg (fun k e => e)
  have hn : ∀ q, y.2.1 = some q → ¬ v.ownBlock = some q.block := fun q e ee => by
    obtain ⟨c, f, hc⟩ := Lib.ownsRow_kind hown _ ee
    exact h.2.apart ht hc q e rfl
  exact ⟨⟨h.1.1.kept hk hn, h.1.2⟩, h.2.kept hk hn⟩
/-- A transaction's rows. -/
structure RowT (t : Tm) (xs : List OV) (p : Option Addr) (c : Nat) (w : World) : Prop where
  ops : t.ops = xs.map (·.1)
  row : GRow layO w p xs
  each : ∀ x ∈ xs, RowO w x
  cap : t.ops.length ≤ c
  nil : p = none → c = 0
theorem RowT.below {t : Tm} {xs : List OV} {p : Option Addr} {c : Nat} {w w' : World} (h : RowT t xs p c w) (hb : Below w.heap.size w w') : RowT t xs p c w' := ⟨h.ops, h.row.below hb, fun x hx => ⟨(h.each x hx).1.below hb, (h.each x hx).2⟩, h.cap, h.nil⟩
theorem InT.rows {t : Tm} {xs : List OV} {p : Option Addr} {c : Nat} {w : World} (h : InT t xs p c w) : RowT t xs p c w := ⟨h.ops, h.row.row, fun x hx => ⟨(h.row.each x hx).row, (h.row.each x hx).cap, (h.row.each x hx).nil⟩, h.cap, h.nil⟩
theorem RowT.inT {t : Tm} {xs : List OV} {p : Option Addr} {c : Nat} {w : World} (h : RowT t xs p c w) (hf : FitTm t) : InT t xs p c w := ⟨hf, h.ops, ⟨h.row, fun x hx => ⟨hf.2.2.2.2.2.2.2.2 x.1 (by rw [h.ops]; exact List.mem_map.2 ⟨x, hx, rfl⟩), (h.each x hx).1, (h.each x hx).2.1, (h.each x hx).2.2⟩⟩, h.cap, h.nil⟩
theorem RowT.at {t : Tm} {xs : List OV} {p : Option Addr} {c : Nat} {w : World} (h : RowT t xs p c w) {k : Nat} (hk : k < xs.length) : RowO w (xs.getD k ov0) := h.each _ (getD_mem ov0 hk)
/-- A transaction that a call hands back, with operations and spans of its own. -/
def MadeT (t : Tm) (w : World) (e : Ending) (w' : World) : Prop := ∃ ys p c, e = .returned (tv t p c) ∧ RowT t ys p c w' ∧ Below w.heap.size w w'
set_option maxHeartbeats 6400000 in
set_option maxRecDepth 20000 in
theorem mtxn_any (t : Tm) (xs : List OV) (p : Option Addr) (c : Nat) (w : World) (H : RowT t xs p c w) (hl : t.ops.length ≤ 1954687338211) (hs : ∀ x ∈ xs, x.1.spans.length ≤ 8796093021952) :
    Calls Tryz.prog 28 #[tv t p c] w (MadeT t w) := by
  obtain ⟨i0, hi, hz0, hz1, hz2⟩ := info_parts infoR8
  have hlen : t.ops.length = xs.length := by rw [H.ops, List.length_map]
  have HIN := Lib.hid H
  have HOP : Hid (∀ k, k < xs.length → ∀ W, Below w.heap.size w W → Calls Tryz.prog 60 #[ov (xs.getD k ov0).1 (xs.getD k ov0).2.1 (xs.getD k ov0).2.2] W (MadeO (xs.getD k ov0).1 W)) := fun k hk W hb => mop_any _ _ _ W ((H.at hk).1.below hb) (hs _ (getD_mem ov0 hk))
  have HR := Lib.hid H.row
  clear H
  unfold MadeT
  have HTV : Hid (∀ p c, tv t p c = .agg #[.int .u16 t.r, .int .u32 t.seq, .int .u64 t.clock, .int .i64 t.user, .slice p xs.length c]) := fun p c => by unfold tv; rw [hlen]
  rw [HTV.out]
  rw [hlen] at hl
  go_enter Tryz.func28, Tryz.ntmps28
  go_wp2
  have HX := Lib.hid (fun A B C => three_blocks8 w A B C)
  go_loopg [18] xs.length (fun g i wr => ∃ (k : Nat) (v : Value) (ys : List OV), k ≤ xs.length ∧ xs.length - k ≤ g ∧ i = .int .i64 (k : Int) ∧ Hold layO w 71 v ys wr ∧ ys.map (·.1) = (xs.take k).map (·.1) ∧ (∀ y ∈ ys, OwnO 136 wr y) ∧ wr.heap[w.heap.size + 1]? = some (.cells #[.int .u16 0, .int .u32 0, .int .u64 0, .int .i64 0, .slice none 0 0] 37 (0, 0)) ∧ wr.heap[w.heap.size + 2]? = some (.cells #[.int .u16 t.r, .int .u32 t.seq, .int .u64 t.clock, .int .i64 t.user, v] 37 (0, 0)))
  case atStart => exact ⟨0, .slice none 0 0, [], Nat.zero_le _, by omega, rfl, ((Hold.nil _ _ _).alloc _ |>.alloc _ |>.alloc _), rfl, (fun y hy => by cases hy), (HX.out _ _ _).1, (HX.out _ _ _).2⟩
  case round =>
    obtain ⟨k, v, ys, hk, hg, rfl, hO, hys, hE, h1, h2⟩ := hrel
    have HO := Lib.hid hO
    have HYS := Lib.hid hys
    have HE := Lib.hid hE
    have H1 := Lib.hid h1
    have H2 := Lib.hid h2
    have hyl : ys.length = k := by have := congrArg List.length hys; simp only [List.length_map, List.length_take] at this; omega
    clear hO hys hE h1 h2
    by_cases hlt : k < xs.length
    · obtain ⟨b, o, rfl, c0', c1', c2', c3', c4', c5', c6'⟩ := orow_at HR.out hlt
      have c0 := cellU c0' HO.out.2
      have c1 := cellU c1' HO.out.2
      have c2 := cellU c2' HO.out.2
      have c3 := cellU c3' HO.out.2
      have c4 := cellU c4' HO.out.2
      have c5 := cellU c5' HO.out.2
      have c6 := cellU c6' HO.out.2
      clear c0' c1' c2' c3' c4' c5' c6'
      have hkl : (k : Int) < (xs.length : Int) := by omega
      have HNX : Hid ((xs.take (k + 1)).map (·.1) = (xs.take k).map (·.1) ++ [(xs.getD k ov0).1]) := by show _ = _; rw [take_getD ov0 hlt]; simp
      have HOK : Hid (∀ o : Obj, Calls Tryz.prog 60 #[ov (xs.getD k ov0).1 (xs.getD k ov0).2.1 (xs.getD k ov0).2.2] ((wr.alloc o).drew) (MadeO (xs.getD k ov0).1 ((wr.alloc o).drew))) := fun o => HOP.out k hlt _ (below_step HO.out.2 (below_drewN (below_alloc (Below.refl _ _) o) 1))
      generalize xs.getD k ov0 = x at c0 c1 c2 c3 c4 c5 c6 HNX HOK
      obtain ⟨om, px, cx⟩ := x
      simp only at c0 c1 c2 c3 c4 c5 c6 HNX HOK
      have HOM : Hid (∀ p c, ov om p c = .agg #[.int .i64 om.kind, .int .u16 om.r, .int .u32 om.n, .int .u32 om.num, .string ⟨om.text.toArray⟩, .slice p om.spans.length c, .int .u32 om.seq]) := fun p c => rfl
      unfold MadeO at HOK
      generalize hcc : (⟨om.text.toArray⟩ : ByteArray) = bt at c4 HOM
      rw [HOM.out] at HOK
      obtain ⟨z0, z1, z2, z3, z4⟩ := five_cells H2.out
      have hX2 : w.heap.size + 2 < wr.heap.size := lt_of_block H2.out
      have hne1 : ¬ w.heap.size + 2 = wr.heap.size := by omega
      have hne2 : ¬ wr.heap.size = w.heap.size + 2 := by omega
      have HBX : Hid ((wr.alloc (.cells #[.int .i64 om.kind, .int .u16 om.r, .int .u32 om.n, .int .u32 om.num, .string bt, .slice px om.spans.length cx, .int .u32 om.seq] 79)).heap[wr.heap.size]? = some (.cells #[.int .i64 om.kind, .int .u16 om.r, .int .u32 om.n, .int .u32 om.num, .string bt, .slice px om.spans.length cx, .int .u32 om.seq] 79 (0, 0))) := heap_alloc_new wr _
      have y4 : (wr.alloc (.cells #[.int .i64 om.kind, .int .u16 om.r, .int .u32 om.n, .int .u32 om.num, .string bt, .slice px om.spans.length cx, .int .u32 om.seq] 79)).cell? ⟨w.heap.size + 2, 4, none⟩ = some v := cellU z4 (below_alloc (Below.refl wr.heap.size wr) _)
      have HY4' := Lib.hid y4
      go_wp2_with fail
      go_region_law (first
        | (refine step_append_own rfl (.tmp 23) (.tmp 26) 35 rfl w.heap.size 71 i0 (.agg #[.int .i64 0, .int .u16 0, .int .u32 0, .int .u32 0, .string ⟨#[]⟩, .slice none 0 0, .int .u32 0]) 7 72 Tryz.underlying35 hi hz0 hz1 hz2 rfl (by decide) v ys.length (layO.flat ys) (by simp [Act.eval, Act.put]) HO5.out.1 ⟨w4.heap.size, 0, none⟩ 1 1 [.int .i64 om.kind, .int .u16 om.r, .int .u32 om.n, .int .u32 om.num, .string bt, .slice p4 om.spans.length c4, .int .u32 om.seq] (by simp [Act.eval, Act.put]) rfl (by have := @cells_new w4 [.int .i64 om.kind, .int .u16 om.r, .int .u32 om.n, .int .u32 om.num, .string bt, .slice p4 om.spans.length c4, .int .u32 om.seq] 71; simpa using this) (by have := layO.one (om, p4, c4); rw [← hcc]; exact this) (by unfold maxLen; omega) (by omega) HO5.out.2.size ?_; intro v' w6 hown' hgrow; obtain ⟨pv, cv, rfl⟩ := owns_slice hown'; have H26 := Lib.hid (box_grown (by decide) H25.out HO5.out.1 hgrow); have z6 := (five_cells H26.out).2.2.2.2; have f6 : w6.frozen? ⟨w.heap.size + 2, 4, none⟩ = false := frozen_of_block H26.out)
        | (go_simp; go_wp2_with (go_at_call 60; refine (HOK.out _).mono ?_; rintro e w4 ⟨p4, c4, rfl, hG, hc4, hp4, hS, hb4⟩; rw [HOM.out]; have HB4 := Lib.hid (below_of_drew hb4); have HY4 : Hid (OwnO 136 w4 (om, p4, c4)) := ⟨⟨hG, hc4, hp4⟩, hS⟩; have k4 := cellU HY4'.out HB4.out; have k5 := cellU k4 (below_alloc (Below.refl _ _) (.cells #[.int .i64 om.kind, .int .u16 om.r, .int .u32 om.n, .int .u32 om.num, .string bt, .slice p4 om.spans.length c4, .int .u32 om.seq] 71)); have k4' : w4.cell? ⟨w.heap.size + 1 + 1, 4, none⟩ = some v := k4; have k5' : (w4.alloc (.cells #[.int .i64 om.kind, .int .u16 om.r, .int .u32 om.n, .int .u32 om.num, .string bt, .slice p4 om.spans.length c4, .int .u32 om.seq] 71)).cell? ⟨w.heap.size + 1 + 1, 4, none⟩ = some v := k5; have hX4 : ¬ w.heap.size + 2 = w4.heap.size := (by have := HB4.out.size; simp only [World.alloc, Array.size_push] at this; omega); have HO5 : Hid (Hold layO w 71 v ys (w4.alloc (.cells #[.int .i64 om.kind, .int .u16 om.r, .int .u32 om.n, .int .u32 om.num, .string bt, .slice p4 om.spans.length c4, .int .u32 om.seq] 71))) := ((HO.out.alloc _).below HB4.out).alloc _; have H25 := Lib.hid (kept_box (kept_box (kept_box H2.out (below_alloc (Below.refl _ _) (.cells #[.int .i64 om.kind, .int .u16 om.r, .int .u32 om.n, .int .u32 om.num, .string bt, .slice px om.spans.length cx, .int .u32 om.seq] 79))) HB4.out) (below_alloc (Below.refl _ _) (.cells #[.int .i64 om.kind, .int .u16 om.r, .int .u32 om.n, .int .u32 om.num, .string bt, .slice p4 om.spans.length c4, .int .u32 om.seq] 71))); clear hG hS hb4)))
      all_goals
        have H15 := Lib.hid (kept_box (kept_box (kept_box H1.out (below_alloc (Below.refl _ _) (.cells #[.int .i64 om.kind, .int .u16 om.r, .int .u32 om.n, .int .u32 om.num, .string bt, .slice px om.spans.length cx, .int .u32 om.seq] 79))) HB4.out) (below_alloc (Below.refl _ _) (.cells #[.int .i64 om.kind, .int .u16 om.r, .int .u32 om.n, .int .u32 om.num, .string bt, .slice p4 om.spans.length c4, .int .u32 om.seq] 71)))
        have HE5 : Hid (∀ y ∈ ys ++ [(om, p4, c4)], OwnO 136 (w4.alloc (.cells #[.int .i64 om.kind, .int .u16 om.r, .int .u32 om.n, .int .u32 om.num, .string bt, .slice p4 om.spans.length c4, .int .u32 om.seq] 71)) y) := fun y hy => by
          rcases List.mem_append.1 hy with hy | hy
          · exact (((HE.out y hy).below (below_alloc (Below.refl _ _) _)).below HB4.out).below (below_alloc (Below.refl _ _) _)
          · rw [List.mem_singleton.1 hy]; exact HY4.out.below (below_alloc (Below.refl _ _) _)
        have HO6 : Hid (Hold layO w 71 (.slice pv (ys.length + 1) cv) (ys ++ [(om, p4, c4)]) w6) := HO5.out.onto (ys := [(om, p4, c4)]) (by rw [layO.flat_one, ← hcc]; rfl) (by simp) hown' hgrow
        have H16 := Lib.hid (box_grown (by decide) H15.out HO5.out.1 hgrow)
        have HE6 : Hid (∀ y ∈ ys ++ [(om, p4, c4)], OwnO 136 w6 y) := fun y hy => (HE5.out y hy).grown (by decide) HO5.out.1 hgrow
        clear hown' hgrow HO5 HE5 HO HE H15 H25 H1 H2
        have HEND : Hid (Hold layO w 71 (.slice pv (ys.length + 1) cv) (ys ++ [(om, p4, c4)]) (w6.setCell ⟨w.heap.size + 2, 4, none⟩ (.slice pv (ys.length + 1) cv)) ∧ (∀ y ∈ ys ++ [(om, p4, c4)], OwnO 136 (w6.setCell ⟨w.heap.size + 2, 4, none⟩ (.slice pv (ys.length + 1) cv)) y) ∧ (w6.setCell ⟨w.heap.size + 2, 4, none⟩ (.slice pv (ys.length + 1) cv)).heap[w.heap.size + 1]? = some (.cells #[.int .u16 0, .int .u32 0, .int .u64 0, .int .i64 0, .slice none 0 0] 37 (0, 0)) ∧ (w6.setCell ⟨w.heap.size + 2, 4, none⟩ (.slice pv (ys.length + 1) cv)).heap[w.heap.size + 2]? = some (.cells #[.int .u16 t.r, .int .u32 t.seq, .int .u64 t.clock, .int .i64 t.user, .slice pv (ys.length + 1) cv] 37 (0, 0))) := by
          refine ⟨HO6.out.other (kind_apart (by decide) H26.out HO6.out.1) (by omega) 4 _, fun y hy => (HE6.out y hy).only (by decide) H26.out (only_set w6 _ 4 _), ?_, ?_⟩
          · rw [heap_setCell_other _ _ _ _ (by simp)]; exact H16.out
          · have := heap_setCell_same w6 (w.heap.size + 2) 4 _ _ (.slice pv (ys.length + 1) cv) H26.out
            simpa using this
        rw [hyl] at HEND
        have HMY : Hid ((ys ++ [(om, p4, c4)]).map (·.1) = (xs.take (k + 1)).map (·.1)) := by show _ = _; rw [HNX.out, List.map_append, HYS.out]; rfl
        go_wp2
        go_roundg (xs.length - (k + 1))
        case measure => omega
        case rel => exact ⟨k + 1, _, ys ++ [(om, p4, c4)], by omega, Nat.le_refl _, by go_num, HEND.out.1, HMY.out, HEND.out.2.1, HEND.out.2.2.1, HEND.out.2.2.2⟩
    · have : k = xs.length := by omega
      subst this
      have hkl : ¬ (xs.length : Int) < (xs.length : Int) := by omega
      rw [List.take_length] at HYS
      obtain ⟨y0, y1, y2, y3, y4⟩ := five_cells H1.out
      obtain ⟨z0, z1, z2, z3, z4⟩ := five_cells H2.out
      have f1 : ∀ o, wr.frozen? ⟨w.heap.size + 1, o, none⟩ = false := fun o => frozen_of_block H1.out
      obtain ⟨pv, cv, rfl, hG, hcv, hpv⟩ := HO.out.gave layO_pos
      have HG := Lib.hid hG
      have HAP := Lib.hid (kind_apart (by decide) H1.out HO.out.1)
      clear hG
      rw [hyl] at *
      go_wp2
      (try simp only [Exit.inBlock, Exit.then])
      have hS := only_five wr (w.heap.size + 1) (.int .u16 t.r) (.int .u32 t.seq) (.int .u64 t.clock) (.int .i64 t.user) (.slice pv xs.length cv)
      refine bodyPost_ret (results_cell_row rfl _ _ (w.heap.size + 1) 37 #[.int .u16 t.r, .int .u32 t.seq, .int .u64 t.clock, .int .i64 t.user, .slice pv xs.length cv] (0, 0) _ rfl (box_five H1.out) Tryz.underlying37 rfl szR9) rfl ?_
      refine ⟨ys, pv, cv, by rw [HTV.out], ⟨by rw [HIN.out.ops]; exact HYS.out.symm, HG.out.kept hS (fun q e ee => ?_), fun y hy => ((HE.out y hy).only (by decide) H1.out hS).1, by omega, hpv⟩, HO.out.2.trans (hS.below (Nat.le_trans HO.out.2.size (Nat.le_refl _)) ?_)⟩
      · apply HAP.out
        rw [e]
        have ee : q.block = w.heap.size + 1 := ee
        simp [Value.ownBlock, ee]
      · intro k ek
        have ek : k = w.heap.size + 1 := ek
        omega
end Go.Proofs.YtceanfpcddcfoaaGreat
/-
  What the document's Atoms and Fit of layer 9 hand back. No conditions beyond what each theorem states.
-/
namespace Go.Proofs.YtceanfpcddcfoaaGreat
open Go.ChangeShapes Go.WideShapes Go.ChangeAt Go.RowKit Go.Lib
set_option linter.unusedVariables false
set_option linter.unusedSimpArgs false

/-- Operations that are few, and short. -/
def SmallX (xs : List OV) : Prop := ∀ x ∈ xs, x.1.text.length ≤ 300 ∧ x.1.spans.length ≤ 1024
/-- .. and shorter ones. -/
def SmallP (xs : List OV) : Prop := ∀ x ∈ xs, x.1.text.length ≤ 300 ∧ x.1.spans.length ≤ 60
theorem SmallP.wide {xs : List OV} (h : SmallP xs) : SmallX xs := fun x hx => ⟨(h x hx).1, by have := (h x hx).2; omega⟩
theorem SmallP.at {xs : List OV} (h : SmallP xs) {k : Nat} (hk : k < xs.length) : (xs.getD k ov0).1.text.length ≤ 300 ∧ (xs.getD k ov0).1.spans.length ≤ 60 := h _ (getD_mem ov0 hk)
theorem SmallX.at {xs : List OV} (h : SmallX xs) {k : Nat} (hk : k < xs.length) : (xs.getD k ov0).1.text.length ≤ 300 ∧ (xs.getD k ov0).1.spans.length ≤ 1024 := h _ (getD_mem ov0 hk)
theorem bne_int {a b : Int} (h : ¬ a = b) : (a != b) = true := by simpa using h
theorem atoms_range {o : Om} (h : fitO o = 0) (hf : FitOm o) : 0 ≤ atomsO o ∧ atomsO o ≤ 1024 ∧ (3 < o.kind → atomsO o = 0) ∧ (0 < atomsO o → o.kind = 1 ∨ o.kind = 3) ∧ (o.kind = 1 ∨ o.kind = 3 → 1 ≤ o.num ∧ o.num ≤ 268435456 ∧ o.num + atomsO o - 1 ≤ 268435456) := by
  rcases fitO_cases h with c | c | c | c
  · obtain ⟨k, -, -, ht, -, hl, hn⟩ := c
    have hn := of_decide_eq_true hn
    have ha : atomsO o = (o.text.length : Int) := by unfold atomsO; rw [if_pos k]
    rw [ha] at hn ⊢
    refine ⟨by omega, by omega, fun h => by omega, fun h => by omega, fun _ => by omega⟩
  · obtain ⟨k, -, -, -, -⟩ := c
    have ha : atomsO o = 0 := by unfold atomsO; rw [if_neg (by omega), if_neg (by omega)]
    rw [ha]
    refine ⟨by omega, by omega, fun h => by omega, fun h => by omega, fun _ => by omega⟩
  · obtain ⟨k, -, -, hfl, hn⟩ := c
    have hn := of_decide_eq_true hn
    have ha : atomsO o = (totalL o.spans : Int) := by unfold atomsO; rw [if_neg (by omega), if_pos k]
    have := (fitL_ok hfl).2.1
    rw [ha] at hn ⊢
    refine ⟨by omega, by omega, fun h => by omega, fun h => by omega, fun _ => by omega⟩
  · obtain ⟨k, -, -, -, -⟩ := c
    have ha : atomsO o = 0 := by unfold atomsO; rw [if_neg (by omega), if_neg (by omega)]
    rw [ha]
    refine ⟨by omega, by omega, fun h => by omega, fun h => by omega, fun _ => by omega⟩
theorem counts_of_fit {o : Om} (h : fitO o = 0) : Counts o := fun hk => by
  rcases fitO_cases h with c | c | c | c
  · have := c.1; omega
  · have := c.1; omega
  · exact counts_fit c.2.2.2.1 hk
  · have := c.1; omega
theorem getD_map1 (xs : List OV) {k : Nat} (h : k < xs.length) : (xs.map (·.1)).getD k o0 = (xs.getD k ov0).1 := by
  rw [List.getD_eq_getElem?_getD, List.getD_eq_getElem?_getD, List.getElem?_map, List.getElem?_eq_getElem h]; rfl
theorem drop_ops {t : Tm} {xs : List OV} (h : t.ops = xs.map (·.1)) {k : Nat} (hk : k < xs.length) : t.ops.drop k = (xs.getD k ov0).1 :: t.ops.drop (k + 1) := by
  have hk' : k < t.ops.length := by rw [h, List.length_map]; exact hk
  rw [drop_getD o0 hk', h, getD_map1 xs hk]

end Go.Proofs.YtceanfpcddcfoaaGreat
