/-
  Several texts of one proof, joined: each part says at its head what it proves. No conditions beyond what each theorem states.
-/
import Derived.Lib.Walk
import Derived.Lib.SliceRun
import Derived.Lib.AppendZerosOnto
import Derived.Lib.Overlaps
import Derived.Lib.Hide
import Derived.Laws.Externs
import Derived.Laws.IdiomCopy
import Derived.Deep.RegionLaw
import Derived.Shelf.RegionOpenPlain
import Derived.Test.YtjkdcpalgfakhaaZ08
import Derived.Test.YtjkdcpalgfakhaaZ11
import Derived.Test.YtjkdcpalgfakhaaZ10
import Derived.Test.YtjkdcpalgfakhaaZ03
/-
  Transactions that come in, and how much they hold. No conditions beyond what each theorem states.
-/
namespace Go.Proofs.Ytjkdcpalgfakhaa
open Go.ChangeShapes Go.WideShapes Go.ChangeAt Go.RowKit Go.Lib
set_option linter.unusedVariables false
set_option linter.unusedSimpArgs false
set_option maxRecDepth 100000

theorem bytesSp9 : Try.prog.bytesOf 103 = 16 := by kernel_rfl
theorem bytesO9 : Try.prog.bytesOf 92 = 72 := by kernel_rfl
theorem weights_all_mem {H : Type} {P : Program} {e : TypeId} {d : DataW H} : ∀ {ds : List (DataW H)}, d ∈ ds → ∀ n ∈ d.weights P e, n ∈ DataW.weightsAll P e ds
  | d0 :: ds, h, n, hn => by
    simp only [DataW.weightsAll, List.mem_append]
    rcases List.mem_cons.1 h with rfl | h
    · exact Or.inl hn
    · exact Or.inr (weights_all_mem h n hn)
theorem lay_cells_w {α : Type} [Inhabited α] (R : Nat) (L : Lay α) (Fit : α → Prop) (hpos : 0 < L.k) {H : Type} {enc : TypeId × Value → H} {W : World} {fuel : Nat} {t e : TypeId} {cs : List Value} {x : DataW H × List MemPlace} (hu : Try.prog.underlying t = some (.slice e)) (hk : Try.prog.cellsOf e = L.k)
    (dec : ∀ n cs' x, DataW.trod enc Try.prog W 0 (fun _ => true) true n e cs' = some x → cs'.length = L.k → (∀ m ∈ x.1.weights Try.prog e, m ≤ R) → ∃ a, cs' = L.enc a ∧ Fit a)
    (hf : DataW.trod enc Try.prog W 0 (fun _ => true) true fuel t cs = some x) (hw : ∀ m ∈ x.1.weights Try.prog t, m ≤ R) :
    ∃ l p c, cs = [.slice p l.length c] ∧ GRow L W p l ∧ (∀ x ∈ l, Fit x) ∧ l.length ≤ c ∧ (p = none → c = 0) ∧ l.length ≤ 9223372036854775807 ∧ l.length * Try.prog.bytesOf e ≤ R := by
  rcases Go.Deep.open_slice hu hf with ⟨hcs, -⟩ | ⟨a, len, cap, m, n, D, Pl, hcs, -, hl, hm, hmm, hx, hc⟩
  · exact ⟨[], none, 0, hcs, GRow.nil _ _ _, (by intro x hx; simp at hx), by simp, fun _ => rfl, by simp, by simp⟩
  · subst hcs
    subst hx
    simp only [DataW.weights, hu] at hw
    have hlm : len ≤ m := by rw [hmm]; split <;> omega
    have each : ∀ i, i < len → ∃ x : α, (∀ j u, (L.enc x)[j]? = some u → W.cell? (a.add (i * L.k + j)) = some u) ∧ Fit x := fun i hi => by
      obtain ⟨cs', h1, h2⟩ := hc i (by omega)
      rw [hk] at h1
      obtain ⟨_, hlen, hcell⟩ := World.cells?_some h1
      obtain ⟨x, rfl, hfx⟩ := dec _ _ _ h2 hlen (fun m hm => hw m (List.mem_cons_of_mem _ (List.mem_append_left _ (weights_all_mem (List.mem_map.2 ⟨i, List.mem_range.2 hi, rfl⟩) m hm))))
      refine ⟨x, fun j u hj => ?_, hfx⟩
      have hjk : j < L.k := by have := (List.getElem?_eq_some_iff.1 hj).1; rwa [L.len] at this
      have := hcell j hjk
      rw [Go.Deep.add_add] at this
      rw [this]; exact hj
    obtain ⟨q, hq⟩ := Go.Deep.choose_lt each
    refine ⟨(List.range len).map q, some a, cap, by simp, ?_, ?_, by simpa using hl, (by intro h; cases h), (by simp; unfold maxLen at hm; omega), ?_⟩
    · intro m' u hm'
      have hlt : m' < len * L.k := by
        have := (List.getElem?_eq_some_iff.1 hm').1
        rw [L.flat_length] at this
        simpa using this
      have hi : m' / L.k < len := Nat.div_lt_of_lt_mul (by rw [Nat.mul_comm]; exact hlt)
      have hj : m' % L.k < L.k := Nat.mod_lt _ hpos
      have hmm : m' = (m' / L.k) * L.k + m' % L.k := by rw [Nat.mul_comm]; exact (Nat.div_add_mod m' L.k).symm
      have hfl := L.flat_at (q 0) ((List.range len).map q) (m' / L.k) (m' % L.k) (by simpa using hi) hj
      rw [← hmm, hm'] at hfl
      have hgd : ((List.range len).map q).getD (m' / L.k) (q 0) = q (m' / L.k) := by simp [hi]
      rw [hgd] at hfl
      have hcell := (hq _ hi).1 _ _ hfl.symm
      rw [← hmm] at hcell
      obtain ⟨b, o, s⟩ := a
      have h00 := (hq 0 (Nat.lt_of_le_of_lt (Nat.zero_le _) hi)).1 0 _ (List.getElem?_eq_getElem (by rw [L.len]; exact hpos))
      have hs : s = none := by simpa [Addr.add] using World.cell?_spot h00
      subst hs
      rw [Addr.add_lit] at hcell
      exact ⟨b, o, rfl, hcell⟩
    · intro x hx
      simp only [List.mem_map, List.mem_range] at hx
      obtain ⟨i, hi, rfl⟩ := hx
      exact (hq i hi).2
    · have := hw _ (List.mem_cons_self ..)
      simp only [List.length_map, List.length_range] at this ⊢
      exact Nat.le_trans (Nat.mul_le_mul_right _ (by omega)) this
/-- One operation's cells, read, and how much they hold. -/
theorem op_dec_w (R : Nat) {H : Type} {enc : TypeId × Value → H} {W : World} (n : Nat) (cs' : List Value) (x : DataW H × List MemPlace) (h : DataW.trod enc Try.prog W 0 (fun _ => true) true n 92 cs' = some x) (hl : cs'.length = 7) (hw : ∀ m ∈ x.1.weights Try.prog 92, m ≤ R) : ∃ a : OV, cs' = layO.enc a ∧ InO a.1 a.2.1 a.2.2 W ∧ a.1.text.length ≤ 9223372036854775807 ∧ a.1.spans.length ≤ 9223372036854775807 ∧ a.1.spans.length * 16 ≤ R := by
  obtain ⟨xs, n, -, hx, -, hlen, hfs⟩ := DataW.trod_struct Try.underlying92 h
  subst hx
  obtain ⟨z0, z1, z2, z3, z4, z5, rfl⟩ := list6 (by simpa using hlen)
  match cs', hl with
  | [c0, c1, c2, c3, c4, c5, c6], _ =>
    have hw4 : ∀ m ∈ z4.1.weights Try.prog 90, m ≤ R := fun m hm => hw m (by
      simp only [DataW.weights, Try.underlying92]
      exact DataW.weights_mem_each (j := 4) rfl rfl m hm)
    have h0 := hfs 0 _ rfl
    have h1 := hfs 1 _ rfl
    have h2 := hfs 2 _ rfl
    have h3 := hfs 3 _ rfl
    have h4 := hfs 4 _ rfl
    have h5 := hfs 5 _ rfl
    simp [cellsInt, cellsII, cellsN, cellsSt, cellsSl] at h0 h1 h2 h3 h4 h5
    obtain ⟨k, e0, -, w0⟩ := DataW.trod_int Try.underlying3 h0
    obtain ⟨a, e1, fa⟩ := id_dec _ _ _ h1 rfl
    obtain ⟨m, e2, -, w2⟩ := DataW.trod_int Try.underlying30 h2
    obtain ⟨s, e3, -, hs⟩ := DataW.trod_string Try.underlying9 h3
    obtain ⟨l, p, c, e4, hG, hF, hc, hp, hll, hb⟩ := lay_cells_w R layS FitS layS_pos Try.underlying90 cellsSp (fun n cs' x h hl _ => span_dec n cs' x h hl) h4 hw4
    obtain ⟨q, e5, -, w5⟩ := DataW.trod_int Try.underlying30 h5
    simp at e0 e1 e2 e3 e4 e5
    obtain ⟨rfl, rfl⟩ := e1
    subst e0 e2 e3 e4 e5
    have b0 := bounds_i64 w0
    have b2 := bounds_u32 w2
    have b5 := bounds_u32 w5
    unfold FitN at fa
    obtain ⟨sd⟩ := s
    obtain ⟨sl⟩ := sd
    refine ⟨(⟨k, a.1, a.2, m, sl, l, q⟩, p, c), rfl, ⟨⟨b0.1, by have := b0.2; simp only; omega, fa.1, fa.2.1, fa.2.2.1, fa.2.2.2, b2.1, by have := b2.2; simp only; omega, hF, b5.1, by have := b5.2; simp only; omega⟩, hG, hc, hp⟩, ?_, hll, by rw [bytesSp9] at hb; exact hb⟩
    unfold maxLen at hs
    have : (⟨⟨sl⟩⟩ : ByteArray).size = sl.length := rfl
    simp only
    omega
/-- A transaction that comes in, and how much it holds. -/
theorem txn_sized {H : Type} {enc : TypeId × Value → H} {W : World} {r : Reach} {base : Nat} {v : Value} {d : DataW H} {ps : List MemPlace} (hv : Value.okWide Try.prog W r base 34 v) (h : DataW.Trod enc Try.prog W 0 (fun _ => true) true 34 v d ps) (RB : Nat) (hw : ∀ m ∈ d.weights Try.prog 34, m ≤ RB) :
    ∃ t xs p c, v = tv t p c ∧ InT t xs p c W ∧ t.ops.length ≤ 9223372036854775807 ∧ t.ops.length * 72 ≤ RB ∧ ∀ x ∈ xs, x.1.text.length ≤ 9223372036854775807 ∧ x.1.spans.length ≤ 9223372036854775807 ∧ x.1.spans.length * 16 ≤ RB := by
  obtain ⟨cs, rfl, hsz⟩ := okWide_struct Try.underlying34 hv
  obtain ⟨c0, c1, c2, c3, c4, rfl⟩ := array5 (hsz.trans cells9)
  obtain ⟨fuel, hf⟩ := h
  obtain ⟨xs, n, -, hx, -, hlen, hfs⟩ := DataW.trod_struct Try.underlying34 hf
  obtain ⟨rfl, -⟩ := Prod.mk.inj hx
  obtain ⟨z0, z1, z2, z3, z4, rfl⟩ := list5 (by simpa using hlen)
  have hw4 : ∀ m ∈ z4.1.weights Try.prog 32, m ≤ RB := fun m hm => hw m (by
    simp only [DataW.weights, Try.underlying34]
    exact DataW.weights_mem_each (j := 4) rfl rfl m hm)
  have h0 := hfs 0 _ rfl
  have h1 := hfs 1 _ rfl
  have h2 := hfs 2 _ rfl
  have h3 := hfs 3 _ rfl
  have h4 := hfs 4 _ rfl
  simp [Value.cells, cellsInt, cellsR, cellsN, cellsC, cellsOs] at h0 h1 h2 h3 h4
  obtain ⟨R, e0, -, w0⟩ := DataW.trod_int Try.underlying29 h0
  obtain ⟨S, e1, -, w1⟩ := DataW.trod_int Try.underlying30 h1
  obtain ⟨C, e2, -, w2⟩ := DataW.trod_int Try.underlying31 h2
  obtain ⟨U, e3, -, w3⟩ := DataW.trod_int Try.underlying3 h3
  obtain ⟨l, p, c, e4, hG, hF, hc, hp, hll, hb⟩ := @lay_cells_w OV ⟨ov0⟩ RB layO (fun a => InO a.1 a.2.1 a.2.2 W ∧ a.1.text.length ≤ 9223372036854775807 ∧ a.1.spans.length ≤ 9223372036854775807 ∧ a.1.spans.length * 16 ≤ RB) layO_pos H enc W _ _ _ _ _ Try.underlying32 cells8 (fun n cs' x h hl hw => op_dec_w RB n cs' x h hl hw) h4 hw4
  simp at e0 e1 e2 e3 e4
  subst e0 e1 e2 e3 e4
  have b0 := bounds_u16 w0
  have b1 := bounds_u32 w1
  have b2 := bounds_u64 w2
  have b3 := bounds_i64 w3
  refine ⟨⟨R, S, C, U, l.map (·.1)⟩, l, p, c, by unfold tv; simp, ⟨⟨b0.1, by have := b0.2; simp only; omega, b1.1, by have := b1.2; simp only; omega, b2.1, by have := b2.2; simp only; omega, b3.1, by have := b3.2; simp only; omega, ?_⟩, rfl, ⟨hG, fun x hx => (hF x hx).1⟩, by simpa using hc, hp⟩, by simpa using hll, by rw [bytesO9] at hb; simpa using hb, fun x hx => (hF x hx).2⟩
  intro o ho
  obtain ⟨x, hx, rfl⟩ := List.mem_map.1 ho
  exact (hF x hx).1.fit
end Go.Proofs.Ytjkdcpalgfakhaa
/-
  Envelopes and vectors that come in, and how much they hold. No conditions beyond what each theorem states.
-/
namespace Go.Proofs.Ytjkdcpalgfakhaa
open Go.ChangeShapes Go.WideShapes Go.ChangeAt Go.RowKit Go.Lib
set_option linter.unusedVariables false
set_option linter.unusedSimpArgs false
set_option maxRecDepth 100000

theorem cellsW : Try.prog.cellsOf 36 = 6 := by kernel_rfl
theorem cellsVe : Try.prog.cellsOf 24 = 1 := by kernel_rfl
theorem cellsEn : Try.prog.cellsOf 78 = 2 := by kernel_rfl
theorem bytesEn : Try.prog.bytesOf 78 = 8 := by kernel_rfl
def FitV (x : Vec.En) : Prop := 0 ≤ x.1 ∧ x.1 ≤ 65535 ∧ 0 ≤ x.2 ∧ x.2 ≤ 4294967295
theorem entry_dec {H : Type} {enc : TypeId × Value → H} {W : World} {sp : Nat → Bool} (n : Nat) (cs' : List Value) (x : DataW H × List MemPlace) (h : DataW.trod enc Try.prog W 0 sp true n 78 cs' = some x) (hl : cs'.length = 2) : ∃ a : Vec.En, cs' = layV.enc a ∧ FitV a := by
  obtain ⟨y0, y1, m, -, -, h0, h1⟩ := trod_struct2 Try.underlying78 h
  match cs', hl with
  | [v0, v1], _ =>
    simp [cellsR, cellsN] at h0 h1
    obtain ⟨a, e0, -, wa⟩ := DataW.trod_int Try.underlying29 h0
    obtain ⟨b, e1, -, wb⟩ := DataW.trod_int Try.underlying30 h1
    simp at e0 e1
    have b0 := bounds_u16 wa
    have b1 := bounds_u32 wb
    exact ⟨(a, b), by rw [e0, e1]; rfl, b0.1, by have := b0.2; simp only; omega, b1.1, by have := b1.2; simp only; omega⟩
/-- One transaction's cells, read, and how much they hold. -/
theorem txn_dec_w (RB : Nat) {H : Type} {enc : TypeId × Value → H} {W : World} (n : Nat) (cs' : List Value) (x : DataW H × List MemPlace) (hf : DataW.trod enc Try.prog W 0 (fun _ => true) true n 34 cs' = some x) (hl : cs'.length = 5) (hw : ∀ m ∈ x.1.weights Try.prog 34, m ≤ RB) :
    ∃ t xs p c, cs' = [.int .u16 t.r, .int .u32 t.seq, .int .u64 t.clock, .int .i64 t.user, .slice p t.ops.length c] ∧ InT t xs p c W ∧ t.ops.length ≤ 9223372036854775807 ∧ t.ops.length * 72 ≤ RB ∧ ∀ x ∈ xs, x.1.text.length ≤ 9223372036854775807 ∧ x.1.spans.length ≤ 9223372036854775807 ∧ x.1.spans.length * 16 ≤ RB := by
  match cs', hl with
  | [c0, c1, c2, c3, c4], _ =>
    obtain ⟨xs, n, -, hx, -, hlen, hfs⟩ := DataW.trod_struct Try.underlying34 hf
    subst hx
    obtain ⟨z0, z1, z2, z3, z4, rfl⟩ := list5 (by simpa using hlen)
    have hw4 : ∀ m ∈ z4.1.weights Try.prog 32, m ≤ RB := fun m hm => hw m (by
      simp only [DataW.weights, Try.underlying34]
      exact DataW.weights_mem_each (j := 4) rfl rfl m hm)
    have h0 := hfs 0 _ rfl
    have h1 := hfs 1 _ rfl
    have h2 := hfs 2 _ rfl
    have h3 := hfs 3 _ rfl
    have h4 := hfs 4 _ rfl
    simp [cellsInt, cellsR, cellsN, cellsC, cellsOs] at h0 h1 h2 h3 h4
    obtain ⟨R, e0, -, w0⟩ := DataW.trod_int Try.underlying29 h0
    obtain ⟨S, e1, -, w1⟩ := DataW.trod_int Try.underlying30 h1
    obtain ⟨C, e2, -, w2⟩ := DataW.trod_int Try.underlying31 h2
    obtain ⟨U, e3, -, w3⟩ := DataW.trod_int Try.underlying3 h3
    obtain ⟨l, p, c, e4, hG, hF, hc, hp, hll, hb⟩ := @lay_cells_w OV ⟨ov0⟩ RB layO (fun a => InO a.1 a.2.1 a.2.2 W ∧ a.1.text.length ≤ 9223372036854775807 ∧ a.1.spans.length ≤ 9223372036854775807 ∧ a.1.spans.length * 16 ≤ RB) layO_pos H enc W _ _ _ _ _ Try.underlying32 cells8 (fun n cs' x h hl hw => op_dec_w RB n cs' x h hl hw) h4 hw4
    simp at e0 e1 e2 e3 e4
    subst e0 e1 e2 e3 e4
    have b0 := bounds_u16 w0
    have b1 := bounds_u32 w1
    have b2 := bounds_u64 w2
    have b3 := bounds_i64 w3
    refine ⟨⟨R, S, C, U, l.map (·.1)⟩, l, p, c, by simp, ⟨⟨b0.1, by have := b0.2; simp only; omega, b1.1, by have := b1.2; simp only; omega, b2.1, by have := b2.2; simp only; omega, b3.1, by have := b3.2; simp only; omega, ?_⟩, rfl, ⟨hG, fun x hx => (hF x hx).1⟩, by simpa using hc, hp⟩, by simpa using hll, by rw [bytesO9] at hb; simpa using hb, fun x hx => (hF x hx).2⟩
    intro o ho
    obtain ⟨x, hx, rfl⟩ := List.mem_map.1 ho
    exact (hF x hx).1.fit
theorem array6 {cs : Array Value} (h : cs.size = 6) : ∃ a b c d e f, cs = #[a, b, c, d, e, f] := by
  obtain ⟨l⟩ := cs
  match l, h with
  | [a, b, c, d, e, f], _ => exact ⟨a, b, c, d, e, f, rfl⟩
theorem list2 {α : Type} {l : List α} (h : l.length = 2) : ∃ a b, l = [a, b] := by
  match l, h with
  | [a, b], _ => exact ⟨a, b, rfl⟩
/-- An envelope that comes in, and how much it holds. -/
theorem env_sized {H : Type} {enc : TypeId × Value → H} {W : World} {r : Reach} {base : Nat} {v : Value} {d : DataW H} {ps : List MemPlace} (hv : Value.okWide Try.prog W r base 36 v) (h : DataW.Trod enc Try.prog W 0 (fun _ => true) true 36 v d ps) (RB : Nat) (hw : ∀ m ∈ d.weights Try.prog 36, m ≤ RB) :
    ∃ e xs p q c k, v = ev e p c q k ∧ InE e xs p c q k W ∧ e.deps.length * 8 ≤ RB ∧ e.txn.ops.length ≤ 9223372036854775807 ∧ e.txn.ops.length * 72 ≤ RB ∧ ∀ x ∈ xs, x.1.text.length ≤ 9223372036854775807 ∧ x.1.spans.length ≤ 9223372036854775807 ∧ x.1.spans.length * 16 ≤ RB := by
  obtain ⟨cs, rfl, hsz⟩ := okWide_struct Try.underlying36 hv
  obtain ⟨c0, c1, c2, c3, c4, c5, rfl⟩ := array6 (hsz.trans cellsW)
  obtain ⟨fuel, hf⟩ := h
  obtain ⟨xs, n, -, hx, -, hlen, hfs⟩ := DataW.trod_struct Try.underlying36 hf
  obtain ⟨rfl, -⟩ := Prod.mk.inj hx
  obtain ⟨z0, z1, rfl⟩ := list2 (by simpa using hlen)
  have hw0 : ∀ m ∈ z0.1.weights Try.prog 24, m ≤ RB := fun m hm => hw m (by
    simp only [DataW.weights, Try.underlying36]
    exact DataW.weights_mem_each (j := 0) rfl rfl m hm)
  have hw1 : ∀ m ∈ z1.1.weights Try.prog 34, m ≤ RB := fun m hm => hw m (by
    simp only [DataW.weights, Try.underlying36]
    exact DataW.weights_mem_each (j := 1) rfl rfl m hm)
  have h0 := hfs 0 _ rfl
  have h1 := hfs 1 _ rfl
  simp [Value.cells, cellsVe, cells9] at h0 h1
  obtain ⟨l, p, c, e0, hG, hF, hc, hp, hll, hb⟩ := lay_cells_w RB layV FitV layV_pos Try.underlying24 cellsEn (fun n cs' x h hl _ => entry_dec n cs' x h hl) h0 hw0
  obtain ⟨t, us, q, k, e1, hI, b1, b2, b3⟩ := txn_dec_w RB _ _ _ h1 rfl hw1
  simp at e0 e1
  obtain ⟨rfl, rfl, rfl, rfl, rfl⟩ := e1
  subst e0
  rw [bytesEn] at hb
  exact ⟨⟨l, t⟩, us, p, q, c, k, rfl, ⟨vrow hG, fun x hx => hF x hx, hc, hp, hI⟩, hb, b1, b2, b3⟩
theorem env_again {H : Type} {enc : TypeId × Value → H} {W W' : World} {v : Value} {d : DataW H} {ps : List MemPlace} (h : DataW.Trod enc Try.prog W 0 (fun _ => true) true 36 v d ps) (hb : Below W.heap.size W W') (hlt : ∀ x ∈ ps, x.block < W.heap.size) :
    DataW.Trod enc Try.prog W' 0 (fun b => decide (b < W.heap.size)) true 36 v d ps :=
  Below.trod laidOut (by kernel_rfl) (of_decide_eq_true (by kernel_rfl)) h hb hlt
/-- A vector that comes in, and how much it holds. -/
theorem vec_sized {H : Type} {enc : TypeId × Value → H} {W : World} {r : Reach} {base : Nat} {v : Value} {d : DataW H} {ps : List MemPlace} (hv : Value.okWide Try.prog W r base 24 v) (h : DataW.Trod enc Try.prog W 0 (fun _ => true) true 24 v d ps) (RB : Nat) (hw : ∀ m ∈ d.weights Try.prog 24, m ≤ RB) :
    ∃ l p c, v = .slice p l.length c ∧ Vec.Row W p l ∧ Vec.Fits l ∧ l.length ≤ c ∧ (p = none → c = 0) ∧ l.length * 8 ≤ RB := by
  obtain ⟨a0, len, cap, rfl⟩ := okWide_slice Try.underlying24 hv
  obtain ⟨fuel, hf⟩ := h
  obtain ⟨l, p, c, e0, hG, hF, hc, hp, hll, hb⟩ := lay_cells_w RB layV FitV layV_pos Try.underlying24 cellsEn (fun n cs' x h hl _ => entry_dec n cs' x h hl) hf hw
  simp [Value.cells] at e0
  obtain ⟨rfl, rfl, rfl⟩ := e0
  rw [bytesEn] at hb
  exact ⟨l, _, _, rfl, vrow hG, fun x hx => hF x hx, hc, hp, hb⟩
theorem vec_again {H : Type} {enc : TypeId × Value → H} {W W' : World} {v : Value} {d : DataW H} {ps : List MemPlace} (h : DataW.Trod enc Try.prog W 0 (fun _ => true) true 24 v d ps) (hb : Below W.heap.size W W') (hlt : ∀ x ∈ ps, x.block < W.heap.size) :
    DataW.Trod enc Try.prog W' 0 (fun b => decide (b < W.heap.size)) true 24 v d ps :=
  Below.trod laidOut (by kernel_rfl) (of_decide_eq_true (by kernel_rfl)) h hb hlt
end Go.Proofs.Ytjkdcpalgfakhaa
/-
  Envelopes in a row that come in, and how much they hold. No conditions beyond what each theorem states.
-/
namespace Go.Proofs.Ytjkdcpalgfakhaa
open Go.ChangeShapes Go.WideShapes Go.ChangeAt Go.RowKit Go.Lib
set_option linter.unusedVariables false
set_option linter.unusedSimpArgs false
set_option maxRecDepth 100000

/-- What comes in with one envelope of a row. -/
def FitEV (RB : Nat) (W : World) (a : EV) : Prop := InE a.e a.ys a.p a.c a.q a.d W ∧ a.e.deps.length * 8 ≤ RB ∧ a.e.txn.ops.length ≤ 9223372036854775807 ∧ a.e.txn.ops.length * 72 ≤ RB ∧ ∀ y ∈ a.ys, y.1.text.length ≤ 9223372036854775807 ∧ y.1.spans.length ≤ 9223372036854775807 ∧ y.1.spans.length * 16 ≤ RB
theorem bytesEnv : Try.prog.bytesOf 36 = 72 := by kernel_rfl
/-- One envelope's cells, read. -/
theorem env_dec_w (RB : Nat) {H : Type} {enc : TypeId × Value → H} {W : World} (n : Nat) (cs' : List Value) (x : DataW H × List MemPlace) (hf : DataW.trod enc Try.prog W 0 (fun _ => true) true n 36 cs' = some x) (hl : cs'.length = 6) (hw : ∀ m ∈ x.1.weights Try.prog 36, m ≤ RB) :
    ∃ a : EV, cs' = layE.enc a ∧ FitEV RB W a := by
  match cs', hl with
  | [c0, c1, c2, c3, c4, c5], _ =>
    obtain ⟨xs, n, -, hx, -, hlen, hfs⟩ := DataW.trod_struct Try.underlying36 hf
    subst hx
    obtain ⟨z0, z1, rfl⟩ := list2 (by simpa using hlen)
    have hw0 : ∀ m ∈ z0.1.weights Try.prog 24, m ≤ RB := fun m hm => hw m (by
      simp only [DataW.weights, Try.underlying36]
      exact DataW.weights_mem_each (j := 0) rfl rfl m hm)
    have hw1 : ∀ m ∈ z1.1.weights Try.prog 34, m ≤ RB := fun m hm => hw m (by
      simp only [DataW.weights, Try.underlying36]
      exact DataW.weights_mem_each (j := 1) rfl rfl m hm)
    have h0 := hfs 0 _ rfl
    have h1 := hfs 1 _ rfl
    simp [cellsVe, cells9] at h0 h1
    obtain ⟨l, p, c, e0, hG, hF, hc, hp, hll, hb⟩ := lay_cells_w RB layV FitV layV_pos Try.underlying24 cellsEn (fun n cs' x h hl _ => entry_dec n cs' x h hl) h0 hw0
    obtain ⟨t, us, q, k, e1, hI, b1, b2, b3⟩ := txn_dec_w RB _ _ _ h1 rfl hw1
    simp at e0 e1
    obtain ⟨rfl, rfl, rfl, rfl, rfl⟩ := e1
    subst e0
    rw [bytesEn] at hb
    exact ⟨⟨⟨l, t⟩, us, p, c, q, k⟩, rfl, ⟨vrow hG, fun x hx => hF x hx, hc, hp, hI⟩, hb, b1, b2, b3⟩
/-- A row of envelopes that comes in, and how much it holds. -/
theorem envs_sized {H : Type} {enc : TypeId × Value → H} {W : World} {r : Reach} {base : Nat} {v : Value} {d : DataW H} {ps : List MemPlace} (hv : Value.okWide Try.prog W r base 22 v) (h : DataW.Trod enc Try.prog W 0 (fun _ => true) true 22 v d ps) (RB : Nat) (hw : ∀ m ∈ d.weights Try.prog 22, m ≤ RB) :
    ∃ l p c, v = .slice p l.length c ∧ GRow layE W p l ∧ (∀ x ∈ l, FitEV RB W x) ∧ l.length ≤ c ∧ (p = none → c = 0) ∧ l.length * 72 ≤ RB := by
  obtain ⟨a0, len, cap, rfl⟩ := okWide_slice Try.underlying22 hv
  obtain ⟨fuel, hf⟩ := h
  obtain ⟨l, p, c, e0, hG, hF, hc, hp, hll, hb⟩ := @lay_cells_w EV ⟨x0E⟩ RB layE (FitEV RB W) layE_pos H enc W _ _ _ _ _ Try.underlying22 cellsW (fun n cs' x h hl hw => env_dec_w RB n cs' x h hl hw) hf hw
  simp [Value.cells] at e0
  obtain ⟨rfl, rfl, rfl⟩ := e0
  rw [bytesEnv] at hb
  exact ⟨l, _, _, rfl, hG, hF, hc, hp, hb⟩
theorem envs_again {H : Type} {enc : TypeId × Value → H} {W W' : World} {v : Value} {d : DataW H} {ps : List MemPlace} (h : DataW.Trod enc Try.prog W 0 (fun _ => true) true 22 v d ps) (hb : Below W.heap.size W W') (hlt : ∀ x ∈ ps, x.block < W.heap.size) :
    DataW.Trod enc Try.prog W' 0 (fun b => decide (b < W.heap.size)) true 22 v d ps :=
  Below.trod laidOut (by kernel_rfl) (of_decide_eq_true (by kernel_rfl)) h hb hlt
end Go.Proofs.Ytjkdcpalgfakhaa
/-
  What slices.Insert comes to at envelopes: whatever lies in the row, one more comes at its place. No conditions beyond what each theorem states.
-/
namespace Go.Proofs.Ytjkdcpalgfakhaa
open Go.ChangeShapes Go.WideShapes Go.ChangeAt Go.RowKit Go.Lib
set_option linter.unusedVariables false
set_option linter.unusedSimpArgs false

/-- Cells that are put one behind the other. -/
theorem setCell_block {w : World} {B o : Nat} {cs : List Value} {t : TypeId} {f : Nat × Nat} (h : w.heap[B]? = some (.cells cs.toArray t f)) (u : Value) : (w.setCell ⟨B, o, none⟩ u).heap[B]? = some (.cells (cs.set o u).toArray t f) := by
  simp [World.setCell, Array.getElem?_modify, h]
theorem setCells_at {B : Nat} {t : TypeId} {f : Nat × Nat} : ∀ (N A D : List Value) (w : World) (o : Nat), w.heap[B]? = some (.cells (A ++ D).toArray t f) → N.length ≤ D.length → o = A.length → (w.setCells B o N).heap[B]? = some (.cells (A ++ N ++ D.drop N.length).toArray t f)
  | [], A, D, w, o, h, _, _ => by simpa [World.setCells] using h
  | v :: N, A, [], w, o, h, hl, _ => by simp at hl
  | v :: N, A, d :: D, w, o, h, hl, ho => by
    have h1 := setCell_block (o := o) h v
    have e : (A ++ d :: D).set o v = (A ++ [v]) ++ D := by subst ho; simp
    rw [e] at h1
    have := setCells_at N (A ++ [v]) D (w.setCell ⟨B, o, none⟩ v) (o + 1) h1 (by simpa using hl) (by rw [ho]; simp)
    simpa [World.setCells] using this
theorem Kept.cells {S : Nat → Prop} {B : Nat} (hB : S B) : ∀ (N : List Value) (o : Nat) (a b : World), Kept S a b → Kept S a (b.setCells B o N)
  | [], _, _, _, h => h
  | v :: N, o, a, b, h => Kept.cells hB N (o + 1) a _ (h.set hB v)
theorem Kept.drew {S : Nat → Prop} {a b : World} (h : Kept S a b) : Kept S a b.drew := ⟨h.os, h.tape, h.output, h.size, h.block⟩
theorem isSome_block {w : World} {B j : Nat} {cs : Array Value} {t : TypeId} {f : Nat × Nat} (h : w.heap[B]? = some (.cells cs t f)) (hj : j < cs.size) : (w.cell? ⟨B, j, none⟩).isSome = true := by
  rw [cell_of_block h, Array.getElem?_eq_getElem hj]; rfl

/-- copy, of things of any number of cells. -/
theorem run_copy_size {P : Program} (w : World) (dT sT ty elem : TypeId) (k b o dLen dCap : Nat) (a : Addr) (sLen sCap : Nat) (cs : List Value)
    (hu : P.underlying dT = some (.slice elem)) (hs : (P.info? elem).map (·.size) = some k) (hn : cs.length = Nat.min sLen dLen * k)
    (hsrc : ∀ j v, cs[j]? = some v → w.cell? (a.add j) = some v) (hc : ∀ j, j < cs.length → (w.cell? ⟨b, o + j, none⟩).isSome = true) (hf : ∀ j, j < cs.length → w.frozen? ⟨b, o + j, none⟩ = false) (h1 : ∀ v ∈ cs, v.oneCell' = true) :
    (Builtin.copy_ #[dT, sT] ty #[.slice (some ⟨b, o, none⟩) dLen dCap, .slice (some a) sLen sCap]).run P w = .ok (goInt (Nat.min sLen dLen)) (w.setCells b o cs) := by
  have hl := run_loadCells_list (P := P) w a cs hsrc
  have hst := run_storeCells_cells (P := P) b o cs 0 w (by simpa using hc) (by simpa using hf) h1
  cases hq : P.info? elem with
  | none => simp [hq] at hs
  | some i =>
    have hi : i.size = k := by simpa [hq] using hs
    simp only [Nat.add_zero] at hst
    simp [Builtin.copy_, run_underlying hu, Builtin.lenOf, Builtin.firstCells, sizeOf, typeInfo, hq, hi, ← hn, hl, hst]
theorem step_copy_runE {P : Program} {ops : Array Oper} {o : Oper} {a : Act} {w : World} {K : Act → World → Prop} {Q : Exit → Act → World → Prop} {E : Prop}
    (hg : o.guard = none) (d x : Operand) (dT sT : TypeId) (hop : o.op = Op.call { callee := Callee.builtin Builtin.copy, args := #[d, x], argTypes := #[dT, sT] })
    (v u : Value) (hd : a.eval d = v) (hx : a.eval x = u) {v' : Value} {w' : World} (hr : (Builtin.copy_ #[dT, sT] o.type #[v, u]).run P w = .ok v' w') (hK : K (a.put o.dst v') w') :
    if Region.wanted o (yielded ops a.tmps) = true then Oper.wp P o a w K Q else E := by
  have hw : Region.wanted o (yielded ops a.tmps) = true := by simp [Region.wanted, hg]
  rw [if_pos hw]
  unfold Oper.wp
  simp [execOp, hop, resolve, invoke, builtin, hd, hx, hr, Result.andThen]
  exact hK
theorem wpList_copy_runE {P : Program} (w : World) {ops : Array Oper} {rest : List Oper} {o : Oper} {a : Act} {Q : Exit → Act → World → Prop} (hgd : o.guard = none) (d s : Operand) (t t' : TypeId)
    (ho : o.op = .call { callee := .builtin .copy, args := #[d, s], argTypes := #[t, t'] }) (v u : Value) (hd : a.eval d = v) (hs : a.eval s = u) {v' : Value} {w' : World}
    (hr : (Builtin.copy_ #[t, t'] o.type #[v, u]).run P w = .ok v' w') (h : wpList P ops Q rest (a.put o.dst v') w') : wpList P ops Q (o :: rest) a w :=
  wpList_plain hgd fun _ hK => by
    unfold Oper.wp execOp
    simp only [ho, resolve, invoke, builtin, Sem.run_bind, Sem.run_pure, Result.andThen_ok, List.map_toArray, List.map_cons, List.map_nil, hd, hs, hr]
    exact hK _ _ h

/-- Room for c things behind p, of which these are the first. -/
def RoomE {α : Type} (L : Lay α) (w : World) (p : Option Addr) (c : Nat) (xs : List α) : Prop := w.ownsRow 0 36 L.k (.slice p xs.length c) xs.length (L.flat xs)
section
variable {α : Type} {L : Lay α} {w w' : World} {p : Option Addr} {c : Nat} {xs : List α}
theorem RoomE.zero (L : Lay α) (w : World) : RoomE L w none 0 [] := World.ownsRow_nil w 0 _ _
theorem RoomE.block (h : RoomE L w p c xs) : (p = none ∧ c = 0 ∧ xs = []) ∨ ∃ B rest, p = some ⟨B, 0, none⟩ ∧ w.heap[B]? = some (.cells (L.flat xs ++ rest).toArray 36 (0, 0)) ∧ (xs.length * L.k + rest.length = c * L.k) ∧ xs.length ≤ c ∧ c ≤ maxLen := by
  rcases h.2 with ⟨hv, h0⟩ | ⟨g, cap, cur, hv, hb, hg, hnc, hcm, hcs, htake⟩
  · simp only [Value.slice.injEq] at hv
    exact Or.inl ⟨hv.1, hv.2.2, List.eq_nil_of_length_eq_zero h0⟩
  · cases hv
    refine Or.inr ⟨g, cur.toList.drop (xs.length * L.k), rfl, ?_, ?_, hnc, hcm⟩
    · rw [hg, ← htake, List.take_append_drop]
    · have := Nat.mul_le_mul_right L.k hnc
      have h2 : cur.toList.length = c * L.k := by rw [Array.length_toList]; exact hcs
      rw [List.length_drop, h2]
      show xs.length * L.k + (c * L.k - xs.length * L.k) = c * L.k
      omega
theorem RoomE.of {B : Nat} {rest : List Value} (h : w.heap[B]? = some (.cells (L.flat xs ++ rest).toArray 36 (0, 0))) (hl : xs.length * L.k + rest.length = c * L.k) (hc : xs.length ≤ c) (hm : c ≤ maxLen) : RoomE L w (some ⟨B, 0, none⟩) c xs :=
  ⟨L.flat_length xs, Or.inr ⟨B, c, _, rfl, Nat.zero_le _, h, hc, hm, by simp [L.flat_length, hl], by simp [← L.flat_length xs]⟩⟩
theorem RoomE.row (h : RoomE L w p c xs) (hk : 0 < L.k) : GRow L w p xs := by
  obtain ⟨p', c', e, -, h1, -, -⟩ := grow_owns hk h
  cases e
  exact h1
theorem RoomE.below (h : RoomE L w p c xs) (hb : Below w.heap.size w w') : RoomE L w' p c xs := by
  rcases h.block with ⟨rfl, rfl, rfl⟩ | ⟨B, rest, rfl, hg, hl, hc, hm⟩
  · exact RoomE.zero L w'
  · exact RoomE.of (by rw [hb.block B (lt_of_block hg)]; exact hg) hl hc hm
end
theorem infoEnv : (Try.prog.info? 36).map (fun i => (i.zero, i.size, i.bytes)) = some (some (.agg #[.slice none 0 0, .int .u16 0, .int .u32 0, .int .u64 0, .int .i64 0, .slice none 0 0]), 6, 72) := by kernel_rfl
/-- What Insert hands back: the row, and where it lies. -/
def Inserted {α : Type} (L : Lay α) (p : Option Addr) (xs : List α) (w : World) (e : Ending) (w' : World) : Prop := ∃ p' c', e = .returned (.slice p' xs.length c') ∧ RoomE L w' p' c' xs ∧ Kept (fun k => ∃ a, p = some a ∧ k = a.block) w w' ∧ ∀ a, p' = some a → w.heap.size ≤ a.block ∨ ∃ b, p = some b ∧ a.block = b.block
theorem inserted_own {α : Type} {L : Lay α} (hk : L.k = 6) {p : Option Addr} {n m c : Nat} {xs : List α} {w w1 : World} {v' : Value} {cs : List Value} (ho : w1.ownsRow 0 36 6 v' n cs) (hn : n = xs.length) (hcs : cs = L.flat xs) (hg : w.grownBy w1 (Value.slice p m c).ownBlock) (hw : ∀ j, v'.ownBlock = some j → (Value.slice p m c).ownBlock = some j ∨ w.heap.size ≤ j) : Inserted L p xs w (.returned v') w1 := by
  subst hn hcs
  have hs := owns_slice ho
  obtain ⟨p', c', rfl⟩ := hs
  refine ⟨p', c', rfl, by unfold RoomE; rw [hk]; exact ho, Kept.ofGrown hg (fun k e => ?_), fun a e => ?_⟩
  · cases p with
    | none => simp [Value.ownBlock] at e
    | some a => exact ⟨a, rfl, by simp [Value.ownBlock] at e; exact e.symm⟩
  · subst e
    rcases hw a.block (by simp [Value.ownBlock]) with h | h
    · cases p with
      | none => simp [Value.ownBlock] at h
      | some b => exact Or.inr ⟨b, rfl, by simp [Value.ownBlock] at h; exact h.symm⟩
    · exact Or.inl h
set_option maxHeartbeats 4000000 in
set_option maxRecDepth 100000 in
theorem insert_end {α : Type} (L : Lay α) (hk : L.k = 6) (xs : List α) (x : α) (p : Option Addr) (c V : Nat) (w : World) (hl : xs.length ≤ 100000) (hR : RoomE L w p c xs) (hV : w.heap[V]? = some (.cells (L.enc x).toArray 36 (0, 0))) :
    Calls Try.prog 28 #[.slice p xs.length c, .int .i64 xs.length, .slice (some ⟨V, 0, none⟩) 1 1] w (Inserted L p (xs ++ [x]) w) := by
  obtain ⟨i0, hi, hz0, hz1, hz2⟩ := info_parts infoEnv
  have HR : Hid (w.ownsRow 0 36 6 (.slice p xs.length c) xs.length (L.flat xs)) := by
    have := hR
    unfold RoomE at this
    rw [hk] at this
    exact this
  have HC : Hid (∀ j u, (L.enc x)[j]? = some u → w.cell? ((⟨V, 0, none⟩ : Addr).add j) = some u) := fun j u hj => by
    rw [Addr.add_lit, Nat.zero_add, cell_of_block hV]; simpa using hj
  have HL : Hid ((L.enc x).length = 6) := by
    have := L.len x
    rw [hk] at this
    exact this
  have hbl := hR.block
  clear hR hV
  rcases hbl with ⟨rfl, rfl, rfl⟩ | ⟨B, rest, rfl, -, -, hnc, hcm⟩
  · go_enter Try.func28, Try.ntmps28
    go_wp2_with (first
      | (at_builtin; refine wpList_append_where _ rfl (.tmp 23) (.tmp 24) 22 rfl 0 36 i0 (.agg #[.slice none 0 0, .int .u16 0, .int .u32 0, .int .u64 0, .int .i64 0, .slice none 0 0]) 6 72 Try.underlying22 hi hz0 hz1 hz2 rfl (by decide) _ _ _ rfl HR.out ⟨V, 0, none⟩ 1 1 (L.enc x) rfl HL.out HC.out (L.one x) (by unfold maxLen; simp) (by simp) (Nat.zero_le _) (by decide) ?_))
    intro v' w1 hown hgrow hwh
    have HI : Hid (Inserted L none ([] ++ [x]) w (.returned v') w1) := inserted_own hk hown (by simp) (by simp [Lay.flat]) hgrow hwh
    clear hown hgrow hwh
    go_wp2
    go_ret
    exact HI.out
  · have hxc : (xs.length : Int) ≤ (c : Int) := by omega
    have hc63 : c ≤ 9223372036854775807 := by unfold maxLen at hcm; omega
    by_cases hce : c = xs.length
    all_goals
      go_enter Try.func28, Try.ntmps28
      go_wp2_with (first
        | (at_builtin; refine wpList_append_where _ rfl (.tmp 23) (.tmp 24) 22 rfl 0 36 i0 (.agg #[.slice none 0 0, .int .u16 0, .int .u32 0, .int .u64 0, .int .i64 0, .slice none 0 0]) 6 72 Try.underlying22 hi hz0 hz1 hz2 rfl (by decide) _ _ _ rfl HR.out ⟨V, 0, none⟩ 1 1 (L.enc x) rfl HL.out HC.out (L.one x) (by unfold maxLen; omega) (by omega) (Nat.zero_le _) (by decide) ?_))
      intro v' w1 hown hgrow hwh
      have HI : Hid (Inserted L (some ⟨B, 0, none⟩) (xs ++ [x]) w (.returned v') w1) := inserted_own hk hown (by simp) (by rw [L.flat_append, L.flat_one]) hgrow hwh
      clear hown hgrow hwh
      go_wp2
      go_ret
      exact HI.out
theorem drop_past (X rest : List Value) {k : Nat} (h : k ≤ X.length) : (X.drop k ++ rest).drop X.length = rest.drop k := by
  have : (X.drop k).drop X.length = [] := List.drop_eq_nil_of_le (by rw [List.length_drop]; omega)
  rw [List.drop_append, List.length_drop, this, List.nil_append]
  congr 1
  omega
theorem flat_split {α : Type} (L : Lay α) (xs : List α) (i : Nat) : L.flat xs = L.flat (xs.take i) ++ L.flat (xs.drop i) := by rw [← L.flat_append, List.take_append_drop]
set_option maxHeartbeats 4000000 in
set_option maxRecDepth 100000 in
theorem insert_shift {α : Type} (L : Lay α) (hk : L.k = 6) (xs : List α) (x : α) (i B c V : Nat) (w : World) (hl : xs.length ≤ 100000) (hi : i < xs.length) (hc : xs.length + 1 ≤ c) (hR : RoomE L w (some ⟨B, 0, none⟩) c xs) (hV : w.heap[V]? = some (.cells (L.enc x).toArray 36 (0, 0))) (hne : V ≠ B) :
    Calls Try.prog 28 #[.slice (some ⟨B, 0, none⟩) xs.length c, .int .i64 i, .slice (some ⟨V, 0, none⟩) 1 1] w (Inserted L (some ⟨B, 0, none⟩) (xs.take i ++ [x] ++ xs.drop i) w) := by
  obtain ⟨rest, hB, hrl, hm⟩ : ∃ rest, w.heap[B]? = some (.cells (L.flat xs ++ rest).toArray 36 (0, 0)) ∧ xs.length * 6 + rest.length = c * 6 ∧ c ≤ maxLen := by
    rcases hR.block with ⟨h, -⟩ | ⟨B', rest, e, hB, h1, -, h2⟩
    · cases h
    · cases e
      rw [hk] at h1
      exact ⟨rest, hB, h1, h2⟩
  have hc63 : c ≤ 9223372036854775807 := by unfold maxLen at hm; omega
  have hel : (L.enc x).length = 6 := by have := L.len x; rw [hk] at this; exact this
  have hfl : (L.flat xs).length = xs.length * 6 := by have := L.flat_length xs; rw [hk] at this; exact this
  have hdl : (L.flat (xs.drop i)).length = (xs.length - i) * 6 := by have := L.flat_length (xs.drop i); rw [hk, List.length_drop] at this; exact this
  have htl : (L.flat (xs.take i)).length = i * 6 := by have := L.flat_length (xs.take i); rw [hk, List.length_take, Nat.min_eq_left (by omega)] at this; exact this
  have hcl : (L.flat xs ++ rest).toArray.size = c * 6 := by rw [List.size_toArray, List.length_append, hfl]; exact hrl
  have hsz : (Try.prog.info? 36).map (·.size) = some 6 := by kernel_rfl
  have hz1 : ¬ ((i : Int) = (xs.length : Int)) := by omega
  have hov : ∀ lb cb, (callFunc 45 #[.slice (some ⟨V, 0, none⟩) 1 1, .slice (some ⟨B, (i + 1) * 6, none⟩) lb cb]).run Try.prog w = .ok (.value (.bool false)) w := fun lb cb => by
    rw [run_callFunc_extern Try.func45 (by kernel_rfl) (by kernel_rfl) (by kernel_rfl) (e := Extern.SlicesOverlaps.overlaps #[22, 22] #[4]) (by kernel_rfl),
      Lib.run_overlaps_apart w 22 4 36 Try.underlying22 6 Try.sizeOf36 ⟨V, 0, none⟩ ⟨B, (i + 1) * 6, none⟩ 1 1 lb cb hne 36 36 6 (c * 6) (by show w.shape? V = _; unfold World.shape?; rw [hV]; simp [hel]) (by show w.shape? B = _; unfold World.shape?; rw [hB]; simp only [hcl]) (by omega) (frozen_of_block hV) (frozen_of_block hV)]
    rfl
  have hcp1 : ∀ ty dc sc, (Builtin.copy_ #[22, 22] ty #[.slice (some ⟨B, (i + 1) * 6, none⟩) (xs.length - i) dc, .slice (some ⟨B, i * 6, none⟩) (xs.length + 1 - i) sc]).run Try.prog w.drew = .ok (goInt (Nat.min (xs.length + 1 - i) (xs.length - i))) (w.drew.setCells B ((i + 1) * 6) (L.flat (xs.drop i))) := fun ty dc sc =>
    run_copy_size w.drew _ _ ty 36 6 B ((i + 1) * 6) _ dc ⟨B, i * 6, none⟩ _ sc (L.flat (xs.drop i)) Try.underlying22 hsz (by rw [hdl]; congr 1; simp only [Nat.min_def]; split <;> omega)
      (fun j v hj => by
        have hjl := (List.getElem?_eq_some_iff.1 hj).1
        rw [Addr.add_lit]
        show w.cell? _ = _
        rw [cell_of_block hB]
        rw [flat_split L xs i]
        simp only [List.getElem?_toArray]
        rw [List.append_assoc, List.getElem?_append_right (by omega), htl, Nat.add_sub_cancel_left, List.getElem?_append_left hjl]
        exact hj)
      (fun j hj => isSome_block (w := w.drew) hB (by omega)) (fun j hj => frozen_of_block (w := w.drew) hB) (L.flat_one' _)
  have mixed : Try.prog.follows Departure.mixedOrders = true := by kernel_rfl
  have hw1 : IntKind.i64.wrap ((i : Int) + 1) = (i : Int) + 1 := by rw [IntKind.wrap_i64]; omega
  have hb1 : (0 : Int) ≤ (i : Int) + 1 := by omega
  have htn : ((i : Int) + 1).toNat = i + 1 := by omega
  have hb2 : ¬ (c = i + 1) := by omega
  have hb3 : (i : Int) + 1 ≤ (xs.length : Int) + 1 := by omega
  have hb4 : ¬ (c = i) := by omega
  have hb5 : (i : Int) ≤ (xs.length : Int) + 1 := by omega
  obtain ⟨W1, hW1⟩ : ∃ W1, W1 = w.drew.setCells B ((i + 1) * 6) (L.flat (xs.drop i)) := ⟨_, rfl⟩
  rw [← hW1] at hcp1
  have HW1 := Lib.hid hW1
  clear hW1
  go_enter Try.func28, Try.ntmps28
  go_wp2_with (simp only [hov])
  go_region_law_o (refine step_copy_runE rfl _ _ 22 22 rfl _ _ (by simp [Act.eval, Act.put]) (by simp [Act.eval, Act.put]) (hcp1 _ _ _) ?_)
  have hB1 : W1.heap[B]? = some (.cells (L.flat (xs.take i) ++ (L.flat (xs.drop i)).take 6 ++ L.flat (xs.drop i) ++ rest.drop 6).toArray 36 (0, 0)) := by
    rw [HW1.out]
    have h1 : w.drew.heap[B]? = some (.cells ((L.flat (xs.take i) ++ (L.flat (xs.drop i)).take 6) ++ ((L.flat (xs.drop i)).drop 6 ++ rest)).toArray 36 (0, 0)) := by
      show w.heap[B]? = _
      rw [hB, flat_split L xs i]
      simp only [List.append_assoc, ← List.append_assoc (List.take 6 _), List.take_append_drop]
    have h2 := setCells_at (L.flat (xs.drop i)) _ _ w.drew ((i + 1) * 6) h1 (by rw [List.length_append, List.length_drop, hdl]; omega) (by rw [List.length_append, List.length_take, htl, hdl]; omega)
    rw [h2, drop_past _ rest (by rw [hdl]; omega)]
  have hK1 : Kept (fun k => ∃ a, some (⟨B, 0, none⟩ : Addr) = some a ∧ k = a.block) w W1 := by
    rw [HW1.out]; exact Kept.cells ⟨_, rfl, rfl⟩ _ _ _ _ (Kept.refl _ _).drew
  have hV1 : W1.heap[V]? = some (.cells (L.enc x).toArray 36 (0, 0)) := hK1.stays hV (fun ⟨a, e, h⟩ => by cases e; exact hne h)
  have hl1 : (L.flat (xs.take i) ++ (L.flat (xs.drop i)).take 6 ++ L.flat (xs.drop i) ++ rest.drop 6).toArray.size = c * 6 := by
    rw [List.size_toArray, List.length_append, List.length_append, List.length_append, List.length_take, List.length_drop, htl, hdl]; omega
  have hcp2 : ∀ (W : World), W.heap = W1.heap → ∀ ty dc, (Builtin.copy_ #[22, 22] ty #[.slice (some ⟨B, i * 6, none⟩) (xs.length + 1 - i) dc, .slice (some ⟨V, 0, none⟩) 1 1]).run Try.prog W = .ok (goInt (Nat.min 1 (xs.length + 1 - i))) (W.setCells B (i * 6) (L.enc x)) := fun W hW ty dc =>
    run_copy_size W _ _ ty 36 6 B (i * 6) _ dc ⟨V, 0, none⟩ 1 1 (L.enc x) Try.underlying22 hsz (by rw [hel]; simp only [Nat.min_def]; split <;> omega)
      (fun j v hj => by
        rw [Addr.add_lit, Nat.zero_add, cell_of_block (by rw [hW]; exact hV1)]
        simpa using hj)
      (fun j hj => isSome_block (by rw [hW]; exact hB1) (by omega)) (fun j hj => frozen_of_block (by rw [hW]; exact hB1)) (L.one x)
  have HB1 := Lib.hid hB1
  have HK1 := Lib.hid hK1
  clear hB hV hR hB1 hK1 hV1 HW1 hcp1 hov
  go_wp2_with (at_builtin; refine wpList_copy_runE _ rfl _ _ 22 22 rfl _ _ rfl rfl (hcp2 _ rfl _ _) ?_)
  have HF : Hid (Inserted L (some ⟨B, 0, none⟩) (xs.take i ++ [x] ++ xs.drop i) w (.returned (.slice (some ⟨B, 0, none⟩) (xs.length + 1) c)) (W1.setCells B (i * 6) (L.enc x))) := by
    have hln : (xs.take i ++ [x] ++ xs.drop i).length = xs.length + 1 := by simp; omega
    refine ⟨some ⟨B, 0, none⟩, c, by rw [hln], RoomE.of (rest := rest.drop 6) ?_ (by rw [hln, hk, List.length_drop]; omega) (by rw [hln]; exact hc) hm, Kept.cells ⟨_, rfl, rfl⟩ _ _ _ _ HK1.out, fun a e => Or.inr ⟨a, e, rfl⟩⟩
    have h3 := HB1.out
    rw [List.append_assoc, List.append_assoc] at h3
    have h4 := setCells_at (L.enc x) _ _ W1 (i * 6) h3 (by rw [List.length_append, List.length_append, List.length_take, hel, hdl]; omega) htl.symm
    rw [h4, L.flat_append, L.flat_append, L.flat_one, hel]
    congr 3
    rw [List.append_assoc _ _ (List.drop 6 rest)]
    congr 1
    rw [List.drop_left' (by rw [List.length_take, hdl]; omega)]
  clear HB1 HK1
  go_wp2
  go_ret
  exact HF.out
end Go.Proofs.Ytjkdcpalgfakhaa
