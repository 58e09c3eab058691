/-
  Several texts of one proof, joined: each part says at its head what it proves. No conditions beyond what each theorem states.
-/
import Derived.Lib.Walk
import Derived.Lib.SliceRun
import Derived.Lib.AppendZerosOnto
import Derived.Lib.Overlaps
import Derived.Lib.Hide
import Derived.Laws.Externs
import Derived.Laws.IdiomCopy
import Derived.Deep.RegionLaw
import Derived.Shelf.RegionOpenPlain
import Derived.Test.YtjkdcpalgfakhaaGreatZ15
import Derived.Test.YtjkdcpalgfakhaaGreatZ10
import Derived.Test.YtjkdcpalgfakhaaGreatZ14
import Derived.Test.YtjkdcpalgfakhaaGreatZ03
/-
  Envelopes in a row that come in, and how much they hold. No conditions beyond what each theorem states.
-/
namespace Go.Proofs.YtjkdcpalgfakhaaGreat
open Go.ChangeShapes Go.WideShapes Go.ChangeAt Go.RowKit Go.Lib
set_option linter.unusedVariables false
set_option linter.unusedSimpArgs false
set_option maxRecDepth 100000

/-- What comes in with one envelope of a row. -/
def FitEV (RB : Nat) (W : World) (a : EV) : Prop := InE a.e a.ys a.p a.c a.q a.d W ∧ a.e.deps.length * 8 ≤ RB ∧ a.e.txn.ops.length ≤ 9223372036854775807 ∧ a.e.txn.ops.length * 72 ≤ RB ∧ ∀ y ∈ a.ys, y.1.text.length ≤ 9223372036854775807 ∧ y.1.spans.length ≤ 9223372036854775807 ∧ y.1.spans.length * 16 ≤ RB
theorem bytesEnv : Tryz.prog.bytesOf 38 = 72 := by kernel_rfl
/-- One envelope's cells, read. -/
theorem env_dec_w (RB : Nat) {H : Type} {enc : TypeId × Value → H} {W : World} (n : Nat) (cs' : List Value) (x : DataW H × List MemPlace) (hf : DataW.trod enc Tryz.prog W 0 (fun _ => true) true n 38 cs' = some x) (hl : cs'.length = 6) (hw : ∀ m ∈ x.1.weights Tryz.prog 38, m ≤ RB) :
    ∃ a : EV, cs' = layE.enc a ∧ FitEV RB W a := by
  match cs', hl with
  | [c0, c1, c2, c3, c4, c5], _ =>
    obtain ⟨xs, n, -, hx, -, hlen, hfs⟩ := DataW.trod_struct Tryz.underlying38 hf
    subst hx
    obtain ⟨z0, z1, rfl⟩ := list2 (by simpa using hlen)
    have hw0 : ∀ m ∈ z0.1.weights Tryz.prog 24, m ≤ RB := fun m hm => hw m (by
      simp only [DataW.weights, Tryz.underlying38]
      exact DataW.weights_mem_each (j := 0) rfl rfl m hm)
    have hw1 : ∀ m ∈ z1.1.weights Tryz.prog 36, m ≤ RB := fun m hm => hw m (by
      simp only [DataW.weights, Tryz.underlying38]
      exact DataW.weights_mem_each (j := 1) rfl rfl m hm)
    have h0 := hfs 0 _ rfl
    have h1 := hfs 1 _ rfl
    simp [cellsVe, cells9] at h0 h1
    obtain ⟨l, p, c, e0, hG, hF, hc, hp, hll, hb⟩ := lay_cells_w RB layV FitV layV_pos Tryz.underlying24 cellsEn (fun n cs' x h hl _ => entry_dec n cs' x h hl) h0 hw0
    obtain ⟨t, us, q, k, e1, hI, b1, b2, b3⟩ := txn_dec_w RB _ _ _ h1 rfl hw1
    simp at e0 e1
    obtain ⟨rfl, rfl, rfl, rfl, rfl⟩ := e1
    subst e0
    rw [bytesEn] at hb
    exact ⟨⟨⟨l, t⟩, us, p, c, q, k⟩, rfl, ⟨vrow hG, fun x hx => hF x hx, hc, hp, hI⟩, hb, b1, b2, b3⟩
/-- A row of envelopes that comes in, and how much it holds. -/
theorem envs_sized {H : Type} {enc : TypeId × Value → H} {W : World} {r : Reach} {base : Nat} {v : Value} {d : DataW H} {ps : List MemPlace} (hv : Value.okWide Tryz.prog W r base 27 v) (h : DataW.Trod enc Tryz.prog W 0 (fun _ => true) true 27 v d ps) (RB : Nat) (hw : ∀ m ∈ d.weights Tryz.prog 27, m ≤ RB) :
    ∃ l p c, v = .slice p l.length c ∧ GRow layE W p l ∧ (∀ x ∈ l, FitEV RB W x) ∧ l.length ≤ c ∧ (p = none → c = 0) ∧ l.length * 72 ≤ RB := by
  obtain ⟨a0, len, cap, rfl⟩ := okWide_slice Tryz.underlying27 hv
  obtain ⟨fuel, hf⟩ := h
  obtain ⟨l, p, c, e0, hG, hF, hc, hp, hll, hb⟩ := @lay_cells_w EV ⟨x0E⟩ RB layE (FitEV RB W) layE_pos H enc W _ _ _ _ _ Tryz.underlying27 cellsW (fun n cs' x h hl hw => env_dec_w RB n cs' x h hl hw) hf hw
  simp [Value.cells] at e0
  obtain ⟨rfl, rfl, rfl⟩ := e0
  rw [bytesEnv] at hb
  exact ⟨l, _, _, rfl, hG, hF, hc, hp, hb⟩
theorem envs_again {H : Type} {enc : TypeId × Value → H} {W W' : World} {v : Value} {d : DataW H} {ps : List MemPlace} (h : DataW.Trod enc Tryz.prog W 0 (fun _ => true) true 27 v d ps) (hb : Below W.heap.size W W') (hlt : ∀ x ∈ ps, x.block < W.heap.size) :
    DataW.Trod enc Tryz.prog W' 0 (fun b => decide (b < W.heap.size)) true 27 v d ps :=
  Below.trod laidOut (by kernel_rfl) (of_decide_eq_true (by kernel_rfl)) h hb hlt
end Go.Proofs.YtjkdcpalgfakhaaGreat
/-
  Calls of a buffer, in a row, that come in, and how much they hold. No conditions beyond what each theorem states.
-/
namespace Go.Proofs.YtjkdcpalgfakhaaGreat
open Go.ChangeShapes Go.WideShapes Go.ChangeAt Go.RowKit Go.Lib
set_option linter.unusedVariables false
set_option linter.unusedSimpArgs false
set_option maxRecDepth 100000

theorem cellsOpP : Tryz.prog.cellsOf 40 = 8 := by kernel_rfl
theorem bytesOpP : Tryz.prog.bytesOf 40 = 104 := by kernel_rfl
theorem cellsIntP : Tryz.prog.cellsOf 3 = 1 := by kernel_rfl
theorem list3P {α : Type} {l : List α} (h : l.length = 3) : ∃ a b c, l = [a, b, c] := by
  match l, h with
  | [a, b, c], _ => exact ⟨a, b, c, rfl⟩
/-- One call's cells, read. -/
theorem call_dec_w {H : Type} {enc : TypeId × Value → H} {W : World} (n : Nat) (cs' : List Value) (x : DataW H × List MemPlace) (hf : DataW.trod enc Tryz.prog W 0 (fun _ => true) true n 40 cs' = some x) (hl : cs'.length = 8) (hw : ∀ m ∈ x.1.weights Tryz.prog 40, m ≤ reachBytes) :
    ∃ a : OpV, cs' = layP.enc a ∧ InP W a := by
  match cs', hl with
  | [c0, c1, c2, c3, c4, c5, c6, c7], _ =>
    obtain ⟨xs, n, -, hx, -, hlen, hfs⟩ := DataW.trod_struct Tryz.underlying40 hf
    subst hx
    obtain ⟨z0, z1, z2, rfl⟩ := list3P (by simpa using hlen)
    have hw1 : ∀ m ∈ z1.1.weights Tryz.prog 38, m ≤ reachBytes := fun m hm => hw m (by
      simp only [DataW.weights, Tryz.underlying40]
      exact DataW.weights_mem_each (j := 1) rfl rfl m hm)
    have hw2 : ∀ m ∈ z2.1.weights Tryz.prog 24, m ≤ reachBytes := fun m hm => hw m (by
      simp only [DataW.weights, Tryz.underlying40]
      exact DataW.weights_mem_each (j := 2) rfl rfl m hm)
    have h0 := hfs 0 _ rfl
    have h1 := hfs 1 _ rfl
    have h2 := hfs 2 _ rfl
    simp [cellsIntP, cellsW, cellsVe] at h0 h1 h2
    obtain ⟨kd, e0, -, w0⟩ := DataW.trod_int Tryz.underlying3 h0
    obtain ⟨a, e1, hE⟩ := env_dec_w reachBytes _ _ _ h1 rfl hw1
    obtain ⟨l, p, c, e2, hG, hF, hc, hp, hll, hb⟩ := lay_cells_w reachBytes layV FitV layV_pos Tryz.underlying24 cellsEn (fun n cs' x h hl _ => entry_dec n cs' x h hl) h2 hw2
    simp at e0 e2
    unfold layE at e1
    simp only [List.cons.injEq, and_true] at e1
    obtain ⟨rfl, rfl, rfl, rfl, rfl, rfl⟩ := e1
    subst e0 e2
    rw [bytesEn] at hb
    obtain ⟨g1, g2, g3, g4, g5⟩ := hE
    exact ⟨⟨kd, a, l, p, c⟩, rfl, ⟨g1, by show a.e.txn.ops.length ≤ 1954687338211; simp only [reachBytes] at g4; omega, fun y hy => ⟨(g5 y hy).1, by have := (g5 y hy).2.2; simp only [reachBytes] at this; omega⟩, vrow hG, fun x hx => hF x hx, hc, hp, by show l.length ≤ 17592186043904; simp only [reachBytes] at hb; omega⟩⟩
/-- A row of calls that comes in. -/
theorem calls_sized {H : Type} {enc : TypeId × Value → H} {W : World} {r : Reach} {base : Nat} {v : Value} {d : DataW H} {ps : List MemPlace} (hv : Value.okWide Tryz.prog W r base 22 v) (h : DataW.Trod enc Tryz.prog W 0 (fun _ => true) true 22 v d ps) (hw : ∀ m ∈ d.weights Tryz.prog 22, m ≤ reachBytes) :
    ∃ l p c, v = .slice p l.length c ∧ ArgP W p l ∧ l.length ≤ 17592186043904 := by
  obtain ⟨a0, len, cap, rfl⟩ := okWide_slice Tryz.underlying22 hv
  obtain ⟨fuel, hf⟩ := h
  obtain ⟨l, p, c, e0, hG, hF, hc, hp, hll, hb⟩ := @lay_cells_w OpV ⟨o0P⟩ reachBytes layP (InP W) layP_pos H enc W _ _ _ _ _ Tryz.underlying22 cellsOpP (fun n cs' x h hl hw => call_dec_w n cs' x h hl hw) hf hw
  simp [Value.cells] at e0
  obtain ⟨rfl, rfl, rfl⟩ := e0
  rw [bytesOpP] at hb
  exact ⟨l, _, _, rfl, ⟨hG, hF⟩, by simp only [reachBytes] at hb; omega⟩
theorem calls_again {H : Type} {enc : TypeId × Value → H} {W W' : World} {v : Value} {d : DataW H} {ps : List MemPlace} (h : DataW.Trod enc Tryz.prog W 0 (fun _ => true) true 22 v d ps) (hb : Below W.heap.size W W') (hlt : ∀ x ∈ ps, x.block < W.heap.size) :
    DataW.Trod enc Tryz.prog W' 0 (fun b => decide (b < W.heap.size)) true 22 v d ps :=
  Below.trod laidOut (by kernel_rfl) (of_decide_eq_true (by kernel_rfl)) h hb hlt
end Go.Proofs.YtjkdcpalgfakhaaGreat
/-
  What slices.Insert comes to at envelopes: whatever lies in the row, one more comes at its place. No conditions beyond what each theorem states.
-/
namespace Go.Proofs.YtjkdcpalgfakhaaGreat
open Go.ChangeShapes Go.WideShapes Go.ChangeAt Go.RowKit Go.Lib
set_option linter.unusedVariables false
set_option linter.unusedSimpArgs false

/-- Cells that are put one behind the other. -/
theorem setCell_block {w : World} {B o : Nat} {cs : List Value} {t : TypeId} {f : Nat × Nat} (h : w.heap[B]? = some (.cells cs.toArray t f)) (u : Value) : (w.setCell ⟨B, o, none⟩ u).heap[B]? = some (.cells (cs.set o u).toArray t f) := by
  simp [World.setCell, Array.getElem?_modify, h]
theorem setCells_at {B : Nat} {t : TypeId} {f : Nat × Nat} : ∀ (N A D : List Value) (w : World) (o : Nat), w.heap[B]? = some (.cells (A ++ D).toArray t f) → N.length ≤ D.length → o = A.length → (w.setCells B o N).heap[B]? = some (.cells (A ++ N ++ D.drop N.length).toArray t f)
  | [], A, D, w, o, h, _, _ => by simpa [World.setCells] using h
  | v :: N, A, [], w, o, h, hl, _ => by simp at hl
  | v :: N, A, d :: D, w, o, h, hl, ho => by
    have h1 := setCell_block (o := o) h v
    have e : (A ++ d :: D).set o v = (A ++ [v]) ++ D := by subst ho; simp
    rw [e] at h1
    have := setCells_at N (A ++ [v]) D (w.setCell ⟨B, o, none⟩ v) (o + 1) h1 (by simpa using hl) (by rw [ho]; simp)
    simpa [World.setCells] using this
theorem Kept.cells {S : Nat → Prop} {B : Nat} (hB : S B) : ∀ (N : List Value) (o : Nat) (a b : World), Kept S a b → Kept S a (b.setCells B o N)
  | [], _, _, _, h => h
  | v :: N, o, a, b, h => Kept.cells hB N (o + 1) a _ (h.set hB v)
theorem Kept.drew {S : Nat → Prop} {a b : World} (h : Kept S a b) : Kept S a b.drew := ⟨h.os, h.tape, h.output, h.size, h.block⟩
theorem isSome_block {w : World} {B j : Nat} {cs : Array Value} {t : TypeId} {f : Nat × Nat} (h : w.heap[B]? = some (.cells cs t f)) (hj : j < cs.size) : (w.cell? ⟨B, j, none⟩).isSome = true := by
  rw [cell_of_block h, Array.getElem?_eq_getElem hj]; rfl

/-- copy, of things of any number of cells. -/
theorem run_copy_size {P : Program} (w : World) (dT sT ty elem : TypeId) (k b o dLen dCap : Nat) (a : Addr) (sLen sCap : Nat) (cs : List Value)
    (hu : P.underlying dT = some (.slice elem)) (hs : (P.info? elem).map (·.size) = some k) (hn : cs.length = Nat.min sLen dLen * k)
    (hsrc : ∀ j v, cs[j]? = some v → w.cell? (a.add j) = some v) (hc : ∀ j, j < cs.length → (w.cell? ⟨b, o + j, none⟩).isSome = true) (hf : ∀ j, j < cs.length → w.frozen? ⟨b, o + j, none⟩ = false) (h1 : ∀ v ∈ cs, v.oneCell' = true) :
    (Builtin.copy_ #[dT, sT] ty #[.slice (some ⟨b, o, none⟩) dLen dCap, .slice (some a) sLen sCap]).run P w = .ok (goInt (Nat.min sLen dLen)) (w.setCells b o cs) := by
  have hl := run_loadCells_list (P := P) w a cs hsrc
  have hst := run_storeCells_cells (P := P) b o cs 0 w (by simpa using hc) (by simpa using hf) h1
  cases hq : P.info? elem with
  | none => simp [hq] at hs
  | some i =>
    have hi : i.size = k := by simpa [hq] using hs
    simp only [Nat.add_zero] at hst
    simp [Builtin.copy_, run_underlying hu, Builtin.lenOf, Builtin.firstCells, sizeOf, typeInfo, hq, hi, ← hn, hl, hst]
theorem step_copy_runE {P : Program} {ops : Array Oper} {o : Oper} {a : Act} {w : World} {K : Act → World → Prop} {Q : Exit → Act → World → Prop} {E : Prop}
    (hg : o.guard = none) (d x : Operand) (dT sT : TypeId) (hop : o.op = Op.call { callee := Callee.builtin Builtin.copy, args := #[d, x], argTypes := #[dT, sT] })
    (v u : Value) (hd : a.eval d = v) (hx : a.eval x = u) {v' : Value} {w' : World} (hr : (Builtin.copy_ #[dT, sT] o.type #[v, u]).run P w = .ok v' w') (hK : K (a.put o.dst v') w') :
    if Region.wanted o (yielded ops a.tmps) = true then Oper.wp P o a w K Q else E := by
  have hw : Region.wanted o (yielded ops a.tmps) = true := by simp [Region.wanted, hg]
  rw [if_pos hw]
  unfold Oper.wp
  simp [execOp, hop, resolve, invoke, builtin, hd, hx, hr, Result.andThen]
  exact hK
theorem wpList_copy_runE {P : Program} (w : World) {ops : Array Oper} {rest : List Oper} {o : Oper} {a : Act} {Q : Exit → Act → World → Prop} (hgd : o.guard = none) (d s : Operand) (t t' : TypeId)
    (ho : o.op = .call { callee := .builtin .copy, args := #[d, s], argTypes := #[t, t'] }) (v u : Value) (hd : a.eval d = v) (hs : a.eval s = u) {v' : Value} {w' : World}
    (hr : (Builtin.copy_ #[t, t'] o.type #[v, u]).run P w = .ok v' w') (h : wpList P ops Q rest (a.put o.dst v') w') : wpList P ops Q (o :: rest) a w :=
  wpList_plain hgd fun _ hK => by
    unfold Oper.wp execOp
    simp only [ho, resolve, invoke, builtin, Sem.run_bind, Sem.run_pure, Result.andThen_ok, List.map_toArray, List.map_cons, List.map_nil, hd, hs, hr]
    exact hK _ _ h

/-- Room for c things behind p, of which these are the first. -/
def RoomE {α : Type} (L : Lay α) (w : World) (p : Option Addr) (c : Nat) (xs : List α) : Prop := w.ownsRow 0 38 L.k (.slice p xs.length c) xs.length (L.flat xs)
section
variable {α : Type} {L : Lay α} {w w' : World} {p : Option Addr} {c : Nat} {xs : List α}
theorem RoomE.zero (L : Lay α) (w : World) : RoomE L w none 0 [] := World.ownsRow_nil w 0 _ _
theorem RoomE.block (h : RoomE L w p c xs) : (p = none ∧ c = 0 ∧ xs = []) ∨ ∃ B rest, p = some ⟨B, 0, none⟩ ∧ w.heap[B]? = some (.cells (L.flat xs ++ rest).toArray 38 (0, 0)) ∧ (xs.length * L.k + rest.length = c * L.k) ∧ xs.length ≤ c ∧ c ≤ maxLen := by
  rcases h.2 with ⟨hv, h0⟩ | ⟨g, cap, cur, hv, hb, hg, hnc, hcm, hcs, htake⟩
  · simp only [Value.slice.injEq] at hv
    exact Or.inl ⟨hv.1, hv.2.2, List.eq_nil_of_length_eq_zero h0⟩
  · cases hv
    refine Or.inr ⟨g, cur.toList.drop (xs.length * L.k), rfl, ?_, ?_, hnc, hcm⟩
    · rw [hg, ← htake, List.take_append_drop]
    · have := Nat.mul_le_mul_right L.k hnc
      have h2 : cur.toList.length = c * L.k := by rw [Array.length_toList]; exact hcs
      rw [List.length_drop, h2]
      show xs.length * L.k + (c * L.k - xs.length * L.k) = c * L.k
      omega
theorem RoomE.of {B : Nat} {rest : List Value} (h : w.heap[B]? = some (.cells (L.flat xs ++ rest).toArray 38 (0, 0))) (hl : xs.length * L.k + rest.length = c * L.k) (hc : xs.length ≤ c) (hm : c ≤ maxLen) : RoomE L w (some ⟨B, 0, none⟩) c xs :=
  ⟨L.flat_length xs, Or.inr ⟨B, c, _, rfl, Nat.zero_le _, h, hc, hm, by simp [L.flat_length, hl], by simp [← L.flat_length xs]⟩⟩
theorem RoomE.row (h : RoomE L w p c xs) (hk : 0 < L.k) : GRow L w p xs := by
  obtain ⟨p', c', e, -, h1, -, -⟩ := grow_owns hk h
  cases e
  exact h1
theorem RoomE.below (h : RoomE L w p c xs) (hb : Below w.heap.size w w') : RoomE L w' p c xs := by
  rcases h.block with ⟨rfl, rfl, rfl⟩ | ⟨B, rest, rfl, hg, hl, hc, hm⟩
  · exact RoomE.zero L w'
  · exact RoomE.of (by rw [hb.block B (lt_of_block hg)]; exact hg) hl hc hm
end
theorem infoEnv : (Tryz.prog.info? 38).map (fun i => (i.zero, i.size, i.bytes)) = some (some (.agg #[.slice none 0 0, .int .u16 0, .int .u32 0, .int .u64 0, .int .i64 0, .slice none 0 0]), 6, 72) := by kernel_rfl
/-- What Insert hands back: the row, and where it lies. -/
def Inserted {α : Type} (L : Lay α) (p : Option Addr) (xs : List α) (w : World) (e : Ending) (w' : World) : Prop := ∃ p' c', e = .returned (.slice p' xs.length c') ∧ RoomE L w' p' c' xs ∧ Kept (fun k => ∃ a, p = some a ∧ k = a.block) w w' ∧ ∀ a, p' = some a → w.heap.size ≤ a.block ∨ ∃ b, p = some b ∧ a.block = b.block
theorem inserted_own {α : Type} {L : Lay α} (hk : L.k = 6) {p : Option Addr} {n m c : Nat} {xs : List α} {w w1 : World} {v' : Value} {cs : List Value} (ho : w1.ownsRow 0 38 6 v' n cs) (hn : n = xs.length) (hcs : cs = L.flat xs) (hg : w.grownBy w1 (Value.slice p m c).ownBlock) (hw : ∀ j, v'.ownBlock = some j → (Value.slice p m c).ownBlock = some j ∨ w.heap.size ≤ j) : Inserted L p xs w (.returned v') w1 := by
  subst hn hcs
  have hs := owns_slice ho
  obtain ⟨p', c', rfl⟩ := hs
  refine ⟨p', c', rfl, by unfold RoomE; rw [hk]; exact ho, Kept.ofGrown hg (fun k e => ?_), fun a e => ?_⟩
  · cases p with
    | none => simp [Value.ownBlock] at e
    | some a => exact ⟨a, rfl, by simp [Value.ownBlock] at e; exact e.symm⟩
  · subst e
    rcases hw a.block (by simp [Value.ownBlock]) with h | h
    · cases p with
      | none => simp [Value.ownBlock] at h
      | some b => exact Or.inr ⟨b, rfl, by simp [Value.ownBlock] at h; exact h.symm⟩
    · exact Or.inl h
set_option maxHeartbeats 4000000 in
set_option maxRecDepth 100000 in
theorem insert_end {α : Type} (L : Lay α) (hk : L.k = 6) (xs : List α) (x : α) (p : Option Addr) (c V : Nat) (w : World) (hl : xs.length ≤ 100000) (hR : RoomE L w p c xs) (hV : w.heap[V]? = some (.cells (L.enc x).toArray 38 (0, 0))) :
    Calls Tryz.prog 27 #[.slice p xs.length c, .int .i64 xs.length, .slice (some ⟨V, 0, none⟩) 1 1] w (Inserted L p (xs ++ [x]) w) := by
  obtain ⟨i0, hi, hz0, hz1, hz2⟩ := info_parts infoEnv
  have HR : Hid (w.ownsRow 0 38 6 (.slice p xs.length c) xs.length (L.flat xs)) := by
    have := hR
    unfold RoomE at this
    rw [hk] at this
    exact this
  have HC : Hid (∀ j u, (L.enc x)[j]? = some u → w.cell? ((⟨V, 0, none⟩ : Addr).add j) = some u) := fun j u hj => by
    rw [Addr.add_lit, Nat.zero_add, cell_of_block hV]; simpa using hj
  have HL : Hid ((L.enc x).length = 6) := by
    have := L.len x
    rw [hk] at this
    exact this
  have hbl := hR.block
  clear hR hV
  rcases hbl with ⟨rfl, rfl, rfl⟩ | ⟨B, rest, rfl, -, -, hnc, hcm⟩
  · go_enter Tryz.func27, Tryz.ntmps27
    go_wp2_with (first
      | (at_builtin; refine wpList_append_where _ rfl (.tmp 23) (.tmp 24) 27 rfl 0 38 i0 (.agg #[.slice none 0 0, .int .u16 0, .int .u32 0, .int .u64 0, .int .i64 0, .slice none 0 0]) 6 72 Tryz.underlying27 hi hz0 hz1 hz2 rfl (by decide) _ _ _ rfl HR.out ⟨V, 0, none⟩ 1 1 (L.enc x) rfl HL.out HC.out (L.one x) (by unfold maxLen; simp) (by simp) (Nat.zero_le _) (by decide) ?_))
    intro v' w1 hown hgrow hwh
    have HI : Hid (Inserted L none ([] ++ [x]) w (.returned v') w1) := inserted_own hk hown (by simp) (by simp [Lay.flat]) hgrow hwh
    clear hown hgrow hwh
    go_wp2
    go_ret
    exact HI.out
  · have hxc : (xs.length : Int) ≤ (c : Int) := by omega
    have hc63 : c ≤ 9223372036854775807 := by unfold maxLen at hcm; omega
    by_cases hce : c = xs.length
    all_goals
      go_enter Tryz.func27, Tryz.ntmps27
      go_wp2_with (first
        | (at_builtin; refine wpList_append_where _ rfl (.tmp 23) (.tmp 24) 27 rfl 0 38 i0 (.agg #[.slice none 0 0, .int .u16 0, .int .u32 0, .int .u64 0, .int .i64 0, .slice none 0 0]) 6 72 Tryz.underlying27 hi hz0 hz1 hz2 rfl (by decide) _ _ _ rfl HR.out ⟨V, 0, none⟩ 1 1 (L.enc x) rfl HL.out HC.out (L.one x) (by unfold maxLen; omega) (by omega) (Nat.zero_le _) (by decide) ?_))
      intro v' w1 hown hgrow hwh
      have HI : Hid (Inserted L (some ⟨B, 0, none⟩) (xs ++ [x]) w (.returned v') w1) := inserted_own hk hown (by simp) (by rw [L.flat_append, L.flat_one]) hgrow hwh
      clear hown hgrow hwh
      go_wp2
      go_ret
      exact HI.out
theorem drop_past (X rest : List Value) {k : Nat} (h : k ≤ X.length) : (X.drop k ++ rest).drop X.length = rest.drop k := by
  have : (X.drop k).drop X.length = [] := List.drop_eq_nil_of_le (by rw [List.length_drop]; omega)
  rw [List.drop_append, List.length_drop, this, List.nil_append]
  congr 1
  omega
theorem flat_split {α : Type} (L : Lay α) (xs : List α) (i : Nat) : L.flat xs = L.flat (xs.take i) ++ L.flat (xs.drop i) := by rw [← L.flat_append, List.take_append_drop]
set_option maxHeartbeats 4000000 in
set_option maxRecDepth 100000 in
theorem insert_shift {α : Type} (L : Lay α) (hk : L.k = 6) (xs : List α) (x : α) (i B c V : Nat) (w : World) (hl : xs.length ≤ 100000) (hi : i < xs.length) (hc : xs.length + 1 ≤ c) (hR : RoomE L w (some ⟨B, 0, none⟩) c xs) (hV : w.heap[V]? = some (.cells (L.enc x).toArray 38 (0, 0))) (hne : V ≠ B) :
    Calls Tryz.prog 27 #[.slice (some ⟨B, 0, none⟩) xs.length c, .int .i64 i, .slice (some ⟨V, 0, none⟩) 1 1] w (Inserted L (some ⟨B, 0, none⟩) (xs.take i ++ [x] ++ xs.drop i) w) := by
  obtain ⟨rest, hB, hrl, hm⟩ : ∃ rest, w.heap[B]? = some (.cells (L.flat xs ++ rest).toArray 38 (0, 0)) ∧ xs.length * 6 + rest.length = c * 6 ∧ c ≤ maxLen := by
    rcases hR.block with ⟨h, -⟩ | ⟨B', rest, e, hB, h1, -, h2⟩
    · cases h
    · cases e
      rw [hk] at h1
      exact ⟨rest, hB, h1, h2⟩
  have hc63 : c ≤ 9223372036854775807 := by unfold maxLen at hm; omega
  have hel : (L.enc x).length = 6 := by have := L.len x; rw [hk] at this; exact this
  have hfl : (L.flat xs).length = xs.length * 6 := by have := L.flat_length xs; rw [hk] at this; exact this
  have hdl : (L.flat (xs.drop i)).length = (xs.length - i) * 6 := by have := L.flat_length (xs.drop i); rw [hk, List.length_drop] at this; exact this
  have htl : (L.flat (xs.take i)).length = i * 6 := by have := L.flat_length (xs.take i); rw [hk, List.length_take, Nat.min_eq_left (by omega)] at this; exact this
  have hcl : (L.flat xs ++ rest).toArray.size = c * 6 := by rw [List.size_toArray, List.length_append, hfl]; exact hrl
  have hsz : (Tryz.prog.info? 38).map (·.size) = some 6 := by kernel_rfl
  have hz1 : ¬ ((i : Int) = (xs.length : Int)) := by omega
  have hov : ∀ lb cb, (callFunc 52 #[.slice (some ⟨V, 0, none⟩) 1 1, .slice (some ⟨B, (i + 1) * 6, none⟩) lb cb]).run Tryz.prog w = .ok (.value (.bool false)) w := fun lb cb => by
    rw [run_callFunc_extern Tryz.func52 (by kernel_rfl) (by kernel_rfl) (by kernel_rfl) (e := Extern.SlicesOverlaps.overlaps #[27, 27] #[4]) (by kernel_rfl),
      Lib.run_overlaps_apart w 27 4 38 Tryz.underlying27 6 Tryz.sizeOf38 ⟨V, 0, none⟩ ⟨B, (i + 1) * 6, none⟩ 1 1 lb cb hne 38 38 6 (c * 6) (by show w.shape? V = _; unfold World.shape?; rw [hV]; simp [hel]) (by show w.shape? B = _; unfold World.shape?; rw [hB]; simp only [hcl]) (by omega) (frozen_of_block hV) (frozen_of_block hV)]
    rfl
  have hcp1 : ∀ ty dc sc, (Builtin.copy_ #[27, 27] ty #[.slice (some ⟨B, (i + 1) * 6, none⟩) (xs.length - i) dc, .slice (some ⟨B, i * 6, none⟩) (xs.length + 1 - i) sc]).run Tryz.prog w.drew = .ok (goInt (Nat.min (xs.length + 1 - i) (xs.length - i))) (w.drew.setCells B ((i + 1) * 6) (L.flat (xs.drop i))) := fun ty dc sc =>
    run_copy_size w.drew _ _ ty 38 6 B ((i + 1) * 6) _ dc ⟨B, i * 6, none⟩ _ sc (L.flat (xs.drop i)) Tryz.underlying27 hsz (by rw [hdl]; congr 1; simp only [Nat.min_def]; split <;> omega)
      (fun j v hj => by
        have hjl := (List.getElem?_eq_some_iff.1 hj).1
        rw [Addr.add_lit]
        show w.cell? _ = _
        rw [cell_of_block hB]
        rw [flat_split L xs i]
        simp only [List.getElem?_toArray]
        rw [List.append_assoc, List.getElem?_append_right (by omega), htl, Nat.add_sub_cancel_left, List.getElem?_append_left hjl]
        exact hj)
      (fun j hj => isSome_block (w := w.drew) hB (by omega)) (fun j hj => frozen_of_block (w := w.drew) hB) (L.flat_one' _)
  have mixed : Tryz.prog.follows Departure.mixedOrders = true := by kernel_rfl
  have hw1 : IntKind.i64.wrap ((i : Int) + 1) = (i : Int) + 1 := by rw [IntKind.wrap_i64]; omega
  have hb1 : (0 : Int) ≤ (i : Int) + 1 := by omega
  have htn : ((i : Int) + 1).toNat = i + 1 := by omega
  have hb2 : ¬ (c = i + 1) := by omega
  have hb3 : (i : Int) + 1 ≤ (xs.length : Int) + 1 := by omega
  have hb4 : ¬ (c = i) := by omega
  have hb5 : (i : Int) ≤ (xs.length : Int) + 1 := by omega
  obtain ⟨W1, hW1⟩ : ∃ W1, W1 = w.drew.setCells B ((i + 1) * 6) (L.flat (xs.drop i)) := ⟨_, rfl⟩
  rw [← hW1] at hcp1
  have HW1 := Lib.hid hW1
  clear hW1
  go_enter Tryz.func27, Tryz.ntmps27
  go_wp2_with (simp only [hov])
  go_region_law_o (refine step_copy_runE rfl _ _ 27 27 rfl _ _ (by simp [Act.eval, Act.put]) (by simp [Act.eval, Act.put]) (hcp1 _ _ _) ?_)
  have hB1 : W1.heap[B]? = some (.cells (L.flat (xs.take i) ++ (L.flat (xs.drop i)).take 6 ++ L.flat (xs.drop i) ++ rest.drop 6).toArray 38 (0, 0)) := by
    rw [HW1.out]
    have h1 : w.drew.heap[B]? = some (.cells ((L.flat (xs.take i) ++ (L.flat (xs.drop i)).take 6) ++ ((L.flat (xs.drop i)).drop 6 ++ rest)).toArray 38 (0, 0)) := by
      show w.heap[B]? = _
      rw [hB, flat_split L xs i]
      simp only [List.append_assoc, ← List.append_assoc (List.take 6 _), List.take_append_drop]
    have h2 := setCells_at (L.flat (xs.drop i)) _ _ w.drew ((i + 1) * 6) h1 (by rw [List.length_append, List.length_drop, hdl]; omega) (by rw [List.length_append, List.length_take, htl, hdl]; omega)
    rw [h2, drop_past _ rest (by rw [hdl]; omega)]
  have hK1 : Kept (fun k => ∃ a, some (⟨B, 0, none⟩ : Addr) = some a ∧ k = a.block) w W1 := by
    rw [HW1.out]; exact Kept.cells ⟨_, rfl, rfl⟩ _ _ _ _ (Kept.refl _ _).drew
  have hV1 : W1.heap[V]? = some (.cells (L.enc x).toArray 38 (0, 0)) := hK1.stays hV (fun ⟨a, e, h⟩ => by cases e; exact hne h)
  have hl1 : (L.flat (xs.take i) ++ (L.flat (xs.drop i)).take 6 ++ L.flat (xs.drop i) ++ rest.drop 6).toArray.size = c * 6 := by
    rw [List.size_toArray, List.length_append, List.length_append, List.length_append, List.length_take, List.length_drop, htl, hdl]; omega
  have hcp2 : ∀ (W : World), W.heap = W1.heap → ∀ ty dc, (Builtin.copy_ #[27, 27] ty #[.slice (some ⟨B, i * 6, none⟩) (xs.length + 1 - i) dc, .slice (some ⟨V, 0, none⟩) 1 1]).run Tryz.prog W = .ok (goInt (Nat.min 1 (xs.length + 1 - i))) (W.setCells B (i * 6) (L.enc x)) := fun W hW ty dc =>
    run_copy_size W _ _ ty 38 6 B (i * 6) _ dc ⟨V, 0, none⟩ 1 1 (L.enc x) Tryz.underlying27 hsz (by rw [hel]; simp only [Nat.min_def]; split <;> omega)
      (fun j v hj => by
        rw [Addr.add_lit, Nat.zero_add, cell_of_block (by rw [hW]; exact hV1)]
        simpa using hj)
      (fun j hj => isSome_block (by rw [hW]; exact hB1) (by omega)) (fun j hj => frozen_of_block (by rw [hW]; exact hB1)) (L.one x)
  have HB1 := Lib.hid hB1
  have HK1 := Lib.hid hK1
  clear hB hV hR hB1 hK1 hV1 HW1 hcp1 hov
  go_wp2_with (at_builtin; refine wpList_copy_runE _ rfl _ _ 27 27 rfl _ _ rfl rfl (hcp2 _ rfl _ _) ?_)
  have HF : Hid (Inserted L (some ⟨B, 0, none⟩) (xs.take i ++ [x] ++ xs.drop i) w (.returned (.slice (some ⟨B, 0, none⟩) (xs.length + 1) c)) (W1.setCells B (i * 6) (L.enc x))) := by
    have hln : (xs.take i ++ [x] ++ xs.drop i).length = xs.length + 1 := by simp; omega
    refine ⟨some ⟨B, 0, none⟩, c, by rw [hln], RoomE.of (rest := rest.drop 6) ?_ (by rw [hln, hk, List.length_drop]; omega) (by rw [hln]; exact hc) hm, Kept.cells ⟨_, rfl, rfl⟩ _ _ _ _ HK1.out, fun a e => Or.inr ⟨a, e, rfl⟩⟩
    have h3 := HB1.out
    rw [List.append_assoc, List.append_assoc] at h3
    have h4 := setCells_at (L.enc x) _ _ W1 (i * 6) h3 (by rw [List.length_append, List.length_append, List.length_take, hel, hdl]; omega) htl.symm
    rw [h4, L.flat_append, L.flat_append, L.flat_one, hel]
    congr 3
    rw [List.append_assoc _ _ (List.drop 6 rest)]
    congr 1
    rw [List.drop_left' (by rw [List.length_take, hdl]; omega)]
  clear HB1 HK1
  go_wp2
  go_ret
  exact HF.out
end Go.Proofs.YtjkdcpalgfakhaaGreat
/-
  What slices.Insert comes to at envelopes where a new row is made, and in all. No conditions beyond what each theorem states.
-/
namespace Go.Proofs.YtjkdcpalgfakhaaGreat
open Go.ChangeShapes Go.WideShapes Go.ChangeAt Go.RowKit Go.Lib
set_option linter.unusedVariables false
set_option linter.unusedSimpArgs false

def zE : Array Value := (Value.agg #[.slice none 0 0, .int .u16 0, .int .u32 0, .int .u64 0, .int .i64 0, .slice none 0 0]).cells
theorem zE_len (n : Nat) : (Builtin.zeroCells zE n).toList.length = n * 6 := by
  rw [Array.length_toList, size_zeroCells]; rfl
set_option maxHeartbeats 4000000 in
set_option maxRecDepth 100000 in
theorem insert_grow {α : Type} (L : Lay α) (hk : L.k = 6) (xs : List α) (x : α) (i B c V : Nat) (w : World) (hl : xs.length ≤ 100000) (hi : i < xs.length) (hc : c < xs.length + 1) (hR : RoomE L w (some ⟨B, 0, none⟩) c xs) (hV : w.heap[V]? = some (.cells (L.enc x).toArray 38 (0, 0))) :
    Calls Tryz.prog 27 #[.slice (some ⟨B, 0, none⟩) xs.length c, .int .i64 i, .slice (some ⟨V, 0, none⟩) 1 1] w (Inserted L (some ⟨B, 0, none⟩) (xs.take i ++ [x] ++ xs.drop i) w) := by
  obtain ⟨i0, hi0, hz0, hzs, hzb⟩ := info_parts infoEnv
  obtain ⟨rest, hB, hrl, hnc, hm⟩ : ∃ rest, w.heap[B]? = some (.cells (L.flat xs ++ rest).toArray 38 (0, 0)) ∧ xs.length * 6 + rest.length = c * 6 ∧ xs.length ≤ c ∧ c ≤ maxLen := by
    rcases hR.block with ⟨h, -⟩ | ⟨B', rest, e, hB, h1, h2, h3⟩
    · cases h
    · cases e
      rw [hk] at h1
      exact ⟨rest, hB, h1, h2, h3⟩
  have hbw : B < w.heap.size := lt_of_block hB
  have hvw : V < w.heap.size := lt_of_block hV
  have hel : (L.enc x).length = 6 := by have := L.len x; rw [hk] at this; exact this
  have hfl : (L.flat xs).length = xs.length * 6 := by have := L.flat_length xs; rw [hk] at this; exact this
  have hdl : (L.flat (xs.drop i)).length = (xs.length - i) * 6 := by have := L.flat_length (xs.drop i); rw [hk, List.length_drop] at this; exact this
  have htl : (L.flat (xs.take i)).length = i * 6 := by have := L.flat_length (xs.take i); rw [hk, List.length_take, Nat.min_eq_left (by omega)] at this; exact this
  have hsz : (Tryz.prog.info? 38).map (·.size) = some 6 := by kernel_rfl
  have hz1 : ¬ ((i : Int) = (xs.length : Int)) := by omega
  have hz3 : (c : Int) < (xs.length : Int) + 1 := by omega
  have hkk : (xs.length : Int) + 1 - (i : Int) = ((xs.length + 1 - i : Nat) : Int) := by omega
  have hik : i + (xs.length + 1 - i) = xs.length + 1 := by omega
  have hcell : ∀ j, j < xs.length * 6 → w.cell? ⟨B, j, none⟩ = (L.flat xs)[j]? := fun j hj => by
    rw [cell_of_block hB]; simp only [List.getElem?_toArray]; rw [List.getElem?_append_left (by omega)]
  have hold : (Builtin.firstCells i0.size i (.slice (some ⟨B, 0, none⟩) i c)).run Tryz.prog w.drew = .ok (L.flat (xs.take i)).toArray w.drew := by
    rw [hzs]
    exact run_firstCells_some w.drew 6 i ⟨B, 0, none⟩ i c (L.flat (xs.take i)) htl (fun j v hj => by
      have hjl := (List.getElem?_eq_some_iff.1 hj).1
      rw [Addr.add_lit, Nat.zero_add]
      show w.cell? _ = _
      rw [hcell j (by omega), flat_split L xs i, List.getElem?_append_left hjl]
      exact hj)
  have hrz : ∀ ty, (Builtin.append_ #[27, 3] ty #[.slice (some ⟨B, 0, none⟩) i c, .int .i64 ((xs.length : Int) + 1 - (i : Int))]).run Tryz.prog w =
      .ok (.slice (some ⟨w.heap.size, 0, none⟩) (xs.length + 1) (grownCap w (xs.length + 1) c 38)) (w.drew.alloc (.cells ((L.flat (xs.take i)).toArray ++ Builtin.zeroCells zE (xs.length + 1 - i) ++ Builtin.zeroCells zE (grownCap w (xs.length + 1) c 38 - (xs.length + 1))) 38)) := fun ty => by
    have h := Lib.run_append_grow_zeros w 27 3 ty 38 i0 _ .i64 .i64 Tryz.underlying27 Tryz.underlying3 hi0 hz0 (some ⟨B, 0, none⟩) i c _ hold (xs.length + 1 - i) (by omega) (by omega) (by omega) (by omega) (by rw [hzb]; omega) (by rw [hzb, hik]; exact growslice_fits hc (by omega))
    rw [hik] at h
    rw [hkk]
    exact h
  obtain ⟨G, hG⟩ : ∃ G, G = grownCap w (xs.length + 1) c 38 := ⟨_, rfl⟩
  have hGn : xs.length + 1 ≤ G := by rw [hG]; exact grownCap_ge w _ _ _
  have hGm : G ≤ maxLen := by rw [hG]; exact grownCap_le_maxLen w _ _ _ (by unfold maxLen; omega)
  rw [← hG] at hrz
  obtain ⟨Z, hZ⟩ : ∃ Z, Z = (Builtin.zeroCells zE (xs.length + 1 - i)).toList ++ (Builtin.zeroCells zE (G - (xs.length + 1))).toList := ⟨_, rfl⟩
  have hZl : Z.length = (xs.length + 1 - i) * 6 + (G - (xs.length + 1)) * 6 := by rw [hZ, List.length_append, zE_len, zE_len]
  obtain ⟨W1, hW1⟩ : ∃ W1, W1 = w.drew.alloc (.cells (L.flat (xs.take i) ++ Z).toArray 38) := ⟨_, rfl⟩
  have hrow : (L.flat (xs.take i)).toArray ++ Builtin.zeroCells zE (xs.length + 1 - i) ++ Builtin.zeroCells zE (G - (xs.length + 1)) = (L.flat (xs.take i) ++ Z).toArray := by
    apply Array.toList_inj.1
    rw [hZ]; simp
  rw [hrow, ← hW1] at hrz
  have hK1 : Below w.heap.size w W1 := by
    rw [hW1]
    exact below_alloc (Below.refl _ _).drew _
  have hN1 : W1.heap[w.heap.size]? = some (.cells (L.flat (xs.take i) ++ Z).toArray 38 (0, 0)) := by
    rw [hW1]; exact heap_alloc_new w.drew _
  have hV1 : W1.heap[V]? = some (.cells (L.enc x).toArray 38 (0, 0)) := by rw [hK1.block V hvw]; exact hV
  have hB1 : W1.heap[B]? = some (.cells (L.flat xs ++ rest).toArray 38 (0, 0)) := by rw [hK1.block B hbw]; exact hB
  have hcpA : ∀ (W : World), W.heap = W1.heap → ∀ ty dc, (Builtin.copy_ #[27, 27] ty #[.slice (some ⟨w.heap.size, i * 6, none⟩) (xs.length + 1 - i) dc, .slice (some ⟨V, 0, none⟩) 1 1]).run Tryz.prog W = .ok (goInt (Nat.min 1 (xs.length + 1 - i))) (W.setCells w.heap.size (i * 6) (L.enc x)) := fun W hW ty dc =>
    run_copy_size W _ _ ty 38 6 w.heap.size (i * 6) _ dc ⟨V, 0, none⟩ 1 1 (L.enc x) Tryz.underlying27 hsz (by rw [hel]; simp only [Nat.min_def]; split <;> omega)
      (fun j v hj => by
        rw [Addr.add_lit, Nat.zero_add, cell_of_block (by rw [hW]; exact hV1)]
        simpa using hj)
      (fun j hj => isSome_block (by rw [hW]; exact hN1) (by rw [List.size_toArray, List.length_append, htl, hZl]; omega)) (fun j hj => frozen_of_block (by rw [hW]; exact hN1)) (L.one x)
  obtain ⟨W2, hW2⟩ : ∃ W2, W2 = W1.setCells w.heap.size (i * 6) (L.enc x) := ⟨_, rfl⟩
  have hN2 : W2.heap[w.heap.size]? = some (.cells (L.flat (xs.take i) ++ L.enc x ++ Z.drop 6).toArray 38 (0, 0)) := by
    rw [hW2, setCells_at (L.enc x) _ _ W1 (i * 6) hN1 (by rw [hel, hZl]; omega) htl.symm, hel]
  have hK2 : Kept (fun k => k = w.heap.size) W1 W2 := by rw [hW2]; exact Kept.cells (S := fun k => k = w.heap.size) rfl _ _ _ _ (Kept.refl _ _)
  have hB2 : W2.heap[B]? = some (.cells (L.flat xs ++ rest).toArray 38 (0, 0)) := hK2.stays hB1 (by omega)
  have hcpB : ∀ (W : World), W.heap = W2.heap → ∀ ty dc sc, (Builtin.copy_ #[27, 27] ty #[.slice (some ⟨w.heap.size, (i + 1) * 6, none⟩) (xs.length - i) dc, .slice (some ⟨B, i * 6, none⟩) (xs.length - i) sc]).run Tryz.prog W = .ok (goInt (Nat.min (xs.length - i) (xs.length - i))) (W.setCells w.heap.size ((i + 1) * 6) (L.flat (xs.drop i))) := fun W hW ty dc sc =>
    run_copy_size W _ _ ty 38 6 w.heap.size ((i + 1) * 6) _ dc ⟨B, i * 6, none⟩ _ sc (L.flat (xs.drop i)) Tryz.underlying27 hsz (by rw [hdl, show (xs.length - i).min (xs.length - i) = xs.length - i from Nat.min_self _])
      (fun j v hj => by
        have hjl := (List.getElem?_eq_some_iff.1 hj).1
        rw [Addr.add_lit, cell_of_block (by rw [hW]; exact hB2)]
        rw [flat_split L xs i]
        simp only [List.getElem?_toArray]
        rw [List.append_assoc, List.getElem?_append_right (by omega), htl, Nat.add_sub_cancel_left, List.getElem?_append_left hjl]
        exact hj)
      (fun j hj => isSome_block (by rw [hW]; exact hN2) (by rw [List.size_toArray, List.length_append, List.length_append, List.length_drop, htl, hZl, hel]; omega)) (fun j hj => frozen_of_block (by rw [hW]; exact hN2)) (L.flat_one' _)
  have HF : Hid (∀ W, W.heap = W2.heap → Kept (fun _ => False) W2 W → Inserted L (some ⟨B, 0, none⟩) (xs.take i ++ [x] ++ xs.drop i) w (.returned (.slice (some ⟨w.heap.size, 0, none⟩) (xs.length + 1) G)) (W.setCells w.heap.size ((i + 1) * 6) (L.flat (xs.drop i)))) := fun W hW hWk => by
    have hln : (xs.take i ++ [x] ++ xs.drop i).length = xs.length + 1 := by simp; omega
    refine ⟨some ⟨w.heap.size, 0, none⟩, G, by rw [hln], RoomE.of (rest := (Z.drop 6).drop ((xs.length - i) * 6)) ?_ (by rw [hln, hk, List.length_drop, List.length_drop, hZl]; omega) (by rw [hln]; exact hGn) hGm, ?_, fun a e => Or.inl (by cases e; exact Nat.le_refl _)⟩
    · rw [setCells_at (L.flat (xs.drop i)) _ _ W ((i + 1) * 6) (by rw [hW]; exact hN2) (by rw [hdl, List.length_drop, hZl]; omega) (by rw [List.length_append, htl, hel]; omega), L.flat_append, L.flat_append, L.flat_one, hdl]
    · refine Kept.mono (S := fun k => k = w.heap.size) ?_ (fun k hk e => absurd e (by omega))
      exact Kept.cells (S := fun k => k = w.heap.size) rfl _ _ _ _ (((Kept.ofBelow hK1).trans hK2 (fun _ _ h => h)).trans hWk (fun _ _ h => h.elim))
  have hc63 : c ≤ 9223372036854775807 := by unfold maxLen at hm; omega
  have hG63 : G ≤ 9223372036854775807 := by unfold maxLen at hGm; omega
  have hGi : ¬ (G = i) := by omega
  have hGim : ¬ (G = i + 1) := by omega
  have hci : ¬ (c = i) := by omega
  have mixed : Tryz.prog.follows Departure.mixedOrders = true := by kernel_rfl
  have hw1 : IntKind.i64.wrap ((i : Int) + 1) = (i : Int) + 1 := by rw [IntKind.wrap_i64]; omega
  have hb1 : (0 : Int) ≤ (i : Int) + 1 := by omega
  have hin : i ≤ xs.length := by omega
  have htn : ((i : Int) + 1).toNat = i + 1 := by omega
  have hb3 : (i : Int) ≤ (xs.length : Int) := by omega
  have hb5 : (i : Int) ≤ (xs.length : Int) + 1 := by omega
  have hb6 : (i : Int) + 1 ≤ (xs.length : Int) + 1 := by omega
  have HW1 := Lib.hid hW1
  have hcpA1 := fun ty dc => hcpA W1 rfl ty dc
  simp only [← hW2] at hcpA1
  clear hcpA
  clear hW2 hold hrow hZl hZ hG hkk hik hcell hB hV hB1 hV1 hN1 hN2 hB2 hK1 hK2 hR hW1 hrl
  go_enter Tryz.func27, Tryz.ntmps27
  go_wp2_with (first
    | (at_builtin; refine Lib.wpList_append_run _ rfl _ _ _ _ rfl _ _ rfl rfl _ _ (hrz _) ?_)
    | (at_builtin; refine wpList_copy_runE _ rfl _ _ 27 27 rfl _ _ rfl rfl (hcpA1 _ _) ?_))
  go_region_law_o (refine step_copy_runE rfl _ _ 27 27 rfl (.slice (some ⟨w.heap.size, (i + 1) * 6, none⟩) (xs.length - i) (G - (i + 1))) (.slice (some ⟨B, i * 6, none⟩) (xs.length - i) (c - i)) (by simp [Act.eval, Act.put]) (by simp [Act.eval, Act.put]) (hcpB W2.drew rfl 3 (G - (i + 1)) (c - i)) ?_)
  go_wp2
  go_ret
  exact HF.out _ rfl (Kept.refl _ _).drew
theorem insert_any {α : Type} (L : Lay α) (hk : L.k = 6) (xs : List α) (x : α) (i : Nat) (p : Option Addr) (c V : Nat) (w : World) (hl : xs.length ≤ 100000) (hi : i ≤ xs.length) (hR : RoomE L w p c xs) (hV : w.heap[V]? = some (.cells (L.enc x).toArray 38 (0, 0))) (hne : ∀ a, p = some a → V ≠ a.block) :
    Calls Tryz.prog 27 #[.slice p xs.length c, .int .i64 i, .slice (some ⟨V, 0, none⟩) 1 1] w (Inserted L p (xs.take i ++ [x] ++ xs.drop i) w) := by
  by_cases he : i = xs.length
  · subst he
    rw [List.take_length, List.drop_length, List.append_nil]
    exact insert_end L hk xs x p c V w hl hR hV
  · rcases hR.block with ⟨rfl, rfl, rfl⟩ | ⟨B, rest, rfl, -, -, hnc, -⟩
    · simp at hi he; omega
    · by_cases hc : xs.length + 1 ≤ c
      · exact insert_shift L hk xs x i B c V w hl (by omega) hc hR hV (hne _ rfl)
      · exact insert_grow L hk xs x i B c V w hl (by omega) (by omega) hR hV

/-- clear, of things of six cells. -/
theorem run_clear6 {P : Program} (w : World) (t e ty : TypeId) (z : Value) (ht : P.underlying t = some (.slice e)) (hv : ∀ w, (zeroValue e).run P w = .ok z w) (hz : ∀ n, ∀ v ∈ (Builtin.zeroCells z.cells n).toList, v.oneCell' = true) (hzl : z.cells.size = 6) (b o n c : Nat) (hn : 0 < n)
    (hc : ∀ j, j < n * 6 → (w.cell? ⟨b, o + j, none⟩).isSome = true) (hf : ∀ j, j < n * 6 → w.frozen? ⟨b, o + j, none⟩ = false) :
    (Builtin.clear_ #[t] ty #[.slice (some ⟨b, o, none⟩) n c]).run P w = .ok (.tuple #[]) (w.setCells b o (Builtin.zeroCells z.cells n).toList) := by
  have hl : (Builtin.zeroCells z.cells n).toList.length = n * 6 := by simp [Builtin.zeroCells, hzl]
  have hst := run_storeCells_cells (P := P) b o (Builtin.zeroCells z.cells n).toList 0 w (by rw [hl]; simpa using hc) (by rw [hl]; simpa using hf) (hz n)
  simp only [Nat.add_zero] at hst
  obtain ⟨m, rfl⟩ : ∃ m, n = m + 1 := ⟨n - 1, by omega⟩
  simp [Builtin.clear_, run_underlying ht, hv, hst]
theorem zE_one (n : Nat) : ∀ v ∈ (Builtin.zeroCells zE n).toList, v.oneCell' = true := by
  intro v hv
  simp only [Builtin.zeroCells, Array.toList_map, List.mem_map] at hv
  obtain ⟨i, _, rfl⟩ := hv
  have hs : zE.size = 6 := rfl
  rw [hs]
  have : i % 6 < 6 := Nat.mod_lt _ (by decide)
  generalize i % 6 = m at this ⊢
  match m, this with
  | 0, _ => rfl
  | 1, _ => rfl
  | 2, _ => rfl
  | 3, _ => rfl
  | 4, _ => rfl
  | 5, _ => rfl
set_option maxHeartbeats 4000000 in
set_option maxRecDepth 100000 in
theorem delete_any {α : Type} (L : Lay α) (hk : L.k = 6) (xs : List α) (i : Nat) (p : Option Addr) (c : Nat) (w : World) (hl : xs.length ≤ 100000) (hi : i < xs.length) (hR : RoomE L w p c xs) :
    Calls Tryz.prog 31 #[.slice p xs.length c, .int .i64 i, .int .i64 ((i : Int) + 1)] w fun e w' => e = .returned (.slice p (xs.length - 1) c) ∧ RoomE L w' p c (xs.take i ++ xs.drop (i + 1)) ∧ Kept (fun k => ∃ a, p = some a ∧ k = a.block) w w' := by
  obtain ⟨i0, hi0, hz0, hzs, hzb⟩ := info_parts infoEnv
  rcases hR.block with ⟨-, -, rfl⟩ | ⟨B, rest, rfl, hB, hrl, hnc, hm⟩
  · simp at hi
  rw [hk] at hrl
  have hc63 : c ≤ 9223372036854775807 := by unfold maxLen at hm; omega
  have hfl : (L.flat xs).length = xs.length * 6 := by have := L.flat_length xs; rw [hk] at this; exact this
  have hdl : (L.flat (xs.drop (i + 1))).length = (xs.length - (i + 1)) * 6 := by have := L.flat_length (xs.drop (i + 1)); rw [hk, List.length_drop] at this; exact this
  have htl : (L.flat (xs.take i)).length = i * 6 := by have := L.flat_length (xs.take i); rw [hk, List.length_take, Nat.min_eq_left (by omega)] at this; exact this
  have htl1 : (L.flat (xs.take (i + 1))).length = (i + 1) * 6 := by have := L.flat_length (xs.take (i + 1)); rw [hk, List.length_take, Nat.min_eq_left (by omega)] at this; exact this
  obtain ⟨X, hX⟩ : ∃ X, X = (L.flat xs ++ rest).drop (i * 6) := ⟨_, rfl⟩
  have hXl : X.length = (c - i) * 6 := by rw [hX, List.length_drop, List.length_append, hfl]; omega
  have hB0 : w.heap[B]? = some (.cells (L.flat (xs.take i) ++ X).toArray 38 (0, 0)) := by
    rw [hB]
    congr 3
    rw [hX, flat_split L xs i, List.append_assoc, List.drop_left' htl]
  obtain ⟨A, hA, hsrc⟩ : ∃ A : Addr, (if c = i + 1 then (some ⟨B, 0, none⟩ : Option Addr) else some ⟨B, (i + 1) * 6, none⟩) = some A ∧ Hid (∀ t u, (L.flat (xs.drop (i + 1)))[t]? = some u → w.drew.cell? (A.add t) = some u) := by
    by_cases h : c = i + 1
    · refine ⟨⟨B, 0, none⟩, by simp [h], fun t u hu => ?_⟩
      have := (List.getElem?_eq_some_iff.1 hu).1
      rw [hdl] at this; omega
    · refine ⟨⟨B, (i + 1) * 6, none⟩, by simp [h], fun t u hu => ?_⟩
      have hjl := (List.getElem?_eq_some_iff.1 hu).1
      rw [Addr.add_lit]
      show w.cell? _ = _
      rw [cell_of_block hB, flat_split L xs (i + 1)]
      simp only [List.getElem?_toArray]
      rw [List.append_assoc, List.getElem?_append_right (by omega), htl1, Nat.add_sub_cancel_left, List.getElem?_append_left hjl]
      exact hu
  have s1 : Hid ((L.flat (xs.drop (i + 1))).length = (xs.length - (i + 1)) * 6) := hdl
  have s2 : Hid (∀ u ∈ L.flat (xs.drop (i + 1)), u.oneCell' = true) := L.flat_one' _
  have s3 : Hid (∀ t, t < (L.flat (xs.drop (i + 1))).length → (w.drew.cell? ⟨B, 0 + i * 6 + t, none⟩).isSome = true ∧ w.drew.frozen? ⟨B, 0 + i * 6 + t, none⟩ = false) := fun t ht =>
    ⟨isSome_block (w := w.drew) hB (by rw [List.size_toArray, List.length_append, hfl]; omega), frozen_of_block (w := w.drew) hB⟩
  obtain ⟨W1, hW1⟩ : ∃ W1, W1 = w.drew.setCells B (0 + i * 6) (L.flat (xs.drop (i + 1))) := ⟨_, rfl⟩
  have hB1 : W1.heap[B]? = some (.cells (L.flat (xs.take i ++ xs.drop (i + 1)) ++ X.drop ((xs.length - (i + 1)) * 6)).toArray 38 (0, 0)) := by
    rw [hW1, setCells_at _ _ _ w.drew (0 + i * 6) hB0 (by rw [hdl, hXl]; omega) (by rw [htl]; omega), L.flat_append, hdl]
  have hdl1 : (L.flat (xs.take i ++ xs.drop (i + 1))).length = (xs.length - 1) * 6 := by rw [L.flat_append, List.length_append, htl, hdl]; omega
  have hln : (xs.take i ++ xs.drop (i + 1)).length = xs.length - 1 := by simp; omega
  have hcl : ∀ ty, (Builtin.clear_ #[27] ty #[.slice (some ⟨B, (xs.length - 1) * 6, none⟩) 1 (c - (xs.length - 1))]).run Tryz.prog W1 = .ok (.tuple #[]) (W1.setCells B ((xs.length - 1) * 6) (Builtin.zeroCells zE 1).toList) := fun ty =>
    run_clear6 W1 27 38 ty _ Tryz.underlying27 Tryz.zeroValue38 zE_one rfl B _ 1 _ (by decide) (fun j hj => isSome_block hB1 (by rw [List.size_toArray, List.length_append, hdl1, List.length_drop, hXl]; omega)) (fun j hj => frozen_of_block hB1)
  have HF : Hid (RoomE L (W1.setCells B ((xs.length - 1) * 6) (Builtin.zeroCells zE 1).toList) (some ⟨B, 0, none⟩) c (xs.take i ++ xs.drop (i + 1)) ∧ Kept (fun k => ∃ a, some (⟨B, 0, none⟩ : Addr) = some a ∧ k = a.block) w (W1.setCells B ((xs.length - 1) * 6) (Builtin.zeroCells zE 1).toList)) := by
    refine ⟨RoomE.of (rest := (Builtin.zeroCells zE 1).toList ++ (X.drop ((xs.length - (i + 1)) * 6)).drop 6) ?_ (by rw [hln, hk, List.length_append, zE_len, List.length_drop, List.length_drop, hXl]; omega) (by rw [hln]; omega) hm, ?_⟩
    · rw [setCells_at _ _ _ W1 _ hB1 (by rw [zE_len, List.length_drop, hXl]; omega) hdl1.symm, zE_len, List.append_assoc]
    · refine Kept.cells ⟨_, rfl, rfl⟩ _ _ _ _ ?_
      rw [hW1]
      exact Kept.cells ⟨_, rfl, rfl⟩ _ _ _ _ (Kept.refl _ _).drew
  have hW : Hid (W1 = w.drew.setCells B (0 + i * 6) (L.flat (xs.drop (i + 1)))) := hW1
  have hic : i ≤ c := by omega
  have hjc : i + 1 ≤ c := by omega
  have hjn : i + 1 ≤ xs.length := by omega
  have hb1 : (0 : Int) ≤ (i : Int) + 1 := by omega
  have hb2 : (i : Int) + 1 ≤ (xs.length : Int) := by omega
  have hone : xs.length - (xs.length - 1) = 1 := by omega
  have hsum : i + (xs.length - (i + 1)) = xs.length - 1 := by omega
  have mixed : Tryz.prog.follows Departure.mixedOrders = true := by kernel_rfl
  clear hW1 hB1 hB0 hB hR hX hrl hfl hdl1 htl htl1 hXl hdl
  go_enter Tryz.func31, Tryz.ntmps31
  go_wp2_with fail
  go_region_law_o (refine step_append_room rfl (.tmp 22) (.tmp 25) 27 rfl 38 i0 6 Tryz.underlying27 hi0 hzs B 0 i c (by simp [Act.eval, Act.put]) A (xs.length - (i + 1)) (c - (i + 1)) (L.flat (xs.drop (i + 1))) (by simp [Act.eval, Act.put]) s1.out hsrc.out s2.out (by omega) s3.out ?_; rw [← hW.out])
  go_wp2
  go_ret
  exact ⟨rfl, HF.out⟩
end Go.Proofs.YtjkdcpalgfakhaaGreat
