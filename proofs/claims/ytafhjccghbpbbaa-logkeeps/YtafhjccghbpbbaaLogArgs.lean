
/-
  How what is put, a gap, and a name that come in lie in memory. No conditions beyond what each theorem states.
-/
import Derived.Test.YtafhjccghbpbbaaByteArgs
import Derived.Test.YtafhjccghbpbbaaLogSpec
namespace Go.Proofs.Ytafhjccghbpbbaa
open Go.ChangeShapes Go.WideShapes Go.ChangeAt Go.RowKit Go.Joins Go.Lib
set_option linter.unusedVariables false
set_option linter.unusedSimpArgs false
set_option maxRecDepth 100000

theorem cellsPutL : Try.prog.cellsOf 35 = 3 := by kernel_rfl
theorem cellsIDL : Try.prog.cellsOf 26 = 2 := by kernel_rfl
theorem cellsGapL : Try.prog.cellsOf 48 = 3 := by kernel_rfl
theorem cellsSlL : Try.prog.cellsOf 33 = 1 := by kernel_rfl
theorem cellsRL : Try.prog.cellsOf 23 = 1 := by kernel_rfl
theorem cellsNL : Try.prog.cellsOf 24 = 1 := by kernel_rfl
theorem bytesPutL : Try.prog.bytesOf 35 = 32 := by kernel_rfl
theorem name_dec {H : Type} {enc : TypeId × Value → H} {W : World} {sp : Nat → Bool} (n : Nat) (cs' : List Value) (x : DataW H × List MemPlace) (h : DataW.trod enc Try.prog W 0 sp true n 26 cs' = some x) (hl : cs'.length = 2) : ∃ r s : Int, cs' = [.int .u16 r, .int .u32 s] ∧ (0 ≤ r ∧ r ≤ 65535) ∧ (0 ≤ s ∧ s ≤ 4294967295) := by
  obtain ⟨y0, y1, m, -, -, h0, h1⟩ := trod_struct2 Try.underlying26 h
  match cs', hl with
  | [v0, v1], _ =>
    simp [cellsRL, cellsNL] at h0 h1
    obtain ⟨a, e0, -, wa⟩ := DataW.trod_int Try.underlying23 h0
    obtain ⟨b, e1, -, wb⟩ := DataW.trod_int Try.underlying24 h1
    simp at e0 e1
    have b0 := bounds_u16 wa
    have b1 := bounds_u32 wb
    exact ⟨a, b, by rw [e0, e1], ⟨b0.1, by have := b0.2; omega⟩, ⟨b1.1, by have := b1.2; omega⟩⟩
theorem bytes_dec {H : Type} {enc : TypeId × Value → H} {W : World} (n : Nat) (cs' : List Value) (x : DataW H × List MemPlace) (hf : DataW.trod enc Try.prog W 0 (fun _ => true) true n 33 cs' = some x) : ∃ bs p c, cs' = [.slice p bs.length c] ∧ BRow W p bs ∧ bs.length ≤ c ∧ bs.length ≤ 9223372036854775807 ∧ (p = none → c = 0) := by
  rcases Go.Deep.open_slice1 Try.underlying33 cellsByte hf with ⟨hcs, -⟩ | ⟨a, len, cap, m, n, V, D, Pl, hcs, -, hl, hm, hmm, hx, hc⟩
  · exact ⟨[], none, 0, hcs, BRow.nil _ _, by simp, by simp, fun _ => rfl⟩
  · subst hcs
    have hlm : len ≤ m := by rw [hmm]; split <;> omega
    have each : ∀ i, i < len → ∃ x : UInt8, W.cell? (a.add i) = some (.int .u8 (x.toNat : Int)) := fun i hi => by
      obtain ⟨h0, h1⟩ := hc i (by omega)
      obtain ⟨x, e0, -, wx⟩ := DataW.trod_int Try.underlying5 h1
      simp at e0
      rw [e0] at h0
      have b0 := bounds_u8 wx
      refine ⟨UInt8.ofNat x.toNat, ?_⟩
      rw [h0, u8_nat (by omega)]
      congr 2; omega
    obtain ⟨q, hq⟩ := Go.Deep.choose_lt each
    refine ⟨(List.range len).map q, some a, cap, by simp, fun i hi => ?_, by simpa using hl, by simp; unfold maxLen at hm; omega, (by intro h; cases h)⟩
    have hi' : i < len := by simpa using hi
    have h0 := hq i hi'
    obtain ⟨b, o, s⟩ := a
    have hs : s = none := by simpa [Addr.add] using World.cell?_spot (hq 0 (by omega))
    subst hs
    rw [Addr.add_lit] at h0
    exact ⟨b, o, rfl, by rw [h0]; simp [atB, hi']⟩
theorem put_dec {H : Type} {enc : TypeId × Value → H} {W : World} (n : Nat) (cs' : List Value) (x : DataW H × List MemPlace) (h : DataW.trod enc Try.prog W 0 (fun _ => true) true n 35 cs' = some x) (hl : cs'.length = 3) : ∃ a : PutV, cs' = layU.enc a ∧ InU W a := by
  obtain ⟨y0, y1, m, -, -, h0, h1⟩ := trod_struct2 Try.underlying35 h
  match cs', hl with
  | [v0, v1, v2], _ =>
    simp [cellsIDL, cellsSlL] at h0 h1
    obtain ⟨r, s, e0, hr, hs⟩ := name_dec _ _ _ h0 rfl
    obtain ⟨bs, p, c, e1, hb, hc, hlen, hp⟩ := bytes_dec _ _ _ h1
    simp at e0 e1
    obtain ⟨rfl, rfl⟩ := e0
    subst e1
    exact ⟨⟨r, s, bs, p, c⟩, rfl, hb, hr, hs, hc, hp, hlen⟩
theorem weights_memL {H : Type} {P : Program} {e : TypeId} {d : DataW H} : ∀ {ds : List (DataW H)}, d ∈ ds → ∀ n ∈ d.weights P e, n ∈ DataW.weightsAll P e ds
  | d0 :: ds, h, n, hn => by
    simp only [DataW.weightsAll, List.mem_append]
    rcases List.mem_cons.1 h with rfl | h
    · exact Or.inl hn
    · exact Or.inr (weights_memL h n hn)
/-- Puts that come in. -/
theorem puts_sized {H : Type} {enc : TypeId × Value → H} {W : World} {r : Reach} {base : Nat} {v : Value} {d : DataW H} {ps : List MemPlace} (hv : Value.okWide Try.prog W r base 22 v) (h : DataW.Trod enc Try.prog W 0 (fun _ => true) true 22 v d ps) (RB : Nat) (hw : ∀ m ∈ d.weights Try.prog 22, m ≤ RB) :
    ∃ l p c, v = .slice p l.length c ∧ ArgU W p l ∧ l.length * 32 ≤ RB := by
  have h0 := h
  obtain ⟨l, p, c, rfl, hG, hF, -, -, -, hd⟩ := @lay_open PutV ⟨u0P⟩ layU (InU W) layU_pos H enc W r base _ _ v d ps Try.underlying22 cellsPutL (fun n cs' x h hl => put_dec n cs' x h hl) hv h
  refine ⟨l, p, c, rfl, ⟨hG, hF⟩, ?_⟩
  rcases hd with rfl | ⟨el, sp, rfl, hlen⟩
  · simp
  · have h1 := hw ((el.length + sp.length) * Try.prog.bytesOf 35) (by
      simp only [DataW.weights, Try.underlying22]
      exact List.mem_cons_self)
    rw [bytesPutL] at h1
    omega
theorem puts_again {H : Type} {enc : TypeId × Value → H} {W W' : World} {v : Value} {d : DataW H} {ps : List MemPlace} (h : DataW.Trod enc Try.prog W 0 (fun _ => true) true 22 v d ps) (hb : Below W.heap.size W W') (hlt : ∀ x ∈ ps, x.block < W.heap.size) :
    DataW.Trod enc Try.prog W' 0 (fun b => decide (b < W.heap.size)) true 22 v d ps :=
  Below.trod laidOut (by kernel_rfl) (of_decide_eq_true (by kernel_rfl)) h hb hlt
/-- A gap that comes in. -/
theorem gap_open {H : Type} {enc : TypeId × Value → H} {W : World} {r : Reach} {base : Nat} {v : Value} {d : DataW H} {ps : List MemPlace} (hv : Value.okWide Try.prog W r base 48 v) (h : DataW.Trod enc Try.prog W 0 (fun _ => true) true 48 v d ps) :
    ∃ r f t : Int, v = .agg #[.int .u16 r, .int .u32 f, .int .u32 t] ∧ (0 ≤ r ∧ r ≤ 65535) ∧ (0 ≤ f ∧ f ≤ 4294967295) ∧ (0 ≤ t ∧ t ≤ 4294967295) := by
  obtain ⟨v0, v1, v2, y0, y1, y2, n, rfl, -, -, h0, h1, h2⟩ := open_agg3 Try.underlying48 (by kernel_rfl) cellsGapL hv h
  obtain ⟨a, e0, -, wa⟩ := DataW.trod_int Try.underlying23 h0
  obtain ⟨b, e1, -, wb⟩ := DataW.trod_int Try.underlying24 h1
  obtain ⟨c, e2, -, wc⟩ := DataW.trod_int Try.underlying24 h2
  simp at e0 e1 e2
  have b0 := bounds_u16 wa
  have b1 := bounds_u32 wb
  have b2 := bounds_u32 wc
  exact ⟨a, b, c, by rw [e0, e1, e2], ⟨b0.1, by have := b0.2; omega⟩, ⟨b1.1, by have := b1.2; omega⟩, ⟨b2.1, by have := b2.2; omega⟩⟩
theorem gap_again {H : Type} {enc : TypeId × Value → H} {W W' : World} {v : Value} {d : DataW H} {ps : List MemPlace} (h : DataW.Trod enc Try.prog W 0 (fun _ => true) true 48 v d ps) (hb : Below W.heap.size W W') (hlt : ∀ x ∈ ps, x.block < W.heap.size) :
    DataW.Trod enc Try.prog W' 0 (fun b => decide (b < W.heap.size)) true 48 v d ps :=
  Below.trod laidOut (by kernel_rfl) (of_decide_eq_true (by kernel_rfl)) h hb hlt
/-- A name that comes in. -/
theorem txnid_open {H : Type} {enc : TypeId × Value → H} {W : World} {r : Reach} {base : Nat} {v : Value} {d : DataW H} {ps : List MemPlace} (hv : Value.okWide Try.prog W r base 26 v) (h : DataW.Trod enc Try.prog W 0 (fun _ => true) true 26 v d ps) :
    ∃ r s : Int, v = .agg #[.int .u16 r, .int .u32 s] ∧ (0 ≤ r ∧ r ≤ 65535) ∧ (0 ≤ s ∧ s ≤ 4294967295) := by
  obtain ⟨v0, v1, y0, y1, n, rfl, -, -, h0, h1⟩ := open_agg2 Try.underlying26 (by kernel_rfl) cellsIDL hv h
  obtain ⟨a, e0, -, wa⟩ := DataW.trod_int Try.underlying23 h0
  obtain ⟨b, e1, -, wb⟩ := DataW.trod_int Try.underlying24 h1
  simp at e0 e1
  have b0 := bounds_u16 wa
  have b1 := bounds_u32 wb
  exact ⟨a, b, by rw [e0, e1], ⟨b0.1, by have := b0.2; omega⟩, ⟨b1.1, by have := b1.2; omega⟩⟩
theorem txnid_again {H : Type} {enc : TypeId × Value → H} {W W' : World} {v : Value} {d : DataW H} {ps : List MemPlace} (h : DataW.Trod enc Try.prog W 0 (fun _ => true) true 26 v d ps) (hb : Below W.heap.size W W') (hlt : ∀ x ∈ ps, x.block < W.heap.size) :
    DataW.Trod enc Try.prog W' 0 (fun b => decide (b < W.heap.size)) true 26 v d ps :=
  Below.trod laidOut (by kernel_rfl) (of_decide_eq_true (by kernel_rfl)) h hb hlt
end Go.Proofs.Ytafhjccghbpbbaa
