
/-
  How spans, names, and one name that come in lie in memory. No conditions beyond what each theorem states.
-/
import Derived.Test.YtedlmngfkkpmgaaLayArgs
import Derived.Test.YtedlmngfkkpmgaaSpanMath
namespace Go.Proofs.Ytedlmngfkkpmgaa
open Go.ChangeShapes Go.WideShapes Go.ChangeAt Go.RowKit Go.Joins Go.Lib
set_option linter.unusedVariables false
set_option linter.unusedSimpArgs false
set_option maxRecDepth 100000

theorem cellsSp : Try.prog.cellsOf 114 = 3 := by kernel_rfl
theorem cellsII : Try.prog.cellsOf 66 = 2 := by kernel_rfl
theorem cellsR : Try.prog.cellsOf 22 = 1 := by kernel_rfl
theorem cellsN : Try.prog.cellsOf 23 = 1 := by kernel_rfl
theorem cellsInt : Try.prog.cellsOf 3 = 1 := by kernel_rfl
theorem bytesSp : Try.prog.bytesOf 114 = 16 := by kernel_rfl

theorem id_dec {H : Type} {enc : TypeId × Value → H} {W : World} {sp : Nat → Bool} (n : Nat) (cs' : List Value) (x : DataW H × List MemPlace) (h : DataW.trod enc Try.prog W 0 sp true n 66 cs' = some x) (hl : cs'.length = 2) : ∃ a : Nm, cs' = [.int .u16 a.1, .int .u32 a.2] ∧ FitN a := by
  obtain ⟨y0, y1, m, -, -, h0, h1⟩ := trod_struct2 Try.underlying66 h
  match cs', hl with
  | [v0, v1], _ =>
    simp [cellsR, cellsN] at h0 h1
    obtain ⟨a, e0, -, wa⟩ := DataW.trod_int Try.underlying22 h0
    obtain ⟨b, e1, -, wb⟩ := DataW.trod_int Try.underlying23 h1
    simp at e0 e1
    have b0 := bounds_u16 wa
    have b1 := bounds_u32 wb
    exact ⟨(a, b), by rw [e0, e1], b0.1, by have := b0.2; simp only; omega, b1.1, by have := b1.2; simp only; omega⟩
theorem span_dec {H : Type} {enc : TypeId × Value → H} {W : World} {sp : Nat → Bool} (n : Nat) (cs' : List Value) (x : DataW H × List MemPlace) (h : DataW.trod enc Try.prog W 0 sp true n 114 cs' = some x) (hl : cs'.length = 3) : ∃ a : Sp, cs' = [.int .u16 a.1, .int .u32 a.2.1, .int .i64 a.2.2] ∧ FitS a := by
  obtain ⟨y0, y1, m, -, -, h0, h1⟩ := trod_struct2 Try.underlying114 h
  match cs', hl with
  | [v0, v1, v2], _ =>
    simp [cellsII, cellsInt] at h0 h1
    obtain ⟨a, e0, hfa⟩ := id_dec _ _ _ h0 rfl
    obtain ⟨b, e1, -, wb⟩ := DataW.trod_int Try.underlying3 h1
    simp at e0 e1
    obtain ⟨rfl, rfl⟩ := e0
    subst e1
    have b1 := bounds_i64 wb
    unfold FitN at hfa
    exact ⟨(a.1, a.2, b), rfl, hfa.1, hfa.2.1, hfa.2.2.1, hfa.2.2.2, b1.1, by have := b1.2; simp only; omega⟩
/-- Spans that come in. -/
theorem spans_open {H : Type} {enc : TypeId × Value → H} {W : World} {r : Reach} {base : Nat} {v : Value} {d : DataW H} {ps : List MemPlace} (hv : Value.okWide Try.prog W r base 67 v) (h : DataW.Trod enc Try.prog W 0 (fun _ => true) true 67 v d ps) :
    ∃ l p c, v = .slice p l.length c ∧ GRow layS W p l ∧ FitSs l ∧ l.length ≤ c ∧ (p = none → c = 0) ∧ l.length ≤ 9223372036854775807 ∧ (l = [] ∨ ∃ el sp, d = .slice el sp ∧ l.length = el.length) :=
  lay_open layS FitS layS_pos Try.underlying67 cellsSp (fun n cs' x h hl => span_dec n cs' x h hl) hv h
theorem spans_again {H : Type} {enc : TypeId × Value → H} {W W' : World} {v : Value} {d : DataW H} {ps : List MemPlace} (h : DataW.Trod enc Try.prog W 0 (fun _ => true) true 67 v d ps) (hb : Below W.heap.size W W') (hlt : ∀ x ∈ ps, x.block < W.heap.size) :
    DataW.Trod enc Try.prog W' 0 (fun b => decide (b < W.heap.size)) true 67 v d ps :=
  Below.trod laidOut (by kernel_rfl) (of_decide_eq_true (by kernel_rfl)) h hb hlt
end Go.Proofs.Ytedlmngfkkpmgaa
