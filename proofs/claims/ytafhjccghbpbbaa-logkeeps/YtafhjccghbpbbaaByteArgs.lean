
/-
  How bytes that come in lie in memory. No conditions beyond what each theorem states.
-/
import Derived.Test.YtafhjccghbpbbaaLayArgs
namespace Go.Proofs.Ytafhjccghbpbbaa
open Go.ChangeShapes Go.WideShapes Go.ChangeAt Go.RowKit Go.Joins Go.Lib
set_option linter.unusedVariables false
set_option linter.unusedSimpArgs false
set_option maxRecDepth 100000

theorem cellsByte : Try.prog.cellsOf 5 = 1 := by kernel_rfl

/-- Bytes that come in. -/
theorem bytes_sized {H : Type} {enc : TypeId × Value → H} {W : World} {r : Reach} {base : Nat} {v : Value} {d : DataW H} {ps : List MemPlace} (hv : Value.okWide Try.prog W r base 33 v) (h : DataW.Trod enc Try.prog W 0 (fun _ => true) true 33 v d ps) :
    ∃ bs p c, v = .slice p bs.length c ∧ BRow W p bs ∧ bs.length ≤ c ∧ bs.length ≤ 9223372036854775807 ∧ (p = none → c = 0) ∧ (bs = [] ∨ ∃ el sp, d = .slice el sp ∧ bs.length = el.length) := by
  obtain ⟨a0, len, cap, rfl⟩ := okWide_slice Try.underlying33 hv
  obtain ⟨fuel, hf⟩ := h
  rcases Go.Deep.open_slice1 Try.underlying33 cellsByte hf with ⟨hcs, -⟩ | ⟨a, len', cap', m, n, V, D, Pl, hcs, -, hl, hm, hmm, hx, hc⟩
  · simp [Value.cells] at hcs
    obtain ⟨rfl, rfl, rfl⟩ := hcs
    exact ⟨[], none, 0, rfl, BRow.nil _ _, by simp, by simp, fun _ => rfl, Or.inl rfl⟩
  · simp [Value.cells] at hcs
    obtain ⟨rfl, rfl, rfl⟩ := hcs
    have hlm : len ≤ m := by rw [hmm]; split <;> omega
    have each : ∀ i, i < len → ∃ x : UInt8, W.cell? (a.add i) = some (.int .u8 (x.toNat : Int)) := fun i hi => by
      obtain ⟨h0, h1⟩ := hc i (by omega)
      obtain ⟨x, e0, -, wx⟩ := DataW.trod_int Try.underlying5 h1
      simp at e0
      rw [e0] at h0
      have b0 := bounds_u8 wx
      refine ⟨UInt8.ofNat x.toNat, ?_⟩
      rw [h0, u8_nat (by omega)]
      congr 2; omega
    obtain ⟨q, hq⟩ := Go.Deep.choose_lt each
    refine ⟨(List.range len).map q, some a, cap, by simp, fun i hi => ?_, by simpa using hl, by simp; unfold maxLen at hm; omega, (by intro h; cases h), Or.inr ⟨_, _, (Prod.mk.inj hx).1, by simp⟩⟩
    have hi' : i < len := by simpa using hi
    have h0 := hq i hi'
    obtain ⟨b, o, s⟩ := a
    have hs : s = none := by simpa [Addr.add] using World.cell?_spot (hq 0 (by omega))
    subst hs
    rw [Addr.add_lit] at h0
    exact ⟨b, o, rfl, by rw [h0]; simp [atB, hi']⟩

theorem bytes_open {H : Type} {enc : TypeId × Value → H} {W : World} {r : Reach} {base : Nat} {v : Value} {d : DataW H} {ps : List MemPlace} (hv : Value.okWide Try.prog W r base 33 v) (h : DataW.Trod enc Try.prog W 0 (fun _ => true) true 33 v d ps) :
    ∃ bs p c, v = .slice p bs.length c ∧ BRow W p bs ∧ bs.length ≤ c ∧ bs.length ≤ 9223372036854775807 ∧ (p = none → c = 0) := by
  obtain ⟨bs, p, c, h1, h2, h3, h4, h5, _⟩ := bytes_sized hv h
  exact ⟨bs, p, c, h1, h2, h3, h4, h5⟩
theorem bytesByte : Try.prog.bytesOf 5 = 1 := by kernel_rfl

theorem bytes_again {H : Type} {enc : TypeId × Value → H} {W W' : World} {v : Value} {d : DataW H} {ps : List MemPlace} (h : DataW.Trod enc Try.prog W 0 (fun _ => true) true 33 v d ps) (hb : Below W.heap.size W W') (hlt : ∀ x ∈ ps, x.block < W.heap.size) :
    DataW.Trod enc Try.prog W' 0 (fun b => decide (b < W.heap.size)) true 33 v d ps :=
  Below.trod laidOut (by kernel_rfl) (of_decide_eq_true (by kernel_rfl)) h hb hlt

end Go.Proofs.Ytafhjccghbpbbaa
