
/-
  How bytes and things that come in lie in memory. No conditions beyond what each theorem states.
-/
import Derived.Test.YtnoppejmcckgjaaPackLaw
import Derived.Deep.SlicePairs
import Derived.Deep.DeepHandedRow
import Derived.Carry
namespace Go.Proofs.Ytnoppejmcckgjaa
open Go.ChangeShapes Go.WideShapes Go.ChangeAt Go.RowKit Go.Joins Go.Lib
set_option linter.unusedVariables false
set_option linter.unusedSimpArgs false

theorem own : ownKnob Try.prog.godebug = none := by kernel_rfl
theorem laidOut : laidOutB Try.prog = true := by kernel_rfl
theorem cellsOp : Try.prog.cellsOf 30 = 4 := by kernel_rfl
theorem cellsByte : Try.prog.cellsOf 5 = 1 := by kernel_rfl
theorem cellsI : Try.prog.cellsOf 3 = 1 := by kernel_rfl
theorem cellsU : Try.prog.cellsOf 28 = 1 := by kernel_rfl
theorem cellsS : Try.prog.cellsOf 9 = 1 := by kernel_rfl

/-- Bytes that come in. -/
theorem bytes_open {H : Type} {enc : TypeId × Value → H} {W : World} {r : Reach} {base : Nat} {v : Value} {d : DataW H} {ps : List MemPlace} (hv : Value.okWide Try.prog W r base 25 v) (h : DataW.Trod enc Try.prog W 0 (fun _ => true) true 25 v d ps) :
    ∃ bs p c, v = .slice p bs.length c ∧ BRow W p bs ∧ bs.length ≤ c ∧ bs.length ≤ 9223372036854775807 := by
  obtain ⟨a0, len, cap, rfl⟩ := okWide_slice Try.underlying25 hv
  obtain ⟨fuel, hf⟩ := h
  rcases Go.Deep.open_slice1 Try.underlying25 cellsByte hf with ⟨hcs, -⟩ | ⟨a, len', cap', m, n, V, D, Pl, hcs, -, hl, hm, hmm, -, hc⟩
  · simp [Value.cells] at hcs
    obtain ⟨rfl, rfl, rfl⟩ := hcs
    exact ⟨[], none, 0, rfl, BRow.nil _ _, by simp, by simp⟩
  · simp [Value.cells] at hcs
    obtain ⟨rfl, rfl, rfl⟩ := hcs
    have hlm : len ≤ m := by rw [hmm]; split <;> omega
    have each : ∀ i, i < len → ∃ x : UInt8, W.cell? (a.add i) = some (.int .u8 (x.toNat : Int)) := fun i hi => by
      obtain ⟨h0, h1⟩ := hc i (by omega)
      obtain ⟨x, e0, -, wx⟩ := DataW.trod_int Try.underlying5 h1
      simp at e0
      rw [e0] at h0
      have b0 := bounds_u8 wx
      refine ⟨UInt8.ofNat x.toNat, ?_⟩
      rw [h0, u8_nat (by omega)]
      congr 2; omega
    obtain ⟨q, hq⟩ := Go.Deep.choose_lt each
    refine ⟨(List.range len).map q, some a, cap, by simp, fun i hi => ?_, by simpa using hl, by simp; unfold maxLen at hm; omega⟩
    have hi' : i < len := by simpa using hi
    have h0 := hq i hi'
    obtain ⟨b, o, s⟩ := a
    have hs : s = none := by simpa [Addr.add] using World.cell?_spot (hq 0 (by omega))
    subst hs
    rw [Addr.add_lit] at h0
    exact ⟨b, o, rfl, by rw [h0]; simp [atB, hi']⟩

/-- Things that come in. -/
theorem things_open {H : Type} {enc : TypeId × Value → H} {W : World} {r : Reach} {base : Nat} {v : Value} {d : DataW H} {ps : List MemPlace} (hv : Value.okWide Try.prog W r base 22 v) (h : DataW.Trod enc Try.prog W 0 (fun _ => true) true 22 v d ps) :
    ∃ xs p c, v = .slice p xs.length c ∧ ORow W p xs ∧ OFit xs ∧ xs.length ≤ 9223372036854775807 ∧ ∀ i, i < xs.length → (atO xs i).2.2.1.length ≤ 9223372036854775807 := by
  obtain ⟨a0, len, cap, rfl⟩ := okWide_slice Try.underlying22 hv
  obtain ⟨fuel, hf⟩ := h
  rcases Go.Deep.open_slice Try.underlying22 hf with ⟨hcs, -⟩ | ⟨a, len', cap', m, n, D, Pl, hcs, -, hl, hm, hmm, -, hc⟩
  · simp [Value.cells] at hcs
    obtain ⟨rfl, rfl, rfl⟩ := hcs
    exact ⟨[], none, 0, rfl, (fun i hi => by simp at hi), (fun i hi => by simp at hi), by simp, fun i hi => by simp at hi⟩
  · simp [Value.cells] at hcs
    obtain ⟨rfl, rfl, rfl⟩ := hcs
    have hlm : len ≤ m := by rw [hmm]; split <;> omega
    have each : ∀ i, i < len → ∃ x : Th, (W.cell? (a.add (i * 4)) = some (.int .i64 x.1) ∧ W.cell? (a.add (i * 4 + 1)) = some (.int .u64 (x.2.1 : Int)) ∧ W.cell? (a.add (i * 4 + 2)) = some (.string ⟨x.2.2.1.toArray⟩) ∧ W.cell? (a.add (i * 4 + 3)) = some (.int .i64 x.2.2.2)) ∧
        (-9223372036854775808 ≤ x.1 ∧ x.1 < 9223372036854775808 ∧ x.2.1 < 18446744073709551616 ∧ -9223372036854775808 ≤ x.2.2.2 ∧ x.2.2.2 < 9223372036854775808) ∧ x.2.2.1.length ≤ 9223372036854775807 := fun i hi => by
      obtain ⟨cs', h1, h2⟩ := hc i (by omega)
      rw [cellsOp] at h1
      obtain ⟨_, hlen, hcell⟩ := World.cells?_some h1
      obtain ⟨xs, k, hk, hxy, _, hxl, hfd⟩ := DataW.trod_struct Try.underlying30 h2
      match xs, hxl, cs', hlen with
      | [y0, y1, y2, y3], _, [v0, v1, v2, v3], _ =>
        have g0 := hfd 0 _ rfl
        have g1 := hfd 1 _ rfl
        have g2 := hfd 2 _ rfl
        have g3 := hfd 3 _ rfl
        simp [cellsI, cellsU, cellsS] at g0 g1 g2 g3
        obtain ⟨x0, e0, -, w0⟩ := DataW.trod_int Try.underlying3 g0
        obtain ⟨x1, e1, -, w1⟩ := DataW.trod_int Try.underlying28 g1
        obtain ⟨x2, e2, -, w2⟩ := DataW.trod_string Try.underlying9 g2
        obtain ⟨x3, e3, -, w3⟩ := DataW.trod_int Try.underlying3 g3
        simp at e0 e1 e2 e3
        subst e0
        subst e1
        subst e2
        subst e3
        have d0 := hcell 0 (by omega)
        have d1 := hcell 1 (by omega)
        have d2 := hcell 2 (by omega)
        have d3 := hcell 3 (by omega)
        rw [Go.Deep.add_add] at d0 d1 d2 d3
        have b0 := bounds_i64 w0
        have b1 := bounds_u64 w1
        have b3 := bounds_i64 w3
        refine ⟨(x0, x1.toNat, x2.data.toList, x3), ⟨by simpa using d0, ?_, by simpa using d2, by simpa using d3⟩, ⟨b0.1, by have := b0.2; simp only; omega, by have := b1.2; simp only; omega, b3.1, by have := b3.2; simp only; omega⟩, ?_⟩
        · rw [show ((x1.toNat : Nat) : Int) = x1 by omega]; simpa using d1
        · have : x2.data.toList.length = x2.size := by rw [Array.length_toList]; rfl
          simp only [this]; unfold maxLen at w2; omega
    obtain ⟨q, hq⟩ := Go.Deep.choose_lt each
    have hat : ∀ i, i < len → atO ((List.range len).map q) i = q i := fun i hi => by simp [atO, hi]
    refine ⟨(List.range len).map q, some a, cap, by simp, fun i hi => ?_, fun i hi => ?_, by simp; unfold maxLen at hm; omega, fun i hi => ?_⟩
    · have hi' : i < len := by simpa using hi
      rw [hat i hi']
      obtain ⟨⟨h0, h1, h2, h3⟩, -, -⟩ := hq i hi'
      obtain ⟨b, o, s⟩ := a
      have hs : s = none := by simpa [Addr.add] using World.cell?_spot (hq 0 (by omega)).1.1
      subst hs
      rw [Addr.add_lit] at h0 h1 h2 h3
      exact ⟨b, o, rfl, h0, by rw [Nat.add_assoc]; exact h1, by rw [Nat.add_assoc]; exact h2, by rw [Nat.add_assoc]; exact h3⟩
    · have hi' : i < len := by simpa using hi
      rw [hat i hi']
      exact (hq i hi').2.1
    · have hi' : i < len := by simpa using hi
      rw [hat i hi']
      exact (hq i hi').2.2

theorem bytes_again {H : Type} {enc : TypeId × Value → H} {W W' : World} {v : Value} {d : DataW H} {ps : List MemPlace} (h : DataW.Trod enc Try.prog W 0 (fun _ => true) true 25 v d ps) (hb : Below W.heap.size W W') (hlt : ∀ x ∈ ps, x.block < W.heap.size) :
    DataW.Trod enc Try.prog W' 0 (fun b => decide (b < W.heap.size)) true 25 v d ps :=
  Below.trod laidOut (by kernel_rfl) (of_decide_eq_true (by kernel_rfl)) h hb hlt
theorem things_again {H : Type} {enc : TypeId × Value → H} {W W' : World} {v : Value} {d : DataW H} {ps : List MemPlace} (h : DataW.Trod enc Try.prog W 0 (fun _ => true) true 22 v d ps) (hb : Below W.heap.size W W') (hlt : ∀ x ∈ ps, x.block < W.heap.size) :
    DataW.Trod enc Try.prog W' 0 (fun b => decide (b < W.heap.size)) true 22 v d ps :=
  Below.trod laidOut (by kernel_rfl) (of_decide_eq_true (by kernel_rfl)) h hb hlt

end Go.Proofs.Ytnoppejmcckgjaa
