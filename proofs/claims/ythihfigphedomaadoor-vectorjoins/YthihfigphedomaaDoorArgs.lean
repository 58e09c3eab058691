/-
  How a vector that comes in lies in memory, and what the rows' listed variables give. No conditions beyond what each theorem states.
-/
import Derived.Test.YthihfigphedomaaDoorShow
import Derived.Deep.SlicePairs
import Derived.Deep.DeepHandedRow
import Derived.Lib.LaidTab
import Derived.LaidLaws
import Derived.Stop.LaidErr
import Derived.Carry
namespace Go.Proofs.YthihfigphedomaaDoor
open Go.ChangeShapes Go.WideShapes Go.ChangeAt Go.RowKit Go.Joins
set_option linter.unusedVariables false
set_option linter.unusedSimpArgs false

theorem own : ownKnob Tryd.prog.godebug = none := by kernel_rfl
theorem laidOut : laidOutB Tryd.prog = true := by kernel_rfl
theorem cells55 : Tryd.prog.cellsOf 55 = 2 := by kernel_rfl
theorem cells29 : Tryd.prog.cellsOf 29 = 1 := by kernel_rfl
theorem cells30 : Tryd.prog.cellsOf 30 = 1 := by kernel_rfl
theorem gPowType : (Tryd.prog.globals[0]?).map (·.type) = some 99 := by kernel_rfl
theorem powIs : (Rows.laid_internal_strconv_uint64pow10 : DataW Unit) = Lib.tabData .u64 Lib.pow10Tab := by kernel_rfl

/-- What the rows' list gives. -/
theorem fit_of {W : World} (hL : laidMet Tryd.prog Rows.vectorRightsRow.laid W) : Fit W := by
  have h2 : laidMet Tryd.prog (("internal/strconv.uint64pow10", Rows.laid_internal_strconv_uint64pow10) :: []) W := hL.tail.tail
  rw [powIs] at h2
  exact Lib.tabIs_of_head gPow gPowType Tryd.underlying99 Tryd.underlying66 (by kernel_rfl) (by kernel_rfl) h2

/-- A vector that comes in: its entries. -/
theorem vec_open {H : Type} {enc : TypeId × Value → H} {W : World} {r : Reach} {base : Nat} {v : Value} {d : DataW H} {ps : List MemPlace} (hv : Value.okWide Tryd.prog W r base 23 v) (h : DataW.Trod enc Tryd.prog W 0 (fun _ => true) true 23 v d ps) :
    ∃ xs p c, v = .slice p xs.length c ∧ Row W p xs ∧ Fits xs ∧ xs.length ≤ maxLen ∧ (p = none → c = 0) := by
  obtain ⟨a0, len, cap, rfl⟩ := okWide_slice Tryd.underlying23 hv
  obtain ⟨fuel, hf⟩ := h
  rcases Go.Deep.open_slice_pairs Tryd.underlying23 Tryd.underlying55 cells55 rfl rfl cells29 cells30 hf with ⟨hcs, -⟩ | ⟨a, len', cap', m, n, V0, V1, D0, D1, P0, P1, hcs, -, hl, hm, hmm, -, hc⟩
  · simp [Value.cells] at hcs
    obtain ⟨rfl, rfl, rfl⟩ := hcs
    exact ⟨[], none, 0, rfl, (fun i hi => by simp at hi), (fun x hx => by cases hx), by simp, fun _ => rfl⟩
  · simp [Value.cells] at hcs
    obtain ⟨rfl, rfl, rfl⟩ := hcs
    have hlm : len ≤ m := by rw [hmm]; split <;> omega
    have each : ∀ i, i < len → ∃ x : En, W.cell? (a.add (i * 2)) = some (.int .u16 x.1) ∧ W.cell? (a.add (i * 2 + 1)) = some (.int .u32 x.2) ∧ 0 ≤ x.1 ∧ x.1 ≤ 65535 ∧ 0 ≤ x.2 ∧ x.2 ≤ 4294967295 := fun i hi => by
      obtain ⟨h0, h1, h2, h3⟩ := hc i (by omega)
      obtain ⟨x, e0, -, wx⟩ := DataW.trod_int Tryd.underlying29 h2
      obtain ⟨y, e1, -, wy⟩ := DataW.trod_int Tryd.underlying30 h3
      simp at e0 e1
      rw [e0] at h0
      rw [e1] at h1
      have b0 := bounds_u16 wx
      have b1 := bounds_u32 wy
      exact ⟨(x, y), h0, h1, b0.1, by have := b0.2; omega, b1.1, by have := b1.2; omega⟩
    obtain ⟨q, hq⟩ := Go.Deep.choose_lt each
    have hat : ∀ i, i < len → atL ((List.range len).map q) i = q i := fun i hi => by simp [atL, hi]
    refine ⟨(List.range len).map q, some a, cap, by simp, fun i hi => ?_, fun x hx => ?_, by simp; omega, fun e => by cases e⟩
    · have hi' : i < len := by simpa using hi
      rw [hat i hi']
      obtain ⟨h0, h1, -⟩ := hq i hi'
      obtain ⟨b, o, s⟩ := a
      have hs : s = none := by simpa [Addr.add] using World.cell?_spot (hq 0 (by omega)).1
      subst hs
      rw [Lib.add_plain] at h0 h1
      exact ⟨b, o, rfl, h0, by rw [Nat.add_assoc]; exact h1⟩
    · simp only [List.mem_map, List.mem_range] at hx
      obtain ⟨i, hi, rfl⟩ := hx
      exact (hq i hi).2.2

theorem vec_again {H : Type} {enc : TypeId × Value → H} {W W' : World} {v : Value} {d : DataW H} {ps : List MemPlace} (h : DataW.Trod enc Tryd.prog W 0 (fun _ => true) true 23 v d ps) (hb : Below W.heap.size W W') (hlt : ∀ x ∈ ps, x.block < W.heap.size) :
    DataW.Trod enc Tryd.prog W' 0 (fun b => decide (b < W.heap.size)) true 23 v d ps :=
  Below.trod laidOut (by kernel_rfl) (of_decide_eq_true (by kernel_rfl)) h hb hlt

def lay (h : Array Obj) (g : Nat) (cs : Array Value) : Array Obj := h.modify g fun
  | .cells _ t frozen => .cells cs t frozen
  | o => o

end Go.Proofs.YthihfigphedomaaDoor
