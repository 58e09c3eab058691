/-
  What slices.CompactFunc comes to behind Join: of entries of one replica that stand together the first one stays. No conditions beyond what each theorem states.
-/
import Derived.Test.YthihfigphedomaaDoorSort
import Derived.Lib.QuietBelow
namespace Go.Proofs.YthihfigphedomaaDoor
open Go.ChangeShapes Go.WideShapes Go.ChangeAt Go.RowKit Go.Lib
open Go.Sort
set_option linter.unusedVariables false
set_option linter.unusedSimpArgs false

set_option maxHeartbeats 400000 in
theorem eq_any (x y u v : Int) (w : World) :
    Calls Tryd.prog 32 #[.agg #[.int .u16 x, .int .u32 y], .agg #[.int .u16 u, .int .u32 v]] w fun e w' => e = .returned (.bool (x == u)) ∧ Below w.heap.size w w' := by
  go_enter Tryd.func32, Tryd.ntmps32
  go_wp2
  go_ret
  exact ⟨rfl, below_alloc (below_alloc (Below.refl _ _) _) _⟩

def keepsL (xs : List En) (j : Nat) : Bool := decide (j = 0 ∨ (atL xs j).1 ≠ (atL xs (j - 1)).1)
/-- Of the first m entries those that stay. -/
def compTo (xs : List En) : Nat → List En
  | 0 => []
  | m + 1 => if keepsL xs m then compTo xs m ++ [atL xs m] else compTo xs m
def compL (xs : List En) : List En := compTo xs xs.length
theorem keeps_zero (xs : List En) : keepsL xs 0 = true := by simp [keepsL]
theorem keeps_pos {xs : List En} {j : Nat} (h : (atL xs j).1 ≠ (atL xs (j - 1)).1) : keepsL xs j = true := by simp [keepsL, h]
theorem keeps_neg {xs : List En} {j : Nat} (h0 : 0 < j) (h : (atL xs j).1 = (atL xs (j - 1)).1) : keepsL xs j = false := by simp [keepsL, h]; omega
theorem compTo_all {xs : List En} : ∀ m, m ≤ xs.length → (∀ j, j < m → keepsL xs j = true) → compTo xs m = xs.take m
  | 0, _, _ => by simp [compTo]
  | m + 1, hm, h => by rw [compTo, if_pos (h m (by omega)), compTo_all m (by omega) (fun j hj => h j (by omega)), take_atL xs m (by omega)]
theorem compTo_le (xs : List En) : ∀ m, (compTo xs m).length ≤ m
  | 0 => by simp [compTo]
  | m + 1 => by have := compTo_le xs m; rw [compTo]; split <;> simp <;> omega
theorem compL_all {xs : List En} (h : ∀ j, j < xs.length → keepsL xs j = true) : compL xs = xs := by rw [compL, compTo_all _ (Nat.le_refl _) h, List.take_length]
theorem compL_small {xs : List En} (h : xs.length < 2) : compL xs = xs := compL_all fun j hj => by
  have : j = 0 := by omega
  subst this; exact keeps_zero xs

theorem Free.below {w w' : World} {g o : Nat} {xs : List En} (h : Free w g o xs) (hg : g < w.heap.size) (hb : Below w.heap.size w w') : Free w' g o xs := fun i hi => by
  obtain ⟨⟨h1, h2⟩, h3, h4⟩ := h i hi
  exact ⟨⟨cellU h1 hb, cellU h2 hb⟩, by rw [hb.frozen (by exact hg)]; exact h3, by rw [hb.frozen (by exact hg)]; exact h4⟩
theorem Free.row {w : World} {g o : Nat} {xs : List En} (h : Free w g o xs) : Row w (some ⟨g, o, none⟩) xs := fun i hi => ⟨g, o, rfl, (h i hi).1.1, (h i hi).1.2⟩

/-- The state of the inner loop: the first kk entries are those of the first m that stay; from m - 1 on nothing has been written. -/
structure CI (xs : List En) (m kk : Nat) (ys : List En) : Prop where
  size : ys.length = xs.length
  len : kk = (compTo xs m).length
  low : ys.take kk = compTo xs m
  high : ∀ j, m ≤ j + 1 → j < xs.length → atL ys j = atL xs j
  lt : kk < m
theorem CI.start {xs : List En} {k : Nat} (hk : k < xs.length) (h1 : 1 ≤ k) (h : ∀ j, j < k → keepsL xs j = true) (hd : keepsL xs k = false) : CI xs (k + 1) k xs := by
  have e : compTo xs (k + 1) = xs.take k := by rw [compTo, if_neg (by simp [hd]), compTo_all k (by omega) h]
  exact ⟨rfl, by rw [e]; simp; omega, e.symm, fun _ _ _ => rfl, by omega⟩
theorem CI.skip {xs ys : List En} {m kk : Nat} (h : CI xs m kk ys) (hd : keepsL xs m = false) : CI xs (m + 1) kk ys := by
  have e : compTo xs (m + 1) = compTo xs m := by rw [compTo, if_neg (by simp [hd])]
  exact ⟨h.size, by rw [e]; exact h.len, by rw [e]; exact h.low, fun j hj hl => h.high j (by omega) hl, by have := h.lt; omega⟩
theorem atL_set_same (ys : List En) (k : Nat) (x : En) (h : k < ys.length) : atL (ys.set k x) k = x := by simp [atL, h]
theorem atL_set_ne (ys : List En) (k j : Nat) (x : En) (h : k ≠ j) : atL (ys.set k x) j = atL ys j := by simp [atL, List.getElem?_set, h]
theorem CI.keep {xs ys : List En} {m kk : Nat} (h : CI xs m kk ys) (hm : m < xs.length) (hd : keepsL xs m = true) : CI xs (m + 1) (kk + 1) (ys.set kk (atL xs m)) := by
  have e : compTo xs (m + 1) = compTo xs m ++ [atL xs m] := by rw [compTo, if_pos hd]
  have hlt := h.lt
  have hk : kk < ys.length := by rw [h.size]; omega
  refine ⟨by simp [h.size], by rw [e, List.length_append, ← h.len]; rfl, ?_, fun j hj hl => ?_, by omega⟩
  · rw [e, take_atL _ _ (by simpa using hk), atL_set_same _ _ _ hk, List.take_set_of_le (Nat.le_refl _), h.low]
  · rw [atL_set_ne _ _ _ _ (by omega)]; exact h.high j (by omega) hl

/-- A store of one entry. -/
theorem Free.store {w : World} {g o : Nat} {ys : List En} (h : Free w g o ys) {k : Nat} (hk : k < ys.length) (x y : Int) :
    Free ((w.setCell ⟨g, o + k * 2, none⟩ (.int .u16 x)).setCell ⟨g, o + k * 2 + 1, none⟩ (.int .u32 y)) g o (ys.set k (x, y)) := by
  have e : (w.setCell ⟨g, o + k * 2, none⟩ (.int .u16 x)).setCell ⟨g, o + k * 2 + 1, none⟩ (.int .u32 y) = w.setCells g (o + k * 2) [.int .u16 x, .int .u32 y] := rfl
  rw [e]
  intro i hi
  rw [List.length_set] at hi
  obtain ⟨⟨h1, h2⟩, h3, h4⟩ := h i hi
  refine ⟨?_, by rw [World.frozen?_setCells]; exact h3, by rw [World.frozen?_setCells]; exact h4⟩
  obtain ⟨⟨k1, k2⟩, -, -⟩ := h k hk
  by_cases hik : i = k
  · subst hik
    rw [atL_set_same _ _ _ hk]
    have hin := World.cell?_setCells_in g [Value.int .u16 x, .int .u32 y] (o + i * 2) w (fun j hj => by
      match j, hj with
      | 0, _ => simp [k1]
      | 1, _ => simp [k2])
    exact ⟨hin 0 (by simp), hin 1 (by simp)⟩
  · rw [atL_set_ne _ _ _ _ (by omega)]
    constructor
    · rw [World.cell?_setCells_out _ _ _ _ _ (by intro _ _; simp only [List.length_cons, List.length_nil]; omega)]; exact h1
    · rw [World.cell?_setCells_out _ _ _ _ _ (by intro _ _; simp only [List.length_cons, List.length_nil]; omega)]; exact h2

theorem below_cells {B g : Nat} (hb : B ≤ g) : ∀ (vs : List Value) (o : Nat) (a w : World), Below B a w → Below B a (w.setCells g o vs)
  | [], _, _, _, h => h
  | v :: vs, o, a, w, h => below_cells hb vs (o + 1) a _ (h.setCell hb v)

/-- clear, of a slice of entries. -/
theorem run_clear2 {P : Program} (w : World) (t e ty : TypeId) (z : Value) (ht : P.underlying t = some (.slice e)) (hv : ∀ w, (zeroValue e).run P w = .ok z w) (hz : ∀ n, ∀ v ∈ (Builtin.zeroCells z.cells n).toList, v.oneCell' = true) (hzl : z.cells.size = 2) (b o n c : Nat) (hn : 0 < n)
    (hc : ∀ j, j < n * 2 → (w.cell? ⟨b, o + j, none⟩).isSome = true) (hf : ∀ j, j < n * 2 → w.frozen? ⟨b, o + j, none⟩ = false) :
    (Builtin.clear_ #[t] ty #[.slice (some ⟨b, o, none⟩) n c]).run P w = .ok (.tuple #[]) (w.setCells b o (Builtin.zeroCells z.cells n).toList) := by
  have hl : (Builtin.zeroCells z.cells n).toList.length = n * 2 := by simp [Builtin.zeroCells, hzl]
  have hst := run_storeCells_cells (P := P) b o (Builtin.zeroCells z.cells n).toList 0 w (by rw [hl]; simpa using hc) (by rw [hl]; simpa using hf) (hz n)
  simp only [Nat.add_zero] at hst
  obtain ⟨m, rfl⟩ : ∃ m, n = m + 1 := ⟨n - 1, by omega⟩
  simp [Builtin.clear_, run_underlying ht, hv, hst]

theorem zero_one (n : Nat) : ∀ v ∈ (Builtin.zeroCells (Value.agg #[.int .u16 0, .int .u32 0]).cells n).toList, v.oneCell' = true := by
  intro v hv
  simp only [Builtin.zeroCells, Array.toList_map, List.mem_map] at hv
  obtain ⟨i, _, rfl⟩ := hv
  rcases Nat.mod_two_eq_zero_or_one i with e | e
  · have : (Value.agg #[.int .u16 0, .int .u32 0]).cells.size = 2 := rfl
    rw [this, e]; rfl
  · have : (Value.agg #[.int .u16 0, .int .u32 0]).cells.size = 2 := rfl
    rw [this, e]; rfl

end Go.Proofs.YthihfigphedomaaDoor
