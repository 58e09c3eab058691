
/-
  What the laws of layer 7 lean on: what span's calls hand back (to be proved of the landed code), and the laws' own anchor under that. No conditions beyond what each theorem states.
-/
import Derived.Test.YtedlmngfkkpmgaaSpanLaw1
import Derived.Test.YtedlmngfkkpmgaaSpanRef4
import Derived.Test.YtedlmngfkkpmgaaSpanMath2
namespace Go.Proofs.Ytedlmngfkkpmgaa
open Go.ChangeShapes Go.WideShapes Go.ChangeAt Go.RowKit Go.Lib
set_option linter.unusedVariables false
set_option linter.unusedSimpArgs false

def TotalSpec : Prop := ∀ (l : List Sp) (p : Option Addr) (c : Nat) (w : World), GRow layS w p l → RightS l → FitSs l → l.length ≤ 3000 → totalL l ≤ 3000 → l.length ≤ c → (p = none → c = 0) → Calls Try.prog 51 #[.slice p l.length c] w fun e w' => e = .returned (.int .i64 (totalL l : Int)) ∧ Below w.heap.size w w'
def ApartSpec : Prop := ∀ (l : List Sp) (p : Option Addr) (c : Nat) (w : World), GRow layS w p l → RightS l → FitSs l → l.length ≤ 3000 → totalL l ≤ 3000 → l.length ≤ c → (p = none → c = 0) → Calls Try.prog 81 #[.slice p l.length c] w fun e w' => e = .returned (.bool (apartB l)) ∧ Below w.heap.size w w'
def HasSpec : Prop := ∀ (s : Sp) (a : Nm) (w : World), rightS s = true → FitS s → FitN a → Calls Try.prog 84 #[sv s, nv a] w fun e w' => e = .returned (.bool (decide (a ∈ idsS s))) ∧ Below w.heap.size w w'
def LastSpec : Prop := ∀ (s : Sp) (w : World), rightS s = true → FitS s → Calls Try.prog 82 #[sv s] w fun e w' => e = .returned (nv (s.1, s.2.1 + s.2.2 - 1)) ∧ Below w.heap.size w w'
def cutA (s : Sp) (n : Int) : Sp := if 1 ≤ n ∧ n < s.2.2 then (s.1, s.2.1, n) else s0
def cutB (s : Sp) (n : Int) : Sp := if 1 ≤ n ∧ n < s.2.2 then (s.1, s.2.1 + n, s.2.2 - n) else s0
def RightSpec : Prop := ∀ (s : Sp) (w : World), FitS s → Calls Try.prog 79 #[sv s] w fun e w' => e = .returned (.bool (rightS s)) ∧ Below w.heap.size w w'
def FitSpec : Prop := ∀ (l : List Sp) (p : Option Addr) (c : Nat) (w : World), GRow layS w p l → FitSs l → l.length ≤ 1100 → l.length ≤ c → (p = none → c = 0) → Calls Try.prog 76 #[.slice p l.length c] w fun e w' => e = .returned (.int .i64 (fitL l)) ∧ Below w.heap.size w w'

theorem grow_three {W : World} {p : Addr} {r n m : Int} (h0 : W.cell? p = some (.int .u16 r)) (h1 : W.cell? (p.add 1) = some (.int .u32 n)) (h2 : W.cell? (p.add 2) = some (.int .i64 m)) : GRow layS W (some p) [(r, n, m)] := by
  obtain ⟨b, o, s⟩ := p
  have hs : s = none := by simpa using World.cell?_spot h0
  subst hs
  rw [Addr.add_lit] at h1 h2
  intro j u hj
  rw [layS.flat_one] at hj
  match j, hj with
  | 0, hj => simp [layS] at hj; subst hj; exact ⟨b, o, rfl, h0⟩
  | 1, hj => simp [layS] at hj; subst hj; exact ⟨b, o, rfl, h1⟩
  | 2, hj => simp [layS] at hj; subst hj; exact ⟨b, o, rfl, h2⟩
theorem three_names (w : World) (t : TypeId) : GRow layI (w.alloc (.cells #[.int .u16 1, .int .u32 4, .int .u16 1, .int .u32 5, .int .u16 2, .int .u32 6] t)) (some ⟨w.heap.size, 0, none⟩) [(1, 4), (1, 5), (2, 6)] := by
  have h : (w.alloc (.cells #[.int .u16 1, .int .u32 4, .int .u16 1, .int .u32 5, .int .u16 2, .int .u32 6] t)).heap[w.heap.size]? = some (.cells (layI.flat [(1, 4), (1, 5), (2, 6)]).toArray t (0, 0)) := heap_alloc_new w _
  exact grow_block h
end Go.Proofs.Ytedlmngfkkpmgaa
