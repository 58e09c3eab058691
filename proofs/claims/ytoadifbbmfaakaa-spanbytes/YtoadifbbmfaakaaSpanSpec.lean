
/-
  What the laws of layer 7 lean on: what span's calls hand back (to be proved of the landed code), and the laws' own anchor under that. No conditions beyond what each theorem states.
-/
import Derived.Test.YtoadifbbmfaakaaSpanLaw1
import Derived.Test.YtoadifbbmfaakaaSpanRef4
import Derived.Test.YtoadifbbmfaakaaSpanMath2
namespace Go.Proofs.Ytoadifbbmfaakaa
open Go.ChangeShapes Go.WideShapes Go.ChangeAt Go.RowKit Go.Lib
set_option linter.unusedVariables false
set_option linter.unusedSimpArgs false

def OfSpec : Prop := ∀ (ids : List Nm) (p : Option Addr) (c : Nat) (w : World), GRow layI w p ids → RightN ids → FitNs ids → ids.length ≤ 3000 → ids.length ≤ c → (p = none → c = 0) → Calls Try.prog 24 #[.slice p ids.length c] w (Gave layS w (ofL ids))
def IdsSpec : Prop := ∀ (l : List Sp) (p : Option Addr) (c : Nat) (w : World), GRow layS w p l → RightS l → FitSs l → l.length ≤ 3000 → totalL l ≤ 3000 → l.length ≤ c → (p = none → c = 0) → Calls Try.prog 13 #[.slice p l.length c] w (Gave layI w (idsL l))
def TotalSpec : Prop := ∀ (l : List Sp) (p : Option Addr) (c : Nat) (w : World), GRow layS w p l → RightS l → FitSs l → l.length ≤ 3000 → totalL l ≤ 3000 → l.length ≤ c → (p = none → c = 0) → Calls Try.prog 14 #[.slice p l.length c] w fun e w' => e = .returned (.int .i64 (totalL l : Int)) ∧ Below w.heap.size w w'
def ApartSpec : Prop := ∀ (l : List Sp) (p : Option Addr) (c : Nat) (w : World), GRow layS w p l → RightS l → FitSs l → l.length ≤ 3000 → totalL l ≤ 3000 → l.length ≤ c → (p = none → c = 0) → Calls Try.prog 15 #[.slice p l.length c] w fun e w' => e = .returned (.bool (apartB l)) ∧ Below w.heap.size w w'
def LessSpec : Prop := ∀ (l wo : List Sp) (p q : Option Addr) (c d : Nat) (w : World), GRow layS w p l → GRow layS w q wo → RightS l → RightS wo → FitSs l → FitSs wo → l.length ≤ 3000 → wo.length ≤ 3000 → totalL l ≤ 3000 → totalL wo ≤ 3000 → l.length ≤ c → (p = none → c = 0) → wo.length ≤ d → (q = none → d = 0) → Calls Try.prog 18 #[.slice p l.length c, .slice q wo.length d] w (Gave layS w (lessL l wo))
def HasSpec : Prop := ∀ (s : Sp) (a : Nm) (w : World), rightS s = true → FitS s → FitN a → Calls Try.prog 20 #[sv s, nv a] w fun e w' => e = .returned (.bool (decide (a ∈ idsS s))) ∧ Below w.heap.size w w'
def LastSpec : Prop := ∀ (s : Sp) (w : World), rightS s = true → FitS s → Calls Try.prog 22 #[sv s] w fun e w' => e = .returned (nv (s.1, s.2.1 + s.2.2 - 1)) ∧ Below w.heap.size w w'
def cutA (s : Sp) (n : Int) : Sp := if 1 ≤ n ∧ n < s.2.2 then (s.1, s.2.1, n) else s0
def cutB (s : Sp) (n : Int) : Sp := if 1 ≤ n ∧ n < s.2.2 then (s.1, s.2.1 + n, s.2.2 - n) else s0
def CutSpec : Prop := ∀ (s : Sp) (n : Int) (w : World), rightS s = true → FitS s → -9223372036854775808 ≤ n → n ≤ 9223372036854775807 → Calls Try.prog 23 #[sv s, .int .i64 n] w fun e w' => e = .returned (.tuple #[sv (cutA s n), sv (cutB s n), .bool (decide (1 ≤ n ∧ n < s.2.2))]) ∧ Below w.heap.size w w'
def RightSpec : Prop := ∀ (s : Sp) (w : World), FitS s → Calls Try.prog 26 #[sv s] w fun e w' => e = .returned (.bool (rightS s)) ∧ Below w.heap.size w w'
def FitSpec : Prop := ∀ (l : List Sp) (p : Option Addr) (c : Nat) (w : World), GRow layS w p l → FitSs l → l.length ≤ 1100 → l.length ≤ c → (p = none → c = 0) → Calls Try.prog 28 #[.slice p l.length c] w fun e w' => e = .returned (.int .i64 (fitL l)) ∧ Below w.heap.size w w'

theorem grow_three {W : World} {p : Addr} {r n m : Int} (h0 : W.cell? p = some (.int .u16 r)) (h1 : W.cell? (p.add 1) = some (.int .u32 n)) (h2 : W.cell? (p.add 2) = some (.int .i64 m)) : GRow layS W (some p) [(r, n, m)] := by
  obtain ⟨b, o, s⟩ := p
  have hs : s = none := by simpa using World.cell?_spot h0
  subst hs
  rw [Addr.add_lit] at h1 h2
  intro j u hj
  rw [layS.flat_one] at hj
  match j, hj with
  | 0, hj => simp [layS] at hj; subst hj; exact ⟨b, o, rfl, h0⟩
  | 1, hj => simp [layS] at hj; subst hj; exact ⟨b, o, rfl, h1⟩
  | 2, hj => simp [layS] at hj; subst hj; exact ⟨b, o, rfl, h2⟩
theorem three_names (w : World) (t : TypeId) : GRow layI (w.alloc (.cells #[.int .u16 1, .int .u32 4, .int .u16 1, .int .u32 5, .int .u16 2, .int .u32 6] t)) (some ⟨w.heap.size, 0, none⟩) [(1, 4), (1, 5), (2, 6)] := by
  have h : (w.alloc (.cells #[.int .u16 1, .int .u32 4, .int .u16 1, .int .u32 5, .int .u16 2, .int .u32 6] t)).heap[w.heap.size]? = some (.cells (layI.flat [(1, 4), (1, 5), (2, 6)]).toArray t (0, 0)) := heap_alloc_new w _
  exact grow_block h
set_option maxHeartbeats 1600000 in
theorem anchor_any (HOF : OfSpec) (w : World) : Calls Try.prog 8 #[] w fun e w' => e = .returned (.bool true) ∧ Below w.heap.size w w' := by
  have H := HOF [(1, 4), (1, 5), (2, 6)] (some ⟨w.heap.size, 0, none⟩) 3 _ (three_names w 26) (by intro x hx; simp at hx; rcases hx with rfl | rfl | rfl <;> rfl) (by intro x hx; simp at hx; rcases hx with rfl | rfl | rfl <;> (unfold FitN; simp)) (by simp) (by simp) (by intro h; cases h)
  have ho : ofL [(1, 4), (1, 5), (2, 6)] = [(1, 4, 2), (2, 6, 1)] := by decide
  rw [ho] at H
  have H := Lib.hid H
  clear ho
  go_enter Try.func8, Try.ntmps8
  go_wp2_with fail
  refine H.out.mono ?_
  rintro e w1 ⟨p1, c1, rfl, hr1, -, -, hb1⟩
  obtain ⟨b, o, rfl, -, -, c2⟩ := srow_at hr1 (i := 0) (by simp)
  obtain ⟨b', o', e', d0, d1, d2⟩ := srow_at hr1 (i := 1) (by simp)
  cases e'
  have HB : Hid (Below w.heap.size w w1) := below_step (below_alloc (Below.refl _ _) _) hb1
  simp at c2 d0 d1 d2
  clear hr1 hb1 H
  go_wp2
  go_ret
  exact ⟨rfl, HB.out⟩

end Go.Proofs.Ytoadifbbmfaakaa
