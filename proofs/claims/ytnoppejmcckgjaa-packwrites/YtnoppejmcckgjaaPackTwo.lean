
/-
  A writer and a row of bytes beside it: what each step leaves of the other. No conditions beyond what each theorem states.
-/
import Derived.Test.YtnoppejmcckgjaaPackCutMath
namespace Go.Proofs.Ytnoppejmcckgjaa
open Go.ChangeShapes Go.WideShapes Go.ChangeAt Go.RowKit Go.Lib
set_option linter.unusedVariables false
set_option linter.unusedSimpArgs false

/-- A writer at block K that holds b1, and a row u that holds b2, apart from one another. -/
def Two (B K : Nat) (b1 b2 : List UInt8) (u : Value) (W : World) : Prop :=
  ∃ v, Wr B K v b1 W ∧ W.ownsRow B 5 1 u b2.length (byteCells b2) ∧ ∀ k, v.ownBlock = some k → u.ownBlock ≠ some k
theorem Wr.kept {B K : Nat} {v : Value} {bs : List UInt8} {w w' : World} {S : Nat → Prop} (h : Wr B K v bs w) (hk : Kept S w w') (h1 : ¬ S K) (h2 : ∀ k, v.ownBlock = some k → ¬ S k) : Wr B K v bs w' :=
  ⟨h.base, Nat.le_trans h.room hk.size, hk.stays h.box h1, hk.row h.row h2⟩
theorem Two.below {B K : Nat} {b1 b2 : List UInt8} {u : Value} {W W' : World} (h : Two B K b1 b2 u W) (hb : Below W.heap.size W W') : Two B K b1 b2 u W' := by
  obtain ⟨v, h1, h2, h3⟩ := h
  exact ⟨v, h1.kept (S := fun _ => False) (Kept.ofBelow hb) (fun f => f) (fun _ _ f => f), (Kept.ofBelow (S := fun _ => False) hb).row h2 (fun _ _ f => f), h3⟩
theorem Two.room {B K : Nat} {b1 b2 : List UInt8} {u : Value} {W : World} (h : Two B K b1 b2 u W) : B ≤ W.heap.size := by obtain ⟨v, h1, _⟩ := h; exact h1.room
theorem row_apart {W : World} {B n : Nat} {u : Value} {xs : List Value} {k : Nat} {cs : Array Value} {t : TypeId} {f : Nat × Nat} (h : W.ownsRow B 5 1 u n xs) (hk : W.heap[k]? = some (.cells cs t f)) (ht : t ≠ 5) : u.ownBlock ≠ some k := by
  intro e
  rcases h.2 with ⟨rfl, _⟩ | ⟨g, cap, cur, rfl, _, hg, _⟩
  · cases e
  · simp [Value.ownBlock] at e
    subst e
    rw [hk] at hg
    simp only [Option.some.injEq, Obj.cells.injEq] at hg
    exact ht hg.2.1
/-- A writer's call. -/
theorem Two.call {B K : Nat} {b1 b2 cs : List UInt8} {u : Value} {W : World} {f : FuncId} {args : Array Value} (h : Two B K b1 b2 u W)
    (hc : ∀ v, Wr B K v b1 W → Calls Try.prog f args W fun e w' => e = .returned (.tuple #[]) ∧ Wrote B K v b1 cs W w') :
    Calls Try.prog f args W fun e w' => e = .returned (.tuple #[]) ∧ Two B K (b1 ++ cs) b2 u w' ∧ Below B W w' ∧ ∀ k x, OBox k x W → OBox k x w' := by
  obtain ⟨v, h1, h2, h3⟩ := h
  refine (hc v h1).mono ?_
  rintro e w' ⟨rfl, v', k1, k2, k3⟩
  have huK : u.ownBlock ≠ some K := row_apart h2 h1.box (by decide)
  refine ⟨rfl, ⟨v', k1, k3.row h2 ?_, ?_⟩, h1.bound k3, fun k x hx => ?_⟩
  · rintro k e1 (rfl | e2)
    · exact huK e1
    · exact h3 k e2 e1
  · intro k e1 e2
    rcases k2 with e3 | ⟨g, e3, hg⟩
    · exact h3 k (e3 ▸ e1) e2
    · rw [e3] at e1; cases e1
      have := (h2.lt _ e2).2
      omega
  · refine k3.stays hx ?_
    rintro (rfl | e2)
    · have := h1.box; rw [show W.heap[k]? = _ from hx] at this
      simp only [Option.some.injEq, Obj.cells.injEq] at this
      exact absurd this.2.1 (by decide)
    · exact row_apart h1.row hx (by decide) e2
/-- An append to the row. -/
theorem Two.onto {B K : Nat} {b1 b2 cs : List UInt8} {u u' : Value} {W w1 : World} (h : Two B K b1 b2 u W) (hown : w1.ownsRow B 5 1 u' (b2.length + cs.length) (byteCells b2 ++ byteCells cs)) (hg : W.grownBy w1 u.ownBlock) (hat : u'.ownBlock = u.ownBlock ∨ u'.ownBlock = some W.heap.size) :
    Two B K b1 (b2 ++ cs) u' w1 ∧ Below B W w1 := by
  obtain ⟨v, h1, h2, h3⟩ := h
  have huK : u.ownBlock ≠ some K := row_apart h2 h1.box (by decide)
  have hk : Kept (fun k => u.ownBlock = some k) W w1 := Kept.ofGrown hg (fun k e => e)
  refine ⟨⟨v, h1.kept hk huK (fun k e1 e2 => h3 k e1 e2), by rw [byteCells_append, List.length_append]; exact hown, ?_⟩, hk.below h1.room (fun k e => (h2.lt k e).1)⟩
  intro k e1 e2
  rcases hat with e3 | e3
  · exact h3 k e1 (e3 ▸ e2)
  · rw [e3] at e2; cases e2
    have := (h1.row.lt _ e1).2
    omega
theorem Two.row {B K : Nat} {b1 b2 : List UInt8} {u : Value} {W : World} (h : Two B K b1 b2 u W) : W.ownsRow B 5 1 u b2.length (byteCells b2) := by obtain ⟨v, h1, h2, h3⟩ := h; exact h2

/-- Any slice of bytes as a text. -/
theorem conv_any {w : World} {p : Option Addr} {n c : Nat} {bs : List UInt8} (h : BRow w p bs) (hn : bs.length = n) :
    (convert 25 9 (.slice p n c)).run Try.prog w = .ok (.string ⟨bs.toArray⟩) w := by
  cases p with
  | some a =>
    cases bs with
    | nil =>
      subst hn
      exact run_convert_bytes_back (P := Try.prog) w 25 9 5 a c [] Try.underlying25 Try.underlying5 Try.underlying9 (fun j hj => by simp at hj)
    | cons x xs =>
      obtain ⟨b, o, e, _⟩ := h 0 (by simp)
      cases e
      exact conv_bytes h hn
  | none =>
    cases bs with
    | nil =>
      subst hn
      rw [List.length_nil, run_convert_bytes_string (P := Try.prog) w 25 9 5 none 0 c Try.underlying25 Try.underlying5 Try.underlying9]
      rfl
    | cons x xs => obtain ⟨b, o, e, _⟩ := h 0 (by simp); cases e

end Go.Proofs.Ytnoppejmcckgjaa
