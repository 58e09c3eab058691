
/-
  What check's calls are to leave: bytes that are told, lists of bytes that come in. No conditions beyond what each theorem states.
-/
import Derived.Test.YthohdnijngckiaaCheckRef
namespace Go.Proofs.Ythohdnijngckiaa
open Go.ChangeShapes Go.WideShapes Go.ChangeAt Go.RowKit Go.Lib
set_option linter.unusedVariables false
set_option linter.unusedSimpArgs false

/-- Bytes that are told. -/
def Told (bs : List UInt8) (w : World) (e : Ending) (w' : World) : Prop := ∃ p c, e = .returned (.slice p bs.length c) ∧ BRow w' p bs ∧ bs.length ≤ c ∧ (p = none → c = 0) ∧ Below w.heap.size w w'
/-- What Open tells. -/
def bodyL (bs : List UInt8) : List UInt8 := if openL bs = true then bs.take (bs.length - 4) else []
def Opened (bs : List UInt8) (w : World) (e : Ending) (w' : World) : Prop := ∃ p c, e = .returned (.tuple #[.slice p (bodyL bs).length c, .bool (openL bs)]) ∧ BRow w' p (bodyL bs) ∧ (bodyL bs).length ≤ c ∧ (p = none → c = 0) ∧ Below w.heap.size w w'
/-- Lists of bytes that lie behind an address. -/
def LRow (w : World) (pp : Option Addr) (ls : List (List UInt8)) : Prop :=
  ∀ i, i < ls.length → ∃ b o p c, pp = some ⟨b, o, none⟩ ∧ w.cell? ⟨b, o + i, none⟩ = some (.slice p (ls.getD i []).length c) ∧ BRow w p (ls.getD i []) ∧ (ls.getD i []).length ≤ c ∧ (p = none → c = 0)
theorem LRow.nil (w : World) (pp : Option Addr) : LRow w pp [] := fun i hi => by simp at hi
theorem brow_alloc {w : World} {p : Option Addr} {bs : List UInt8} (h : BRow w p bs) (o : Obj) : BRow (w.alloc o) p bs := h.below (below_alloc (Below.refl _ _) o)
theorem lrow_one {w : World} {p : Option Addr} {c : Nat} {bs : List UInt8} (h : BRow w p bs) (hc : bs.length ≤ c) (hp : p = none → c = 0) (t : TypeId) : LRow (w.alloc (.cells #[.slice p bs.length c] t)) (some ⟨w.heap.size, 0, none⟩) [bs] := fun i hi => by
  have : i = 0 := by simpa using hi
  subst this
  exact ⟨w.heap.size, 0, p, c, rfl, by rw [cell_of_block (heap_alloc_new w _)]; rfl, brow_alloc h _, hc, hp⟩
theorem lrow_two {w : World} {p q : Option Addr} {c d : Nat} {xs bs : List UInt8} (h : BRow w p xs) (hc : xs.length ≤ c) (hp : p = none → c = 0) (k : BRow w q bs) (kc : bs.length ≤ d) (kp : q = none → d = 0) (t : TypeId) :
    LRow (w.alloc (.cells #[.slice p xs.length c, .slice q bs.length d] t)) (some ⟨w.heap.size, 0, none⟩) [xs, bs] := fun i hi => by
  have : i = 0 ∨ i = 1 := by have : i < 2 := hi; omega
  rcases this with rfl | rfl
  · exact ⟨w.heap.size, 0, p, c, rfl, by rw [cell_of_block (heap_alloc_new w _)]; rfl, brow_alloc h _, hc, hp⟩
  · exact ⟨w.heap.size, 0, q, d, rfl, by rw [cell_of_block (heap_alloc_new w _)]; rfl, brow_alloc k _, kc, kp⟩
theorem owns_at {w : World} {B n : Nat} {v : Value} {e : TypeId} {bs : List UInt8} (h : w.ownsRow B e 1 v n (byteCells bs)) (hn : 1 ≤ bs.length) : ∃ g c, v = .slice (some ⟨g, 0, none⟩) bs.length c ∧ B ≤ g ∧ bs.length ≤ c ∧ BRow w (some ⟨g, 0, none⟩) bs := by
  obtain ⟨p, c, rfl, rfl, hr, _⟩ := brow_owns h
  rcases h.2 with ⟨hv, h0⟩ | ⟨g, cap, cur, hv, hb, _, h1, _⟩
  · omega
  · cases hv
    exact ⟨g, c, rfl, hb, h1, hr⟩
theorem byteCells_set (bs : List UInt8) (i : Nat) (y : UInt8) : (byteCells bs).set i (.int .u8 (y.toNat : Int)) = byteCells (bs.set i y) := by
  unfold byteCells
  rw [List.map_set]
theorem open_zero : openL [0, 0, 0, 0] = true ∧ bodyL [0, 0, 0, 0] = [] := by
  have h : openL [0, 0, 0, 0] = true := open_seal []
  exact ⟨h, by unfold bodyL; rw [if_pos h]; rfl⟩
theorem sum_zero : sumL [] = 0#32 := by decide
theorem seal_zero : sealL [] = [0, 0, 0, 0] := by unfold sealL; rw [sum_zero]; rfl

end Go.Proofs.Ythohdnijngckiaa
