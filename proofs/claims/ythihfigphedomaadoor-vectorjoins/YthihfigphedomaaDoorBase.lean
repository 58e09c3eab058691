/-
  Entries of vectors as plain lists, how a slice of entries lies in memory, and what the document's Get hands back. No conditions beyond what each theorem states.
-/
import Derived.Test.YthihfigphedomaaDoorRows
import Derived.WalkKit
import Derived.ProofKit
import Derived.OpenShut
import Derived.Below
import Derived.BigQuiet
import Derived.WalkSpells
import Derived.WalkLawsBesides
import Derived.Deep.LoopGhost
namespace Go.Proofs.YthihfigphedomaaDoor
open Go.ChangeShapes Go.WideShapes Go.ChangeAt Go.RowKit
set_option linter.unusedVariables false
set_option linter.unusedSimpArgs false

abbrev En := Int × Int
def atL (xs : List En) (i : Nat) : En := xs.getD i (0, 0)

/-- A slice's address, at which the entries lie, two cells each. -/
def Row (w : World) (p : Option Addr) (xs : List En) : Prop :=
  ∀ i, i < xs.length → ∃ b o, p = some ⟨b, o, none⟩ ∧ w.cell? ⟨b, o + i * 2, none⟩ = some (.int .u16 (atL xs i).1) ∧ w.cell? ⟨b, o + i * 2 + 1, none⟩ = some (.int .u32 (atL xs i).2)

theorem Row.below {w w' : World} {p : Option Addr} {xs : List En} (h : Row w p xs) (hb : Below w.heap.size w w') : Row w' p xs := fun i hi => by
  obtain ⟨b, o, e, h1, h2⟩ := h i hi
  exact ⟨b, o, e, by rw [hb.cell (block_lt_of_cell h1)]; exact h1, by rw [hb.cell (block_lt_of_cell h2)]; exact h2⟩

theorem below_step {w w' w'' : World} (h : Below w.heap.size w w') (k : Below w'.heap.size w' w'') : Below w.heap.size w w'' := h.trans (k.mono h.size)
theorem below_alloc {w W : World} (h : Below w.heap.size w W) (o : Obj) : Below w.heap.size w (W.alloc o) := h.alloc h.size o

/-- How far a replica's work is known. -/
def getL : List En → Int → Int
  | [], _ => 0
  | x :: xs, r => if x.1 = r then x.2 else getL xs r

theorem getL_none {xs : List En} {r : Int} (h : ∀ i, i < xs.length → (atL xs i).1 ≠ r) : getL xs r = 0 := by
  induction xs with
  | nil => rfl
  | cons x xs ih =>
    have h0 := h 0 (by simp)
    simp [atL] at h0
    rw [getL, if_neg h0]
    exact ih fun i hi => by have := h (i + 1) (by simp; omega); simpa [atL] using this

theorem getL_at {xs : List En} {r : Int} {k : Nat} (hk : k < xs.length) (h : ∀ i, i < k → (atL xs i).1 ≠ r) (e : (atL xs k).1 = r) : getL xs r = (atL xs k).2 := by
  induction xs generalizing k with
  | nil => simp at hk
  | cons x xs ih =>
    cases k with
    | zero => simp [atL] at e ⊢; rw [getL, if_pos e]
    | succ k =>
      have h0 := h 0 (by omega)
      simp [atL] at h0
      rw [getL, if_neg h0, ih (k := k) (by simpa using hk) (fun i hi => by have := h (i + 1) (by omega); simpa [atL] using this) (by simpa [atL] using e)]
      simp [atL]

set_option maxHeartbeats 1600000 in
theorem refget_any (xs : List En) (r : Int) (p : Option Addr) (c : Nat) (w : World) (hR : Row w p xs) (hl : xs.length ≤ 4611686018427387904) :
    Calls Tryd.prog 13 #[.slice p xs.length c, .int .u16 r] w fun e w' => e = .returned (.int .u32 (getL xs r)) ∧ w' = w := by
  go_enter Tryd.func13, Tryd.ntmps13
  go_wp2
  go_loopg [5] xs.length (fun g i wr => ∃ k : Nat, k ≤ xs.length ∧ xs.length - k ≤ g ∧ i = .int .i64 k ∧ wr = w ∧ ∀ j, j < k → (atL xs j).1 ≠ r)
  case atStart => exact ⟨0, Nat.zero_le _, by omega, rfl, rfl, fun j hj => by omega⟩
  case round =>
    obtain ⟨k, hk, hg, rfl, rfl, hno⟩ := hrel
    by_cases hlt : k < xs.length
    · obtain ⟨b, o, rfl, c0, c1⟩ := hR k hlt
      have HN : Hid (∀ j, j < k → (atL xs j).1 ≠ r) := hno
      have HE : Hid (∀ j, (atL xs j).1 = (atL xs j).1) := fun _ => rfl
      clear hno hR
      generalize hx : (atL xs k).1 = x at c0
      generalize hy : (atL xs k).2 = y at c1
      have B : Hid ((atL xs k).1 = x ∧ (atL xs k).2 = y) := ⟨hx, hy⟩
      clear hx hy
      by_cases he : x = r
      · subst he
        go_wp2
        go_ret
        exact ⟨by rw [getL_at hlt HN.out B.out.1, B.out.2]; rfl, rfl⟩
      · have he' : (x == r) = false := by simp [he]
        go_wp2
        go_roundg (xs.length - (k + 1))
        case measure => omega
        case rel => exact ⟨k + 1, by omega, Nat.le_refl _, by go_num, rfl, fun j hj => by
          by_cases e : j = k
          · subst e; rw [B.out.1]; exact he
          · exact HN.out j (by omega)⟩
    · have : k = xs.length := by omega
      subst this
      have HN : Hid (∀ j, j < xs.length → (atL xs j).1 ≠ r) := hno
      clear hno
      go_wp2
      go_ret
      exact ⟨by rw [getL_none HN.out]; rfl, rfl⟩

end Go.Proofs.YthihfigphedomaaDoor
