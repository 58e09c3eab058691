
/-
  Bytes that are kept by names, as a plain list in the order in which they came: what is found, and what is told of a gap. Of no program; no conditions beyond what each theorem states.
-/
import Derived.Test.YtafhjccghbpbbaaPackMath
import Derived.Test.YtafhjccghbpbbaaLay
namespace Go.Proofs.Ytafhjccghbpbbaa
open Go.ChangeShapes Go.WideShapes Go.ChangeAt Go.RowKit Go.Lib
set_option linter.unusedVariables false
set_option linter.unusedSimpArgs false

/-- A name, and its bytes. -/
structure Lm where
  r : Int
  s : Int
  b : List UInt8
def l0L : Lm := ⟨0, 0, []⟩
def nameL (x : Lm) (r s : Int) : Bool := decide (x.r = r ∧ x.s = s)
/-- The place of a name. -/
def placeL : List Lm → Int → Int → Option Nat
  | [], _, _ => none
  | x :: l, r, s => if nameL x r s = true then some 0 else (placeL l r s).map (· + 1)
def placeI (l : List Lm) (r s : Int) : Int := match placeL l r s with | some i => (i : Int) | none => -1
def keptL (l : List Lm) (r s : Int) : Bool := (placeL l r s).isSome
theorem nameL_iff {x : Lm} {r s : Int} : nameL x r s = true ↔ x.r = r ∧ x.s = s := by unfold nameL; exact decide_eq_true_iff
theorem placeL_at {l : List Lm} {r s : Int} {k : Nat} (hk : k < l.length) (hno : ∀ j, j < k → nameL (l.getD j l0L) r s = false) (hy : nameL (l.getD k l0L) r s = true) : placeL l r s = some k := by
  induction l generalizing k with
  | nil => simp at hk
  | cons x l ih =>
    cases k with
    | zero =>
      have hy : nameL x r s = true := by simpa using hy
      rw [placeL, if_pos hy]
    | succ k =>
      have h0 : nameL x r s = false := by simpa using hno 0 (by omega)
      rw [placeL, if_neg (by rw [h0]; exact Bool.false_ne_true), ih (k := k) (by simpa using hk) (fun j hj => by have := hno (j + 1) (by omega); simpa using this) (by simpa using hy)]
      rfl
theorem placeL_no {l : List Lm} {r s : Int} (hno : ∀ j, j < l.length → nameL (l.getD j l0L) r s = false) : placeL l r s = none := by
  induction l with
  | nil => rfl
  | cons x l ih =>
    have h0 : nameL x r s = false := by simpa using hno 0 (by simp)
    rw [placeL, if_neg (by rw [h0]; exact Bool.false_ne_true), ih (fun j hj => by have := hno (j + 1) (by simpa using hj); simpa using this)]
    rfl
theorem placeL_some {l : List Lm} {r s : Int} {i : Nat} (h : placeL l r s = some i) : i < l.length ∧ nameL (l.getD i l0L) r s = true := by
  induction l generalizing i with
  | nil => cases h
  | cons x l ih =>
    rw [placeL] at h
    by_cases hx : nameL x r s = true
    · rw [if_pos hx] at h
      cases h
      exact ⟨by simp, by simpa using hx⟩
    · rw [if_neg hx] at h
      cases hp : placeL l r s with
      | none => rw [hp] at h; cases h
      | some j =>
        rw [hp] at h
        cases h
        obtain ⟨h1, h2⟩ := ih hp
        exact ⟨by simpa using h1, by simpa using h2⟩
/-- What is found by a name. -/
def foundL (l : List Lm) (r s : Int) : List (List UInt8) := match placeL l r s with | some i => [(l.getD i l0L).b] | none => []
/-- Of a gap, from the k-th name on: at most so many. -/
def replyG (l : List Lm) (r fr tu most : Int) : Nat → Nat → List (List UInt8) → List (List UInt8)
  | 0, _, out => out
  | n + 1, k, out => if tu < fr + (k : Int) ∨ most ≤ (out.length : Int) then out else replyG l r fr tu most n (k + 1) (out ++ foundL l r (fr + (k : Int)))
def replyL (l : List Lm) (r fr tu most : Int) : List (List UInt8) := replyG l r fr tu most 1001 0 []
theorem foundL_len (l : List Lm) (r s : Int) : (foundL l r s).length ≤ 1 := by
  unfold foundL
  cases placeL l r s <;> simp
theorem replyG_len (l : List Lm) (r fr tu most : Int) (n : Nat) : ∀ (k : Nat) (out : List (List UInt8)), (replyG l r fr tu most n k out).length ≤ out.length + n := by
  induction n with
  | zero => intro k out; exact Nat.le_refl _
  | succ n ih =>
    intro k out
    rw [replyG]
    split
    · omega
    · have h1 := ih (k + 1) (out ++ foundL l r (fr + (k : Int)))
      have h2 := foundL_len l r (fr + (k : Int))
      rw [List.length_append] at h1
      omega
theorem replyL_len (l : List Lm) (r fr tu most : Int) : (replyL l r fr tu most).length ≤ 1001 := by
  have := replyG_len l r fr tu most 1001 0 []
  unfold replyL
  simpa using this
/-- What is kept once more is put. -/
def putG (l : List Lm) (x : Lm) : List Lm := if keptL l x.r x.s = true then l else l ++ [x]
end Go.Proofs.Ytafhjccghbpbbaa
