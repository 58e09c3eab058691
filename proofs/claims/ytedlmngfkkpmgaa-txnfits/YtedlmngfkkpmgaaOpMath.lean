
/-
  Operations: what may be done, by the document. Of no program; no conditions beyond what each theorem states.
-/
import Derived.Test.YtedlmngfkkpmgaaSpanPack
namespace Go.Proofs.Ytedlmngfkkpmgaa
open Go.ChangeShapes Go.WideShapes Go.ChangeAt Go.RowKit Go.Lib
set_option linter.unusedVariables false
set_option linter.unusedSimpArgs false

/-- An operation: its kind, its anchor's two numbers, its number, its text, its spans and its sequence number. -/
structure Om where
  kind : Int
  r : Int
  n : Int
  num : Int
  text : List UInt8
  spans : List Sp
  seq : Int
def o0 : Om := ⟨0, 0, 0, 0, [], [], 0⟩
/-- Values that the kinds hold. -/
def FitOm (o : Om) : Prop := -9223372036854775808 ≤ o.kind ∧ o.kind ≤ 9223372036854775807 ∧ 0 ≤ o.r ∧ o.r ≤ 65535 ∧ 0 ≤ o.n ∧ o.n ≤ 4294967295 ∧ 0 ≤ o.num ∧ o.num ≤ 4294967295 ∧ FitSs o.spans ∧ 0 ≤ o.seq ∧ o.seq ≤ 4294967295
def ov (o : Om) (p : Option Addr) (c : Nat) : Value := .agg #[.int .i64 o.kind, .int .u16 o.r, .int .u32 o.n, .int .u32 o.num, .string ⟨o.text.toArray⟩, .slice p o.spans.length c, .int .u32 o.seq]
def plain1 (x : UInt8) : Bool := x.toNat == 10 || (decide (32 ≤ x.toNat) && decide (x.toNat ≤ 126))
def plainB (s : List UInt8) : Bool := s.all plain1
theorem plainB_take {s : List UInt8} {k : Nat} (h : k < s.length) : plainB (s.take (k + 1)) = (plainB (s.take k) && plain1 (s.getD k 0)) := by
  unfold plainB
  rw [take_getD 0 h, List.all_append]
  simp
theorem plainB_no {s : List UInt8} {k : Nat} (h : k < s.length) (hx : plain1 (s.getD k 0) = false) : plainB s = false := by
  unfold plainB
  rw [List.all_eq_false]
  exact ⟨s.getD k 0, getD_mem 0 h, by rw [hx]; simp⟩
/-- How many atoms are made. -/
def atomsO (o : Om) : Int := if o.kind = 1 then (o.text.length : Int) else if o.kind = 3 then (totalL o.spans : Int) else 0
def numberedO (o : Om) : Bool := decide ((o.r = 0 ∧ o.n = 0 ∨ 1 ≤ o.n ∧ o.n ≤ 268435456) ∧ 1 ≤ o.num ∧ o.num ≤ 268435456 ∧ o.num + atomsO o - 1 ≤ 268435456)
def placelessO (o : Om) : Bool := decide (o.r = 0 ∧ o.n = 0 ∧ o.num = 0)
/-- May it be done? Else its error. -/
def fitO (o : Om) : Int :=
  if o.kind = 1 then (if 0 < o.spans.length ∨ o.seq ≠ 0 ∨ o.text = [] ∨ plainB o.text = false then 11 else if 64 < o.text.length then 15 else if numberedO o = false then 11 else 0)
  else if o.kind = 2 then (if o.text ≠ [] ∨ o.seq ≠ 0 ∨ placelessO o = false then 11 else fitL o.spans)
  else if o.kind = 3 then (if o.text ≠ [] ∨ o.seq ≠ 0 then 11 else if fitL o.spans ≠ 0 then fitL o.spans else if numberedO o = false then 11 else 0)
  else if o.kind = 4 ∨ o.kind = 5 then (if o.text ≠ [] ∨ 0 < o.spans.length ∨ placelessO o = false ∨ o.seq < 1 ∨ 268435456 < o.seq then 11 else 0)
  else 11
theorem fitA_ok : ∀ (l : List Sp) (N : Int), N ≤ 1024 → fitA N l = 0 → RightS l ∧ N + (totalL l : Int) ≤ 1024 := by
  intro l
  induction l with
  | nil => intro N hN _; exact ⟨fun x hx => by simp at hx, by rw [totalL_nil]; simpa using hN⟩
  | cons s l ih =>
    intro N hN h
    rw [fitA] at h
    by_cases h1 : rightS s = false
    · rw [if_pos h1] at h; cases h
    · rw [if_neg h1] at h
      by_cases h2 : N + s.2.2 > 1024
      · rw [if_pos h2] at h; cases h
      · rw [if_neg h2] at h
        obtain ⟨i1, i2⟩ := ih (N + s.2.2) (by omega) h
        have hs : rightS s = true := by simpa using h1
        have hr := rightS_iff.1 hs
        refine ⟨fun x hx => ?_, ?_⟩
        · rcases List.mem_cons.1 hx with rfl | hx
          · exact hs
          · exact i1 x hx
        · rw [totalL_cons]; omega
theorem fitL_ok {l : List Sp} (h : fitL l = 0) : RightS l ∧ totalL l ≤ 1024 ∧ l.length ≤ 1024 := by
  unfold fitL at h
  by_cases h0 : l.length = 0
  · rw [if_pos h0] at h; cases h
  · rw [if_neg h0] at h
    by_cases h1 : l.length > 1024
    · rw [if_pos h1] at h; cases h
    · rw [if_neg h1] at h
      by_cases h2 : fitA 0 l ≠ 0
      · rw [if_pos h2] at h; exact absurd h h2
      · have h3 : fitA 0 l = 0 := by simpa using h2
        obtain ⟨a, b⟩ := fitA_ok l 0 (by omega) h3
        exact ⟨a, by omega, by omega⟩
/-- What fits, kind by kind. -/
theorem fitO_cases {o : Om} (h : fitO o = 0) :
    (o.kind = 1 ∧ o.spans = [] ∧ o.seq = 0 ∧ o.text ≠ [] ∧ plainB o.text = true ∧ o.text.length ≤ 64 ∧ numberedO o = true) ∨
    (o.kind = 2 ∧ o.text = [] ∧ o.seq = 0 ∧ placelessO o = true ∧ fitL o.spans = 0) ∨
    (o.kind = 3 ∧ o.text = [] ∧ o.seq = 0 ∧ fitL o.spans = 0 ∧ numberedO o = true) ∨
    ((o.kind = 4 ∨ o.kind = 5) ∧ o.text = [] ∧ o.spans = [] ∧ placelessO o = true ∧ 1 ≤ o.seq ∧ o.seq ≤ 268435456) := by
  unfold fitO at h
  by_cases k1 : o.kind = 1
  · rw [if_pos k1] at h
    by_cases a : 0 < o.spans.length ∨ o.seq ≠ 0 ∨ o.text = [] ∨ plainB o.text = false
    · rw [if_pos a] at h; cases h
    · rw [if_neg a] at h
      by_cases b : 64 < o.text.length
      · rw [if_pos b] at h; cases h
      · rw [if_neg b] at h
        by_cases c : numberedO o = false
        · rw [if_pos c] at h; cases h
        · simp only [not_or] at a
          exact Or.inl ⟨k1, List.eq_nil_of_length_eq_zero (by omega), by simpa using a.2.1, a.2.2.1, by simpa using a.2.2.2, by omega, by simpa using c⟩
  · rw [if_neg k1] at h
    by_cases k2 : o.kind = 2
    · rw [if_pos k2] at h
      by_cases a : o.text ≠ [] ∨ o.seq ≠ 0 ∨ placelessO o = false
      · rw [if_pos a] at h; cases h
      · rw [if_neg a] at h
        simp only [not_or] at a
        exact Or.inr (Or.inl ⟨k2, by simpa using a.1, by simpa using a.2.1, by simpa using a.2.2, h⟩)
    · rw [if_neg k2] at h
      by_cases k3 : o.kind = 3
      · rw [if_pos k3] at h
        by_cases a : o.text ≠ [] ∨ o.seq ≠ 0
        · rw [if_pos a] at h; cases h
        · rw [if_neg a] at h
          by_cases b : fitL o.spans ≠ 0
          · rw [if_pos b] at h; exact absurd h b
          · rw [if_neg b] at h
            by_cases c : numberedO o = false
            · rw [if_pos c] at h; cases h
            · simp only [not_or] at a
              exact Or.inr (Or.inr (Or.inl ⟨k3, by simpa using a.1, by simpa using a.2, by simpa using b, by simpa using c⟩))
      · rw [if_neg k3] at h
        by_cases k4 : o.kind = 4 ∨ o.kind = 5
        · rw [if_pos k4] at h
          by_cases a : o.text ≠ [] ∨ 0 < o.spans.length ∨ placelessO o = false ∨ o.seq < 1 ∨ 268435456 < o.seq
          · rw [if_pos a] at h; cases h
          · simp only [not_or] at a
            exact Or.inr (Or.inr (Or.inr ⟨k4, by simpa using a.1, List.eq_nil_of_length_eq_zero (by omega), by simpa using a.2.2.1, by omega, by omega⟩))
        · rw [if_neg k4] at h; cases h
end Go.Proofs.Ytedlmngfkkpmgaa
