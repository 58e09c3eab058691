
/-
  Names and spans of names as plain lists. Of no program; no conditions beyond what each theorem states.
-/
import Derived.Test.YtedlmngfkkpmgaaLay
namespace Go.Proofs.Ytedlmngfkkpmgaa
open Go.ChangeShapes Go.WideShapes Go.ChangeAt Go.RowKit Go.Lib
set_option linter.unusedVariables false
set_option linter.unusedSimpArgs false

/-- A name: its replica and its number. A span: its first name, and how many. -/
abbrev Nm := Int × Int
abbrev Sp := Int × Int × Int
def n0 : Nm := (0, 0)
def s0 : Sp := (0, 0, 0)
def layI : Lay Nm := ⟨2, fun x => [.int .u16 x.1, .int .u32 x.2], fun _ => rfl, fun x u hu => by simp at hu; rcases hu with rfl | rfl <;> rfl⟩
def layS : Lay Sp := ⟨3, fun x => [.int .u16 x.1, .int .u32 x.2.1, .int .i64 x.2.2], fun _ => rfl, fun x u hu => by simp at hu; rcases hu with rfl | rfl | rfl <;> rfl⟩
theorem layI_enc (x : Nm) : layI.enc x = [.int .u16 x.1, .int .u32 x.2] := rfl
theorem layS_enc (x : Sp) : layS.enc x = [.int .u16 x.1, .int .u32 x.2.1, .int .i64 x.2.2] := rfl
theorem layI_pos : 0 < layI.k := by decide
theorem layS_pos : 0 < layS.k := by decide
theorem irow_at {w : World} {p : Option Addr} {xs : List Nm} (h : GRow layI w p xs) {i : Nat} (hi : i < xs.length) : ∃ b o, p = some ⟨b, o, none⟩ ∧ w.cell? ⟨b, o + i * 2, none⟩ = some (.int .u16 (xs.getD i n0).1) ∧ w.cell? ⟨b, o + i * 2 + 1, none⟩ = some (.int .u32 (xs.getD i n0).2) := by
  obtain ⟨b, o, e, h0⟩ := h.cell n0 hi (j := 0) rfl
  obtain ⟨b1, o1, e1, h1⟩ := h.cell n0 hi (j := 1) rfl
  rw [e] at e1
  cases e1
  exact ⟨b, o, e, h0, h1⟩
theorem srow_at {w : World} {p : Option Addr} {xs : List Sp} (h : GRow layS w p xs) {i : Nat} (hi : i < xs.length) : ∃ b o, p = some ⟨b, o, none⟩ ∧ w.cell? ⟨b, o + i * 3, none⟩ = some (.int .u16 (xs.getD i s0).1) ∧ w.cell? ⟨b, o + i * 3 + 1, none⟩ = some (.int .u32 (xs.getD i s0).2.1) ∧ w.cell? ⟨b, o + i * 3 + 2, none⟩ = some (.int .i64 (xs.getD i s0).2.2) := by
  obtain ⟨b, o, e, h0⟩ := h.cell s0 hi (j := 0) rfl
  obtain ⟨b1, o1, e1, h1⟩ := h.cell s0 hi (j := 1) rfl
  obtain ⟨b2, o2, e2, h2⟩ := h.cell s0 hi (j := 2) rfl
  rw [e] at e1 e2
  cases e1
  cases e2
  exact ⟨b, o, e, h0, h1, h2⟩

/-- Values that the kinds hold. -/
def FitN (x : Nm) : Prop := 0 ≤ x.1 ∧ x.1 ≤ 65535 ∧ 0 ≤ x.2 ∧ x.2 ≤ 4294967295
def FitS (x : Sp) : Prop := 0 ≤ x.1 ∧ x.1 ≤ 65535 ∧ 0 ≤ x.2.1 ∧ x.2.1 ≤ 4294967295 ∧ -9223372036854775808 ≤ x.2.2 ∧ x.2.2 ≤ 9223372036854775807
def FitNs (xs : List Nm) : Prop := ∀ x ∈ xs, FitN x
def FitSs (xs : List Sp) : Prop := ∀ x ∈ xs, FitS x
theorem FitNs.at {xs : List Nm} (h : FitNs xs) {i : Nat} (hi : i < xs.length) : FitN (xs.getD i n0) := h _ (getD_mem n0 hi)
theorem FitSs.at {xs : List Sp} (h : FitSs xs) {i : Nat} (hi : i < xs.length) : FitS (xs.getD i s0) := h _ (getD_mem s0 hi)

/-- Is it a span? -/
def rightS (s : Sp) : Bool := decide (1 ≤ s.2.1 ∧ 1 ≤ s.2.2 ∧ s.2.2 ≤ 1024 ∧ s.2.1 ≤ 268435456 ∧ s.2.1 + s.2.2 - 1 ≤ 268435456)
theorem rightS_iff {s : Sp} : rightS s = true ↔ 1 ≤ s.2.1 ∧ 1 ≤ s.2.2 ∧ s.2.2 ≤ 1024 ∧ s.2.1 ≤ 268435456 ∧ s.2.1 + s.2.2 - 1 ≤ 268435456 := by simp [rightS]
def RightS (xs : List Sp) : Prop := ∀ x ∈ xs, rightS x = true
theorem RightS.at {xs : List Sp} (h : RightS xs) {i : Nat} (hi : i < xs.length) : rightS (xs.getD i s0) = true := h _ (getD_mem s0 hi)
theorem RightS.take {xs : List Sp} (h : RightS xs) (n : Nat) : RightS (xs.take n) := fun x hx => h x (List.mem_of_mem_take hx)
/-- A name that an atom may have. -/
def rightN (x : Nm) : Bool := decide (1 ≤ x.2 ∧ x.2 ≤ 268435456)
def RightN (xs : List Nm) : Prop := ∀ x ∈ xs, rightN x = true
theorem rightN_iff {x : Nm} : rightN x = true ↔ 1 ≤ x.2 ∧ x.2 ≤ 268435456 := by simp [rightN]
theorem RightN.at {xs : List Nm} (h : RightN xs) {i : Nat} (hi : i < xs.length) : rightN (xs.getD i n0) = true := h _ (getD_mem n0 hi)

/-- The first so many names of a span, and all of spans. -/
def idsN (s : Sp) (k : Nat) : List Nm := (List.range k).map fun i : Nat => (s.1, s.2.1 + (i : Int))
def idsS (s : Sp) : List Nm := idsN s s.2.2.toNat
def idsL (l : List Sp) : List Nm := l.flatMap idsS
theorem idsN_succ (s : Sp) (k : Nat) : idsN s (k + 1) = idsN s k ++ [(s.1, s.2.1 + (k : Int))] := by simp [idsN, List.range_succ]
theorem idsN_length (s : Sp) (k : Nat) : (idsN s k).length = k := by simp [idsN]
theorem idsS_length (s : Sp) : (idsS s).length = s.2.2.toNat := idsN_length _ _
theorem idsL_append (a b : List Sp) : idsL (a ++ b) = idsL a ++ idsL b := by simp [idsL]
theorem idsL_cons (a : Sp) (b : List Sp) : idsL (a :: b) = idsS a ++ idsL b := by simp [idsL]
theorem idsL_one (a : Sp) : idsL [a] = idsS a := by simp [idsL]
theorem idsL_nil : idsL [] = [] := rfl
theorem idsL_take {l : List Sp} {i : Nat} (h : i < l.length) : idsL (l.take (i + 1)) = idsL (l.take i) ++ idsS (l.getD i s0) := by rw [take_getD s0 h, idsL_append, idsL_one]
theorem mem_idsS {s : Sp} {a : Nm} : a ∈ idsS s ↔ a.1 = s.1 ∧ s.2.1 ≤ a.2 ∧ a.2 < s.2.1 + (s.2.2.toNat : Int) := by
  unfold idsS idsN
  rw [List.mem_map]
  constructor
  · rintro ⟨i, hi, rfl⟩
    rw [List.mem_range] at hi
    exact ⟨rfl, by simp; omega, by simp; omega⟩
  · rintro ⟨h1, h2, h3⟩
    refine ⟨(a.2 - s.2.1).toNat, by rw [List.mem_range]; omega, ?_⟩
    apply Prod.ext
    · exact h1.symm
    · simp; omega
theorem mem_idsL {l : List Sp} {a : Nm} : a ∈ idsL l ↔ ∃ s ∈ l, a ∈ idsS s := by simp [idsL, List.mem_flatMap]
/-- How many names. -/
def totalL (l : List Sp) : Nat := (idsL l).length
theorem totalL_nil : totalL [] = 0 := rfl
theorem totalL_cons (a : Sp) (b : List Sp) : totalL (a :: b) = a.2.2.toNat + totalL b := by unfold totalL; rw [idsL_cons, List.length_append, idsS_length]
theorem totalL_append (a b : List Sp) : totalL (a ++ b) = totalL a + totalL b := by unfold totalL; rw [idsL_append, List.length_append]
theorem totalL_take {l : List Sp} {i : Nat} (h : i < l.length) : totalL (l.take (i + 1)) = totalL (l.take i) + (l.getD i s0).2.2.toNat := by
  unfold totalL; rw [idsL_take h, List.length_append, idsS_length]
theorem totalL_take_le (l : List Sp) (i : Nat) : totalL (l.take i) ≤ totalL l := by
  conv => rhs; rw [← List.take_append_drop i l]
  rw [totalL_append]; omega
theorem rightN_ids {l : List Sp} (h : RightS l) : RightN (idsL l) := by
  intro a ha
  obtain ⟨s, hs, hm⟩ := mem_idsL.1 ha
  have := rightS_iff.1 (h s hs)
  obtain ⟨_, h2, h3⟩ := mem_idsS.1 hm
  rw [rightN_iff]; omega
theorem fitN_ids {l : List Sp} (h : RightS l) (hf : FitSs l) : FitNs (idsL l) := by
  intro a ha
  obtain ⟨s, hs, hm⟩ := mem_idsL.1 ha
  have h0 := rightS_iff.1 (h s hs)
  have h1 := hf s hs
  obtain ⟨e, h2, h3⟩ := mem_idsS.1 hm
  unfold FitS at h1
  unfold FitN
  omega

/-- Does a name follow one, in its replica? -/
def follows (a b : Nm) : Bool := decide (a.1 = b.1 ∧ a.2 + 1 = b.2)
/-- One more name behind spans, whose last name is the one told. -/
def pushOf (out : List Sp) (prev : Option Nm) (x : Nm) : List Sp :=
  match prev, out.getLast? with
  | some a, some s => if follows a x = true ∧ s.2.2 < 1024 then out.dropLast ++ [(s.1, s.2.1, s.2.2 + 1)] else out ++ [(x.1, x.2, 1)]
  | _, _ => out ++ [(x.1, x.2, 1)]
/-- Spans of names: behind the first so many. -/
def ofA : List Sp → Option Nm → List Nm → List Sp
  | out, _, [] => out
  | out, prev, x :: xs => ofA (pushOf out prev x) (some x) xs
def ofL (ids : List Nm) : List Sp := ofA [] none ids

/-- Have two spans a name in common? -/
def meetS (a b : Sp) : Bool := decide (a.1 = b.1 ∧ a.2.1 < b.2.1 + b.2.2 ∧ b.2.1 < a.2.1 + a.2.2)
/-- Is no name there twice? -/
def Apart (l : List Sp) : Prop := ∀ i, i < l.length → ∀ k, k < i → meetS (l.getD i s0) (l.getD k s0) = false
def apartB (l : List Sp) : Bool := (List.range l.length).all fun i => (List.range i).all fun k => !meetS (l.getD i s0) (l.getD k s0)
theorem apartB_iff {l : List Sp} : apartB l = true ↔ Apart l := by
  unfold apartB Apart
  simp only [List.all_eq_true, List.mem_range, Bool.not_eq_true']
theorem apartB_no {l : List Sp} {i k : Nat} (hi : i < l.length) (hk : k < i) (h : meetS (l.getD i s0) (l.getD k s0) = true) : apartB l = false := by
  cases hb : apartB l with
  | false => rfl
  | true => have := apartB_iff.1 hb i hi k hk; rw [h] at this; cases this
/-- May spans be those of an operation? Else its error. -/
def fitA : Int → List Sp → Int
  | _, [] => 0
  | n, s :: l => if rightS s = false then 11 else if n + s.2.2 > 1024 then 15 else fitA (n + s.2.2) l
def fitL (l : List Sp) : Int := if l.length = 0 then 11 else if l.length > 1024 then 13 else if fitA 0 l ≠ 0 then fitA 0 l else if apartB l = true then 0 else 16
theorem drop_getD {α : Type} (d : α) {xs : List α} {k : Nat} (h : k < xs.length) : xs.drop k = xs.getD k d :: xs.drop (k + 1) := by
  rw [List.drop_eq_getElem_cons h]; simp [h]
/-- The names of some that aren't among others, as spans. -/
def lessN (l wo : List Sp) : List Nm := (idsL l).filter fun a => decide (a ∉ idsL wo)
def lessL (l wo : List Sp) : List Sp := ofL (lessN l wo)

end Go.Proofs.Ytedlmngfkkpmgaa
