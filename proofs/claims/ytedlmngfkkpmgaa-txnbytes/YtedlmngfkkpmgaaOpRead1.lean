
/-
  What is written is read again, by the document; and what its Read may tell. No conditions beyond what each theorem states.
-/
import Derived.Test.YtedlmngfkkpmgaaOpBytes2
namespace Go.Proofs.Ytedlmngfkkpmgaa
open Go.ChangeShapes Go.WideShapes Go.ChangeAt Go.RowKit Go.Lib
set_option linter.unusedVariables false
set_option linter.unusedSimpArgs false

theorem readS_at {pre : List UInt8} {l : List Sp} (hr : RightS l) (hf : FitSs l) (hl : l.length ≤ 1024) : readS (pre ++ bytesL l) pre.length 0 = (l, pre.length + (bytesL l).length, 0) := by
  unfold readS bytesL
  have e1 := rdN_at (pre := pre) (post := l.flatMap bytesS) (n := l.length) (limit := 1024) (by omega) (by omega)
  rw [e1]
  have e2 := rdL_at l (pre ++ encN l.length) [] hr hf
  rw [List.append_nil, List.append_assoc, List.length_append] at e2
  simp only
  rw [e2]
  simp
  omega
theorem readO_all {o : Om} (hf : FitOm o) (h0 : fitO o = 0) : readO (bytesO o) 0 0 = (o, (bytesO o).length, 0) := by
  have hc := fitO_cases h0
  unfold FitOm at hf
  obtain ⟨f1, f2, f3, f4, f5, f6, f7, f8, f9, f10, f11⟩ := hf
  obtain ⟨kind, r, n, num, text, spans, seq⟩ := o
  simp only at f1 f2 f3 f4 f5 f6 f7 f8 f9 f10 f11
  rcases hc with h | h | h | h
  · obtain ⟨rfl, rfl, rfl, -, -, ht, hn⟩ := h
    obtain ⟨R, rfl⟩ := nat_of f3
    obtain ⟨N, rfl⟩ := nat_of f5
    obtain ⟨M, rfl⟩ := nat_of f7
    have hn := of_decide_eq_true hn
    simp only at hn ht
    have hk := rdN_at (pre := []) (post := (encN R ++ (encN N ++ encN M)) ++ encT text) (n := 1) (limit := 5) (by decide) (by decide)
    have hp := rdP_at (pre := encN 1) (post := encT text) (R := R) (N := N) (M := M) (by omega) (by omega) (by omega)
    have hx := rdT_at (pre := encN 1 ++ (encN R ++ (encN N ++ encN M))) (post := []) (s := text) (limit := 64) ht (by decide)
    rw [List.append_nil] at hx
    have hb : bytesO ⟨1, (R : Int), (N : Int), (M : Int), text, [], 0⟩ = encN 1 ++ ((encN R ++ (encN N ++ encN M)) ++ encT text) := by unfold bytesO; simp
    rw [hb]
    unfold readO
    rw [List.nil_append, List.length_nil, Nat.zero_add] at hk
    rw [hk]
    simp only [true_or, if_true]
    rw [hp]
    simp only
    unfold readB
    rw [if_pos rfl]
    rw [List.append_assoc, List.length_append] at hx
    rw [hx]
    simp
    omega
  · obtain ⟨rfl, rfl, rfl, hp, hfl⟩ := h
    have hp := of_decide_eq_true hp
    simp only at hp
    obtain ⟨rfl, rfl, rfl⟩ := hp
    obtain ⟨a1, a2, a3⟩ := fitL_ok hfl
    simp only at a1 a2 a3
    have hk := rdN_at (pre := []) (post := bytesL spans) (n := 2) (limit := 5) (by decide) (by decide)
    have hx := readS_at (pre := encN 2) a1 f9 a3
    have hb : bytesO ⟨2, 0, 0, 0, [], spans, 0⟩ = encN 2 ++ bytesL spans := by unfold bytesO; simp
    rw [hb]
    unfold readO
    rw [List.nil_append, List.length_nil, Nat.zero_add] at hk
    rw [hk]
    rw [if_neg (by simp)]
    unfold readB
    simp only
    rw [if_neg (by decide), if_pos (Or.inl trivial), hx]
    simp
  · obtain ⟨rfl, rfl, rfl, hfl, hn⟩ := h
    obtain ⟨R, rfl⟩ := nat_of f3
    obtain ⟨N, rfl⟩ := nat_of f5
    obtain ⟨M, rfl⟩ := nat_of f7
    have hn := of_decide_eq_true hn
    simp only at hn
    obtain ⟨a1, a2, a3⟩ := fitL_ok hfl
    simp only at a1 a2 a3
    have hk := rdN_at (pre := []) (post := (encN R ++ (encN N ++ encN M)) ++ bytesL spans) (n := 3) (limit := 5) (by decide) (by decide)
    have hat : 0 ≤ atomsO ⟨3, (R : Int), (N : Int), (M : Int), [], spans, 0⟩ := by unfold atomsO; simp
    have hp := rdP_at (pre := encN 3) (post := bytesL spans) (R := R) (N := N) (M := M) (by omega) (by omega) (by omega)
    have hx := readS_at (pre := encN 3 ++ (encN R ++ (encN N ++ encN M))) a1 f9 a3
    have hb : bytesO ⟨3, (R : Int), (N : Int), (M : Int), [], spans, 0⟩ = encN 3 ++ ((encN R ++ (encN N ++ encN M)) ++ bytesL spans) := by unfold bytesO; simp
    rw [hb]
    unfold readO
    rw [List.nil_append, List.length_nil, Nat.zero_add] at hk
    rw [hk]
    simp only [or_true, if_true]
    rw [hp]
    simp only
    unfold readB
    rw [if_neg (by decide), if_pos (Or.inr rfl)]
    rw [List.append_assoc, List.length_append] at hx
    rw [hx]
    simp
    omega
  · obtain ⟨hk, rfl, rfl, hp, hs1, hs2⟩ := h
    have hp := of_decide_eq_true hp
    simp only at hp hk hs1 hs2
    obtain ⟨rfl, rfl, rfl⟩ := hp
    obtain ⟨S, rfl⟩ := nat_of f10
    have hx := fun k => rdN_at (pre := encN k) (post := []) (n := S) (limit := 268435456) (by omega) (by omega)
    simp only [List.append_nil] at hx
    rcases hk with rfl | rfl
    · have hk := rdN_at (pre := []) (post := encN S) (n := 4) (limit := 5) (by decide) (by decide)
      have hb : bytesO ⟨4, 0, 0, 0, [], [], (S : Int)⟩ = encN 4 ++ encN S := by unfold bytesO; simp
      rw [hb]
      unfold readO
      rw [List.nil_append, List.length_nil, Nat.zero_add] at hk
      rw [hk]
      rw [if_neg (by simp)]
      unfold readB
      simp only
      rw [if_neg (by decide), if_neg (by decide), hx 4]
      simp
    · have hk := rdN_at (pre := []) (post := encN S) (n := 5) (limit := 5) (by decide) (by decide)
      have hb : bytesO ⟨5, 0, 0, 0, [], [], (S : Int)⟩ = encN 5 ++ encN S := by unfold bytesO; simp
      rw [hb]
      unfold readO
      rw [List.nil_append, List.length_nil, Nat.zero_add] at hk
      rw [hk]
      rw [if_neg (by simp)]
      unfold readB
      simp only
      rw [if_neg (by decide), if_neg (by decide), hx 5]
      simp
/-- What Get leaves. -/
def GotO (bs : List UInt8) (q e K D : Nat) (w : World) (r : Ending) (w' : World) : Prop := ∃ p c q', r = .returned (ov (readO bs q e).1 p c) ∧ GRow layS w' p (readO bs q e).1.spans ∧ (readO bs q e).1.spans.length ≤ c ∧ (p = none → c = 0) ∧ Rd K D bs q' (readO bs q e).2.2 w' ∧ ((readO bs q e).2.2 = 0 → q' = (readO bs q e).2.1) ∧ Only K w w'
def GetOSpec : Prop := ∀ (bs : List UInt8) (q e K D : Nat) (w : World), Rd K D bs q e w → bs.length ≤ 100000 → e < 16 → Calls Try.prog 40 #[.pointer (some ⟨K, 0, none⟩)] w (GotO bs q e K D w)
end Go.Proofs.Ytedlmngfkkpmgaa
