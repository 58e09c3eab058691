
/-
  A transaction that is written is read again, by the document. Of no program; no conditions beyond what each theorem states.
-/
import Derived.Test.YtedlmngfkkpmgaaTxnMath
namespace Go.Proofs.Ytedlmngfkkpmgaa
open Go.ChangeShapes Go.WideShapes Go.ChangeAt Go.RowKit Go.Lib
set_option linter.unusedVariables false
set_option linter.unusedSimpArgs false

theorem readS_atp {pre post : List UInt8} {l : List Sp} (hr : RightS l) (hf : FitSs l) (hl : l.length ≤ 1024) : readS (pre ++ (bytesL l ++ post)) pre.length 0 = (l, pre.length + (bytesL l).length, 0) := by
  unfold readS bytesL
  have e1 := rdN_at (pre := pre) (post := l.flatMap bytesS ++ post) (n := l.length) (limit := 1024) (by omega) (by omega)
  rw [List.append_assoc, e1]
  have e2 := rdL_at l (pre ++ encN l.length) post hr hf
  rw [List.append_assoc, List.length_append] at e2
  simp only
  rw [e2]
  simp
  omega
theorem readO_at {o : Om} {pre post : List UInt8} (hf : FitOm o) (h0 : fitO o = 0) : readO (pre ++ (bytesO o ++ post)) pre.length 0 = (o, pre.length + (bytesO o).length, 0) := by
  have hc := fitO_cases h0
  unfold FitOm at hf
  obtain ⟨f1, f2, f3, f4, f5, f6, f7, f8, f9, f10, f11⟩ := hf
  obtain ⟨kind, r, n, num, text, spans, seq⟩ := o
  simp only at f1 f2 f3 f4 f5 f6 f7 f8 f9 f10 f11
  rcases hc with h | h | h | h
  · obtain ⟨rfl, rfl, rfl, -, -, ht, hn⟩ := h
    obtain ⟨R, rfl⟩ := nat_of f3
    obtain ⟨N, rfl⟩ := nat_of f5
    obtain ⟨M, rfl⟩ := nat_of f7
    have hn := of_decide_eq_true hn
    simp only at hn ht
    have hk := rdN_at (pre := pre) (post := (encN R ++ (encN N ++ encN M)) ++ (encT text ++ post)) (n := 1) (limit := 5) (by decide) (by decide)
    have hp := rdP_at (pre := pre ++ encN 1) (post := encT text ++ post) (R := R) (N := N) (M := M) (by omega) (by omega) (by omega)
    have hx := rdT_at (pre := pre ++ encN 1 ++ (encN R ++ (encN N ++ encN M))) (post := post) (s := text) (limit := 64) ht (by decide)
    have hb : bytesO ⟨1, (R : Int), (N : Int), (M : Int), text, [], 0⟩ = encN 1 ++ ((encN R ++ (encN N ++ encN M)) ++ encT text) := by unfold bytesO; simp
    rw [hb]
    simp only [List.append_assoc, List.length_append] at hk hp hx ⊢
    unfold readO
    rw [hk]
    simp only [true_or, if_true]
    rw [hp]
    simp only
    unfold readB
    rw [if_pos rfl]
    simp only [Nat.add_assoc] at hx ⊢
    rw [hx]
    simp [Nat.add_assoc]
  · obtain ⟨rfl, rfl, rfl, hp, hfl⟩ := h
    have hp := of_decide_eq_true hp
    simp only at hp
    obtain ⟨rfl, rfl, rfl⟩ := hp
    obtain ⟨a1, a2, a3⟩ := fitL_ok hfl
    simp only at a1 a2 a3
    have hk := rdN_at (pre := pre) (post := bytesL spans ++ post) (n := 2) (limit := 5) (by decide) (by decide)
    have hx := readS_atp (pre := pre ++ encN 2) (post := post) a1 f9 a3
    have hb : bytesO ⟨2, 0, 0, 0, [], spans, 0⟩ = encN 2 ++ bytesL spans := by unfold bytesO; simp
    rw [hb]
    simp only [List.append_assoc, List.length_append] at hk hx ⊢
    unfold readO
    rw [hk]
    rw [if_neg (by simp)]
    unfold readB
    simp only
    rw [if_neg (by decide), if_pos (Or.inl trivial), hx]
    simp
    omega
  · obtain ⟨rfl, rfl, rfl, hfl, hn⟩ := h
    obtain ⟨R, rfl⟩ := nat_of f3
    obtain ⟨N, rfl⟩ := nat_of f5
    obtain ⟨M, rfl⟩ := nat_of f7
    have hn := of_decide_eq_true hn
    simp only at hn
    obtain ⟨a1, a2, a3⟩ := fitL_ok hfl
    simp only at a1 a2 a3
    have hk := rdN_at (pre := pre) (post := (encN R ++ (encN N ++ encN M)) ++ (bytesL spans ++ post)) (n := 3) (limit := 5) (by decide) (by decide)
    have hat : 0 ≤ atomsO ⟨3, (R : Int), (N : Int), (M : Int), [], spans, 0⟩ := by unfold atomsO; simp
    have hp := rdP_at (pre := pre ++ encN 3) (post := bytesL spans ++ post) (R := R) (N := N) (M := M) (by omega) (by omega) (by omega)
    have hx := readS_atp (pre := pre ++ encN 3 ++ (encN R ++ (encN N ++ encN M))) (post := post) a1 f9 a3
    have hb : bytesO ⟨3, (R : Int), (N : Int), (M : Int), [], spans, 0⟩ = encN 3 ++ ((encN R ++ (encN N ++ encN M)) ++ bytesL spans) := by unfold bytesO; simp
    rw [hb]
    simp only [List.append_assoc, List.length_append] at hk hp hx ⊢
    unfold readO
    rw [hk]
    simp only [or_true, if_true]
    rw [hp]
    simp only
    unfold readB
    rw [if_neg (by decide), if_pos (Or.inr rfl)]
    simp only [Nat.add_assoc] at hx ⊢
    rw [hx]
    simp [Nat.add_assoc]
  · obtain ⟨hk, rfl, rfl, hp, hs1, hs2⟩ := h
    have hp := of_decide_eq_true hp
    simp only at hp hk hs1 hs2
    obtain ⟨rfl, rfl, rfl⟩ := hp
    obtain ⟨S, rfl⟩ := nat_of f10
    have hx := fun k => rdN_at (pre := pre ++ encN k) (post := post) (n := S) (limit := 268435456) (by omega) (by omega)
    simp only [List.append_assoc, List.length_append] at hx
    rcases hk with rfl | rfl
    · have hk := rdN_at (pre := pre) (post := encN S ++ post) (n := 4) (limit := 5) (by decide) (by decide)
      have hb : bytesO ⟨4, 0, 0, 0, [], [], (S : Int)⟩ = encN 4 ++ encN S := by unfold bytesO; simp
      rw [hb]
      simp only [List.append_assoc, List.length_append] at hk ⊢
      unfold readO
      rw [hk]
      rw [if_neg (by simp)]
      unfold readB
      simp only
      rw [if_neg (by decide), if_neg (by decide), hx 4]
      simp
      omega
    · have hk := rdN_at (pre := pre) (post := encN S ++ post) (n := 5) (limit := 5) (by decide) (by decide)
      have hb : bytesO ⟨5, 0, 0, 0, [], [], (S : Int)⟩ = encN 5 ++ encN S := by unfold bytesO; simp
      rw [hb]
      simp only [List.append_assoc, List.length_append] at hk ⊢
      unfold readO
      rw [hk]
      rw [if_neg (by simp)]
      unfold readB
      simp only
      rw [if_neg (by decide), if_neg (by decide), hx 5]
      simp
      omega
theorem rdOs_at : ∀ (l : List Om) (pre post : List UInt8), (∀ o ∈ l, FitOm o) → (∀ o ∈ l, fitO o = 0) → rdOs (pre ++ (l.flatMap bytesO ++ post)) l.length pre.length 0 = (l, pre.length + (l.flatMap bytesO).length, 0) := by
  intro l
  induction l with
  | nil => intro pre post _ _; simp [rdOs]
  | cons o l ih =>
    intro pre post hf h0
    have e1 := readO_at (pre := pre) (post := l.flatMap bytesO ++ post) (hf o (by simp)) (h0 o (by simp))
    have e2 := ih (pre ++ bytesO o) post (fun x hx => hf x (by simp [hx])) (fun x hx => h0 x (by simp [hx]))
    rw [List.flatMap_cons, List.length_cons, rdOs, if_pos rfl]
    simp only [List.append_assoc, List.length_append] at e1 e2 ⊢
    rw [e1]
    simp only
    rw [e2]
    simp
    omega
theorem readTx_all {t : Tm} (hf : FitTm t) (h0 : fitT t = 0) : readTx (bytesT t) 0 0 = (t, (bytesT t).length, 0) := by
  obtain ⟨g1, g2, g3, g4, g5, g6, g7, g8, g9⟩ := fitT_ok h0
  have hO := fitOs_ok t.ops (-1) g9
  unfold FitTm at hf
  obtain ⟨f1, f2, f3, f4, f5, f6, f7, f8, f9⟩ := hf
  obtain ⟨r, seq, clock, user, ops⟩ := t
  simp only at f1 f2 f3 f4 f5 f6 f7 f8 f9 g1 g2 g3 g4 g5 g6 g7 g8 g9 hO
  obtain ⟨R, rfl⟩ := nat_of f1
  obtain ⟨S, rfl⟩ := nat_of f3
  obtain ⟨C, rfl⟩ := nat_of f5
  obtain ⟨U, rfl⟩ := nat_of g5
  have e1 := rdN_at (pre := []) (post := encN S ++ (encN C ++ (encN U ++ (encN ops.length ++ ops.flatMap bytesO)))) (n := R) (limit := 65535) (by omega) (by omega)
  have e2 := rdN_at (pre := encN R) (post := encN C ++ (encN U ++ (encN ops.length ++ ops.flatMap bytesO))) (n := S) (limit := 268435456) (by omega) (by omega)
  have e3 := rdN_at (pre := encN R ++ encN S) (post := encN U ++ (encN ops.length ++ ops.flatMap bytesO)) (n := C) (limit := 1099511627776) (by omega) (by omega)
  have e4 := rdN_at (pre := encN R ++ (encN S ++ encN C)) (post := encN ops.length ++ ops.flatMap bytesO) (n := U) (limit := 7) (by omega) (by omega)
  have e5 := rdN_at (pre := encN R ++ (encN S ++ (encN C ++ encN U))) (post := ops.flatMap bytesO) (n := ops.length) (limit := 16) (by omega) (by omega)
  have e6 := rdOs_at ops (encN R ++ (encN S ++ (encN C ++ (encN U ++ encN ops.length)))) [] f9 (fun o ho => (hO o ho).1)
  have hb : bytesT ⟨(R : Int), (S : Int), (C : Int), (U : Int), ops⟩ = encN R ++ (encN S ++ (encN C ++ (encN U ++ (encN ops.length ++ ops.flatMap bytesO)))) := by unfold bytesT; simp
  rw [hb]
  rw [List.append_nil] at e6
  simp only [List.append_assoc, List.length_append, List.nil_append, List.length_nil, Nat.zero_add, Nat.add_assoc] at e1 e2 e3 e4 e5 e6 ⊢
  unfold readTx
  simp only
  rw [e1]
  simp only
  rw [e2]
  simp only
  rw [e3]
  simp only [Nat.add_assoc]
  rw [e4]
  simp only [Nat.add_assoc]
  rw [e5]
  simp only [Nat.add_assoc]
  rw [e6]
  simp [Nat.add_assoc]
end Go.Proofs.Ytedlmngfkkpmgaa
