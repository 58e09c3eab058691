
/-
  What the program's Put of layer 8 leaves. No conditions beyond what each theorem states.
-/
import Derived.Test.YtedlmngfkkpmgaaOpProg1
import Derived.Test.YtedlmngfkkpmgaaSpanProg6
namespace Go.Proofs.Ytedlmngfkkpmgaa
open Go.ChangeShapes Go.WideShapes Go.ChangeAt Go.RowKit Go.Lib
set_option linter.unusedVariables false
set_option linter.unusedSimpArgs false

/-- A writer that has written cs, beside a variable of the call's own that stays as it was. -/
def WBx (B K : Nat) (v : Value) (bs : List UInt8) (X : Nat) (o : Obj) (cs : List UInt8) (w wr : World) : Prop := X ≠ K ∧ wr.heap[X]? = some o ∧ ∃ v', v'.ownBlock ≠ some X ∧ Wr B K v' (bs ++ cs) wr ∧ (v'.ownBlock = v.ownBlock ∨ ∃ g, v'.ownBlock = some g ∧ w.heap.size ≤ g) ∧ Kept (fun k => k = K ∨ v.ownBlock = some k) w wr
theorem WBx.start {B K : Nat} {v : Value} {bs : List UInt8} {w : World} (h : Wr B K v bs w) (o : Obj) : WBx B K v bs w.heap.size o [] w (w.alloc o) :=
  ⟨fun e => by have := lt_of_block h.box; omega, heap_alloc_new w o, v, fun e => by have := (h.row.lt _ e).2; omega, by rw [List.append_nil]; exact h.below (below_alloc (Below.refl _ _) o), Or.inl rfl, Kept.ofBelow (below_alloc (Below.refl _ _) o)⟩
theorem WBx.wrote {B K : Nat} {v : Value} {bs : List UInt8} {X : Nat} {o : Obj} {cs : List UInt8} {w wr : World} (h : WBx B K v bs X o cs w wr) : Wrote B K v bs cs w wr := by
  obtain ⟨_, _, v', _, h1, h2, h3⟩ := h
  exact ⟨v', h1, h2, h3⟩
theorem WBx.step {B K : Nat} {v : Value} {bs : List UInt8} {X : Nat} {o : Obj} {cs ds : List UInt8} {w wr : World} {f : FuncId} {args : Array Value} {r : Ending} (h : WBx B K v bs X o cs w wr) (H : ∀ v', Wr B K v' (bs ++ cs) wr → Calls Try.prog f args wr fun e w' => e = r ∧ Wrote B K v' (bs ++ cs) ds wr w') :
    Calls Try.prog f args wr fun e w' => e = r ∧ WBx B K v bs X o (cs ++ ds) w w' := by
  obtain ⟨hXK, hX, v', hXv, hW, hv, hk⟩ := h
  refine (H v' hW).mono ?_
  rintro e w2 ⟨rfl, v2, hW2, hv2, hk2⟩
  refine ⟨rfl, hXK, box_wrote hX hXK hXv hk2, v2, own_wrote hX hXv hv2, by rw [← List.append_assoc]; exact hW2, ?_, hk.trans hk2 ?_⟩
  · rcases hv2 with e | ⟨g, e, hg⟩
    · rcases hv with e2 | ⟨g, e2, hg⟩
      · exact Or.inl (e.trans e2)
      · exact Or.inr ⟨g, e.trans e2, hg⟩
    · exact Or.inr ⟨g, e, Nat.le_trans hk.size hg⟩
  · rintro i hi (rfl | e)
    · exact Or.inl rfl
    · rcases hv with e2 | ⟨g, e2, hg⟩
      · exact Or.inr (e2 ▸ e)
      · rw [e2] at e; cases e; omega
theorem wnum_box {B K : Nat} {v : Value} {bs : List UInt8} {X : Nat} {o : Obj} {cs : List UInt8} {w wr : World} (n : Nat) (hn : n < 9223372036854775808) (h : WBx B K v bs X o cs w wr) (hb : bs.length ≤ 100000) (hc : cs.length ≤ 100000) :
    Calls Try.prog 33 #[.pointer (some ⟨K, 0, none⟩), .int .u64 (n : Int)] wr fun e w' => e = .returned (.tuple #[]) ∧ WBx B K v bs X o (cs ++ encN n) w w' :=
  h.step fun v' hW => by
    have := wnum_any B K v' (bs ++ cs) n (by omega) wr hW (by rw [List.length_append]; omega)
    rwa [Nat.mod_eq_of_lt hn] at this
theorem wtext_box {B K : Nat} {v : Value} {bs : List UInt8} {X : Nat} {o : Obj} {cs : List UInt8} {w wr : World} (s : List UInt8) (hs : s.length ≤ 90000) (h : WBx B K v bs X o cs w wr) (hb : bs.length ≤ 100000) (hc : cs.length ≤ 100000) :
    Calls Try.prog 54 #[.pointer (some ⟨K, 0, none⟩), .string ⟨s.toArray⟩] wr fun e w' => e = .returned (.tuple #[]) ∧ WBx B K v bs X o (cs ++ encT s) w w' :=
  h.step fun v' hW => wtext_any B K v' (bs ++ cs) s wr hW (by rw [List.length_append]; omega) hs
theorem wspans_box {B K : Nat} {v : Value} {bs : List UInt8} {X : Nat} {o : Obj} {cs : List UInt8} {w wr : World} (l : List Sp) (p : Option Addr) (c : Nat) (hW : Wr B K v bs w) (hR : GRow layS w p l) (hq : 0 < l.length → ∀ q, p = some q → q.block < B) (hr : RightS l) (hf : FitSs l) (hl : l.length ≤ 1024) (h0 : 0 < l.length) (h : WBx B K v bs X o cs w wr) (hb : bs.length ≤ 100000) (hc : cs.length ≤ 100000) :
    Calls Try.prog 56 #[.pointer (some ⟨K, 0, none⟩), .slice p l.length c] wr fun e w' => e = .returned (.tuple #[]) ∧ WBx B K v bs X o (cs ++ bytesL l) w w' :=
  h.step fun v' hW' => by
    refine put_wide B K v' (bs ++ cs) l p c wr hW' ?_ hq hr hf hl (by rw [List.length_append]; omega)
    exact hR.kept h.2.2.choose_spec.2.2.2 (fun q e => by
      have hqB := hq h0 q e
      have hbK := hW.base
      rintro (e' | e')
      · omega
      · have := (hW.row.lt _ e').1; omega)

set_option maxHeartbeats 3200000 in
set_option maxRecDepth 20000 in
theorem putO_spec : PutOSpec := by
  intro B K v bs o p c w hW hI hq ht hl h0 hb
  have hc := fitO_cases h0
  have HW := Lib.hid hW
  have HR := Lib.hid hI.row
  have HQ := Lib.hid hq
  have hf := hI.fit
  clear hW hI hq h0
  unfold FitOm at hf
  obtain ⟨f1, f2, f3, f4, f5, f6, f7, f8, f9, f10, f11⟩ := hf
  have HF9 := Lib.hid f9
  clear f9
  obtain ⟨kind, r, n, num, text, spans, seq⟩ := o
  unfold ov
  simp only at f1 f2 f3 f4 f5 f6 f7 f8 f10 f11 ht hl HR HQ HF9 hc ⊢
  rcases hc with h | h | h | h
  · obtain ⟨rfl, rfl, rfl, -, -, ht2, hn⟩ := h
    obtain ⟨R, rfl⟩ : ∃ R : Nat, r = (R : Int) := ⟨r.toNat, by omega⟩
    have eR : (encN R).length ≤ 9 := encN_len (n := R) (by omega)
    have zR : IntKind.u64.wrap (R : Int) = (R : Int) := by rw [IntKind.wrap_u64]; omega
    obtain ⟨N, rfl⟩ : ∃ N : Nat, n = (N : Int) := ⟨n.toNat, by omega⟩
    have eN : (encN N).length ≤ 9 := encN_len (n := N) (by omega)
    have zN : IntKind.u64.wrap (N : Int) = (N : Int) := by rw [IntKind.wrap_u64]; omega
    obtain ⟨M, rfl⟩ : ∃ M : Nat, num = (M : Int) := ⟨num.toNat, by omega⟩
    have eM : (encN M).length ≤ 9 := encN_len (n := M) (by omega)
    have zM : IntKind.u64.wrap (M : Int) = (M : Int) := by rw [IntKind.wrap_u64]; omega
    have HBY : Hid (bytesO ⟨1, (R : Int), (N : Int), (M : Int), text, [], 0⟩ = encN 1 ++ encN R ++ encN N ++ encN M ++ encT text) := by show _ = _; unfold bytesO; simp [List.append_assoc]
    clear hn
    have HM := Lib.hid (makes_yes 1 (Or.inl rfl))
    have HN := Lib.hid (names_no 1 (by decide) (by decide))
    have HT := Lib.hid (turns_no 1 (Or.inl rfl))
    have ek : (encN 1).length ≤ 9 := encN_len (n := 1) (by decide)
    have H0 := Lib.hid (fun (o : Obj) => wnum_box 1 (by decide) (WBx.start HW.out o) (by omega) (by simp))
    simp only [List.nil_append] at H0
    go_enter Try.func34, Try.ntmps34
    go_wp2_with fail
    refine (H0.out _).mono ?_
    rintro e w1 ⟨rfl, hs1⟩
    have S1 := Lib.hid hs1
    obtain ⟨d0, d1, d2, d3, d4, d5, d6⟩ := seven_cells hs1.2.1
    clear hs1
    go_wp2_with fail
    refine (HM.out _).mono ?_
    rintro e w2 ⟨rfl, he⟩
    obtain rfl := Eq.symm he
    have C1 := Lib.hid (wnum_box R (by omega) S1.out (by omega) (by omega))
    go_wp2_with fail
    refine (C1.out).mono ?_
    rintro e w3 ⟨rfl, hs3⟩
    have S3 := Lib.hid hs3
    obtain ⟨d0, d1, d2, d3, d4, d5, d6⟩ := seven_cells hs3.2.1
    clear hs3
    have C2 := Lib.hid (wnum_box N (by omega) S3.out (by omega) (by simp only [List.length_append] at *; omega))
    go_wp2_with fail
    refine (C2.out).mono ?_
    rintro e w4 ⟨rfl, hs4⟩
    have S4 := Lib.hid hs4
    obtain ⟨d0, d1, d2, d3, d4, d5, d6⟩ := seven_cells hs4.2.1
    clear hs4
    have C3 := Lib.hid (wnum_box M (by omega) S4.out (by omega) (by simp only [List.length_append] at *; omega))
    go_wp2_with fail
    refine (C3.out).mono ?_
    rintro e w5 ⟨rfl, hs5⟩
    have S5 := Lib.hid hs5
    obtain ⟨d0, d1, d2, d3, d4, d5, d6⟩ := seven_cells hs5.2.1
    clear hs5
    have C4 := Lib.hid (wtext_box text (by omega) S5.out (by omega) (by simp only [List.length_append] at *; omega))
    generalize hbt : (⟨text.toArray⟩ : ByteArray) = bt at *
    go_wp2_with fail
    refine (C4.out).mono ?_
    rintro e w6 ⟨rfl, hs6⟩
    have S6 := Lib.hid hs6
    obtain ⟨d0, d1, d2, d3, d4, d5, d6⟩ := seven_cells hs6.2.1
    clear hs6
    go_wp2_with fail
    refine (HN.out _).mono ?_
    rintro e w7 ⟨rfl, he⟩
    obtain rfl := Eq.symm he
    go_wp2_with fail
    refine (HT.out _).mono ?_
    rintro e w8 ⟨rfl, he⟩
    obtain rfl := Eq.symm he
    go_wp2
    go_end0
    exact ⟨rfl, by rw [HBY.out]; exact S6.out.wrote⟩
  · obtain ⟨rfl, rfl, rfl, hp, hfl⟩ := h
    have hp := of_decide_eq_true hp
    simp only at hp
    obtain ⟨rfl, rfl, rfl⟩ := hp
    obtain ⟨a1, a2, a3⟩ := fitL_ok hfl
    have h0 : 0 < spans.length := by
      rcases Nat.eq_zero_or_pos spans.length with e | e
      · unfold fitL at hfl; rw [if_pos e] at hfl; cases hfl
      · exact e
    have A1 := Lib.hid a1
    clear a1 hfl a2
    have HBY : Hid (bytesO ⟨2, 0, 0, 0, [], spans, 0⟩ = encN 2 ++ bytesL spans) := by show _ = _; unfold bytesO; simp
    have HM := Lib.hid (makes_no 2 (by decide) (by decide))
    have HN := Lib.hid (names_yes 2 (Or.inl rfl))
    have HT := Lib.hid (turns_no 2 (Or.inr (Or.inl rfl)))
    have ek : (encN 2).length ≤ 9 := encN_len (n := 2) (by decide)
    have H0 := Lib.hid (fun (o : Obj) => wnum_box 2 (by decide) (WBx.start HW.out o) (by omega) (by simp))
    simp only [List.nil_append] at H0
    go_enter Try.func34, Try.ntmps34
    go_wp2_with fail
    refine (H0.out _).mono ?_
    rintro e w1 ⟨rfl, hs1⟩
    have S1 := Lib.hid hs1
    obtain ⟨d0, d1, d2, d3, d4, d5, d6⟩ := seven_cells hs1.2.1
    clear hs1
    go_wp2_with fail
    refine (HM.out _).mono ?_
    rintro e w2 ⟨rfl, he⟩
    obtain rfl := Eq.symm he
    go_wp2_with fail
    refine (HN.out _).mono ?_
    rintro e w3 ⟨rfl, he⟩
    obtain rfl := Eq.symm he
    have C1 := Lib.hid (wspans_box spans p c HW.out HR.out HQ.out A1.out HF9.out (by omega) h0 S1.out (by omega) (by omega))
    go_wp2_with fail
    refine (C1.out).mono ?_
    rintro e w4 ⟨rfl, hs4⟩
    have S4 := Lib.hid hs4
    obtain ⟨d0, d1, d2, d3, d4, d5, d6⟩ := seven_cells hs4.2.1
    clear hs4
    go_wp2_with fail
    refine (HT.out _).mono ?_
    rintro e w5 ⟨rfl, he⟩
    obtain rfl := Eq.symm he
    go_wp2
    go_end0
    exact ⟨rfl, by rw [HBY.out]; exact S4.out.wrote⟩
  · obtain ⟨rfl, rfl, rfl, hfl, hn⟩ := h
    obtain ⟨a1, a2, a3⟩ := fitL_ok hfl
    have h0 : 0 < spans.length := by
      rcases Nat.eq_zero_or_pos spans.length with e | e
      · unfold fitL at hfl; rw [if_pos e] at hfl; cases hfl
      · exact e
    have A1 := Lib.hid a1
    clear a1 hfl a2 hn
    obtain ⟨R, rfl⟩ : ∃ R : Nat, r = (R : Int) := ⟨r.toNat, by omega⟩
    have eR : (encN R).length ≤ 9 := encN_len (n := R) (by omega)
    have zR : IntKind.u64.wrap (R : Int) = (R : Int) := by rw [IntKind.wrap_u64]; omega
    obtain ⟨N, rfl⟩ : ∃ N : Nat, n = (N : Int) := ⟨n.toNat, by omega⟩
    have eN : (encN N).length ≤ 9 := encN_len (n := N) (by omega)
    have zN : IntKind.u64.wrap (N : Int) = (N : Int) := by rw [IntKind.wrap_u64]; omega
    obtain ⟨M, rfl⟩ : ∃ M : Nat, num = (M : Int) := ⟨num.toNat, by omega⟩
    have eM : (encN M).length ≤ 9 := encN_len (n := M) (by omega)
    have zM : IntKind.u64.wrap (M : Int) = (M : Int) := by rw [IntKind.wrap_u64]; omega
    have HBY : Hid (bytesO ⟨3, (R : Int), (N : Int), (M : Int), [], spans, 0⟩ = encN 3 ++ encN R ++ encN N ++ encN M ++ bytesL spans) := by show _ = _; unfold bytesO; simp [List.append_assoc]
    have HM := Lib.hid (makes_yes 3 (Or.inr rfl))
    have HN := Lib.hid (names_yes 3 (Or.inr rfl))
    have HT := Lib.hid (turns_no 3 (Or.inr (Or.inr rfl)))
    have ek : (encN 3).length ≤ 9 := encN_len (n := 3) (by decide)
    have H0 := Lib.hid (fun (o : Obj) => wnum_box 3 (by decide) (WBx.start HW.out o) (by omega) (by simp))
    simp only [List.nil_append] at H0
    go_enter Try.func34, Try.ntmps34
    go_wp2_with fail
    refine (H0.out _).mono ?_
    rintro e w1 ⟨rfl, hs1⟩
    have S1 := Lib.hid hs1
    obtain ⟨d0, d1, d2, d3, d4, d5, d6⟩ := seven_cells hs1.2.1
    clear hs1
    go_wp2_with fail
    refine (HM.out _).mono ?_
    rintro e w2 ⟨rfl, he⟩
    obtain rfl := Eq.symm he
    have C1 := Lib.hid (wnum_box R (by omega) S1.out (by omega) (by omega))
    go_wp2_with fail
    refine (C1.out).mono ?_
    rintro e w3 ⟨rfl, hs3⟩
    have S3 := Lib.hid hs3
    obtain ⟨d0, d1, d2, d3, d4, d5, d6⟩ := seven_cells hs3.2.1
    clear hs3
    have C2 := Lib.hid (wnum_box N (by omega) S3.out (by omega) (by simp only [List.length_append] at *; omega))
    go_wp2_with fail
    refine (C2.out).mono ?_
    rintro e w4 ⟨rfl, hs4⟩
    have S4 := Lib.hid hs4
    obtain ⟨d0, d1, d2, d3, d4, d5, d6⟩ := seven_cells hs4.2.1
    clear hs4
    have C3 := Lib.hid (wnum_box M (by omega) S4.out (by omega) (by simp only [List.length_append] at *; omega))
    go_wp2_with fail
    refine (C3.out).mono ?_
    rintro e w5 ⟨rfl, hs5⟩
    have S5 := Lib.hid hs5
    obtain ⟨d0, d1, d2, d3, d4, d5, d6⟩ := seven_cells hs5.2.1
    clear hs5
    go_wp2_with fail
    refine (HN.out _).mono ?_
    rintro e w6 ⟨rfl, he⟩
    obtain rfl := Eq.symm he
    have C4 := Lib.hid (wspans_box spans p c HW.out HR.out HQ.out A1.out HF9.out (by omega) h0 S5.out (by omega) (by simp only [List.length_append] at *; omega))
    go_wp2_with fail
    refine (C4.out).mono ?_
    rintro e w7 ⟨rfl, hs7⟩
    have S7 := Lib.hid hs7
    obtain ⟨d0, d1, d2, d3, d4, d5, d6⟩ := seven_cells hs7.2.1
    clear hs7
    go_wp2_with fail
    refine (HT.out _).mono ?_
    rintro e w8 ⟨rfl, he⟩
    obtain rfl := Eq.symm he
    go_wp2
    go_end0
    exact ⟨rfl, by rw [HBY.out]; exact S7.out.wrote⟩
  · obtain ⟨hk, rfl, rfl, hp, hs1, hs2⟩ := h
    have hp := of_decide_eq_true hp
    simp only at hp
    obtain ⟨rfl, rfl, rfl⟩ := hp
    obtain ⟨S, rfl⟩ : ∃ S : Nat, seq = (S : Int) := ⟨seq.toNat, by omega⟩
    have eS : (encN S).length ≤ 9 := encN_len (n := S) (by omega)
    have zS : IntKind.u64.wrap (S : Int) = (S : Int) := by rw [IntKind.wrap_u64]; omega
    rcases hk with rfl | rfl
    · have HBY : Hid (bytesO ⟨4, 0, 0, 0, [], [], (S : Int)⟩ = encN 4 ++ encN S) := by show _ = _; unfold bytesO; simp
      have HM := Lib.hid (makes_no 4 (by decide) (by decide))
      have HN := Lib.hid (names_no 4 (by decide) (by decide))
      have HT := Lib.hid (turns_yes 4 (by decide) (by decide) (by decide))
      have ek : (encN 4).length ≤ 9 := encN_len (n := 4) (by decide)
      have H0 := Lib.hid (fun (o : Obj) => wnum_box 4 (by decide) (WBx.start HW.out o) (by omega) (by simp))
      simp only [List.nil_append] at H0
      go_enter Try.func34, Try.ntmps34
      go_wp2_with fail
      refine (H0.out _).mono ?_
      rintro e w1 ⟨rfl, hs1⟩
      have S1 := Lib.hid hs1
      obtain ⟨d0, d1, d2, d3, d4, d5, d6⟩ := seven_cells hs1.2.1
      clear hs1
      go_wp2_with fail
      refine (HM.out _).mono ?_
      rintro e w2 ⟨rfl, he⟩
      obtain rfl := Eq.symm he
      go_wp2_with fail
      refine (HN.out _).mono ?_
      rintro e w3 ⟨rfl, he⟩
      obtain rfl := Eq.symm he
      go_wp2_with fail
      refine (HT.out _).mono ?_
      rintro e w4 ⟨rfl, he⟩
      obtain rfl := Eq.symm he
      have C1 := Lib.hid (wnum_box S (by omega) S1.out (by omega) (by omega))
      go_wp2_with fail
      refine (C1.out).mono ?_
      rintro e w5 ⟨rfl, hs5⟩
      have S5 := Lib.hid hs5
      obtain ⟨d0, d1, d2, d3, d4, d5, d6⟩ := seven_cells hs5.2.1
      clear hs5
      go_wp2
      go_end0
      exact ⟨rfl, by rw [HBY.out]; exact S5.out.wrote⟩
    · have HBY : Hid (bytesO ⟨5, 0, 0, 0, [], [], (S : Int)⟩ = encN 5 ++ encN S) := by show _ = _; unfold bytesO; simp
      have HM := Lib.hid (makes_no 5 (by decide) (by decide))
      have HN := Lib.hid (names_no 5 (by decide) (by decide))
      have HT := Lib.hid (turns_yes 5 (by decide) (by decide) (by decide))
      have ek : (encN 5).length ≤ 9 := encN_len (n := 5) (by decide)
      have H0 := Lib.hid (fun (o : Obj) => wnum_box 5 (by decide) (WBx.start HW.out o) (by omega) (by simp))
      simp only [List.nil_append] at H0
      go_enter Try.func34, Try.ntmps34
      go_wp2_with fail
      refine (H0.out _).mono ?_
      rintro e w1 ⟨rfl, hs1⟩
      have S1 := Lib.hid hs1
      obtain ⟨d0, d1, d2, d3, d4, d5, d6⟩ := seven_cells hs1.2.1
      clear hs1
      go_wp2_with fail
      refine (HM.out _).mono ?_
      rintro e w2 ⟨rfl, he⟩
      obtain rfl := Eq.symm he
      go_wp2_with fail
      refine (HN.out _).mono ?_
      rintro e w3 ⟨rfl, he⟩
      obtain rfl := Eq.symm he
      go_wp2_with fail
      refine (HT.out _).mono ?_
      rintro e w4 ⟨rfl, he⟩
      obtain rfl := Eq.symm he
      have C1 := Lib.hid (wnum_box S (by omega) S1.out (by omega) (by omega))
      go_wp2_with fail
      refine (C1.out).mono ?_
      rintro e w5 ⟨rfl, hs5⟩
      have S5 := Lib.hid hs5
      obtain ⟨d0, d1, d2, d3, d4, d5, d6⟩ := seven_cells hs5.2.1
      clear hs5
      go_wp2
      go_end0
      exact ⟨rfl, by rw [HBY.out]; exact S5.out.wrote⟩
end Go.Proofs.Ytedlmngfkkpmgaa
