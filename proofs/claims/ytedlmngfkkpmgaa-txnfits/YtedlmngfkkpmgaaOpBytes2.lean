
/-
  The document's Bytes of layer 8, of any operation that fits; and what is read of bytes, by the document. No conditions beyond what each theorem states.
-/
import Derived.Test.YtedlmngfkkpmgaaOpBytes1
namespace Go.Proofs.Ytedlmngfkkpmgaa
open Go.ChangeShapes Go.WideShapes Go.ChangeAt Go.RowKit Go.Lib
set_option linter.unusedVariables false
set_option linter.unusedSimpArgs false

theorem nat_of {x : Int} (h : 0 ≤ x) : ∃ N : Nat, x = (N : Int) := ⟨x.toNat, by omega⟩
theorem refbytes8_any (o : Om) (p : Option Addr) (c : Nat) (w : World) (hI : InO o p c w) (hl : o.spans.length ≤ 60) (h0 : fitO o = 0) :
    Calls Try.prog 37 #[ov o p c] w (Fresh (bytesO o) w) := by
  have hc := fitO_cases h0
  have hf := hI.fit
  unfold FitOm at hf
  obtain ⟨f1, f2, f3, f4, f5, f6, f7, f8, f9, f10, f11⟩ := hf
  have hG := hI.row
  obtain ⟨kind, r, n, num, text, spans, seq⟩ := o
  simp only at f1 f2 f3 f4 f5 f6 f7 f8 f9 f10 f11 hl hG
  obtain ⟨R, rfl⟩ := nat_of f3
  obtain ⟨N, rfl⟩ := nat_of f5
  obtain ⟨M, rfl⟩ := nat_of f7
  obtain ⟨S, rfl⟩ := nat_of f10
  rcases hc with h | h | h | h
  · obtain ⟨rfl, rfl, -, -, -, ht, -⟩ := h
    have := bytes8_1 R N M S text [] p c w (by omega) (by omega) (by omega) (by omega) ht
    simpa [bytesO, ov] using this
  · obtain ⟨rfl, rfl, -, -, hfl⟩ := h
    have := bytes8_2 R N M S [] spans p c w (by omega) (by omega) (by omega) (by omega) hG (fitL_ok hfl).1 f9 hl
    simpa [bytesO, ov] using this
  · obtain ⟨rfl, rfl, -, hfl, -⟩ := h
    have := bytes8_3 R N M S [] spans p c w (by omega) (by omega) (by omega) (by omega) hG (fitL_ok hfl).1 f9 hl
    simpa [bytesO, ov] using this
  · obtain ⟨hk, rfl, rfl, -, -, -⟩ := h
    rcases hk with hk | hk
    · simp only at hk
      subst hk
      have := bytes8_4 R N M S [] [] p c w (by omega) (by omega) (by omega) (by omega)
      simpa [bytesO, ov] using this
    · simp only at hk
      subst hk
      have := bytes8_5 R N M S [] [] p c w (by omega) (by omega) (by omega) (by omega)
      simpa [bytesO, ov] using this
theorem bytesO_len {o : Om} (hf : FitOm o) (ht : o.text.length ≤ 300) (hl : o.spans.length ≤ 60) (hk : 0 ≤ o.kind) : (bytesO o).length ≤ 5000 := by
  unfold FitOm at hf
  have e1 := encN_len (n := o.kind.toNat) (by omega)
  have e2 := encN_len (n := o.r.toNat) (by omega)
  have e3 := encN_len (n := o.n.toNat) (by omega)
  have e4 := encN_len (n := o.num.toNat) (by omega)
  have e5 := encN_len (n := o.seq.toNat) (by omega)
  have e6 := bytesL_len (l := o.spans) hf.2.2.2.2.2.2.2.2.1 (by omega)
  have e7 : (encT o.text).length ≤ 400 := by unfold encT; rw [List.length_append]; have := encN_len (n := o.text.length) (by omega); omega
  unfold bytesO
  rw [List.length_append, List.length_append]
  have a1 : (if o.kind = 1 ∨ o.kind = 3 then encN o.r.toNat ++ (encN o.n.toNat ++ encN o.num.toNat) else []).length ≤ 27 := by
    split
    · rw [List.length_append, List.length_append]; omega
    · simp
  have a2 : (if o.kind = 1 then encT o.text else if o.kind = 2 ∨ o.kind = 3 then bytesL o.spans else encN o.seq.toNat).length ≤ 4000 := by
    split
    · omega
    · split
      · omega
      · omega
  omega

/-- Anchor and number, read. -/
def rdP (bs : List UInt8) (q e : Nat) : (Nat × Nat × Nat) × Nat × Nat :=
  (((rdN bs q e 65535).1, (rdN bs (rdN bs q e 65535).2.1 (rdN bs q e 65535).2.2 268435456).1, (rdN bs (rdN bs (rdN bs q e 65535).2.1 (rdN bs q e 65535).2.2 268435456).2.1 (rdN bs (rdN bs q e 65535).2.1 (rdN bs q e 65535).2.2 268435456).2.2 268435456).1), (rdN bs (rdN bs (rdN bs q e 65535).2.1 (rdN bs q e 65535).2.2 268435456).2.1 (rdN bs (rdN bs q e 65535).2.1 (rdN bs q e 65535).2.2 268435456).2.2 268435456).2)
/-- What stands behind the kind (and the anchor), read. -/
def readB (bs : List UInt8) (k : Nat) (t : Nat × Nat × Nat) (q e : Nat) : Om × Nat × Nat :=
  if k = 1 then (if (rdT bs q e 64).2.2 = 0 then (⟨1, (t.1 : Int), (t.2.1 : Int), (t.2.2 : Int), (rdT bs q e 64).1, [], 0⟩, (rdT bs q e 64).2) else (o0, (rdT bs q e 64).2))
  else if k = 2 ∨ k = 3 then (if (readS bs q e).2.2 = 0 then (⟨(k : Int), (t.1 : Int), (t.2.1 : Int), (t.2.2 : Int), [], (readS bs q e).1, 0⟩, (readS bs q e).2) else (o0, (readS bs q e).2))
  else (if (rdN bs q e 268435456).2.2 = 0 then (⟨(k : Int), (t.1 : Int), (t.2.1 : Int), (t.2.2 : Int), [], [], ((rdN bs q e 268435456).1 : Int)⟩, (rdN bs q e 268435456).2) else (o0, (rdN bs q e 268435456).2))
/-- An operation at a place; where the next thing stands, and an error. -/
def readO (bs : List UInt8) (q e : Nat) : Om × Nat × Nat :=
  if (rdN bs q e 5).1 = 1 ∨ (rdN bs q e 5).1 = 3 then readB bs (rdN bs q e 5).1 (rdP bs (rdN bs q e 5).2.1 (rdN bs q e 5).2.2).1 (rdP bs (rdN bs q e 5).2.1 (rdN bs q e 5).2.2).2.1 (rdP bs (rdN bs q e 5).2.1 (rdN bs q e 5).2.2).2.2
  else readB bs (rdN bs q e 5).1 (0, 0, 0) (rdN bs q e 5).2.1 (rdN bs q e 5).2.2
theorem rdT_at {pre post s : List UInt8} {limit : Nat} (hs : s.length ≤ limit) (hl : limit < 9223372036854775808) : rdT (pre ++ (encT s ++ post)) pre.length 0 limit = (s, pre.length + (encT s).length, 0) := by
  unfold rdT
  rw [if_pos rfl, List.drop_left, readT_enc (by omega) hs]
theorem rdP_at {pre post : List UInt8} {R N M : Nat} (hR : R ≤ 65535) (hN : N ≤ 268435456) (hM : M ≤ 268435456) : rdP (pre ++ ((encN R ++ (encN N ++ encN M)) ++ post)) pre.length 0 = ((R, N, M), pre.length + (encN R ++ (encN N ++ encN M)).length, 0) := by
  have h1 := rdN_at (pre := pre) (post := encN N ++ (encN M ++ post)) (n := R) (limit := 65535) (by omega) hR
  have h2 := rdN_at (pre := pre ++ encN R) (post := encN M ++ post) (n := N) (limit := 268435456) (by omega) hN
  have h3 := rdN_at (pre := pre ++ encN R ++ encN N) (post := post) (n := M) (limit := 268435456) (by omega) hM
  unfold rdP
  simp only [List.append_assoc, List.length_append] at h1 h2 h3 ⊢
  rw [h1]
  simp only
  rw [h2]
  simp only
  rw [show pre.length + (encN R).length + (encN N).length = pre.length + ((encN R).length + (encN N).length) by omega, h3]
  simp only [Prod.mk.injEq, true_and, and_true]
  omega
end Go.Proofs.Ytedlmngfkkpmgaa
