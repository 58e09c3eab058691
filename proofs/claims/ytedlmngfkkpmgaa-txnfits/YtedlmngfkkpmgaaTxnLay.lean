
/-
  Rows of operations, each with its own spans. No conditions beyond what each theorem states.
-/
import Derived.Test.YtedlmngfkkpmgaaOpArgs
namespace Go.Proofs.Ytedlmngfkkpmgaa
open Go.ChangeShapes Go.WideShapes Go.ChangeAt Go.RowKit Go.Lib
set_option linter.unusedVariables false
set_option linter.unusedSimpArgs false
set_option maxRecDepth 100000

/-- An operation as it lies in memory: what it is, and where its spans lie. -/
abbrev OV := Om × Option Addr × Nat
def ov0 : OV := (o0, none, 0)
def layO : Lay OV := ⟨7, fun x => [.int .i64 x.1.kind, .int .u16 x.1.r, .int .u32 x.1.n, .int .u32 x.1.num, .string ⟨x.1.text.toArray⟩, .slice x.2.1 x.1.spans.length x.2.2, .int .u32 x.1.seq], fun _ => rfl, fun x u hu => by
  simp at hu
  rcases hu with rfl | rfl | rfl | rfl | rfl | rfl | rfl <;> rfl⟩
theorem layO_pos : 0 < layO.k := by decide
theorem orow_at {w : World} {p : Option Addr} {xs : List OV} (h : GRow layO w p xs) {i : Nat} (hi : i < xs.length) : ∃ b o, p = some ⟨b, o, none⟩ ∧ w.cell? ⟨b, o + i * 7, none⟩ = some (.int .i64 (xs.getD i ov0).1.kind) ∧ w.cell? ⟨b, o + i * 7 + 1, none⟩ = some (.int .u16 (xs.getD i ov0).1.r) ∧ w.cell? ⟨b, o + i * 7 + 2, none⟩ = some (.int .u32 (xs.getD i ov0).1.n) ∧ w.cell? ⟨b, o + i * 7 + 3, none⟩ = some (.int .u32 (xs.getD i ov0).1.num) ∧ w.cell? ⟨b, o + i * 7 + 4, none⟩ = some (.string ⟨(xs.getD i ov0).1.text.toArray⟩) ∧ w.cell? ⟨b, o + i * 7 + 5, none⟩ = some (.slice (xs.getD i ov0).2.1 (xs.getD i ov0).1.spans.length (xs.getD i ov0).2.2) ∧ w.cell? ⟨b, o + i * 7 + 6, none⟩ = some (.int .u32 (xs.getD i ov0).1.seq) := by
  obtain ⟨b, o, rfl, h0⟩ := h.cell ov0 (j := 0) hi rfl
  obtain ⟨b1, o1, e1, h1⟩ := h.cell ov0 (j := 1) hi rfl
  obtain ⟨b2, o2, e2, h2⟩ := h.cell ov0 (j := 2) hi rfl
  obtain ⟨b3, o3, e3, h3⟩ := h.cell ov0 (j := 3) hi rfl
  obtain ⟨b4, o4, e4, h4⟩ := h.cell ov0 (j := 4) hi rfl
  obtain ⟨b5, o5, e5, h5⟩ := h.cell ov0 (j := 5) hi rfl
  obtain ⟨b6, o6, e6, h6⟩ := h.cell ov0 (j := 6) hi rfl
  cases e1; cases e2; cases e3; cases e4; cases e5; cases e6
  exact ⟨b, o, rfl, h0, h1, h2, h3, h4, h5, h6⟩
/-- Operations behind an address, each one with its spans. -/
structure ORow (w : World) (p : Option Addr) (xs : List OV) : Prop where
  row : GRow layO w p xs
  each : ∀ x ∈ xs, InO x.1 x.2.1 x.2.2 w
theorem ORow.below {w w' : World} {p : Option Addr} {xs : List OV} (h : ORow w p xs) (hb : Below w.heap.size w w') : ORow w' p xs := ⟨h.row.below hb, fun x hx => (h.each x hx).below hb⟩
theorem ORow.at {w : World} {p : Option Addr} {xs : List OV} (h : ORow w p xs) {i : Nat} (hi : i < xs.length) : InO (xs.getD i ov0).1 (xs.getD i ov0).2.1 (xs.getD i ov0).2.2 w := h.each _ (getD_mem ov0 hi)
/-- One operation's cells, read. -/
theorem op_dec {H : Type} {enc : TypeId × Value → H} {W : World} (n : Nat) (cs' : List Value) (x : DataW H × List MemPlace) (h : DataW.trod enc Try.prog W 0 (fun _ => true) true n 69 cs' = some x) (hl : cs'.length = 7) : ∃ a : OV, cs' = layO.enc a ∧ InO a.1 a.2.1 a.2.2 W ∧ a.1.text.length ≤ 9223372036854775807 ∧ a.1.spans.length ≤ 9223372036854775807 := by
  obtain ⟨xs, n, -, -, -, hlen, hfs⟩ := DataW.trod_struct Try.underlying69 h
  obtain ⟨z0, z1, z2, z3, z4, z5, rfl⟩ := list6 (by simpa using hlen)
  match cs', hl with
  | [c0, c1, c2, c3, c4, c5, c6], _ =>
    have h0 := hfs 0 _ rfl
    have h1 := hfs 1 _ rfl
    have h2 := hfs 2 _ rfl
    have h3 := hfs 3 _ rfl
    have h4 := hfs 4 _ rfl
    have h5 := hfs 5 _ rfl
    simp [cellsInt, cellsII, cellsN, cellsSt, cellsSl] at h0 h1 h2 h3 h4 h5
    obtain ⟨k, e0, -, w0⟩ := DataW.trod_int Try.underlying3 h0
    obtain ⟨a, e1, fa⟩ := id_dec _ _ _ h1 rfl
    obtain ⟨m, e2, -, w2⟩ := DataW.trod_int Try.underlying23 h2
    obtain ⟨s, e3, -, hs⟩ := DataW.trod_string Try.underlying9 h3
    obtain ⟨l, p, c, e4, hG, hF, hc, hp, hll⟩ := lay_cells layS FitS layS_pos Try.underlying67 cellsSp (fun n cs' x h hl => span_dec n cs' x h hl) h4
    obtain ⟨q, e5, -, w5⟩ := DataW.trod_int Try.underlying23 h5
    simp at e0 e1 e2 e3 e4 e5
    obtain ⟨rfl, rfl⟩ := e1
    subst e0 e2 e3 e4 e5
    have b0 := bounds_i64 w0
    have b2 := bounds_u32 w2
    have b5 := bounds_u32 w5
    unfold FitN at fa
    obtain ⟨sd⟩ := s
    obtain ⟨sl⟩ := sd
    refine ⟨(⟨k, a.1, a.2, m, sl, l, q⟩, p, c), rfl, ⟨⟨b0.1, by have := b0.2; simp only; omega, fa.1, fa.2.1, fa.2.2.1, fa.2.2.2, b2.1, by have := b2.2; simp only; omega, hF, b5.1, by have := b5.2; simp only; omega⟩, hG, hc, hp⟩, ?_, hll⟩
    unfold maxLen at hs
    have : (⟨⟨sl⟩⟩ : ByteArray).size = sl.length := rfl
    simp only
    omega
end Go.Proofs.Ytedlmngfkkpmgaa
