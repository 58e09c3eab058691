
/-
  Transactions that come in, opened; and that they are as they were. No conditions beyond what each theorem states.
-/
import Derived.Test.YtedlmngfkkpmgaaTxnLay
import Derived.Test.YtedlmngfkkpmgaaTxnMath
namespace Go.Proofs.Ytedlmngfkkpmgaa
open Go.ChangeShapes Go.WideShapes Go.ChangeAt Go.RowKit Go.Lib
set_option linter.unusedVariables false
set_option linter.unusedSimpArgs false
set_option maxRecDepth 100000

/-- A transaction as a value: its parts, and where its operations lie. -/
def tv (t : Tm) (p : Option Addr) (c : Nat) : Value := .agg #[.int .u16 t.r, .int .u32 t.seq, .int .u64 t.clock, .int .i64 t.user, .slice p t.ops.length c]
/-- A transaction that comes in: its operations behind their address, each with its spans. -/
structure InT (t : Tm) (xs : List OV) (p : Option Addr) (c : Nat) (w : World) : Prop where
  fit : FitTm t
  ops : t.ops = xs.map (·.1)
  row : ORow w p xs
  cap : t.ops.length ≤ c
  nil : p = none → c = 0
theorem InT.below {t : Tm} {xs : List OV} {p : Option Addr} {c : Nat} {w w' : World} (h : InT t xs p c w) (hb : Below w.heap.size w w') : InT t xs p c w' := ⟨h.fit, h.ops, h.row.below hb, h.cap, h.nil⟩
theorem cells9 : Try.prog.cellsOf 27 = 5 := by kernel_rfl
theorem cellsC : Try.prog.cellsOf 24 = 1 := by kernel_rfl
theorem cellsOs : Try.prog.cellsOf 25 = 1 := by kernel_rfl
theorem array5 {cs : Array Value} (h : cs.size = 5) : ∃ a b c d e, cs = #[a, b, c, d, e] := by
  obtain ⟨l⟩ := cs
  match l, h with
  | [a, b, c, d, e], _ => exact ⟨a, b, c, d, e, rfl⟩
theorem list5 {α : Type} {l : List α} (h : l.length = 5) : ∃ a b c d e, l = [a, b, c, d, e] := by
  match l, h with
  | [a, b, c, d, e], _ => exact ⟨a, b, c, d, e, rfl⟩
/-- A transaction that comes in. -/
theorem txn_open {H : Type} {enc : TypeId × Value → H} {W : World} {r : Reach} {base : Nat} {v : Value} {d : DataW H} {ps : List MemPlace} (hv : Value.okWide Try.prog W r base 27 v) (h : DataW.Trod enc Try.prog W 0 (fun _ => true) true 27 v d ps) :
    ∃ t xs p c, v = tv t p c ∧ InT t xs p c W ∧ t.ops.length ≤ 9223372036854775807 ∧ ∀ x ∈ xs, x.1.text.length ≤ 9223372036854775807 ∧ x.1.spans.length ≤ 9223372036854775807 := by
  obtain ⟨cs, rfl, hsz⟩ := okWide_struct Try.underlying27 hv
  obtain ⟨c0, c1, c2, c3, c4, rfl⟩ := array5 (hsz.trans cells9)
  obtain ⟨fuel, hf⟩ := h
  obtain ⟨xs, n, -, -, -, hlen, hfs⟩ := DataW.trod_struct Try.underlying27 hf
  obtain ⟨z0, z1, z2, z3, z4, rfl⟩ := list5 (by simpa using hlen)
  have h0 := hfs 0 _ rfl
  have h1 := hfs 1 _ rfl
  have h2 := hfs 2 _ rfl
  have h3 := hfs 3 _ rfl
  have h4 := hfs 4 _ rfl
  simp [Value.cells, cellsInt, cellsR, cellsN, cellsC, cellsOs] at h0 h1 h2 h3 h4
  obtain ⟨R, e0, -, w0⟩ := DataW.trod_int Try.underlying22 h0
  obtain ⟨S, e1, -, w1⟩ := DataW.trod_int Try.underlying23 h1
  obtain ⟨C, e2, -, w2⟩ := DataW.trod_int Try.underlying24 h2
  obtain ⟨U, e3, -, w3⟩ := DataW.trod_int Try.underlying3 h3
  obtain ⟨l, p, c, e4, hG, hF, hc, hp, hll⟩ := @lay_cells OV ⟨ov0⟩ layO (fun a => InO a.1 a.2.1 a.2.2 W ∧ a.1.text.length ≤ 9223372036854775807 ∧ a.1.spans.length ≤ 9223372036854775807) layO_pos H enc W _ _ _ _ _ Try.underlying25 cells8 (fun n cs' x h hl => op_dec n cs' x h hl) h4
  simp at e0 e1 e2 e3 e4
  subst e0 e1 e2 e3 e4
  have b0 := bounds_u16 w0
  have b1 := bounds_u32 w1
  have b2 := bounds_u64 w2
  have b3 := bounds_i64 w3
  refine ⟨⟨R, S, C, U, l.map (·.1)⟩, l, p, c, by unfold tv; simp, ⟨⟨b0.1, by have := b0.2; simp only; omega, b1.1, by have := b1.2; simp only; omega, b2.1, by have := b2.2; simp only; omega, b3.1, by have := b3.2; simp only; omega, ?_⟩, rfl, ⟨hG, fun x hx => (hF x hx).1⟩, by simpa using hc, hp⟩, by simpa using hll, fun x hx => (hF x hx).2⟩
  intro o ho
  obtain ⟨x, hx, rfl⟩ := List.mem_map.1 ho
  exact (hF x hx).1.fit
theorem txn_again {H : Type} {enc : TypeId × Value → H} {W W' : World} {v : Value} {d : DataW H} {ps : List MemPlace} (h : DataW.Trod enc Try.prog W 0 (fun _ => true) true 27 v d ps) (hb : Below W.heap.size W W') (hlt : ∀ x ∈ ps, x.block < W.heap.size) :
    DataW.Trod enc Try.prog W' 0 (fun b => decide (b < W.heap.size)) true 27 v d ps :=
  Below.trod laidOut (by kernel_rfl) (of_decide_eq_true (by kernel_rfl)) h hb hlt
end Go.Proofs.Ytedlmngfkkpmgaa
