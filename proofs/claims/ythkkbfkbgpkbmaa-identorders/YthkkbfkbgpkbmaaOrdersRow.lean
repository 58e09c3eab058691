/-
  IdentOrders returns true for any three keys, and leaves them as they were: any two IDs and any two keys are in the document's order, and of three, what is ahead of what is ahead is ahead. No conditions.
-/
import Derived.Test.YthkkbfkbgpkbmaaOrders
namespace Go.Proofs.Ythkkbfkbgpkbmaa
open Go.ChangeShapes Go.WideShapes Go.ChangeAt Go.RowKit Go.Sort Go.Joins
set_option linter.unusedVariables false
set_option linter.unusedSimpArgs false

theorem orders_own : ownKnob Try.prog.godebug = none := by kernel_rfl
theorem Try.cells26 : Try.prog.cellsOf 26 = 3 := by kernel_rfl

theorem key_reads {H : Type} {enc : TypeId × Value → H} {a b c : Int} (wa : (Lit.int .u64 a).wf = true) (wb : (Lit.int .u16 b).wf = true) (wc : (Lit.int .u32 c).wf = true) (W' : World) (sp : Nat → Bool) :
    DataW.Trod enc Try.prog W' 0 sp true 26 (.agg #[.int .u64 a, .int .u16 b, .int .u32 c]) (.agg [.lit (.int .u64 a), .lit (.int .u16 b), .lit (.int .u32 c)]) [] :=
  shut_agg3 (y0 := (.lit (.int .u64 a), [])) (y1 := (.lit (.int .u16 b), [])) (y2 := (.lit (.int .u32 c), [])) Try.underlying26 (by kernel_rfl) Try.cells26
    ⟨1, by simp [DataW.trod, Try.underlying22, wa]⟩ ⟨1, by simp [DataW.trod, Try.underlying23, wb]⟩ ⟨1, by simp [DataW.trod, Try.underlying24, wc]⟩

theorem key_opens {H : Type} {enc : TypeId × Value → H} {W : World} {r : Reach} {b0 : Nat} {v : Value} {d : DataW H} {p : List MemPlace} (hv : Value.okWide Try.prog W r b0 26 v) (h : DataW.Trod enc Try.prog W 0 (fun _ => true) true 26 v d p) :
    ∃ a b c : Int, v = .agg #[.int .u64 a, .int .u16 b, .int .u32 c] ∧ d = .agg [.lit (.int .u64 a), .lit (.int .u16 b), .lit (.int .u32 c)] ∧ p = [] ∧ (Lit.int .u64 a).wf = true ∧ (Lit.int .u16 b).wf = true ∧ (Lit.int .u32 c).wf = true := by
  obtain ⟨c0, c1, c2, y0, y1, y2, m, rfl, rfl, rfl, hy0, hy1, hy2⟩ := open_agg3 Try.underlying26 (by kernel_rfl) Try.cells26 hv h
  obtain ⟨a, e0, rfl, wa⟩ := DataW.trod_int Try.underlying22 hy0
  obtain ⟨b, e1, rfl, wb⟩ := DataW.trod_int Try.underlying23 hy1
  obtain ⟨c, e2, rfl, wc⟩ := DataW.trod_int Try.underlying24 hy2
  simp at e0 e1 e2
  subst e0 e1 e2
  exact ⟨a, b, c, rfl, rfl, rfl, wa, wb, wc⟩

set_option maxRecDepth 100000 in
theorem orders_lifted (os : Os) (started : os.Started) (H : Type) (enc : TypeId × Value → H) :
    ReturnsInHanded {} Try.checked os 3 .any (Rows.identOrdersSpec.pre6 enc Try.prog Try.f3 Rows.identOrdersRow.domain false) (Rows.identOrdersSpec.post enc Try.prog Try.f3 false true false false) := by
  refine returnsInHanded_of_change (C := Try.checked) orders_own started (by kernel_rfl) Try.func3
    (ChangeSpec.witness6 (enc := enc) (C := Try.checked) false ⟨#[], #[.agg #[.int .u64 0, .int .u16 0, .int .u32 0], .agg #[.int .u64 0, .int .u16 0, .int .u32 0], .agg #[.int .u64 0, .int .u16 0, .int .u32 0]], []⟩ 8 (by kernel_rfl) (by kernel_rfl) (by kernel_rfl) (by kernel_rfl)) ?_
  intro W base args ds gs before hval0 hW hcnd _
  have hval : ∀ (j : Nat) t v, Try.f3.params[j]? = some t → args[j]? = some v → Value.okWide Try.prog W .any base t v := hval0
  have hW' := hW
  obtain ⟨p, q, hA0, hV, rfl, hfz, hnd⟩ := hW
  have hA : DataW.TrodAll enc Try.prog W 0 (fun _ => true) true Try.f3.params.toList args.toList ds p := hA0
  rw [Try.params3] at hA hval
  obtain ⟨v0, v1, v2, d0, d1, d2, p0, p1, p2, rfl, rfl, rfl, h0, h1, h2⟩ := trodAll_three hA
  obtain ⟨rfl, rfl⟩ := trodVars_none hV
  obtain ⟨a0, b0, c0, rfl, rfl, rfl, wa0, wb0, wc0⟩ := key_opens (hval 0 26 v0 rfl rfl) h0
  obtain ⟨a1, b1, c1, rfl, rfl, rfl, wa1, wb1, wc1⟩ := key_opens (hval 1 26 v1 rfl rfl) h1
  obtain ⟨a2, b2, c2, rfl, rfl, rfl, wa2, wb2, wc2⟩ := key_opens (hval 2 26 v2 rfl rfl) h2
  clear hA0 hval0
  refine (orders_walk a0 b0 c0 a1 b1 c1 a2 b2 c2 W).mono fun e W' ⟨he, bel⟩ => ?_
  subst he
  exact ⟨_, rfl, _, _, _, [], [], [], hW', trodAll_mk1 (shut_bool Try.underlying4 _), trodAll_mk3 (key_reads wa0 wb0 wc0 _ _) (key_reads wa1 wb1 wc1 _ _) (key_reads wa2 wb2 wc2 _ _), rfl, bel.frame _, fun h => by cases h⟩

theorem orders_over : Rows.identOrdersRow.holds Try.pinned (OpenSpec.ofChange Rows.identOrdersSpec) :=
  OpenClaim.holds_of_wide 3 Try.f3 rfl rfl rfl rfl rfl rfl rfl ⟨rfl, rfl, rfl, rfl, rfl⟩ rfl rfl rfl rfl rfl (by kernel_rfl) Try.func3 (by kernel_rfl)
    (of_decide_eq_true (by kernel_rfl)) (by unfold Func.isWrapper; first | (rw [if_pos (by decide +kernel)]; kernel_rfl) | (rw [if_neg (by decide +kernel)]; exact ⟨rfl, rfl⟩))
    (fun os started H enc _ => orders_lifted os started H enc)

/-- The given statement. -/
theorem identOrders_holds : Rows.IdentOrdersSaid := orders_over
#print axioms identOrders_holds

end Go.Proofs.Ythkkbfkbgpkbmaa
