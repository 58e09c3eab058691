
/-
  SpanNames returns true for any two lists of spans, any name and any number, and leaves them as they were: any spans have just the document's names; whether one is among them, whether one is there twice, and what of them isn't among others, is what the document says. No conditions.
-/
import Derived.Test.YtoadifbbmfaakaaRows
import Derived.Test.YtoadifbbmfaakaaLawNames
import Derived.Test.YtoadifbbmfaakaaSpanArgs
import Derived.Test.YtoadifbbmfaakaaSpanProg2
import Derived.Test.YtoadifbbmfaakaaSpanProg5
import Derived.Test.YtoadifbbmfaakaaSpanProg9
import Derived.Test.YtoadifbbmfaakaaSpanProg13
import Derived.SizedLaws
namespace Go.Proofs.Ytoadifbbmfaakaa
open Go.ChangeShapes Go.WideShapes Go.ChangeAt Go.RowKit Go.Joins
set_option linter.unusedVariables false
set_option linter.unusedSimpArgs false

set_option maxRecDepth 100000 in
theorem lifted (os : Os) (started : os.Started) (H : Type) (enc : TypeId × Value → H) :
    ReturnsInHanded {} Try.checked os 3 .any (Rows.spanNamesSpec.pre6 enc Try.prog Try.f3 Rows.spanNamesRow.domain false) (Rows.spanNamesSpec.post enc Try.prog Try.f3 false true false false) := by
  refine returnsInHanded_of_change_sized (C := Try.checked) own started (by kernel_rfl) Try.func3
    (ChangeSpec.witness6 (enc := enc) (C := Try.checked) false ⟨#[], #[.slice none 0 0, .slice none 0 0, .agg #[.int .u16 0, .int .u32 0], .int .i64 0], []⟩ 8 (by kernel_rfl) (by kernel_rfl) (by kernel_rfl) (by kernel_rfl)) ?_
  intro W base args ds gs before hval0 hW hcnd hsz0 _
  have hval : ∀ (j : Nat) t v, Try.f3.params[j]? = some t → args[j]? = some v → Value.okWide Try.prog W .any base t v := hval0
  have hW' := hW
  obtain ⟨p, q, hA0, hV, rfl, hfz, hnd⟩ := hW
  have hA : DataW.TrodAll enc Try.prog W 0 (fun _ => true) true Try.f3.params.toList args.toList ds p := hA0
  have hsz : (DataW.weightsEach Try.prog (Try.f3.params.toList ++ Rows.spanNamesSpec.plain.varTypes Try.prog) (ds ++ gs)).all (· ≤ reachBytes) = true := hsz0
  rw [Try.params3] at hA hval hsz
  obtain ⟨v0, v1, v2, v3, d0, d1, d2, d3, p0, p1, p2, p3, rfl, rfl, rfl, h0, h1, h2, h3⟩ := trodAll_four hA
  obtain ⟨rfl, rfl⟩ := trodVars_none hV
  have hv0 : Value.okWide Try.prog W .any base 22 v0 := hval 0 22 v0 rfl rfl
  obtain ⟨l, pl, cl, rfl, hR, hf, hc, hp, hl, hd0⟩ := spans_open hv0 h0
  have hv1 : Value.okWide Try.prog W .any base 22 v1 := hval 1 22 v1 rfl rfl
  obtain ⟨wo, pw, cw, rfl, hS, hg, hcw, hpw, hlw, hd1⟩ := spans_open hv1 h1
  have hsl0 : l.length ≤ 8796093021952 := by
    rcases hd0 with rfl | ⟨el, sp, rfl, hel⟩
    · simp
    · have := sized_slice hsz (j := 0) (t := 22) (e := 43) rfl rfl Try.underlying22
      rw [bytesSp] at this
      simp only [reachBytes] at this
      omega
  have hsl1 : wo.length ≤ 8796093021952 := by
    rcases hd1 with rfl | ⟨el, sp, rfl, hel⟩
    · simp
    · have := sized_slice hsz (j := 1) (t := 22) (e := 43) rfl rfl Try.underlying22
      rw [bytesSp] at this
      simp only [reachBytes] at this
      omega
  obtain ⟨x0, x1, y0, y1, m, rfl, rfl, rfl, hy0, hy1⟩ := open_agg2 Try.underlying26 (by kernel_rfl) cellsII (hval 2 26 v2 rfl rfl) h2
  obtain ⟨a, e0, rfl, wa⟩ := DataW.trod_int Try.underlying23 hy0
  obtain ⟨b, e1, rfl, wb⟩ := DataW.trod_int Try.underlying24 hy1
  simp at e0 e1
  subst e0 e1
  obtain ⟨n, rfl, rfl, rfl, wn⟩ := open_int Try.underlying3 (hval 3 3 v3 rfl rfl) h3
  simp only [List.append_nil] at hW'
  have structReads : ∀ (W' : World) (sp : Nat → Bool), DataW.Trod enc Try.prog W' 0 sp true 26 (.agg #[.int .u16 a, .int .u32 b]) (.agg [.lit (.int .u16 a), .lit (.int .u32 b)]) [] := fun W' sp =>
    shut_agg2 (y0 := (.lit (.int .u16 a), [])) (y1 := (.lit (.int .u32 b), [])) Try.underlying26 (by kernel_rfl) cellsII ⟨1, by simp [DataW.trod, Try.underlying23, wa]⟩ ⟨1, by simp [DataW.trod, Try.underlying24, wb]⟩
  have ba := bounds_u16 wa
  have bb := bounds_u32 wb
  have hn := bounds_i64 wn
  have hlt0 : ∀ x ∈ p0, x.block < W.heap.size := fun x hx => hW'.lt x (by simp [hx])
  have hlt1 : ∀ x ∈ p1, x.block < W.heap.size := fun x hx => hW'.lt x (by simp [hx])
  clear hA0 hval0
  refine (names_law of_spec ids_spec total_spec apart_spec less_spec has_spec last_spec cut_spec l wo (a, b) n pl pw cl cw W hR hS hf hg hc hp hcw hpw hsl0 hsl1 ⟨ba.1, by have := ba.2; simp only; omega, bb.1, by have := bb.2; simp only; omega⟩ hn.1 (by have := hn.2; omega)).mono fun e W' ⟨he, bel⟩ => ?_
  subst he
  exact ⟨_, rfl, _, _, _, [], _, [], hW', trodAll_mk1 (shut_bool Try.underlying4 _), trodAll_mk4 (spans_again h0 bel hlt0) (spans_again h1 bel hlt1) (structReads _ _) (shut_int Try.underlying3 wn), rfl, bel.frame _, fun h => by cases h⟩

theorem over : Rows.spanNamesRow.holds Try.pinned (OpenSpec.ofChange Rows.spanNamesSpec) :=
  OpenClaim.holds_of_wide 3 Try.f3 rfl rfl rfl rfl rfl rfl rfl ⟨rfl, rfl, rfl, rfl, rfl⟩ rfl rfl rfl rfl rfl (by kernel_rfl) Try.func3 (by kernel_rfl)
    (of_decide_eq_true (by kernel_rfl)) (by unfold Func.isWrapper; first | (rw [if_pos (by decide +kernel)]; kernel_rfl) | (rw [if_neg (by decide +kernel)]; exact ⟨rfl, rfl⟩))
    (fun os started H enc _ => lifted os started H enc)

/-- The given statement. -/
theorem spanNames_holds : Rows.SpanNamesSaid := over
#print axioms spanNames_holds

end Go.Proofs.Ytoadifbbmfaakaa
