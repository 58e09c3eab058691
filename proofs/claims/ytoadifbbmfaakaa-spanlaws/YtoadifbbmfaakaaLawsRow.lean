
/-
  SpanLaws returns true for any two lists of spans, and leaves both as they were: of any spans without a name twice, what is in others and what isn't are all, together; without themselves nothing is left; as spans of their names they have the same names. No conditions.
-/
import Derived.Test.YtoadifbbmfaakaaRows
import Derived.Test.YtoadifbbmfaakaaLawLaws
import Derived.Test.YtoadifbbmfaakaaSpanArgs
import Derived.Test.YtoadifbbmfaakaaSpanProg5
import Derived.Test.YtoadifbbmfaakaaSpanProg9
import Derived.Test.YtoadifbbmfaakaaSpanProg13
import Derived.SizedLaws
namespace Go.Proofs.Ytoadifbbmfaakaa
open Go.ChangeShapes Go.WideShapes Go.ChangeAt Go.RowKit Go.Joins
set_option linter.unusedVariables false
set_option linter.unusedSimpArgs false

set_option maxRecDepth 100000 in
theorem lifted (os : Os) (started : os.Started) (H : Type) (enc : TypeId × Value → H) :
    ReturnsInHanded {} Try.checked os 7 .any (Rows.spanLawsSpec.pre6 enc Try.prog Try.f7 Rows.spanLawsRow.domain false) (Rows.spanLawsSpec.post enc Try.prog Try.f7 false true false false) := by
  refine returnsInHanded_of_change_sized (C := Try.checked) own started (by kernel_rfl) Try.func7
    (ChangeSpec.witness6 (enc := enc) (C := Try.checked) false ⟨#[], #[.slice none 0 0, .slice none 0 0], []⟩ 8 (by kernel_rfl) (by kernel_rfl) (by kernel_rfl) (by kernel_rfl)) ?_
  intro W base args ds gs before hval0 hW hcnd hsz0 _
  have hval : ∀ (j : Nat) t v, Try.f7.params[j]? = some t → args[j]? = some v → Value.okWide Try.prog W .any base t v := hval0
  have hW' := hW
  obtain ⟨p, q, hA0, hV, rfl, hfz, hnd⟩ := hW
  have hA : DataW.TrodAll enc Try.prog W 0 (fun _ => true) true Try.f7.params.toList args.toList ds p := hA0
  have hsz : (DataW.weightsEach Try.prog (Try.f7.params.toList ++ Rows.spanLawsSpec.plain.varTypes Try.prog) (ds ++ gs)).all (· ≤ reachBytes) = true := hsz0
  rw [Try.params7] at hA hval hsz
  obtain ⟨v0, v1, d0, d1, p0, p1, rfl, rfl, rfl, h0, h1⟩ := trodAll_two hA
  obtain ⟨rfl, rfl⟩ := trodVars_none hV
  have hv0 : Value.okWide Try.prog W .any base 22 v0 := hval 0 22 v0 rfl rfl
  obtain ⟨l, pl, cl, rfl, hR, hf, hc, hp, hl, hd0⟩ := spans_open hv0 h0
  have hv1 : Value.okWide Try.prog W .any base 22 v1 := hval 1 22 v1 rfl rfl
  obtain ⟨wo, pw, cw, rfl, hS, hg, hcw, hpw, hlw, hd1⟩ := spans_open hv1 h1
  have hsl0 : l.length ≤ 8796093021952 := by
    rcases hd0 with rfl | ⟨el, sp, rfl, hel⟩
    · simp
    · have := sized_slice hsz (j := 0) (t := 22) (e := 43) rfl rfl Try.underlying22
      rw [bytesSp] at this
      simp only [reachBytes] at this
      omega
  have hsl1 : wo.length ≤ 8796093021952 := by
    rcases hd1 with rfl | ⟨el, sp, rfl, hel⟩
    · simp
    · have := sized_slice hsz (j := 1) (t := 22) (e := 43) rfl rfl Try.underlying22
      rw [bytesSp] at this
      simp only [reachBytes] at this
      omega
  have hlt0 : ∀ x ∈ p0, x.block < W.heap.size := fun x hx => hW'.lt x (by simp [hx])
  have hlt1 : ∀ x ∈ p1, x.block < W.heap.size := fun x hx => hW'.lt x (by simp [hx])
  clear hA0 hval0
  refine (laws_any of_spec ids_spec total_spec apart_spec less_spec l wo pl pw cl cw W hR hS hf hg hc hp hcw hpw hsl0 hsl1).mono fun e W' ⟨he, bel⟩ => ?_
  subst he
  exact ⟨_, rfl, _, _, _, [], _, [], hW', trodAll_mk1 (shut_bool Try.underlying4 _), trodAll_mk2 (spans_again h0 bel hlt0) (spans_again h1 bel hlt1), rfl, bel.frame _, fun h => by cases h⟩

theorem over : Rows.spanLawsRow.holds Try.pinned (OpenSpec.ofChange Rows.spanLawsSpec) :=
  OpenClaim.holds_of_wide 7 Try.f7 rfl rfl rfl rfl rfl rfl rfl ⟨rfl, rfl, rfl, rfl, rfl⟩ rfl rfl rfl rfl rfl (by kernel_rfl) Try.func7 (by kernel_rfl)
    (of_decide_eq_true (by kernel_rfl)) (by unfold Func.isWrapper; first | (rw [if_pos (by decide +kernel)]; kernel_rfl) | (rw [if_neg (by decide +kernel)]; exact ⟨rfl, rfl⟩))
    (fun os started H enc _ => lifted os started H enc)

/-- The given statement. -/
theorem spanLaws_holds : Rows.SpanLawsSaid := over
#print axioms spanLaws_holds

end Go.Proofs.Ytoadifbbmfaakaa
