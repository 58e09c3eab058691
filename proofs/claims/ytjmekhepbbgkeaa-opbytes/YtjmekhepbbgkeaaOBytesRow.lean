
/-
  OpBytes returns true for any operation, and leaves it as it was: what can be done is written as the document writes it, and read again. No conditions.
-/
import Derived.Test.YtjmekhepbbgkeaaRows
import Derived.Test.YtjmekhepbbgkeaaLawOBytes
import Derived.Test.YtjmekhepbbgkeaaOpArgs
import Derived.Test.YtjmekhepbbgkeaaOpProg4
import Derived.Test.YtjmekhepbbgkeaaOpProg5
namespace Go.Proofs.Ytjmekhepbbgkeaa
open Go.ChangeShapes Go.WideShapes Go.ChangeAt Go.RowKit Go.Joins
set_option linter.unusedVariables false
set_option linter.unusedSimpArgs false

set_option maxRecDepth 100000 in
theorem lifted (os : Os) (started : os.Started) (H : Type) (enc : TypeId × Value → H) :
    ReturnsInHanded {} Try.checked os 4 .any (Rows.opBytesSpec.pre6 enc Try.prog Try.f4 Rows.opBytesRow.domain false) (Rows.opBytesSpec.post enc Try.prog Try.f4 false true false false) := by
  refine returnsInHanded_of_change (C := Try.checked) own started (by kernel_rfl) Try.func4
    (ChangeSpec.witness6 (enc := enc) (C := Try.checked) false ⟨#[], #[.agg #[.int .i64 0, .int .u16 0, .int .u32 0, .int .u32 0, .string ⟨#[]⟩, .slice none 0 0, .int .u32 0]], []⟩ 8 (by kernel_rfl) (by kernel_rfl) (by kernel_rfl) (by kernel_rfl)) ?_
  intro W base args ds gs before hval0 hW hcnd _
  have hval : ∀ (j : Nat) t v, Try.f4.params[j]? = some t → args[j]? = some v → Value.okWide Try.prog W .any base t v := hval0
  have hW' := hW
  obtain ⟨p, q, hA0, hV, rfl, hfz, hnd⟩ := hW
  have hA : DataW.TrodAll enc Try.prog W 0 (fun _ => true) true Try.f4.params.toList args.toList ds p := hA0
  rw [Try.params4] at hA hval
  obtain ⟨v0, d0, rfl, rfl, h0⟩ := trodAll_one hA
  obtain ⟨rfl, rfl⟩ := trodVars_none hV
  have hv0 : Value.okWide Try.prog W .any base 28 v0 := hval 0 28 v0 rfl rfl
  obtain ⟨o, po, co, rfl, hI, hts, hss⟩ := op_open hv0 h0
  have hlt0 : ∀ x ∈ p, x.block < W.heap.size := fun x hx => hW'.lt x (by simp [hx])
  clear hA0 hval0
  refine (opbytes_any putO_spec getO_spec o po co W hI hts hss).mono fun e W' ⟨he, bel⟩ => ?_
  subst he
  exact ⟨_, rfl, _, _, _, [], _, [], hW', trodAll_mk1 (shut_bool Try.underlying4 _), trodAll_mk1 (op_again h0 bel hlt0), rfl, bel.frame _, fun h => by cases h⟩

theorem over : Rows.opBytesRow.holds Try.pinned (OpenSpec.ofChange Rows.opBytesSpec) :=
  OpenClaim.holds_of_wide 4 Try.f4 rfl rfl rfl rfl rfl rfl rfl ⟨rfl, rfl, rfl, rfl, rfl⟩ rfl rfl rfl rfl rfl (by kernel_rfl) Try.func4 (by kernel_rfl)
    (of_decide_eq_true (by kernel_rfl)) (by unfold Func.isWrapper; first | (rw [if_pos (by decide +kernel)]; kernel_rfl) | (rw [if_neg (by decide +kernel)]; exact ⟨rfl, rfl⟩))
    (fun os started H enc _ => lifted os started H enc)

/-- The given statement. -/
theorem opBytes_holds : Rows.OpBytesSaid := over
#print axioms opBytes_holds

end Go.Proofs.Ytjmekhepbbgkeaa
