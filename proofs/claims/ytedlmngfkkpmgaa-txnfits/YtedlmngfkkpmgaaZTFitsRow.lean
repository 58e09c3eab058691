/-
  TxnFits returns true for any transaction and any number, and leaves both as they were: it can be one just if the document says so, else its error is told; of one that can, how many atoms it makes, and what it undoes, is told. No conditions.
-/
import Derived.Test.YtedlmngfkkpmgaaRows
import Derived.Test.YtedlmngfkkpmgaaZ18
import Derived.Test.YtedlmngfkkpmgaaZ14
namespace Go.Proofs.Ytedlmngfkkpmgaa
open Go.ChangeShapes Go.WideShapes Go.ChangeAt Go.RowKit Go.Joins
set_option linter.unusedVariables false
set_option linter.unusedSimpArgs false

set_option maxRecDepth 100000 in
theorem lifted (os : Os) (started : os.Started) (H : Type) (enc : TypeId × Value → H) :
    ReturnsInHanded {} Try.checked os 3 .any (Rows.txnFitsSpec.pre6 enc Try.prog Try.f3 Rows.txnFitsRow.domain false) (Rows.txnFitsSpec.post enc Try.prog Try.f3 false true false false) := by
  refine returnsInHanded_of_change (C := Try.checked) own started (by kernel_rfl) Try.func3
    (ChangeSpec.witness6 (enc := enc) (C := Try.checked) false ⟨#[], #[.agg #[.int .u16 0, .int .u32 0, .int .u64 0, .int .i64 0, .slice none 0 0], .int .u32 0], []⟩ 8 (by kernel_rfl) (by kernel_rfl) (by kernel_rfl) (by kernel_rfl)) ?_
  intro W base args ds gs before hval0 hW hcnd _
  have hval : ∀ (j : Nat) t v, Try.f3.params[j]? = some t → args[j]? = some v → Value.okWide Try.prog W .any base t v := hval0
  have hW' := hW
  obtain ⟨p, q, hA0, hV, rfl, hfz, hnd⟩ := hW
  have hA : DataW.TrodAll enc Try.prog W 0 (fun _ => true) true Try.f3.params.toList args.toList ds p := hA0
  rw [Try.params3] at hA hval
  obtain ⟨v0, v1, d0, d1, p0, p1, rfl, rfl, rfl, h0, h1⟩ := trodAll_two hA
  obtain ⟨rfl, rfl⟩ := trodVars_none hV
  have hv0 : Value.okWide Try.prog W .any base 27 v0 := hval 0 27 v0 rfl rfl
  have hv1 : Value.okWide Try.prog W .any base 23 v1 := hval 1 23 v1 rfl rfl
  obtain ⟨t, xs, pt, ct, rfl, hI, hlo, hlx⟩ := txn_open hv0 h0
  obtain ⟨m, rfl, rfl, rfl, hm⟩ := open_int Try.underlying23 hv1 h1
  have hlt0 : ∀ x ∈ p0, x.block < W.heap.size := fun x hx => hW'.lt x (by simp [hx])
  clear hA0 hval0
  refine (txnfits_any fitT_spec idT_spec keyT_spec undoes_spec atomsT_spec t xs pt ct m W hI hlo hlx).mono fun e W' ⟨he, bel⟩ => ?_
  subst he
  exact ⟨_, rfl, _, _, _, [], _, [], hW', trodAll_mk1 (shut_bool Try.underlying4 _), trodAll_mk2 (txn_again h0 bel hlt0) (shut_int Try.underlying23 hm), rfl, bel.frame _, fun h => by cases h⟩

theorem over : Rows.txnFitsRow.holds Try.pinned (OpenSpec.ofChange Rows.txnFitsSpec) :=
  OpenClaim.holds_of_wide 3 Try.f3 rfl rfl rfl rfl rfl rfl rfl ⟨rfl, rfl, rfl, rfl, rfl⟩ rfl rfl rfl rfl rfl (by kernel_rfl) Try.func3 (by kernel_rfl)
    (of_decide_eq_true (by kernel_rfl)) (by unfold Func.isWrapper; first | (rw [if_pos (by decide +kernel)]; kernel_rfl) | (rw [if_neg (by decide +kernel)]; exact ⟨rfl, rfl⟩))
    (fun os started H enc _ => lifted os started H enc)

/-- The given statement. -/
theorem txnFits_holds : Rows.TxnFitsSaid := over
#print axioms txnFits_holds

end Go.Proofs.Ytedlmngfkkpmgaa
