/-
  HoldWants returns true for any envelopes and vector, and leaves them as they were: one who knows all that those that wait want, wants nothing more, and all of them can be taken, one by one, or are known. No conditions.
-/
import Derived.SizedLaws
import Derived.Carry
import Derived.Test.YtjkdcpalgfakhaaRows
import Derived.Test.YtjkdcpalgfakhaaZ13
import Derived.Test.YtjkdcpalgfakhaaZ14
import Derived.Test.YtjkdcpalgfakhaaZ18
namespace Go.Proofs.Ytjkdcpalgfakhaa
open Go.ChangeShapes Go.WideShapes Go.ChangeAt Go.RowKit Go.Joins
set_option linter.unusedVariables false
set_option linter.unusedSimpArgs false

set_option maxRecDepth 100000 in
theorem lifted (os : Os) (started : os.Started) (H : Type) (enc : TypeId × Value → H) :
    ReturnsInHanded {} Try.checked os 4 .any (Rows.holdWantsSpec.pre6 enc Try.prog Try.f4 Rows.holdWantsRow.domain false) (Rows.holdWantsSpec.post enc Try.prog Try.f4 false true false false) := by
  refine returnsInHanded_of_change_sized (C := Try.checked) own started (by kernel_rfl) Try.func4
    (ChangeSpec.witness6 (enc := enc) (C := Try.checked) false ⟨#[], #[.slice none 0 0, .slice none 0 0], []⟩ 8 (by kernel_rfl) (by kernel_rfl) (by kernel_rfl) (by kernel_rfl)) ?_
  intro W base args ds gs before hval0 hW hcnd hsz0 _
  have hval : ∀ (j : Nat) t v, Try.f4.params[j]? = some t → args[j]? = some v → Value.okWide Try.prog W .any base t v := hval0
  have hW' := hW
  obtain ⟨p, q, hA0, hV, rfl, hfz, hnd⟩ := hW
  have hA : DataW.TrodAll enc Try.prog W 0 (fun _ => true) true Try.f4.params.toList args.toList ds p := hA0
  have hsz : (DataW.weightsEach Try.prog (Try.f4.params.toList ++ Rows.holdWantsSpec.plain.varTypes Try.prog) (ds ++ gs)).all (· ≤ reachBytes) = true := hsz0
  rw [Try.params4] at hA hval hsz
  obtain ⟨v0, v1, d0, d1, p0, p1, rfl, rfl, rfl, h0, h1⟩ := trodAll_two hA
  obtain ⟨rfl, rfl⟩ := trodVars_none hV
  have hv0 : Value.okWide Try.prog W .any base 22 v0 := hval 0 22 v0 rfl rfl
  obtain ⟨xs, pe, ce, rfl, hE, hF, hEc, hEn, hEb⟩ := envs_sized hv0 h0 reachBytes (fun m hm => by
    have := List.all_eq_true.1 hsz m (DataW.weights_mem_each (j := 0) rfl rfl m hm)
    simpa using this)
  have hv1 : Value.okWide Try.prog W .any base 24 v1 := hval 1 24 v1 rfl rfl
  obtain ⟨hs, ph, ch, rfl, hH, hHf, hHc, hHn, hHb⟩ := vec_sized hv1 h1 reachBytes (fun m hm => by
    have := List.all_eq_true.1 hsz m (DataW.weights_mem_each (j := 1) rfl rfl m hm)
    simpa using this)
  have hlt0 : ∀ x ∈ p0, x.block < W.heap.size := fun x hx => hW'.lt x (by simp [hx])
  have hlt1 : ∀ x ∈ p1, x.block < W.heap.size := fun x hx => hW'.lt x (by simp [hx])
  have hAL : ArgL W pe xs := ⟨hE, fun x hx => (hF x hx).1, fun x hx => by have := (hF x hx).2.2.2.1; simp only [reachBytes] at this; omega, fun x hx y hy => ⟨((hF x hx).2.2.2.2 y hy).1, by have := ((hF x hx).2.2.2.2 y hy).2.2; simp only [reachBytes] at this; omega⟩⟩
  clear hA0 hval0
  refine (hwants_any buf_spec xs pe ce hs ph ch W hAL hH hHc hHn hHf (by simp only [reachBytes] at hHb; omega) (by simp only [reachBytes] at hEb; omega)).mono fun r W' ⟨he, bel⟩ => ?_
  subst he
  exact ⟨_, rfl, _, _, _, [], _, [], hW', trodAll_mk1 (shut_bool Try.underlying4 _), trodAll_mk2 (envs_again h0 bel hlt0) (vec_again h1 bel hlt1), rfl, bel.frame _, fun h => by cases h⟩

theorem over : Rows.holdWantsRow.holds Try.pinned (OpenSpec.ofChange Rows.holdWantsSpec) :=
  OpenClaim.holds_of_wide 4 Try.f4 rfl rfl rfl rfl rfl rfl rfl ⟨rfl, rfl, rfl, rfl, rfl⟩ rfl rfl rfl rfl rfl (by kernel_rfl) Try.func4 (by kernel_rfl)
    (of_decide_eq_true (by kernel_rfl)) (by unfold Func.isWrapper; first | (rw [if_pos (by decide +kernel)]; kernel_rfl) | (rw [if_neg (by decide +kernel)]; exact ⟨rfl, rfl⟩))
    (fun os started H enc _ => lifted os started H enc)

/-- The given statement. -/
theorem holdWants_holds : Rows.HoldWantsSaid := over
#print axioms holdWants_holds

end Go.Proofs.Ytjkdcpalgfakhaa
