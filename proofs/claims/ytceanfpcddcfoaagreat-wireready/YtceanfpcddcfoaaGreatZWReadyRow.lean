/-
  WireReady returns true for any envelope, vector and number, and leaves them as they were: whether it is ready, or past, what must be known, and which atoms it makes, is what the document says. No conditions.
-/
import Derived.SizedLaws
import Derived.Carry
import Derived.Test.YtceanfpcddcfoaaGreatRows
import Derived.Test.YtceanfpcddcfoaaGreatZ25
import Derived.Test.YtceanfpcddcfoaaGreatZ22
import Derived.Test.YtceanfpcddcfoaaGreatZ20
import Derived.Test.YtceanfpcddcfoaaGreatZ21
namespace Go.Proofs.YtceanfpcddcfoaaGreat
open Go.ChangeShapes Go.WideShapes Go.ChangeAt Go.RowKit Go.Joins
set_option linter.unusedVariables false
set_option linter.unusedSimpArgs false

set_option maxRecDepth 100000 in
theorem lifted (os : Os) (started : os.Started) (H : Type) (enc : TypeId × Value → H) :
    ReturnsInHanded {} Tryz.checked os 6 .any (Rows.wireReadySpec.pre6 enc Tryz.prog Tryz.f6 Rows.wireReadyRow.domain false) (Rows.wireReadySpec.post enc Tryz.prog Tryz.f6 false true false false) := by
  refine returnsInHanded_of_change_sized (C := Tryz.checked) own started (by kernel_rfl) Tryz.func6
    (ChangeSpec.witness6 (enc := enc) (C := Tryz.checked) false ⟨#[], #[.agg #[.slice none 0 0, .int .u16 0, .int .u32 0, .int .u64 0, .int .i64 0, .slice none 0 0], .slice none 0 0, .int .i64 0], []⟩ 8 (by kernel_rfl) (by kernel_rfl) (by kernel_rfl) (by kernel_rfl)) ?_
  intro W base args ds gs before hval0 hW hcnd hsz0 _
  have hval : ∀ (j : Nat) t v, Tryz.f6.params[j]? = some t → args[j]? = some v → Value.okWide Tryz.prog W .any base t v := hval0
  have hW' := hW
  obtain ⟨p, q, hA0, hV, rfl, hfz, hnd⟩ := hW
  have hA : DataW.TrodAll enc Tryz.prog W 0 (fun _ => true) true Tryz.f6.params.toList args.toList ds p := hA0
  have hsz : (DataW.weightsEach Tryz.prog (Tryz.f6.params.toList ++ Rows.wireReadySpec.plain.varTypes Tryz.prog) (ds ++ gs)).all (· ≤ reachBytes) = true := hsz0
  rw [Tryz.params6] at hA hval hsz
  obtain ⟨v0, v1, v2, d0, d1, d2, p0, p1, p2, rfl, rfl, rfl, h0, h1, h2⟩ := trodAll_three hA
  obtain ⟨rfl, rfl⟩ := trodVars_none hV
  have hv0 : Value.okWide Tryz.prog W .any base 31 v0 := hval 0 31 v0 rfl rfl
  obtain ⟨e, xs, pe, qe, ce, de, rfl, hI, hdb, hlo, hlb, hlx⟩ := env_sized hv0 h0 reachBytes (fun m hm => by
    have := List.all_eq_true.1 hsz m (DataW.weights_mem_each (j := 0) rfl rfl m hm)
    simpa using this)
  have hv1 : Value.okWide Tryz.prog W .any base 23 v1 := hval 1 23 v1 rfl rfl
  obtain ⟨hs, ph, ch, rfl, hH, hHf, hHc, hHn, hHb⟩ := vec_sized hv1 h1 reachBytes (fun m hm => by
    have := List.all_eq_true.1 hsz m (DataW.weights_mem_each (j := 1) rfl rfl m hm)
    simpa using this)
  obtain ⟨n, rfl, rfl, rfl, wn⟩ := open_int Tryz.underlying3 (hval 2 3 v2 rfl rfl) h2
  have hlt0 : ∀ x ∈ p0, x.block < W.heap.size := fun x hx => hW'.lt x (by simp [hx])
  have hlt1 : ∀ x ∈ p1, x.block < W.heap.size := fun x hx => hW'.lt x (by simp [hx])
  have hn := bounds_i64 wn
  clear hA0 hval0
  refine (wireready_any encodeE_spec needsE_spec readyE_spec pastE_spec atomE_spec e xs hs pe qe ph ce de ch n W hI (by simp only [reachBytes] at hdb; omega) (by simp only [reachBytes] at hlb; omega) (fun x hx => ⟨(hlx x hx).1, by have := (hlx x hx).2.2; simp only [reachBytes] at this; omega⟩) hH hHf hHc hHn (by simp only [reachBytes] at hHb; omega) hn.1 (by have := hn.2; omega)).mono fun r W' ⟨he, bel⟩ => ?_
  subst he
  exact ⟨_, rfl, _, _, _, [], _, [], hW', trodAll_mk1 (shut_bool Tryz.underlying4 _), trodAll_mk3 (env_again h0 bel hlt0) (vec_again h1 bel hlt1) (shut_int Tryz.underlying3 wn), rfl, bel.frame _, fun h => by cases h⟩

theorem over : Rows.wireReadyRow.holds Tryz.pinned (OpenSpec.ofChange Rows.wireReadySpec) :=
  OpenClaim.holds_of_wide 6 Tryz.f6 rfl rfl rfl rfl rfl rfl rfl ⟨rfl, rfl, rfl, rfl, rfl⟩ rfl rfl rfl rfl rfl (by kernel_rfl) Tryz.func6 (by kernel_rfl)
    (of_decide_eq_true (by kernel_rfl)) (by unfold Func.isWrapper; first | (rw [if_pos (by decide +kernel)]; kernel_rfl) | (rw [if_neg (by decide +kernel)]; exact ⟨rfl, rfl⟩))
    (fun os started H enc _ => lifted os started H enc)

/-- The given statement. -/
theorem wireReady_holds : Rows.WireReadySaid := over
#print axioms wireReady_holds

end Go.Proofs.YtceanfpcddcfoaaGreat
