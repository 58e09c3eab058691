/-
  IdentRights returns true for every ID, and leaves its argument as it was: an ID may be an atom's just if its number is from 1 to the greatest one, and the root is none. No conditions.
-/
import Derived.Test.YthkkbfkbgpkbmaaWalks
import Derived.Lib.SmallJoins
namespace Go.Proofs.Ythkkbfkbgpkbmaa
open Go.ChangeShapes Go.WideShapes Go.ChangeAt Go.RowKit Go.Sort Go.Joins
set_option linter.unusedVariables false
set_option linter.unusedSimpArgs false

theorem own : ownKnob Try.prog.godebug = none := by kernel_rfl

set_option maxHeartbeats 1000000 in
theorem rights_case (r n : Int) (w : World) (b1 b2 b3 b4 : Bool) (h1 : decide (1 ≤ n) = b1) (h2 : decide (n ≤ 268435456) = b2) (h3 : (r == 0) = b3) (h4 : (n == 0) = b4)
    (hx : ¬ (b1 = true ∧ b4 = true)) :
    Calls Try.prog 5 #[.agg #[.int .u16 r, .int .u32 n]] w fun e w' => e = .returned (.bool true) ∧ Below w.heap.size w w' := by
  have HA : Hid (∀ W, Calls Try.prog 6 #[] W fun e w' => e = .returned (.bool true) ∧ Below W.heap.size W w') := anchor_any
  have HR : Hid (∀ W, Calls Try.prog 18 #[.agg #[.int .u16 r, .int .u32 n]] W fun e w' => e = .returned (.bool (b1 && b2)) ∧ Below W.heap.size W w') := by
    intro W
    have e : rightB n = (b1 && b2) := by rw [← h1, ← h2]; simp [rightB, Bool.decide_and]
    rw [← e]; exact right_any r n W
  have HO : Hid (∀ W, Calls Try.prog 19 #[.agg #[.int .u16 r, .int .u32 n]] W fun e w' => e = .returned (.bool (b3 && b4)) ∧ Below W.heap.size W w') := by
    intro W
    have e : rootB r n = (b3 && b4) := by rw [← h3, ← h4]; simp [rootB, Bool.decide_and]; rfl
    rw [← e]; exact root_any r n W
  go_enter Try.func5, Try.ntmps5
  go_wp2_with (go_at_call 6; refine (HA.out _).mono ?_; rintro e w' ⟨rfl, hb⟩)
  have g0 := cell_regrown (w := w') (a := ⟨w.heap.size, 0, none⟩) (v := .int .u16 r) (by rw [hb.cell (by simp)]; simp)
  have g1 := cell_regrown (w := w') (a := ⟨w.heap.size, 1, none⟩) (v := .int .u32 n) (by rw [hb.cell (by simp)]; simp)
  have HB : Hid (Below w.heap.size w w') := ((Below.refl _ _).alloc (Nat.le_refl _) _).trans (hb.mono (by simp))
  clear hb
  refine wp_region_quiet_below (by kernel_rfl) (by kernel_rfl) ?_
  cases b1 <;> cases b2 <;> cases b3 <;> cases b4
  all_goals first
    | (exfalso; exact hx ⟨rfl, rfl⟩)
    | skip
  all_goals
    simp only [Bool.and_true, Bool.and_false, Bool.and_self] at HR HO
    repeat (go_big_quiet_step (first | (go_at_call 18; exact Calls.regrown_of (HR.out _)) | (go_at_call 19; exact Calls.regrown_of (HO.out _))))
    refine wpQuiet_nil ?_
    intro _ hw'
    obtain ⟨⟨dq, osq⟩, hw''⟩ := hw'
    subst hw''
    go_wp2
    go_ret
    exact ⟨rfl, HB.out.trans ((below_regrown _ dq osq).mono HB.out.size)⟩

theorem rights_walk (r n : Int) (w : World) :
    Calls Try.prog 5 #[.agg #[.int .u16 r, .int .u32 n]] w fun e w' => e = .returned (.bool true) ∧ Below w.heap.size w w' :=
  rights_case r n w _ _ _ _ rfl rfl rfl rfl (by simp; omega)

theorem Try.cells31 : Try.prog.cellsOf 31 = 2 := by kernel_rfl

set_option maxRecDepth 100000 in
theorem rights_lifted (os : Os) (started : os.Started) (H : Type) (enc : TypeId × Value → H) :
    ReturnsInHanded {} Try.checked os 5 .any (Rows.identRightsSpec.pre6 enc Try.prog Try.f5 Rows.identRightsRow.domain false) (Rows.identRightsSpec.post enc Try.prog Try.f5 false true false false) := by
  refine returnsInHanded_of_change (C := Try.checked) own started (by kernel_rfl) Try.func5
    (ChangeSpec.witness6 (enc := enc) (C := Try.checked) false ⟨#[], #[.agg #[.int .u16 0, .int .u32 0]], []⟩ 8 (by kernel_rfl) (by kernel_rfl) (by kernel_rfl) (by kernel_rfl)) ?_
  intro W base args ds gs before hval0 hW hcnd _
  have hval : ∀ (j : Nat) t v, Try.f5.params[j]? = some t → args[j]? = some v → Value.okWide Try.prog W .any base t v := hval0
  have hW' := hW
  obtain ⟨p, q, hA0, hV, rfl, hfz, hnd⟩ := hW
  have hA : DataW.TrodAll enc Try.prog W 0 (fun _ => true) true Try.f5.params.toList args.toList ds p := hA0
  rw [Try.params5] at hA hval
  obtain ⟨v0, d0, rfl, rfl, h0⟩ := trodAll_one hA
  obtain ⟨rfl, rfl⟩ := trodVars_none hV
  obtain ⟨c0, c1, y0, y1, m, rfl, rfl, rfl, hy0, hy1⟩ := open_agg2 Try.underlying31 (by kernel_rfl) Try.cells31 (hval 0 31 v0 rfl rfl) h0
  obtain ⟨a, e0, rfl, wa⟩ := DataW.trod_int Try.underlying23 hy0
  obtain ⟨b, e1, rfl, wb⟩ := DataW.trod_int Try.underlying24 hy1
  simp at e0 e1
  subst e0 e1
  clear hA0 hval0
  simp only [List.append_nil] at hW'
  have structReads : ∀ (W' : World) (sp : Nat → Bool), DataW.Trod enc Try.prog W' 0 sp true 31 (.agg #[.int .u16 a, .int .u32 b]) (.agg [.lit (.int .u16 a), .lit (.int .u32 b)]) [] := fun W' sp =>
    shut_agg2 (y0 := (.lit (.int .u16 a), [])) (y1 := (.lit (.int .u32 b), [])) Try.underlying31 (by kernel_rfl) Try.cells31 ⟨1, by simp [DataW.trod, Try.underlying23, wa]⟩ ⟨1, by simp [DataW.trod, Try.underlying24, wb]⟩
  refine (rights_walk a b W).mono fun e W' ⟨he, bel⟩ => ?_
  subst he
  exact ⟨_, rfl, _, _, _, [], [], [], hW', trodAll_mk1 (shut_bool Try.underlying4 _), trodAll_mk1 (structReads _ _), rfl, bel.frame _, fun h => by cases h⟩

theorem rights_over : Rows.identRightsRow.holds Try.pinned (OpenSpec.ofChange Rows.identRightsSpec) :=
  OpenClaim.holds_of_wide 5 Try.f5 rfl rfl rfl rfl rfl rfl rfl ⟨rfl, rfl, rfl, rfl, rfl⟩ rfl rfl rfl rfl rfl (by kernel_rfl) Try.func5 (by kernel_rfl)
    (of_decide_eq_true (by kernel_rfl)) (by unfold Func.isWrapper; first | (rw [if_pos (by decide +kernel)]; kernel_rfl) | (rw [if_neg (by decide +kernel)]; exact ⟨rfl, rfl⟩))
    (fun os started H enc _ => rights_lifted os started H enc)

/-- The given statement. -/
theorem identRights_holds : Rows.IdentRightsSaid := rights_over
#print axioms identRights_holds

end Go.Proofs.Ythkkbfkbgpkbmaa
