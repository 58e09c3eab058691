/-
  What the document's Join hands back, for every two lists of entries that lie in memory. No conditions beyond what each theorem states.
-/
import Derived.Test.YthihfigphedomaaDoorRef
import Derived.Deep.RegionWith
namespace Go.Proofs.YthihfigphedomaaDoor
open Go.ChangeShapes Go.WideShapes Go.ChangeAt Go.RowKit
set_option linter.unusedVariables false
set_option linter.unusedSimpArgs false

def joinStep (v : List En) (y : En) : List En := if getL v y.1 < y.2 then withL v y.1 y.2 else v
/-- What is known by one of two, as the document's reference goes. -/
def joinL (xs ys : List En) : List En := ys.foldl joinStep xs
theorem joinL_step {xs ys : List En} {k : Nat} (h : k < ys.length) : joinL xs (ys.take (k + 1)) = joinStep (joinL xs (ys.take k)) (atL ys k) := by
  rw [take_atL ys k h]; simp [joinL]
theorem withL_le (xs : List En) (r s : Int) : (withL xs r s).length ≤ xs.length + 1 := by
  have h : (lo xs r).length + (hi xs r).length ≤ xs.length := by
    induction xs with
    | nil => simp [lo, hi]
    | cons x xs ih =>
      simp only [lo, hi, List.filter_cons, List.length_cons] at ih ⊢
      split <;> split <;> simp_all <;> omega
  have h2 : (mid r s).length ≤ 1 := by unfold mid; split <;> simp
  simp only [withL, List.length_append]; omega
theorem joinStep_le (v : List En) (y : En) : (joinStep v y).length ≤ v.length + 1 := by
  unfold joinStep; split
  · exact withL_le _ _ _
  · omega

set_option maxHeartbeats 3200000 in
theorem refjoin_any (xs ys : List En) (p q : Option Addr) (c d : Nat) (w : World) (hR : Row w p xs) (hS : Row w q ys) (hl : xs.length ≤ 400) (hm : ys.length ≤ 400) :
    Calls Tryd.prog 18 #[.slice p xs.length c, .slice q ys.length d] w (Gave w (joinL xs ys)) := by
  have HS : Hid (Row w q ys) := hS
  have HR : Hid (Row w p xs) := hR
  clear hR hS
  go_enter Tryd.func18, Tryd.ntmps18
  go_wp2
  go_loopg [0, 5] ys.length (fun g s i wr => ∃ (k : Nat) (v : List En) (p' : Option Addr) (c' : Nat), k ≤ ys.length ∧ ys.length - k ≤ g ∧ i = .int .i64 k ∧ s = .slice p' v.length c' ∧ v = joinL xs (ys.take k) ∧ Row wr p' v ∧ v.length ≤ 400 + k ∧ Below w.heap.size w wr)
  case atStart => exact ⟨0, xs, p, c, Nat.zero_le _, by omega, rfl, rfl, by simp [joinL], HR.out, by omega, Below.refl _ _⟩
  case round =>
    obtain ⟨k, v, p', c', hk, hg, rfl, rfl, hv, hr, hvl, hb⟩ := hrel
    have HV : Hid (v = joinL xs (ys.take k)) := hv
    have HV2 : Hid (Row wr p' v) := hr
    have HB : Hid (Below w.heap.size w wr) := hb
    clear hv hr hb
    by_cases hlt : k < ys.length
    · obtain ⟨b, o, rfl, c0', c1'⟩ := HS.out k hlt
      have c0 := cellU c0' HB.out
      have c1 := cellU c1' HB.out
      clear c0' c1'
      generalize hx : (atL ys k).1 = x at c0
      generalize hy : (atL ys k).2 = y at c1
      have B : Hid (atL ys k = (x, y)) := Prod.ext hx hy
      clear hx hy
      have HG : Hid (∀ W, Below wr.heap.size wr W → Calls Tryd.prog 13 #[.slice p' v.length c', .int .u16 x] W fun e w' => e = .returned (.int .u32 (getL v x)) ∧ w' = W) := fun W hW => refget_any v x p' c' W (HV2.out.below hW) (by omega)
      generalize hz : getL v x = z at HG
      have HZ : Hid (getL v x = z) := hz
      clear hz
      by_cases hlz : z < y
      · have hd : decide (z < y) = true := by simp [hlz]
        go_wp2_with fail
        go_quiet (first | (go_at_call 13; refine Calls.quiet_of_same (HG.out _ (below_drewN (Below.refl _ _) _))))
        go_wp2_with fail
        go_region_with (first | (go_at_call 16; refine (refwith_any v x y p' c' _ (HV2.out.below (by first | exact below_drewN (Below.refl _ _) _ | exact (below_drewN (Below.refl _ _) _).drew)) (by omega)).mono ?_; rintro e w4 ⟨p4, c4, rfl, hr4, hb4⟩))
        all_goals
          have HB4 : Hid (Below w.heap.size w w4) := below_step (below_step HB.out (by first | exact below_drewN (Below.refl _ _) _ | exact (below_drewN (Below.refl _ _) _).drew)) hb4
          have HR4 : Hid (Row w4 p4 (withL v x y)) := hr4
          have hwl := withL_le v x y
          clear hr4 hb4
          go_wp2
          go_roundg (ys.length - (k + 1))
          case measure => omega
          case rel => exact ⟨k + 1, withL v x y, p4, c4, by omega, Nat.le_refl _, by go_num, rfl, by rw [joinL_step hlt, ← HV.out, B.out, joinStep, if_pos (by simp only [HZ.out]; omega)], HR4.out, by omega, HB4.out⟩
      · have hd : decide (z < y) = false := by simp [hlz]
        go_wp2_with fail
        go_quiet (first | (go_at_call 13; refine Calls.quiet_of_same (HG.out _ (below_drewN (Below.refl _ _) _))))
        go_wp2
        go_roundg (ys.length - (k + 1))
        case measure => omega
        case rel => exact ⟨k + 1, v, p', c', by omega, Nat.le_refl _, by go_num, rfl, by rw [joinL_step hlt, ← HV.out, B.out, joinStep, if_neg (by simp only [HZ.out]; omega)], HV2.out.below (below_drewN (Below.refl _ _) _), by omega, below_drewN HB.out _⟩
    · have : k = ys.length := by omega
      subst this
      rw [List.take_length] at HV
      go_wp2
      go_ret
      have e := HV.out
      subst e
      exact ⟨p', c', rfl, HV2.out, HB.out⟩

end Go.Proofs.YthihfigphedomaaDoor
