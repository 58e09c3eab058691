/-
  What the document's example of layer 2 comes to in this program: the anchor returns true. The condition: the library's table of powers of ten holds what it was laid with.
-/
import Derived.Test.YthihfigphedomaaDoorMath
namespace Go.Proofs.YthihfigphedomaaDoor
open Go.ChangeShapes Go.WideShapes Go.ChangeAt Go.RowKit Go.Lib
open Go.Sort
set_option linter.unusedVariables false
set_option linter.unusedSimpArgs false

def exV : List En := [(1, 2), (2, 1)]
def exW : List En := [(2, 3)]
def exZ : List En := [(1, 2), (2, 3)]
theorem ex_join : IsJoin (exV ++ exW) exZ := by
  have h : IsJoin (exV ++ exW) (joinL exV exW) := IsJoin.fold (by decide) (IsJoin.self (by unfold SP exV; decide))
  have e : joinL exV exW = exZ := by decide
  rwa [e] at h
theorem ex_lacks : lacksL exV exW = [(2, 2, 3)] := by decide
theorem ex_show : showL exZ = [49, 58, 50, 32, 50, 58, 51] := by
  simp [showL, exZ, showTo, showE, atL, Lib.decDigits_one]
theorem row_exV {W : World} {b : Nat} (h0 : W.cell? ⟨b, 0, none⟩ = some (.int .u16 1)) (h1 : W.cell? ⟨b, 1, none⟩ = some (.int .u32 2)) (h2 : W.cell? ⟨b, 2, none⟩ = some (.int .u16 2)) (h3 : W.cell? ⟨b, 3, none⟩ = some (.int .u32 1)) : Row W (some ⟨b, 0, none⟩) exV := fun i hi => by
  have : i = 0 ∨ i = 1 := by simp [exV] at hi; omega
  rcases this with rfl | rfl
  · exact ⟨b, 0, rfl, h0, h1⟩
  · exact ⟨b, 0, rfl, h2, h3⟩
theorem row_exW {W : World} {b : Nat} (h0 : W.cell? ⟨b, 0, none⟩ = some (.int .u16 2)) (h1 : W.cell? ⟨b, 1, none⟩ = some (.int .u32 3)) : Row W (some ⟨b, 0, none⟩) exW := fun i hi => by
  have : i = 0 := by simp [exW] at hi; omega
  subst this
  exact ⟨b, 0, rfl, h0, h1⟩
theorem more_one {W : World} {b c : Nat} {p : Option Addr} {xs : List En} (h : W.cell? ⟨b, 0, none⟩ = some (.slice p xs.length c)) (hr : Row W p xs) (hn : p = none → c = 0) : MoreRow W (some ⟨b, 0, none⟩) [(p, c, xs)] := fun i hi => by
  have : i = 0 := by simp at hi; omega
  subst this
  exact ⟨⟨b, 0, rfl, by simpa [atM] using h⟩, by simpa [atM] using hr, by simpa [atM] using hn⟩

set_option maxHeartbeats 1600000 in
set_option maxRecDepth 100000 in
theorem anchor_any (w : World) (hfit : Fit w) : Calls Tryd.prog 7 #[] w fun e w' => e = .returned (.bool true) ∧ Below w.heap.size w w' := by
  have HFit : Hid (Fit w) := hfit
  have hfv : Fits exV := by unfold Fits exV; decide
  have hfw : Fits exW := by unfold Fits exW; decide
  have hfz : Fits exZ := by unfold Fits exZ; decide
  have hsv : Srt exV := srt_of_sp (by unfold SP exV; decide)
  have H25 : Hid (∀ p q c d W, Row W p exV → Row W q exW → Calls Tryd.prog 25 #[.slice p 2 c, .slice q 1 d] W (Gave3 W [(2, 2, 3)])) := fun p q c d W h1 h2 => by
    have := lacks_any exV exW p q c d W h1 h2 hsv hfv hfw (by decide) (by decide)
    rw [ex_lacks] at this
    exact this
  have H17 : Hid (∀ p q r c d e W, Row W p exV → Row W r exW → (r = none → e = 0) → MoreRow W q [(r, e, exW)] → Calls Tryd.prog 17 #[.slice p 2 c, .slice q 1 d] W (GaveV W exZ)) := fun p q r c d e W h1 h2 h3 h4 =>
    join_to exV [(r, e, exW)] exZ (by simpa [flatM] using ex_join) p q c d W h1 h4 (by simp [flatM, exV, exW]) (by simp)
  have H20 : Hid (∀ p c W, Row W p exZ → Fit W → Calls Tryd.prog 20 #[.slice p 2 c] W fun e w' => e = .returned (.string ⟨#[49, 58, 50, 32, 50, 58, 51]⟩) ∧ Below W.heap.size W w') := fun p c W h1 h2 => by
    have := show_any exZ p c W h1 hfz (by decide) h2
    rw [ex_show] at this
    exact this
  clear hfit hfv hfw hfz hsv
  have HB0 : Hid (Below w.heap.size w ((w.alloc (.cells #[.int .u16 1, .int .u32 2, .int .u16 2, .int .u32 1] 55)).alloc (.cells #[.int .u16 2, .int .u32 3] 55))) := below_alloc (below_alloc (Below.refl _ _) _) _
  have HV : Hid (Row ((w.alloc (.cells #[.int .u16 1, .int .u32 2, .int .u16 2, .int .u32 1] 55)).alloc (.cells #[.int .u16 2, .int .u32 3] 55)) (some ⟨w.heap.size, 0, none⟩) exV) := row_exV (cellA (by simp) _) (cellA (by simp) _) (cellA (by simp) _) (cellA (by simp) _)
  have HW : Hid (Row ((w.alloc (.cells #[.int .u16 1, .int .u32 2, .int .u16 2, .int .u32 1] 55)).alloc (.cells #[.int .u16 2, .int .u32 3] 55)) (some ⟨w.heap.size + 1, 0, none⟩) exW) := row_exW (by simp) (by simp)
  go_enter Tryd.func7, Tryd.ntmps7
  go_wp2_with fail
  refine (H25.out _ _ _ _ _ HV.out HW.out).mono ?_
  rintro e w1 ⟨p1, c1, rfl, hr1, hb1⟩
  have HV1 : Hid (Row w1 (some ⟨w.heap.size, 0, none⟩) exV) := HV.out.below hb1
  have HW1 : Hid (Row w1 (some ⟨w.heap.size + 1, 0, none⟩) exW) := HW.out.below hb1
  have HB1 : Hid (Below w.heap.size w w1) := below_step HB0.out hb1
  obtain ⟨b, o, rfl, q0, q1, q2⟩ := hr1 0 (by simp)
  simp only [Nat.zero_mul, Nat.add_zero] at q0 q1 q2
  simp [at3] at q0 q1 q2
  have HQ : Hid (w1.cell? ⟨b, o, none⟩ = some (.int .u16 2) ∧ w1.cell? ⟨b, o + 1, none⟩ = some (.int .u32 2) ∧ w1.cell? ⟨b, o + 2, none⟩ = some (.int .u32 3)) := ⟨q0, q1, q2⟩
  clear hr1 hb1 HV HW HB0 q0 q1 q2 H25
  go_wp2_with fail
  refine (H17.out _ _ (some ⟨w.heap.size + 1, 0, none⟩) _ _ 1 _ (HV1.out.below (below_alloc (Below.refl _ _) _)) (HW1.out.below (below_alloc (Below.refl _ _) _)) (by simp) (more_one (by simp [exW]) (HW1.out.below (below_alloc (Below.refl _ _) _)) (by simp))).mono ?_
  rintro e w2 ⟨p2, c2, rfl, -, hr2, hb2⟩
  have HB2 : Hid (Below w1.heap.size w1 w2) := below_step (below_alloc (Below.refl _ _) _) hb2
  have HR2 : Hid (Row w2 p2 exZ) := hr2
  clear hr2 hb2 HV1 HW1 H17
  go_wp2_with fail
  refine (H20.out _ _ _ HR2.out (HFit.out.below (below_step HB1.out HB2.out))).mono ?_
  rintro e w3 ⟨rfl, hb3⟩
  have HB3 : Hid (Below w1.heap.size w1 w3) := below_step HB2.out hb3
  have q0 := cellU HQ.out.1 HB3.out
  have q1 := cellU HQ.out.2.1 HB3.out
  have q2 := cellU HQ.out.2.2 HB3.out
  clear hb3 HB2 HR2 HQ H20
  go_wp2_with fail
  go_ret
  exact ⟨rfl, below_step HB1.out HB3.out⟩

end Go.Proofs.YthihfigphedomaaDoor
