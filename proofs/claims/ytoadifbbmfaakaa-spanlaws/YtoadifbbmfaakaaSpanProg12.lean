
/-
  What the program's finder among spans hands back, and what it tells. No conditions beyond what each theorem states.
-/
import Derived.Test.YtoadifbbmfaakaaSpanProg11
namespace Go.Proofs.Ytoadifbbmfaakaa
open Go.ChangeShapes Go.WideShapes Go.ChangeAt Go.RowKit Go.Lib
open Go.Sort
set_option linter.unusedVariables false
set_option linter.unusedSimpArgs false

set_option maxHeartbeats 3200000 in
set_option maxRecDepth 20000 in
theorem isout_any (zs : List Sp) (a : Nm) (p : Option Addr) (c bx : Nat) (W : World) (h1 : W.cell? ⟨bx, 0, none⟩ = some (.slice p zs.length c)) (hR : GRow layS W p zs) (hG : Good zs) (ha : FitN a) (hl : zs.length ≤ 3000) :
    Calls Try.prog 57 #[nv a, .pointer (some ⟨bx, 0, none⟩)] W fun e w' => e = .returned (.bool (decide (a ∈ idsL zs))) ∧ RowKit.Below W.heap.size W w' := by
  obtain ⟨x, y⟩ := a
  have hbx : bx < W.heap.size := block_lt_of_cell h1
  have hb1 : RowKit.Below W.heap.size W (W.alloc (.cells #[.int .u16 x, .int .u32 y] 26)) := below_alloc (Below.refl _ _) _
  have hX : (W.alloc (.cells #[.int .u16 x, .int .u32 y] 26)).heap[W.heap.size]? = some (.cells #[.int .u16 x, .int .u32 y] 26 (0, 0)) := heap_alloc_new W _
  have HS := Lib.hid (search_any zs.length (lowP zs (x, y)) (.pointer (some ⟨bx, 0, none⟩)) (.pointer (some ⟨W.heap.size, 0, none⟩)) (W.alloc (.cells #[.int .u16 x, .int .u32 y] 26)) hl (fun i j hij hj => lowP_mono hG hij hj)
    (fun V i hi hb => findt_any zs (x, y) p c i bx W.heap.size V (cellU (cellU h1 hb1) hb) (two_cells (kept_box hX hb)).1 (two_cells (kept_box hX hb)).2 ((hR.below hb1).below hb) hG hi hl))
  have HG := Lib.hid hG
  have HR := Lib.hid (hR.below hb1)
  have HX := Lib.hid hX
  have HB1 := Lib.hid hb1
  have k1 := cellU h1 hb1
  have HK1 := Lib.hid k1
  have hne : ¬ bx = W.heap.size := by omega
  clear hR hG hX hb1
  unfold nv
  simp only
  go_enter Try.func57, Try.ntmps57
  go_wp2_with fail
  refine HS.out.mono ?_
  rintro e w1 ⟨k, hk, rfl, hlo, hhi, hb⟩
  have HFI := Lib.hid (found_iff HG.out hlo hhi)
  have HR2 := Lib.hid (HR.out.below hb)
  have HB2 : Hid (RowKit.Below W.heap.size W w1) := below_step HB1.out hb
  have g1 := cellU HK1.out hb
  obtain ⟨g2, g3⟩ := two_cells (kept_box HX.out hb)
  clear hlo hhi hb HS HR HB1 HK1 HX k1 h1
  by_cases hkl : k < zs.length
  · have hkl' : (k : Int) < (zs.length : Int) := by omega
    have hk0 : (0 : Int) ≤ (k : Int) := by omega
    have hkd : decide ((k : Int) < (zs.length : Int)) = true := decide_eq_true hkl'
    obtain ⟨b, o, rfl, c0, c1, c2⟩ := srow_at HR2.out hkl
    have HH := Lib.hid (fun V => has_any (zs.getD k s0) (x, y) V (HG.out.at hkl).fit ha)
    have HE : Hid (decide ((x, y) ∈ idsL zs) = decide ((x, y) ∈ idsS (zs.getD k s0))) := by
      show _ = _
      apply decide_eq_decide.2
      rw [HFI.out]
      exact ⟨fun h => h.2, fun h => ⟨hkl, h⟩⟩
    rw [← HE.out] at HH
    generalize zs.getD k s0 = z at c0 c1 c2 HH
    obtain ⟨r, n, m⟩ := z
    unfold sv nv at HH
    simp only at c0 c1 c2 HH
    have q0 := cell_regrown c0
    have q1 := cell_regrown c1
    have q2 := cell_regrown c2
    have q3 := cell_regrown g1
    have q4 := cell_regrown g2
    have q5 := cell_regrown g3
    generalize hbb : decide ((x, y) ∈ idsL zs) = bb at HH
    have HBB := Lib.hid hbb
    clear hbb
    clear c0 c1 c2 g1 g2 g3 HE HFI
    cases bb
    all_goals
      go_wp2_with fail
      refine wp_region_quiet_below (by kernel_rfl) (by kernel_rfl) ?_
      repeat (go_big_quiet_step ((go_at_call 20; exact Calls.regrown_of (HH.out _))))
      refine wpQuiet_nil ?_
      intro _ hw'
      obtain ⟨⟨dq, osq⟩, hw''⟩ := hw'
      subst hw''
      go_wp2
      go_ret
      exact ⟨by rw [HBB.out]; rfl, below_step HB2.out (below_regrown _ _ _)⟩
  · have hkl' : ¬ (k : Int) < (zs.length : Int) := by omega
    have hkd : decide ((k : Int) < (zs.length : Int)) = false := decide_eq_false hkl'
    have HE : Hid (decide ((x, y) ∈ idsL zs) = false) := decide_eq_false (fun h => hkl (HFI.out.1 h).1)
    have q3 := cell_regrown g1
    clear HFI
    go_wp2_with fail
    go_quiet (fail)
    go_wp2
    go_ret
    exact ⟨by rw [HE.out]; rfl, below_drewN HB2.out _⟩

def Finds (l : List Sp) (w : World) (e : Ending) (w' : World) : Prop := ∃ bx p c zs, e = .returned (.func (.func 57) #[] #[.pointer (some ⟨bx, 0, none⟩)]) ∧ w'.cell? ⟨bx, 0, none⟩ = some (.slice p (List.length zs) c) ∧ GRow layS w' p zs ∧ Good zs ∧ List.length zs ≤ 3000 ∧ (∀ a, a ∈ idsL zs ↔ a ∈ idsL l) ∧ RowKit.Below w.heap.size w w'
set_option maxHeartbeats 800000 in
theorem finder_any (l : List Sp) (p : Option Addr) (c : Nat) (w : World) (hR : GRow layS w p l) (hr : RightS l) (hf : FitSs l) (hl : l.length ≤ 3000) :
    Calls Try.prog 43 #[.slice p l.length c] w (Finds l w) := by
  have HS := Lib.hid (stretches_any l p c w hR hr hf hl)
  clear hR hr hf
  go_enter Try.func43, Try.ntmps43
  go_wp2_with fail
  refine HS.out.mono ?_
  rintro e w1 ⟨zs, hsame, hgood, hzl, p1, c1, rfl, hG, -, -, hb⟩
  have HE : Hid (Finds l w (.returned (.func (.func 57) #[] #[.pointer (some ⟨w1.heap.size, 0, none⟩)])) (w1.alloc (.cells #[.slice p1 zs.length c1] 22))) :=
    ⟨_, p1, c1, zs, rfl, by rw [cell_of_block (heap_alloc_new w1 _)]; rfl, hG.alloc _, hgood, by omega, hsame, below_alloc hb _⟩
  clear hsame hgood hG hb HS
  go_wp2
  go_ret
  exact HE.out
end Go.Proofs.Ytoadifbbmfaakaa
