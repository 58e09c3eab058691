
/-
  SpanFits' function hands back true, for all spans that lie in memory, if span's Of, Right and Fit are as the document says. No conditions beyond what each theorem states.
-/
import Derived.Test.YtoadifbbmfaakaaSpanSpec
namespace Go.Proofs.Ytoadifbbmfaakaa
open Go.ChangeShapes Go.WideShapes Go.ChangeAt Go.RowKit Go.Lib
set_option linter.unusedVariables false
set_option linter.unusedSimpArgs false

set_option maxHeartbeats 6400000 in
set_option maxRecDepth 20000 in
theorem fits_any (HOF : OfSpec) (HRS : RightSpec) (HFS : FitSpec) (l : List Sp) (p : Option Addr) (c : Nat) (w : World) (hR : GRow layS w p l) (hf : FitSs l) (hc : l.length ≤ c) (hp : p = none → c = 0) (hl : l.length ≤ 9223372036854775807) :
    Calls Try.prog 5 #[.slice p l.length c] w fun e w' => e = .returned (.bool true) ∧ Below w.heap.size w w' := by
  have HA := Lib.hid (anchor_any HOF w)
  have HR := Lib.hid hR
  have HFT := Lib.hid hf
  clear hR hf
  go_enter Try.func5, Try.ntmps5
  go_wp2_with fail
  refine HA.out.mono ?_
  rintro e w1 ⟨rfl, hb1⟩
  have HB1 := Lib.hid hb1
  clear hb1 HA
  by_cases hbig : 1100 < l.length
  · have hbig' : (1100 : Int) < (l.length : Int) := by omega
    go_wp2
    go_ret
    exact ⟨rfl, HB1.out⟩
  have hbig' : (l.length : Int) ≤ 1100 := by omega
  go_wp2_with fail
  go_loopg [12] l.length (fun g i wr => ∃ k : Nat, k ≤ l.length ∧ l.length - k ≤ g ∧ i = .int .i64 (k : Int) ∧ Below w.heap.size w wr)
  case atStart => exact ⟨0, Nat.zero_le _, by omega, rfl, HB1.out⟩
  case round =>
    clear HB1
    obtain ⟨k, hk, hg, rfl, hb⟩ := hrel
    have HB := Lib.hid hb
    clear hb
    by_cases hlt : k < l.length
    · obtain ⟨b, o, rfl, c0', c1', c2'⟩ := srow_at HR.out hlt
      have c0 := cellU c0' HB.out
      have c1 := cellU c1' HB.out
      have c2 := cellU c2' HB.out
      have hfs := HFT.out.at hlt
      generalize l.getD k s0 = s at c0 c1 c2 hfs
      have H1 : Hid (∀ W, Calls Try.prog 26 #[.agg #[.int .u16 s.1, .int .u32 s.2.1, .int .i64 s.2.2]] W fun e w' => e = .returned (.bool (rightS s)) ∧ Below W.heap.size W w') := fun W => HRS s W hfs
      have H2 : Hid (∀ W, Calls Try.prog 27 #[.agg #[.int .u16 s.1, .int .u32 s.2.1, .int .i64 s.2.2]] W fun e w' => e = .returned (.bool (rightS s)) ∧ Below W.heap.size W w') := fun W => refright_any s W hfs
      have H3 : Hid (∀ W (q : Addr), W.cell? q = some (.int .u16 s.1) → W.cell? (q.add 1) = some (.int .u32 s.2.1) → W.cell? (q.add 2) = some (.int .i64 s.2.2) → Calls Try.prog 10 #[.slice (some q) 1 1] W (Gave layS W [s])) := fun W q h0 h1 h2 =>
        (refs_any [s] (some q) 1 W (grow_three h0 h1 h2) (by simp)).mono fun e w' h => h.gave layS_pos
      have HBX : Hid (∀ o, Below w.heap.size w (wr.alloc o)) := fun o => below_alloc HB.out o
      obtain ⟨r, n, m⟩ := s
      simp only at c0 c1 c2 H1 H2 H3
      obtain ⟨e0, e1, e2⟩ := box_cells wr (.int .u16 r) (.int .u32 n) (.int .i64 m) 43
      clear c0' c1' c2' hfs
      generalize rightS (r, n, m) = bb at H1 H2
      go_wp2_with fail
      generalize hW : wr.alloc (.cells #[.int .u16 r, .int .u32 n, .int .i64 m] 43) = W0 at e0 e1 e2 ⊢
      generalize wr.heap.size = B0 at e0 e1 e2 ⊢
      have HW : Hid (Below w.heap.size w W0) := by rw [← hW]; exact HBX.out _
      have e0' : W0.drew.cell? ⟨B0, 0, none⟩ = some (.int .u16 r) := e0
      have e1' : W0.drew.cell? ⟨B0, 1, none⟩ = some (.int .u32 n) := e1
      have e2' : W0.drew.cell? ⟨B0, 2, none⟩ = some (.int .i64 m) := e2
      have E0 := fun o => cellU e0' (below_alloc (Below.refl _ _) o)
      have E1 := fun o => cellU e1' (below_alloc (Below.refl _ _) o)
      have E2 := fun o => cellU e2' (below_alloc (Below.refl _ _) o)
      have hB0 : B0 < W0.heap.size := block_lt_of_cell e0
      have hne : ¬ B0 = W0.heap.size := by omega
      have hne' : ¬ W0.heap.size = B0 := by omega
      clear hW HBX HB
      go_region_with (first
        | (go_at_call 26; refine (H1.out _).mono ?_; rintro e w2 ⟨rfl, hb2⟩
           have G2 : Below W0.heap.size W0 w2 := below_step (by first | exact Below.refl _ _ | exact (Below.refl _ _).drew | exact below_alloc (Below.refl _ _).drew _ | exact below_alloc (Below.refl _ _) _) hb2
           have f0 := cellU e0 G2
           have f1 := cellU e1 G2
           have f2 := cellU e2 G2
           (try have h0 := cellU (box_cells W0.drew (.int .u16 r) (.int .u32 n) (.int .i64 m) 43).1 hb2)
           (try have h1 := cellU (box_cells W0.drew (.int .u16 r) (.int .u32 n) (.int .i64 m) 43).2.1 hb2)
           (try have h2 := cellU (box_cells W0.drew (.int .u16 r) (.int .u32 n) (.int .i64 m) 43).2.2 hb2)
           clear hb2)
        | (go_at_call 10; refine (H3.out _ _ (by first | exact h0 | simp) (by first | exact h1 | simp [Addr.add]) (by first | exact h2 | simp [Addr.add])).mono ?_; rintro e w3 ⟨p3, c3, rfl, hr3, -, -, hb3⟩
           have G3 : Below W0.heap.size W0 w3 := below_step (by first | exact G2 | exact below_alloc G2 _) hb3
           obtain ⟨b3, o3, rfl, g0, g1, g2⟩ := srow_at hr3 (i := 0) (by simp)
           simp only [Nat.zero_mul, Nat.add_zero, List.getD_cons_zero] at g0 g1 g2
           clear hr3 hb3)
        | (go_at_call 27; refine (H2.out _).mono ?_; rintro e w4 ⟨rfl, hb4⟩
           have G4 : Below W0.heap.size W0 w4 := below_step G3 hb4
           clear hb4))
      all_goals
        have HB4 : Hid (Below w.heap.size w w4) := below_step HW.out G4
        clear G4
        go_wp2
        go_roundg (l.length - (k + 1))
        case measure => omega
        case rel => exact ⟨k + 1, by omega, Nat.le_refl _, by go_num, HB4.out⟩
    · have : k = l.length := by omega
      subst this
      have H1 := Lib.hid (HFS l p c wr (HR.out.below HB.out) HFT.out (by omega) hc hp)
      have H2 := Lib.hid (fun W hb => (refs_any l p c W (HR.out.below (w' := W) hb) (by omega)).mono fun e w' h => h.gave layS_pos)
      have H3 := Lib.hid (fun W q d hg => reffit_any l q d W hg HFT.out (by omega))
      generalize fitL l = F at H1 H3
      go_wp2_with fail
      refine H1.out.mono ?_
      rintro e w2 ⟨rfl, hb2⟩
      have HB2 : Hid (Below w.heap.size w w2) := below_step HB.out hb2
      clear hb2
      go_wp2_with fail
      refine (H2.out _ HB2.out).mono ?_
      rintro e w3 ⟨p3, c3, rfl, hr3, -, -, hb3⟩
      have HB3 : Hid (Below w.heap.size w w3) := below_step HB2.out hb3
      have HR3 := Lib.hid hr3
      clear hb3 hr3
      go_wp2_with fail
      refine (H3.out _ _ _ HR3.out).mono ?_
      rintro e w4 ⟨rfl, hb4⟩
      have HB4 : Hid (Below w.heap.size w w4) := below_step HB3.out hb4
      clear hb4
      go_wp2
      go_ret
      exact ⟨by simp, HB4.out⟩

end Go.Proofs.Ytoadifbbmfaakaa
