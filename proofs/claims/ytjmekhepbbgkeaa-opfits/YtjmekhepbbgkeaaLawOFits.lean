
/-
  The law OpFits' own function, over what op's calls hand back. No conditions beyond what each theorem states.
-/
import Derived.Test.YtjmekhepbbgkeaaOpSpec
namespace Go.Proofs.Ytjmekhepbbgkeaa
open Go.ChangeShapes Go.WideShapes Go.ChangeAt Go.RowKit Go.Lib
set_option linter.unusedVariables false
set_option linter.unusedSimpArgs false

set_option maxHeartbeats 6400000 in
set_option maxRecDepth 20000 in
theorem opfits_any (HPU : PutOSpec) (HPL : PlainSpec) (HAT : AtomsSpec) (HFI : FitOSpec) (o : Om) (p : Option Addr) (c : Nat) (w : World) (hI : InO o p c w) (hsl : o.text.length ≤ 9223372036854775807) (hll : o.spans.length ≤ 9223372036854775807) :
    Calls Try.prog 3 #[ov o p c] w fun e w' => e = .returned (.bool true) ∧ Below w.heap.size w w' := by
  have HA := Lib.hid (fun W => anchor8_any HPU W)
  have HI := Lib.hid hI
  have hsz : (⟨o.text.toArray⟩ : ByteArray).size = o.text.length := rfl
  obtain ⟨kind, r, n, num, text, spans, seq⟩ := o
  have HOV : Hid (∀ p c, ov ⟨kind, r, n, num, text, spans, seq⟩ p c = .agg #[.int .i64 kind, .int .u16 r, .int .u32 n, .int .u32 num, .string ⟨text.toArray⟩, .slice p spans.length c, .int .u32 seq]) := fun p c => rfl
  simp only at hsl hll hsz
  rw [HOV.out]
  clear hI
  go_enter Try.func3, Try.ntmps3
  go_wp2_with fail
  refine (HA.out _).mono ?_
  rintro e w1 ⟨rfl, hb1⟩
  have HB1 : Hid (Below w.heap.size w w1) := below_step (below_alloc (Below.refl _ _) _) hb1
  have HX1 := Lib.hid (kept_box (heap_alloc_new w _) hb1)
  obtain ⟨x0, x1, x2, x3, x4, x5, x6⟩ := seven_cells HX1.out
  clear hb1 HA
  by_cases ht : 300 < text.length
  · have ht' : (300 : Int) < ((⟨text.toArray⟩ : ByteArray).size : Int) := by omega
    clear HI HOV HPU HPL HAT HFI
    generalize (⟨text.toArray⟩ : ByteArray) = bt at *
    go_wp2
    go_ret
    exact ⟨rfl, HB1.out⟩
  have ht' : ¬ (300 : Int) < ((⟨text.toArray⟩ : ByteArray).size : Int) := by omega
  by_cases hs : 60 < spans.length
  · have hs' : (60 : Int) < (spans.length : Int) := by omega
    clear HI HOV HPU HPL HAT HFI
    generalize (⟨text.toArray⟩ : ByteArray) = bt at *
    go_wp2
    go_ret
    exact ⟨rfl, HB1.out⟩
  have hs' : ¬ (60 : Int) < (spans.length : Int) := by omega
  have HR := Lib.hid (ref8_any ⟨kind, r, n, num, text, spans, seq⟩ p c w1 (HI.out.below HB1.out).row (by simp only; omega))
  rw [HOV.out] at HR
  go_wp2_with fail
  refine HR.out.mono ?_
  rintro e w2 ⟨p2, c2, rfl, hG2, hc2, hp2, hb2⟩
  rw [HOV.out]
  have HB2 : Hid (Below w.heap.size w w2) := below_step HB1.out hb2
  have HX2 := Lib.hid (kept_box HX1.out hb2)
  have HG2 := Lib.hid hG2
  clear hG2 hb2 HR HX1 HB1 x0 x1 x2 x3 x4 x5 x6
  have HFT := Lib.hid (fun B => reffit8_any ⟨kind, r, n, num, text, spans, seq⟩ p2 c2 (w2.alloc B) ⟨HI.out.fit, HG2.out.alloc B, by simp only; omega, by simp only; omega⟩)
  rw [HOV.out] at HFT
  go_wp2_with fail
  refine (HFT.out _).mono ?_
  rintro e w3 ⟨rfl, hb3⟩
  have HB3 : Hid (Below w.heap.size w w3) := below_step (below_alloc HB2.out _) hb3
  have HX3 := Lib.hid (kept_box (kept_box HX2.out (below_alloc (Below.refl _ _) _)) hb3)
  have HY3 := Lib.hid (kept_box (heap_alloc_new w2 _) hb3)
  have HG3 : Hid (GRow layS w3 p2 spans) := (HG2.out.alloc _).below hb3
  clear hb3 HFT HX2 HB2 HG2
  generalize w2.heap.size = Y at HY3 ⊢
  obtain ⟨x0, x1, x2, x3, x4, x5, x6⟩ := seven_cells HX3.out
  obtain ⟨y0, y1, y2, y3, y4, y5, y6⟩ := seven_cells HY3.out
  have X0 := cell_regrown x0
  have X1 := cell_regrown x1
  have X2 := cell_regrown x2
  have X3 := cell_regrown x3
  have X4 := cell_regrown x4
  have X5 := cell_regrown x5
  have X6 := cell_regrown x6
  have Y0 := cell_regrown y0
  have Y1 := cell_regrown y1
  have Y2 := cell_regrown y2
  have Y3 := cell_regrown y3
  have Y4 := cell_regrown y4
  have Y5 := cell_regrown y5
  have Y6 := cell_regrown y6
  have K1 : Hid (∀ dd os, Calls Try.prog 9 #[ov ⟨kind, r, n, num, text, spans, seq⟩ p c] (Go.Sort.grow (redrawn w3 dd) os) fun e w' => e = .returned (.int .i64 (fitO ⟨kind, r, n, num, text, spans, seq⟩)) ∧ Below (Go.Sort.grow (redrawn w3 dd) os).heap.size (Go.Sort.grow (redrawn w3 dd) os) w') := fun dd os => HFI _ p c _ (HI.out.below (below_step HB3.out (below_regrown _ _ _))) (by simp only; omega) (by simp only; omega)
  have K2 := Lib.hid (fun W => HPL text W (by omega))
  have K3 : Hid (∀ W : World, Calls Try.prog 11 #[.string ⟨text.toArray⟩] W fun e w' => e = .returned (.bool (plainB text)) ∧ Below W.heap.size W w') := fun W => (refplain_any text (by omega) W).mono fun e w' ⟨he, hw⟩ => ⟨he, by rw [hw]; exact Below.refl _ _⟩
  have K4 : Hid (fitO ⟨kind, r, n, num, text, spans, seq⟩ = 0 → ∀ dd os, Calls Try.prog 12 #[ov ⟨kind, r, n, num, text, spans, seq⟩ p c] (Go.Sort.grow (redrawn w3 dd) os) fun e w' => e = .returned (.int .i64 (atomsO ⟨kind, r, n, num, text, spans, seq⟩)) ∧ Below (Go.Sort.grow (redrawn w3 dd) os).heap.size (Go.Sort.grow (redrawn w3 dd) os) w') := fun h0 dd os => HAT _ p c _ (HI.out.below (below_step HB3.out (below_regrown _ _ _))) (by simp only; omega) (by simp only; omega) h0
  have K5 : Hid (fitO ⟨kind, r, n, num, text, spans, seq⟩ = 0 → ∀ dd os, Calls Try.prog 13 #[ov ⟨kind, r, n, num, text, spans, seq⟩ p2 c2] (Go.Sort.grow (redrawn w3 dd) os) fun e w' => e = .returned (.int .i64 (atomsO ⟨kind, r, n, num, text, spans, seq⟩)) ∧ Below (Go.Sort.grow (redrawn w3 dd) os).heap.size (Go.Sort.grow (redrawn w3 dd) os) w') := fun h0 dd os => refatoms_any ⟨kind, r, n, num, text, spans, seq⟩ p2 c2 _ (HG3.out.below (below_regrown _ _ _)) (fun hk => by
    rcases fitO_cases h0 with h | h | h | h
    · have := h.1; simp only at hk this; omega
    · have := h.1; simp only at hk this; omega
    · have hf := fitL_ok h.2.2.2.1; exact ⟨hf.1, by have := hf.2.1; omega⟩
    · have := h.1; simp only at hk this; omega) (by simp only; omega) (by simp only; omega)
  generalize fitO ⟨kind, r, n, num, text, spans, seq⟩ = FO at K1 K4 K5 ⊢
  generalize atomsO ⟨kind, r, n, num, text, spans, seq⟩ = AO at K4 K5
  generalize plainB text = PB at K2 K3
  simp only [HOV.out] at K1 K4 K5
  clear HI HOV HPU HPL HAT HFI HX3 HY3 HG3 x0 x1 x2 x3 x4 x5 x6 y0 y1 y2 y3 y4 y5 y6
  generalize (⟨text.toArray⟩ : ByteArray) = bt at *
  by_cases h0 : FO = 0
  · subst h0
    have K4b := Lib.hid (K4.out rfl)
    have K5b := Lib.hid (K5.out rfl)
    clear K4 K5
    cases PB
    all_goals
      go_wp2_with fail
      refine wp_region_quiet_below (by kernel_rfl) (by kernel_rfl) ?_
      repeat (go_big_quiet_step (first | (go_at_call 9; exact Calls.regrown_of (K1.out _ _)) | (go_at_call 10; exact Calls.regrown_of (K2.out _)) | (go_at_call 11; exact Calls.regrown_of (K3.out _)) | (go_at_call 12; exact Calls.regrown_of (K4b.out _ _)) | (go_at_call 13; exact Calls.regrown_of (K5b.out _ _))))
      refine wpQuiet_nil ?_
      intro _ hw'
      obtain ⟨⟨dq, osq⟩, hw''⟩ := hw'
      subst hw''
      go_wp2
      go_ret
      exact ⟨rfl, below_step HB3.out (below_regrown _ _ _)⟩
  · have h0' : (FO == 0) = false := beq_no h0
    have h0'' : (FO != 0) = true := by simp [h0]
    clear K4 K5
    cases PB
    all_goals
      go_wp2_with fail
      refine wp_region_quiet_below (by kernel_rfl) (by kernel_rfl) ?_
      repeat (go_big_quiet_step (first | (go_at_call 9; exact Calls.regrown_of (K1.out _ _)) | (go_at_call 10; exact Calls.regrown_of (K2.out _)) | (go_at_call 11; exact Calls.regrown_of (K3.out _))))
      refine wpQuiet_nil ?_
      intro _ hw'
      obtain ⟨⟨dq, osq⟩, hw''⟩ := hw'
      subst hw''
      go_wp2
      go_ret
      exact ⟨rfl, below_step HB3.out (below_regrown _ _ _)⟩
end Go.Proofs.Ytjmekhepbbgkeaa
