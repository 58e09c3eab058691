
/-
  The laws' own anchor of layer 12, over a log's calls as premises. No conditions beyond what each theorem states.
-/
import Derived.Test.YtafhjccghbpbbaaLogSpec
import Derived.Test.YtafhjccghbpbbaaPackTwo
import Derived.Lib.SmallJoins
namespace Go.Proofs.Ytafhjccghbpbbaa
open Go.ChangeShapes Go.WideShapes Go.ChangeAt Go.RowKit Go.Lib
set_option linter.unusedVariables false
set_option linter.unusedSimpArgs false

theorem anchor12_put1 : putG [] ⟨1, 3, [99]⟩ = [⟨1, 3, [99]⟩] ∧ keptL [] 1 3 = false := ⟨rfl, rfl⟩
theorem anchor12_put2 : putG [⟨1, 3, [99]⟩] ⟨1, 1, [97]⟩ = [⟨1, 3, [99]⟩, ⟨1, 1, [97]⟩] ∧ keptL [⟨1, 3, [99]⟩] 1 1 = false := ⟨rfl, rfl⟩
theorem anchor12_reply : replyL [⟨1, 3, [99]⟩, ⟨1, 1, [97]⟩] 1 1 3 5 = [[97], [99]] := by decide +kernel
theorem brow_one {W : World} {A : Nat} {x : UInt8} {f : Nat × Nat} (h : W.heap[A]? = some (.cells #[.int .u8 (x.toNat : Int)] 5 f)) : BRow W (some ⟨A, 0, none⟩) [x] := fun i hi => by
  have : i = 0 := by simp at hi; omega
  subst this
  exact ⟨A, 0, rfl, by rw [cell_of_block h]; rfl⟩
set_option maxHeartbeats 3200000 in
set_option maxRecDepth 20000 in
theorem anchor12_any {Lg : (Nat → Prop) → Nat → List Lm → World → Prop} (HL : LogSpec Lg) (w : World) : Calls Try.prog 5 #[] w fun e w' => e = .returned (.bool true) ∧ Below w.heap.size w w' := by
  obtain ⟨S0, hB0, hS0⟩ := HL.zero w
  obtain ⟨w0, hw0⟩ : ∃ w0, w0 = w.alloc (.cells #[.map none, .slice none 0 0, .int .i64 0] 31) := ⟨_, rfl⟩
  have hz0 : w0.heap.size = w.heap.size + 1 := by rw [hw0]; simp
  rw [← hw0] at hB0
  have HB0 := Lib.hid hB0
  have HW0 : Hid (Below w.heap.size w w0) := by show Below _ _ _; rw [hw0]; exact below_alloc (Below.refl _ _) _
  have HF0 : Hid (FirmG S0 w0 (fun W => Below w.heap.size w W)) := FirmG.base HW0.out hS0
  have hc1 := Go.Joins.run_convert_bytes_const_at (P := Try.prog) w0 33 5 #[.int .u8 99] 1 1 w0.heap.size rfl Try.underlying33 Try.underlying5
  have HP1 : Hid (Calls Try.prog 6 #[.pointer (some ⟨w.heap.size, 0, none⟩), .agg #[.int .u16 1, .int .u32 3], .slice (some ⟨w0.heap.size, 0, none⟩) 1 1] (w0.alloc (.cells #[.int .u8 99] 5 (1, 2))) fun e w' => e = .returned (.int .i64 0) ∧ ∃ S', Lg S' w.heap.size [⟨1, 3, [99]⟩] w' ∧ FirmG S' w' (fun W => Below w.heap.size w W)) := by
    have hb : Below w0.heap.size w0 (w0.alloc (.cells #[.int .u8 99] 5 (1, 2))) := below_alloc (Below.refl _ _) _
    have hn : ¬ S0 w0.heap.size := fun hs => by have := HL.lt _ _ _ _ HB0.out _ hs; omega
    refine (HL.put S0 w.heap.size [] _ ⟨1, 3, [99]⟩ (some ⟨w0.heap.size, 0, none⟩) 1 (HL.below _ _ _ _ _ HB0.out hb) (fun w2 h2 => brow_one (h2.stays (heap_alloc_new w0 (.cells #[.int .u8 99] 5 (1, 2))) hn)) ⟨by simp, by simp⟩ ⟨by simp, by simp⟩ (by simp) (by simp) (fun e => by cases e) (by simp)).mono ?_
    rintro e w' ⟨rfl, S', h1, hst⟩
    exact ⟨rfl, S', h1, (HF0.out.below hb).step hst⟩
  rw [hz0] at hc1 HP1
  clear hB0 hS0 HF0 HB0
  subst hw0
  go_enter Try.func5, Try.ntmps5
  go_wp2_with fail
  refine HP1.out.mono ?_
  rintro r w2 ⟨rfl, S1, hB2, hF2⟩
  have HB2 := Lib.hid hB2
  have HF2 := Lib.hid hF2
  have hz2 := hF2.now.size
  have hc2 := Go.Joins.run_convert_bytes_const_at (P := Try.prog) w2 33 5 #[.int .u8 97] 1 1 w2.heap.size rfl Try.underlying33 Try.underlying5
  have HP2 : Hid (Calls Try.prog 6 #[.pointer (some ⟨w.heap.size, 0, none⟩), .agg #[.int .u16 1, .int .u32 1], .slice (some ⟨w2.heap.size, 0, none⟩) 1 1] (w2.alloc (.cells #[.int .u8 97] 5 (1, 2))) fun e w' => e = .returned (.int .i64 0) ∧ ∃ S', Lg S' w.heap.size [⟨1, 3, [99]⟩, ⟨1, 1, [97]⟩] w' ∧ FirmG S' w' (fun W => Below w.heap.size w W)) := by
    have hb : Below w2.heap.size w2 (w2.alloc (.cells #[.int .u8 97] 5 (1, 2))) := below_alloc (Below.refl _ _) _
    have hn : ¬ S1 w2.heap.size := fun hs => by have := HL.lt _ _ _ _ HB2.out _ hs; omega
    refine (HL.put S1 w.heap.size [⟨1, 3, [99]⟩] _ ⟨1, 1, [97]⟩ (some ⟨w2.heap.size, 0, none⟩) 1 (HL.below _ _ _ _ _ HB2.out hb) (fun w3 h2 => brow_one (h2.stays (heap_alloc_new w2 (.cells #[.int .u8 97] 5 (1, 2))) hn)) ⟨by simp, by simp⟩ ⟨by simp, by simp⟩ (by simp) (by simp) (fun e => by cases e) (by simp)).mono ?_
    rintro e w' ⟨rfl, S', h1, hst⟩
    exact ⟨rfl, S', h1, (HF2.out.below hb).step hst⟩
  clear hB2 hF2 HB2 HF2 HP1 hc1
  go_wp2_with fail
  refine HP2.out.mono ?_
  rintro r w3 ⟨rfl, S2, hB3, hF3⟩
  have HF3 := Lib.hid hF3
  have HRP : Hid (Calls Try.prog 12 #[.pointer (some ⟨w.heap.size, 0, none⟩), .agg #[.int .u16 1, .int .u32 1, .int .u32 3], .int .i64 5] w3 fun e w' => ∃ q d, e = .returned (.slice q 2 d) ∧ MoreB w' q [[97], [99]] ∧ Below w3.heap.size w3 w') := by
    have h := HL.reply S2 w.heap.size _ w3 1 1 3 5 hB3 ⟨by omega, by omega⟩ ⟨by omega, by omega⟩ ⟨by omega, by omega⟩ (by omega) ⟨by omega, by omega⟩ (by simp)
    rw [anchor12_reply] at h
    exact h
  clear hB3 hF3 HP2 hc2
  go_wp2_with fail
  refine HRP.out.mono ?_
  rintro r w4 ⟨q, d, rfl, hm, hb4⟩
  have HB4 := Lib.hid (HF3.out.below hb4).now
  obtain ⟨b, o, p0, c0, rfl, x0, hr0⟩ := hm 0 (by simp)
  obtain ⟨b', o', p1, c1, e1, x1, hr1⟩ := hm 1 (by simp)
  cases e1
  have x0 : w4.cell? ⟨b, o, none⟩ = some (.slice p0 1 c0) := x0
  have x1 : w4.cell? ⟨b, o + 1, none⟩ = some (.slice p1 1 c1) := x1
  have hv0 : (convert 33 9 (.slice p0 1 c0)).run Try.prog w4 = .ok (.string ⟨#[97]⟩) w4 := conv_any hr0 rfl
  have hv1 : (convert 33 9 (.slice p1 1 c1)).run Try.prog w4 = .ok (.string ⟨#[99]⟩) w4 := conv_any hr1 rfl
  clear hm hr0 hr1 hb4 HF3 HRP
  go_wp2
  go_ret
  exact ⟨rfl, HB4.out⟩
end Go.Proofs.Ytafhjccghbpbbaa
