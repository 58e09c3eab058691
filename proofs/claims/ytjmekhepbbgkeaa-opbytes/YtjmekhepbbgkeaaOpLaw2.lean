
/-
  What the laws' own same of layer 8 tells of one operation twice. No conditions beyond what each theorem states.
-/
import Derived.Test.YtjmekhepbbgkeaaOpLaw1
namespace Go.Proofs.Ytjmekhepbbgkeaa
open Go.ChangeShapes Go.WideShapes Go.ChangeAt Go.RowKit Go.Lib
set_option linter.unusedVariables false
set_option linter.unusedSimpArgs false

set_option maxHeartbeats 6400000 in
set_option maxRecDepth 20000 in
theorem same8_any (o : Om) (p q : Option Addr) (c d : Nat) (w : World) (hR : GRow layS w p o.spans) (hS : GRow layS w q o.spans) (hl : o.spans.length ≤ 100000) :
    Calls Try.prog 18 #[ov o p c, ov o q d] w fun e w' => e = .returned (.bool true) ∧ Below w.heap.size w w' := by
  have HF := Lib.hid (fun W hb => ref8_any o p c W (hR.below (w' := W) hb) hl)
  have HS := Lib.hid hS
  obtain ⟨kind, r, n, num, text, spans, seq⟩ := o
  have HOV : Hid (∀ p c, ov ⟨kind, r, n, num, text, spans, seq⟩ p c = .agg #[.int .i64 kind, .int .u16 r, .int .u32 n, .int .u32 num, .string ⟨text.toArray⟩, .slice p spans.length c, .int .u32 seq]) := fun p c => rfl
  simp only [HOV.out] at HF HS hl ⊢
  clear hR hS
  have H2 := Lib.hid (fun A B => heap_alloc2_new w A B)
  go_enter Try.func18, Try.ntmps18
  go_wp2_with fail
  refine (HF.out _ (below_alloc (below_alloc (Below.refl _ _) _) _)).mono ?_
  rintro e w1 ⟨p1, c1, rfl, hG1, -, -, hb1⟩
  rw [HOV.out]
  have HB1 : Hid (Below w.heap.size w w1) := below_step (below_alloc (below_alloc (Below.refl _ _) _) _) hb1
  have HX1 := Lib.hid (kept_box (H2.out _ _) hb1)
  have HG1 : Hid (GRow layS w1 p1 spans) := hG1
  have HS1 : Hid (GRow layS w1 q spans) := HS.out.below HB1.out
  obtain ⟨x0, x1, x2, x3, x4, x5, x6⟩ := seven_cells HX1.out
  have hX : w.heap.size + 1 < w1.heap.size := lt_of_block HX1.out
  clear hG1 hb1 HF HS H2 HOV
  have HY : Hid (∀ A, (w1.alloc A).heap[w1.heap.size]? = some A) := fun A => heap_alloc_new w1 A
  have hne : ¬ w.heap.size + 1 = w1.heap.size := by omega
  generalize (⟨text.toArray⟩ : ByteArray) = bt at *
  have z : ∀ A, (w1.alloc A).heap[w.heap.size + 1]? = some (.cells #[.int .i64 kind, .int .u16 r, .int .u32 n, .int .u32 num, .string bt, .slice q spans.length d, .int .u32 seq] 33 (0, 0)) := fun A => kept_box HX1.out (below_alloc (Below.refl _ _) A)
  have X0 := fun A => (seven_cells (z A)).1
  have X1 := fun A => (seven_cells (z A)).2.1
  have X2 := fun A => (seven_cells (z A)).2.2.1
  have X3 := fun A => (seven_cells (z A)).2.2.2.1
  have X4 := fun A => (seven_cells (z A)).2.2.2.2.1
  have X5 := fun A => (seven_cells (z A)).2.2.2.2.2.1
  have X6 := fun A => (seven_cells (z A)).2.2.2.2.2.2
  clear z x0 x1 x2 x3 x4 x5 x6
  go_wp2_with fail
  have Y5 := (seven_cells (HY.out (.cells #[.int .i64 kind, .int .u16 r, .int .u32 n, .int .u32 num, .string bt, .slice p1 spans.length c1, .int .u32 seq] 33))).2.2.2.2.2.1
  have HX5 := Lib.hid (X5 (.cells #[.int .i64 kind, .int .u16 r, .int .u32 n, .int .u32 num, .string bt, .slice p1 spans.length c1, .int .u32 seq] 33))
  have HY5 := Lib.hid Y5
  have HGW : Hid (GRow layS (w1.alloc (.cells #[.int .i64 kind, .int .u16 r, .int .u32 n, .int .u32 num, .string bt, .slice p1 spans.length c1, .int .u32 seq] 33)) p1 spans) := HG1.out.alloc _
  have HSW : Hid (GRow layS (w1.alloc (.cells #[.int .i64 kind, .int .u16 r, .int .u32 n, .int .u32 num, .string bt, .slice p1 spans.length c1, .int .u32 seq] 33)) q spans) := HS1.out.alloc _
  have HBW : Hid (Below w.heap.size w (w1.alloc (.cells #[.int .i64 kind, .int .u16 r, .int .u32 n, .int .u32 num, .string bt, .slice p1 spans.length c1, .int .u32 seq] 33))) := below_alloc HB1.out _
  clear X0 X1 X2 X3 X4 X5 X6 Y5 HG1 HS1 HB1 HY HX1
  generalize w1.alloc (.cells #[.int .i64 kind, .int .u16 r, .int .u32 n, .int .u32 num, .string bt, .slice p1 spans.length c1, .int .u32 seq] 33) = W at HX5 HY5 HGW HSW HBW ⊢
  go_loopg [54] spans.length (fun g i wr => ∃ k : Nat, k ≤ spans.length ∧ spans.length - k ≤ g ∧ i = .int .i64 (k : Int) ∧ Below W.heap.size W wr)
  case atStart => exact ⟨0, Nat.zero_le _, by omega, rfl, Below.refl _ _⟩
  case round =>
    obtain ⟨k, hk, hg, rfl, hB⟩ := hrel
    have HB := Lib.hid hB
    clear hB
    by_cases hlt : k < spans.length
    · have hkl : (k : Int) < (spans.length : Int) := by omega
      have hk0 : (0 : Int) ≤ (k : Int) := by omega
      obtain ⟨b1, o1, rfl, a0, a1, a2⟩ := srow_at (HGW.out.below HB.out) hlt
      obtain ⟨b2, o2, rfl, e0, e1, e2⟩ := srow_at (HSW.out.below HB.out) hlt
      have x5 := cellU HX5.out HB.out
      have y5 := cellU HY5.out HB.out
      generalize spans.getD k s0 = s at a0 a1 a2 e0 e1 e2
      obtain ⟨r', n', m'⟩ := s
      simp only at a0 a1 a2 e0 e1 e2
      go_wp2_with fail
      go_quiet (fail)
      go_wp2
      go_roundg (spans.length - (k + 1))
      case measure => omega
      case rel => exact ⟨k + 1, by omega, Nat.le_refl _, by go_num, below_drewN HB.out _⟩
    · have : k = spans.length := by omega
      subst this
      have hkl : ¬ (spans.length : Int) < (spans.length : Int) := by omega
      go_wp2
      go_ret
      exact ⟨rfl, below_step HBW.out HB.out⟩
end Go.Proofs.Ytjmekhepbbgkeaa
