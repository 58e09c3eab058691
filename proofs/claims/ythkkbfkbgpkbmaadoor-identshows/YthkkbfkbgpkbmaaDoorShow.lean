/-
  What the two Show calls hand back, for every ID: its replica's decimal digits, a colon, its number's. The condition: the library's table of powers of ten holds what it was laid with.
-/
import Derived.Test.YthkkbfkbgpkbmaaDoorFormat
import Derived.Lib.SmallJoins
namespace Go.Proofs.YthkkbfkbgpkbmaaDoor
open Go.ChangeShapes Go.WideShapes Go.ChangeAt Go.RowKit Go.Sort
set_option linter.unusedVariables false
set_option linter.unusedSimpArgs false

/-- What the calls ask of the library's own variables. -/
structure Fit (w : World) : Prop where
  tab : Lib.TabIs Tryd.prog w "internal/strconv.uint64pow10" .u64 Lib.pow10Tab
  len : ∃ m, w.cell? ⟨1, 0, none⟩ = some (.int .i64 m)
  syn : ∃ ev, w.cell? ⟨2, 0, none⟩ = some ev ∧ (ev = .nilIface ∨ ∃ te pe, ev = .iface te pe)
  rng : ∃ ev, w.cell? ⟨3, 0, none⟩ = some ev ∧ (ev = .nilIface ∨ ∃ te pe, ev = .iface te pe)

theorem Fit.below {w w' : World} (h : Fit w) (hb : Below w.heap.size w w') : Fit w' := by
  obtain ⟨h1, ⟨m, h2⟩, ⟨e1, h3, k3⟩, ⟨e2, h4, k4⟩⟩ := h
  exact ⟨Go.Joins.tab_stays (g := 0) (by kernel_rfl) h1 hb (Nat.le_refl _), ⟨m, by rw [hb.cell (block_lt_of_cell h2)]; exact h2⟩, ⟨e1, by rw [hb.cell (block_lt_of_cell h3)]; exact h3, k3⟩, ⟨e2, by rw [hb.cell (block_lt_of_cell h4)]; exact h4, k4⟩⟩

/-- An ID as a text. -/
def showL (r n : Nat) : List UInt8 := Lib.decDigits r ++ 58 :: Lib.decDigits n
def showB (r n : Nat) : ByteArray := ⟨(showL r n).toArray⟩
theorem show_eq (r n : Nat) : (⟨(Lib.decDigits r).toArray⟩ : ByteArray) ++ ⟨#[58]⟩ ++ ⟨(Lib.decDigits n).toArray⟩ = showB r n := by
  apply ByteArray.ext
  simp [showB, showL]

set_option maxHeartbeats 1600000 in
set_option maxRecDepth 100000 in
theorem show_any (r n : Nat) (hr : r ≤ 65535) (hn : n ≤ 4294967295) (w : World) (hfit : Fit w) :
    Calls Tryd.prog 5 #[.agg #[.int .u16 r, .int .u32 n]] w fun e w' => e = .returned (.string (showB r n)) ∧ Below w.heap.size w w' := by
  have HT : Hid (∀ W, Below w.heap.size w W → Lib.TabIs Tryd.prog W "internal/strconv.uint64pow10" .u64 Lib.pow10Tab) := fun W hb => (hfit.below hb).tab
  clear hfit
  have g0 := cell_regrown (w := w.alloc (.cells #[.int .u16 (r : Int), .int .u32 (n : Int)] 25)) (a := ⟨w.heap.size, 0, none⟩) (v := .int .u16 r) (by simp)
  have g1 := cell_regrown (w := w.alloc (.cells #[.int .u16 (r : Int), .int .u32 (n : Int)] 25)) (a := ⟨w.heap.size, 1, none⟩) (v := .int .u32 n) (by simp)
  have l0 := nd_le r (by omega)
  have l1 := nd_le n (by omega)
  have s1 : ¬ 9223372036854775807 < (Lib.decDigits r).length + 1 := by omega
  have s2 : ¬ 9223372036854775807 < (Lib.decDigits r).length + 1 + (Lib.decDigits n).length := by omega
  have w1 : IntKind.u64.wrap (r : Int) = r := by rw [IntKind.wrap_u64]; omega
  have w2 : IntKind.u64.wrap (n : Int) = n := by rw [IntKind.wrap_u64]; omega
  have HB : Hid (Below w.heap.size w (w.alloc (.cells #[.int .u16 (r : Int), .int .u32 (n : Int)] 25))) := (Below.refl _ _).alloc (Nat.le_refl _) _
  have HF : Hid (∀ (u : Nat), u < 18446744073709551616 → ∀ d os, Calls Tryd.prog 11 #[.int .u64 u, .int .i64 10] (grow (redrawn (w.alloc (.cells #[.int .u16 (r : Int), .int .u32 (n : Int)] 25)) d) os) fun e w'' => e = .returned (.string ⟨(Lib.decDigits u).toArray⟩) ∧ ∃ p : Regrown, w'' = grow (redrawn (w.alloc (.cells #[.int .u16 (r : Int), .int .u32 (n : Int)] 25)) p.d) p.os) :=
    fun u hu d os => Calls.regrown_of (fmt_any u hu _ (HT.out _ (below_step HB.out (below_regrown _ d os))))
  go_enter Tryd.func5, Tryd.ntmps5
  go_wp2
  refine wp_region_quiet_below (by kernel_rfl) (by kernel_rfl) ?_
  repeat (first | go_big_quiet_step ((go_at_call 11; exact HF.out _ (by omega) _ _)) | quiet_step ((go_at_call 11; exact HF.out _ (by omega) _ _)))
  refine wpQuiet_nil ?_
  intro w3 hw'
  have HB4 : Hid (Below w.heap.size w w3) := by obtain ⟨⟨dq, osq⟩, rfl⟩ := hw'; exact below_step HB.out (below_regrown _ _ _)
  clear hw' g0 g1
  go_wp2
  go_ret
  exact ⟨ret_str (show_eq r n), HB4.out⟩

set_option maxHeartbeats 1600000 in
set_option maxRecDepth 100000 in
theorem refshow_any (r n : Nat) (hr : r ≤ 65535) (hn : n ≤ 4294967295) (w : World) :
    Calls Tryd.prog 7 #[.agg #[.int .u16 r, .int .u32 n]] w fun e w' => e = .returned (.string (showB r n)) ∧ Below w.heap.size w w' := by
  have g0 := cell_regrown (w := w.alloc (.cells #[.int .u16 (r : Int), .int .u32 (n : Int)] 32)) (a := ⟨w.heap.size, 0, none⟩) (v := .int .u16 r) (by simp)
  have g1 := cell_regrown (w := w.alloc (.cells #[.int .u16 (r : Int), .int .u32 (n : Int)] 32)) (a := ⟨w.heap.size, 1, none⟩) (v := .int .u32 n) (by simp)
  have l0 := nd_le r (by omega)
  have l1 := nd_le n (by omega)
  have s1 : ¬ 9223372036854775807 < (Lib.decDigits r).length + 1 := by omega
  have s2 : ¬ 9223372036854775807 < (Lib.decDigits r).length + 1 + (Lib.decDigits n).length := by omega
  have w1 : IntKind.u64.wrap (r : Int) = r := by rw [IntKind.wrap_u64]; omega
  have w2 : IntKind.u64.wrap (n : Int) = n := by rw [IntKind.wrap_u64]; omega
  have HB : Hid (Below w.heap.size w (w.alloc (.cells #[.int .u16 (r : Int), .int .u32 (n : Int)] 32))) := (Below.refl _ _).alloc (Nat.le_refl _) _
  go_enter Tryd.func7, Tryd.ntmps7
  go_wp2
  refine wp_region_quiet_below (by kernel_rfl) (by kernel_rfl) ?_
  repeat (first | go_big_quiet_step ((go_at_call 14; exact Calls.regrown_of (digits_any _ (by omega) _))) | quiet_step ((go_at_call 14; exact Calls.regrown_of (digits_any _ (by omega) _))))
  refine wpQuiet_nil ?_
  intro w3 hw'
  have HB4 : Hid (Below w.heap.size w w3) := by obtain ⟨⟨dq, osq⟩, rfl⟩ := hw'; exact below_step HB.out (below_regrown _ _ _)
  clear hw' g0 g1
  go_wp2
  go_ret
  exact ⟨ret_str (show_eq r n), HB4.out⟩

end Go.Proofs.YthkkbfkbgpkbmaaDoor
