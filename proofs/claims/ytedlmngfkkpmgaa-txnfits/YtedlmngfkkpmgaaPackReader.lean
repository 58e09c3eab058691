
/-
  What From, and the reader's Error, At, Left, Done, fail, take and number do, for every reader that lies in memory. No conditions beyond what each theorem states (its bytes are fewer than a million).
-/
import Derived.Test.YtedlmngfkkpmgaaPackWriter2
namespace Go.Proofs.Ytedlmngfkkpmgaa
open Go.ChangeShapes Go.WideShapes Go.ChangeAt Go.RowKit Go.Lib
set_option linter.unusedVariables false
set_option linter.unusedSimpArgs false

/-- A reader at block K, its bytes at block D: how many were read, and its first error. -/
structure Rd (K D : Nat) (bs : List UInt8) (q e : Nat) (w : World) : Prop where
  box : w.heap[K]? = some (.cells #[.slice (some ⟨D, 0, none⟩) bs.length bs.length, .int .i64 (q : Int), .int .i64 (e : Int)] 76 (0, 0))
  row : w.heap[D]? = some (.cells (byteCells bs).toArray 5 (0, 0))
  fits : q ≤ bs.length
  less : bs.length ≤ 1000000
theorem Rd.apart {K D : Nat} {bs : List UInt8} {q e : Nat} {w : World} (h : Rd K D bs q e w) : D ≠ K := by
  intro e; subst e; have h1 := h.box; rw [h.row] at h1; simp only [Option.some.injEq, Obj.cells.injEq] at h1; exact absurd h1.2.1 (by decide)
theorem Rd.kept {K D : Nat} {bs : List UInt8} {q e : Nat} {w w' : World} {S : Nat → Prop} (h : Rd K D bs q e w) (hk : Kept S w w') (h1 : ¬ S K) (h2 : ¬ S D) : Rd K D bs q e w' := ⟨hk.stays h.box h1, hk.stays h.row h2, h.fits, h.less⟩
theorem Rd.below {K D : Nat} {bs : List UInt8} {q e : Nat} {w w' : World} (h : Rd K D bs q e w) (hb : Below w.heap.size w w') : Rd K D bs q e w' := h.kept (S := fun _ => False) (Kept.ofBelow hb) (fun f => f) (fun f => f)
theorem Rd.cell0 {K D : Nat} {bs : List UInt8} {q e : Nat} {w : World} (h : Rd K D bs q e w) : w.cell? ⟨K, 0, none⟩ = some (.slice (some ⟨D, 0, none⟩) bs.length bs.length) := by rw [cell_of_block h.box]; rfl
theorem Rd.cell1 {K D : Nat} {bs : List UInt8} {q e : Nat} {w : World} (h : Rd K D bs q e w) : w.cell? ⟨K, 1, none⟩ = some (.int .i64 (q : Int)) := by rw [cell_of_block h.box]; rfl
theorem Rd.cell2 {K D : Nat} {bs : List UInt8} {q e : Nat} {w : World} (h : Rd K D bs q e w) : w.cell? ⟨K, 2, none⟩ = some (.int .i64 (e : Int)) := by rw [cell_of_block h.box]; rfl
theorem Rd.frozen {K D : Nat} {bs : List UInt8} {q e : Nat} {w : World} (h : Rd K D bs q e w) (o : Nat) : w.frozen? ⟨K, o, none⟩ = false := frozen_of_block h.box
theorem Rd.brow {K D : Nat} {bs : List UInt8} {q e : Nat} {w : World} (h : Rd K D bs q e w) : BRow w (some ⟨D, 0, none⟩) bs := brow_block h.row
theorem Rd.set1 {K D : Nat} {bs : List UInt8} {q e : Nat} {w : World} (h : Rd K D bs q e w) {q' : Nat} (hq : q' ≤ bs.length) : Rd K D bs q' e (w.setCell ⟨K, 1, none⟩ (.int .i64 (q' : Int))) :=
  ⟨by simp [World.setCell, Array.getElem?_modify, h.box], by rw [Below.heap_setCell _ _ _ _ h.apart]; exact h.row, hq, h.less⟩
theorem Rd.set2 {K D : Nat} {bs : List UInt8} {q e : Nat} {w : World} (h : Rd K D bs q e w) (e' : Nat) : Rd K D bs q e' (w.setCell ⟨K, 2, none⟩ (.int .i64 (e' : Int))) :=
  ⟨by simp [World.setCell, Array.getElem?_modify, h.box], by rw [Below.heap_setCell _ _ _ _ h.apart]; exact h.row, h.fits, h.less⟩
/-- What a reader's call leaves: its own block alone has changed. -/
abbrev Only (K : Nat) (w w' : World) : Prop := Kept (fun k => k = K) w w'
theorem Only.step {K : Nat} {a b c : World} (h : Only K a b) (k : Only K b c) : Only K a c := h.trans k (fun _ _ e => e)
theorem only_drew (K : Nat) (w : World) : Only K w w.drew := ⟨rfl, rfl, rfl, Nat.le_refl _, fun _ _ _ => rfl⟩

set_option maxHeartbeats 800000 in
theorem from_any (bs : List UInt8) (p : Option Addr) (c : Nat) (w : World) (hR : BRow w p bs) (hl : bs.length ≤ 1000000) :
    Calls Try.prog 18 #[.slice p bs.length c] w fun e w' => ∃ K, e = .returned (.pointer (some ⟨K, 0, none⟩)) ∧ w.heap.size < K ∧ Rd K w.heap.size bs 0 0 w' ∧ Below w.heap.size w w' := by
  have H := Lib.hid (copied_any bs p c w hR hl)
  clear hR
  go_enter Try.func18, Try.ntmps18
  go_wp2_with fail
  refine H.out.mono ?_
  rintro e w1 ⟨rfl, h1, h2⟩
  have hlt := lt_of_block h1
  have H1 := Lib.hid h1
  have H2 := Lib.hid h2
  clear h1 h2
  go_wp2
  go_ret
  exact ⟨w1.heap.size, rfl, hlt, ⟨heap_alloc_new w1 _, by rw [Below.heap_alloc _ _ _ hlt]; exact H1.out, Nat.zero_le _, hl⟩, H2.out.alloc (by omega) _⟩

set_option maxHeartbeats 800000 in
theorem error_any {K D : Nat} {bs : List UInt8} {q e : Nat} (w : World) (hR : Rd K D bs q e w) :
    Calls Try.prog 24 #[.pointer (some ⟨K, 0, none⟩)] w fun r w' => r = .returned (.int .i64 (e : Int)) ∧ w' = w := by
  have c2 := hR.cell2
  clear hR
  go_enter Try.func24, Try.ntmps24
  go_wp2
  go_ret
  exact ⟨rfl, rfl⟩
set_option maxHeartbeats 800000 in
theorem at_any {K D : Nat} {bs : List UInt8} {q e : Nat} (w : World) (hR : Rd K D bs q e w) :
    Calls Try.prog 25 #[.pointer (some ⟨K, 0, none⟩)] w fun r w' => r = .returned (.int .i64 (q : Int)) ∧ w' = w := by
  have c1 := hR.cell1
  clear hR
  go_enter Try.func25, Try.ntmps25
  go_wp2
  go_ret
  exact ⟨rfl, rfl⟩
set_option maxHeartbeats 800000 in
theorem left_any {K D : Nat} {bs : List UInt8} {q e : Nat} (w : World) (hR : Rd K D bs q e w) :
    Calls Try.prog 41 #[.pointer (some ⟨K, 0, none⟩)] w fun r w' => r = .returned (.int .i64 ((bs.length - q : Nat) : Int)) ∧ Below w.heap.size w w' := by
  have c0 := hR.cell0
  have c1 := hR.cell1
  have hf := hR.fits
  have hl := hR.less
  have hw : IntKind.i64.wrap ((bs.length : Int) - (q : Int)) = ((bs.length - q : Nat) : Int) := by rw [IntKind.wrap_i64]; omega
  clear hR
  go_enter Try.func41, Try.ntmps41
  go_wp2_with fail
  go_quiet (fail)
  go_wp2
  go_ret
  exact ⟨by first | rfl | (rw [show ((bs.length - q : Nat) : Int) = (bs.length : Int) - (q : Int) by omega]), by first | exact Below.refl _ _ | exact below_drewN (Below.refl _ _) _⟩
set_option maxHeartbeats 800000 in
theorem fail_any {K D : Nat} {bs : List UInt8} {q e : Nat} (f : Nat) (w : World) (hR : Rd K D bs q e w) :
    Calls Try.prog 61 #[.pointer (some ⟨K, 0, none⟩), .int .i64 (f : Int)] w fun r w' => r = .returned (.tuple #[]) ∧ Rd K D bs q (if e = 0 then f else e) w' ∧ Only K w w' := by
  have c2 := hR.cell2
  have f2 := hR.frozen 2
  have HR := Lib.hid hR
  clear hR
  by_cases he : e = 0
  · subst he
    go_enter Try.func61, Try.ntmps61
    go_wp2
    go_end0
    exact ⟨rfl, HR.out.set2 f, Kept.set (S := fun k => k = K) (Kept.refl _ _) rfl _⟩
  · have he' : ((e : Int) == 0) = false := by simp; omega
    rw [if_neg he]
    go_enter Try.func61, Try.ntmps61
    go_wp2
    go_end0
    exact ⟨rfl, HR.out, Kept.refl _ _⟩

end Go.Proofs.Ytedlmngfkkpmgaa
