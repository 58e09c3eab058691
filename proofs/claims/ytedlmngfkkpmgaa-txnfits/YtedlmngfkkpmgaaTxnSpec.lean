
/-
  What the laws of layer 9 lean on: what txn's calls hand back (to be proved of the landed code), and the laws' own anchor under that. No conditions beyond what each theorem states.
-/
import Derived.Test.YtedlmngfkkpmgaaMade4
import Derived.Test.YtedlmngfkkpmgaaTxnMath3
namespace Go.Proofs.Ytedlmngfkkpmgaa
open Go.ChangeShapes Go.WideShapes Go.ChangeAt Go.RowKit Go.Lib
set_option linter.unusedVariables false
set_option linter.unusedSimpArgs false

/-- What is undone, or done again. -/
def undB (t : Tm) : Bool := decide (3 < (t.ops.getD 0 o0).kind)
def undR (t : Tm) : Int := if 3 < (t.ops.getD 0 o0).kind then t.r else 0
def undS (t : Tm) : Int := if 3 < (t.ops.getD 0 o0).kind then (t.ops.getD 0 o0).seq else 0
def IDTSpec : Prop := ∀ (t : Tm) (p : Option Addr) (c : Nat) (w : World), Calls Try.prog 11 #[tv t p c] w fun e w' => e = .returned (.agg #[.int .u16 t.r, .int .u32 t.seq]) ∧ Below w.heap.size w w'
def KeyTSpec : Prop := ∀ (t : Tm) (p : Option Addr) (c : Nat) (n : Int) (w : World), Calls Try.prog 12 #[tv t p c, .int .u32 n] w fun e w' => e = .returned (.agg #[.int .u64 t.clock, .int .u16 t.r, .int .u32 n]) ∧ Below w.heap.size w w'
def UndoesSpec : Prop := ∀ (t : Tm) (xs : List OV) (p : Option Addr) (c : Nat) (w : World), InT t xs p c w → SmallX xs → fitT t = 0 → Calls Try.prog 13 #[tv t p c] w fun e w' => e = .returned (.tuple #[.agg #[.int .u16 (undR t), .int .u32 (undS t)], .bool (undB t)]) ∧ Below w.heap.size w w'
def AtomsTSpec : Prop := ∀ (t : Tm) (xs : List OV) (p : Option Addr) (c : Nat) (w : World), InT t xs p c w → SmallX xs → fitT t = 0 → Calls Try.prog 14 #[tv t p c] w fun e w' => e = .returned (.int .i64 (atomsL t.ops)) ∧ Below w.heap.size w w'
def FitTSpec : Prop := ∀ (t : Tm) (xs : List OV) (p : Option Addr) (c : Nat) (w : World), InT t xs p c w → SmallX xs → xs.length ≤ 40 → Calls Try.prog 10 #[tv t p c] w fun e w' => e = .returned (.int .i64 (fitT t)) ∧ Below w.heap.size w w'
/-- A transaction's rows lie below a bound. -/
def BelowB (B : Nat) (xs : List OV) (p : Option Addr) : Prop := (0 < xs.length → ∀ q, p = some q → q.block < B) ∧ ∀ x ∈ xs, 0 < x.1.spans.length → ∀ q, x.2.1 = some q → q.block < B
def PutTSpec : Prop := ∀ (B K : Nat) (v : Value) (bs : List UInt8) (t : Tm) (xs : List OV) (p : Option Addr) (c : Nat) (w : World), Wr B K v bs w → InT t xs p c w → BelowB B xs p → SmallX xs → fitT t = 0 → bs.length ≤ 50000 → Calls Try.prog 16 #[tv t p c, .pointer (some ⟨K, 0, none⟩)] w fun e w' => e = .returned (.tuple #[]) ∧ Wrote B K v bs (bytesT t) w w'
/-- What Get leaves. -/
def GotT (bs : List UInt8) (q e K D : Nat) (w : World) (r : Ending) (w' : World) : Prop := ∃ ys p c q', r = .returned (tv (readTx bs q e).1 p c) ∧ RowT (readTx bs q e).1 ys p c w' ∧ Rd K D bs q' (readTx bs q e).2.2 w' ∧ ((readTx bs q e).2.2 = 0 → q' = (readTx bs q e).2.1) ∧ Only K w w'
def GetTSpec : Prop := ∀ (bs : List UInt8) (q e K D : Nat) (w : World), Rd K D bs q e w → bs.length ≤ 100000 → e < 16 → Calls Try.prog 21 #[.pointer (some ⟨K, 0, none⟩)] w (GotT bs q e K D w)
/-- The document's example. -/
def exO (n : Int) (s : List UInt8) : Om := ⟨1, 0, 0, n, s, [], 0⟩
def exX (m : Int) : List OV := [(exO 4 [97, 98], none, 0), (exO m [99], none, 0)]
def exT (m : Int) : Tm := ⟨0, 1, 1, 0, [exO 4 [97, 98], exO m [99]]⟩
theorem exT_yes : fitT (exT 6) = 0 := by decide
theorem exT_no : fitT (exT 7) = 11 := by decide
theorem exT_in {W : World} {A : Nat} (m : Int) (hm : m = 6 ∨ m = 7) (h : W.heap[A]? = some (.cells #[.int .i64 1, .int .u16 0, .int .u32 0, .int .u32 4, .string ⟨#[97, 98]⟩, .slice none 0 0, .int .u32 0, .int .i64 1, .int .u16 0, .int .u32 0, .int .u32 m, .string ⟨#[99]⟩, .slice none 0 0, .int .u32 0] 69 (0, 0))) : InT (exT m) (exX m) (some ⟨A, 0, none⟩) 2 W := by
  have hf : ∀ n : Int, ∀ s : List UInt8, 0 ≤ n → n ≤ 10 → FitOm (exO n s) := fun n s h1 h2 => by unfold FitOm exO; simp only; refine ⟨by omega, by omega, by omega, by omega, by omega, by omega, by omega, by omega, fun x hx => (by cases hx), by omega, by omega⟩
  have h4 := hf 4 [97, 98] (by omega) (by omega)
  have hm' := hf m [99] (by omega) (by omega)
  refine ⟨?_, rfl, ⟨grow_block (L := layO) (xs := exX m) h, ?_⟩, by simp [exT], fun e => by cases e⟩
  · unfold FitTm exT
    simp only
    refine ⟨by omega, by omega, by omega, by omega, by omega, by omega, by omega, by omega, fun o ho => ?_⟩
    simp only [List.mem_cons, List.not_mem_nil, or_false] at ho
    rcases ho with rfl | rfl
    · exact h4
    · exact hm'
  · intro x hx
    simp only [exX, List.mem_cons, List.not_mem_nil, or_false] at hx
    rcases hx with rfl | rfl
    · exact ⟨h4, GRow.nil _ _ _, Nat.le_refl _, fun _ => rfl⟩
    · exact ⟨hm', GRow.nil _ _ _, Nat.le_refl _, fun _ => rfl⟩
theorem exX_small (m : Int) : SmallX (exX m) := fun x hx => by
  simp only [exX, List.mem_cons, List.not_mem_nil, or_false] at hx
  rcases hx with rfl | rfl
  · simp [exO]
  · simp [exO]
set_option maxHeartbeats 3200000 in
set_option maxRecDepth 20000 in
theorem anchor9_any (HFT : FitTSpec) (w : World) : Calls Try.prog 6 #[] w fun e w' => e = .returned (.bool true) ∧ Below w.heap.size w w' := by
  have H1 : Hid (∀ (W : World) (A : Nat), W.heap[A]? = some (.cells #[.int .i64 1, .int .u16 0, .int .u32 0, .int .u32 4, .string ⟨#[97, 98]⟩, .slice none 0 0, .int .u32 0, .int .i64 1, .int .u16 0, .int .u32 0, .int .u32 6, .string ⟨#[99]⟩, .slice none 0 0, .int .u32 0] 69 (0, 0)) → Calls Try.prog 10 #[.agg #[.int .u16 0, .int .u32 1, .int .u64 1, .int .i64 0, .slice (some ⟨A, 0, none⟩) 2 2]] W fun e w' => e = .returned (.int .i64 0) ∧ Below W.heap.size W w') := fun W A h => by
    have := HFT (exT 6) (exX 6) (some ⟨A, 0, none⟩) 2 W (exT_in 6 (Or.inl rfl) h) (exX_small 6) (by simp [exX])
    rw [exT_yes] at this
    exact this
  have H2 : Hid (∀ (W : World) (A : Nat), W.heap[A]? = some (.cells #[.int .i64 1, .int .u16 0, .int .u32 0, .int .u32 4, .string ⟨#[97, 98]⟩, .slice none 0 0, .int .u32 0, .int .i64 1, .int .u16 0, .int .u32 0, .int .u32 7, .string ⟨#[99]⟩, .slice none 0 0, .int .u32 0] 69 (0, 0)) → Calls Try.prog 10 #[.agg #[.int .u16 0, .int .u32 1, .int .u64 1, .int .i64 0, .slice (some ⟨A, 0, none⟩) 2 2]] W fun e w' => e = .returned (.int .i64 11) ∧ Below W.heap.size W w') := fun W A h => by
    have := HFT (exT 7) (exX 7) (some ⟨A, 0, none⟩) 2 W (exT_in 7 (Or.inr rfl) h) (exX_small 7) (by simp [exX])
    rw [exT_no] at this
    exact this
  have HB : Hid (Below w.heap.size w ((((w.alloc (.cells #[.int .i64 1, .int .u16 0, .int .u32 0, .int .u32 4, .string ⟨#[97, 98]⟩, .slice none 0 0, .int .u32 0, .int .i64 1, .int .u16 0, .int .u32 0, .int .u32 6, .string ⟨#[99]⟩, .slice none 0 0, .int .u32 0] 69)).alloc (.cells #[.int .u16 0, .int .u32 1, .int .u64 1, .int .i64 0, .slice (some ⟨w.heap.size, 0, none⟩) 2 2] 27)).alloc (.cells #[.int .i64 1, .int .u16 0, .int .u32 0, .int .u32 4, .string ⟨#[97, 98]⟩, .slice none 0 0, .int .u32 0, .int .i64 1, .int .u16 0, .int .u32 0, .int .u32 7, .string ⟨#[99]⟩, .slice none 0 0, .int .u32 0] 69)).alloc (.cells #[.int .u16 0, .int .u32 1, .int .u64 1, .int .i64 0, .slice (some ⟨w.heap.size + 2, 0, none⟩) 2 2] 27))) := below_alloc (below_alloc (below_alloc (below_alloc (Below.refl w.heap.size w) _) _) _) _
  have HP0 : Hid (((((w.alloc (.cells #[.int .i64 1, .int .u16 0, .int .u32 0, .int .u32 4, .string ⟨#[97, 98]⟩, .slice none 0 0, .int .u32 0, .int .i64 1, .int .u16 0, .int .u32 0, .int .u32 6, .string ⟨#[99]⟩, .slice none 0 0, .int .u32 0] 69)).alloc (.cells #[.int .u16 0, .int .u32 1, .int .u64 1, .int .i64 0, .slice (some ⟨w.heap.size, 0, none⟩) 2 2] 27)).alloc (.cells #[.int .i64 1, .int .u16 0, .int .u32 0, .int .u32 4, .string ⟨#[97, 98]⟩, .slice none 0 0, .int .u32 0, .int .i64 1, .int .u16 0, .int .u32 0, .int .u32 7, .string ⟨#[99]⟩, .slice none 0 0, .int .u32 0] 69)).alloc (.cells #[.int .u16 0, .int .u32 1, .int .u64 1, .int .i64 0, .slice (some ⟨w.heap.size + 2, 0, none⟩) 2 2] 27)).heap[w.heap.size]? = some (.cells #[.int .i64 1, .int .u16 0, .int .u32 0, .int .u32 4, .string ⟨#[97, 98]⟩, .slice none 0 0, .int .u32 0, .int .i64 1, .int .u16 0, .int .u32 0, .int .u32 6, .string ⟨#[99]⟩, .slice none 0 0, .int .u32 0] 69 (0, 0))) := kept_box (kept_box (kept_box (heap_alloc_new w _) (below_alloc (Below.refl _ _) _)) (below_alloc (Below.refl _ _) _)) (below_alloc (Below.refl _ _) _)
  have HP2 : Hid (((((w.alloc (.cells #[.int .i64 1, .int .u16 0, .int .u32 0, .int .u32 4, .string ⟨#[97, 98]⟩, .slice none 0 0, .int .u32 0, .int .i64 1, .int .u16 0, .int .u32 0, .int .u32 6, .string ⟨#[99]⟩, .slice none 0 0, .int .u32 0] 69)).alloc (.cells #[.int .u16 0, .int .u32 1, .int .u64 1, .int .i64 0, .slice (some ⟨w.heap.size, 0, none⟩) 2 2] 27)).alloc (.cells #[.int .i64 1, .int .u16 0, .int .u32 0, .int .u32 4, .string ⟨#[97, 98]⟩, .slice none 0 0, .int .u32 0, .int .i64 1, .int .u16 0, .int .u32 0, .int .u32 7, .string ⟨#[99]⟩, .slice none 0 0, .int .u32 0] 69)).alloc (.cells #[.int .u16 0, .int .u32 1, .int .u64 1, .int .i64 0, .slice (some ⟨w.heap.size + 2, 0, none⟩) 2 2] 27)).heap[w.heap.size + 2]? = some (.cells #[.int .i64 1, .int .u16 0, .int .u32 0, .int .u32 4, .string ⟨#[97, 98]⟩, .slice none 0 0, .int .u32 0, .int .i64 1, .int .u16 0, .int .u32 0, .int .u32 7, .string ⟨#[99]⟩, .slice none 0 0, .int .u32 0] 69 (0, 0))) := kept_box (three_blocks8 w _ _ _).2 (below_alloc (Below.refl _ _) _)
  have HP3 : Hid (((((w.alloc (.cells #[.int .i64 1, .int .u16 0, .int .u32 0, .int .u32 4, .string ⟨#[97, 98]⟩, .slice none 0 0, .int .u32 0, .int .i64 1, .int .u16 0, .int .u32 0, .int .u32 6, .string ⟨#[99]⟩, .slice none 0 0, .int .u32 0] 69)).alloc (.cells #[.int .u16 0, .int .u32 1, .int .u64 1, .int .i64 0, .slice (some ⟨w.heap.size, 0, none⟩) 2 2] 27)).alloc (.cells #[.int .i64 1, .int .u16 0, .int .u32 0, .int .u32 4, .string ⟨#[97, 98]⟩, .slice none 0 0, .int .u32 0, .int .i64 1, .int .u16 0, .int .u32 0, .int .u32 7, .string ⟨#[99]⟩, .slice none 0 0, .int .u32 0] 69)).alloc (.cells #[.int .u16 0, .int .u32 1, .int .u64 1, .int .i64 0, .slice (some ⟨w.heap.size + 2, 0, none⟩) 2 2] 27)).heap[w.heap.size + 3]? = some (.cells #[.int .u16 0, .int .u32 1, .int .u64 1, .int .i64 0, .slice (some ⟨w.heap.size + 2, 0, none⟩) 2 2] 27 (0, 0))) := by
    have hs : (((w.alloc (.cells #[.int .i64 1, .int .u16 0, .int .u32 0, .int .u32 4, .string ⟨#[97, 98]⟩, .slice none 0 0, .int .u32 0, .int .i64 1, .int .u16 0, .int .u32 0, .int .u32 6, .string ⟨#[99]⟩, .slice none 0 0, .int .u32 0] 69)).alloc (.cells #[.int .u16 0, .int .u32 1, .int .u64 1, .int .i64 0, .slice (some ⟨w.heap.size, 0, none⟩) 2 2] 27)).alloc (.cells #[.int .i64 1, .int .u16 0, .int .u32 0, .int .u32 4, .string ⟨#[97, 98]⟩, .slice none 0 0, .int .u32 0, .int .i64 1, .int .u16 0, .int .u32 0, .int .u32 7, .string ⟨#[99]⟩, .slice none 0 0, .int .u32 0] 69)).heap.size = w.heap.size + 3 := by simp
    rw [← hs]
    exact heap_alloc_new _ _
  go_enter Try.func6, Try.ntmps6
  go_wp2_with fail
  refine (H1.out _ _ HP0.out).mono ?_
  rintro e w5 ⟨rfl, hb5⟩
  have HB5 := Lib.hid (below_step HB.out hb5)
  have HP25 := Lib.hid (kept_box HP2.out hb5)
  obtain ⟨d0, d1, d2, d3, d4⟩ := five_cells (kept_box HP3.out hb5)
  clear hb5 HB HP0 HP2 HP3 H1
  go_wp2_with fail
  refine (H2.out _ _ HP25.out).mono ?_
  rintro e w6 ⟨rfl, hb6⟩
  have HB6 := Lib.hid (below_step HB5.out hb6)
  clear hb6
  go_wp2
  go_ret
  exact ⟨rfl, HB6.out⟩
end Go.Proofs.Ytedlmngfkkpmgaa
