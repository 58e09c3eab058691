
/-
  The law's own few and anchor of layer 5, and how its things lie in memory. No conditions beyond what each theorem states.
-/
import Derived.Test.YtnoppejmcckgjaaPackRefText
namespace Go.Proofs.Ytnoppejmcckgjaa
open Go.ChangeShapes Go.WideShapes Go.ChangeAt Go.RowKit Go.Lib
set_option linter.unusedVariables false
set_option linter.unusedSimpArgs false

/-- A thing: its kind, its number, its text, its limit. -/
abbrev Th := Int × Nat × List UInt8 × Int
def atO (xs : List Th) (i : Nat) : Th := xs.getD i (0, 0, [], 0)
/-- Things that lie behind an address, four cells each. -/
def ORow (w : World) (p : Option Addr) (xs : List Th) : Prop :=
  ∀ i, i < xs.length → ∃ b o, p = some ⟨b, o, none⟩ ∧ w.cell? ⟨b, o + i * 4, none⟩ = some (.int .i64 (atO xs i).1) ∧ w.cell? ⟨b, o + i * 4 + 1, none⟩ = some (.int .u64 ((atO xs i).2.1 : Int)) ∧ w.cell? ⟨b, o + i * 4 + 2, none⟩ = some (.string ⟨(atO xs i).2.2.1.toArray⟩) ∧ w.cell? ⟨b, o + i * 4 + 3, none⟩ = some (.int .i64 (atO xs i).2.2.2)
theorem ORow.below {w w' : World} {p : Option Addr} {xs : List Th} (h : ORow w p xs) (hb : Below w.heap.size w w') : ORow w' p xs := fun i hi => by
  obtain ⟨b, o, e, h1, h2, h3, h4⟩ := h i hi
  exact ⟨b, o, e, by rw [hb.cell (block_lt_of_cell h1)]; exact h1, by rw [hb.cell (block_lt_of_cell h2)]; exact h2, by rw [hb.cell (block_lt_of_cell h3)]; exact h3, by rw [hb.cell (block_lt_of_cell h4)]; exact h4⟩
/-- All things may be: numbers of 64 bits, limits that are ints. -/
def OFit (xs : List Th) : Prop := ∀ i, i < xs.length → -9223372036854775808 ≤ (atO xs i).1 ∧ (atO xs i).1 < 9223372036854775808 ∧ (atO xs i).2.1 < 18446744073709551616 ∧ -9223372036854775808 ≤ (atO xs i).2.2.2 ∧ (atO xs i).2.2.2 < 9223372036854775808
/-- The box of a thing, which stays. -/
def OBox (K : Nat) (x : Th) (w : World) : Prop := w.heap[K]? = some (.cells #[.int .i64 x.1, .int .u64 (x.2.1 : Int), .string ⟨x.2.2.1.toArray⟩, .int .i64 x.2.2.2] 30 (0, 0))
theorem OBox.c0 {K : Nat} {x : Th} {w : World} (h : OBox K x w) : w.cell? ⟨K, 0, none⟩ = some (.int .i64 x.1) := by rw [cell_of_block h]; rfl
theorem OBox.c1 {K : Nat} {x : Th} {w : World} (h : OBox K x w) : w.cell? ⟨K, 1, none⟩ = some (.int .u64 (x.2.1 : Int)) := by rw [cell_of_block h]; rfl
theorem OBox.c2 {K : Nat} {x : Th} {w : World} (h : OBox K x w) : w.cell? ⟨K, 2, none⟩ = some (.string ⟨x.2.2.1.toArray⟩) := by rw [cell_of_block h]; rfl
theorem OBox.c3 {K : Nat} {x : Th} {w : World} (h : OBox K x w) : w.cell? ⟨K, 3, none⟩ = some (.int .i64 x.2.2.2) := by rw [cell_of_block h]; rfl
theorem OBox.lt {K : Nat} {x : Th} {w : World} (h : OBox K x w) : K < w.heap.size := lt_of_block h
theorem OBox.new (w : World) (x : Th) : OBox w.heap.size x (w.alloc (.cells #[.int .i64 x.1, .int .u64 (x.2.1 : Int), .string ⟨x.2.2.1.toArray⟩, .int .i64 x.2.2.2] 30)) := heap_alloc_new w _

/-- Things are few, and texts short. -/
def fewB (xs : List Th) : Bool := xs.all (fun x => decide (x.2.2.1.length ≤ 300)) && decide (xs.length ≤ 60)
theorem fewB_at {xs : List Th} (h : fewB xs = true) : xs.length ≤ 60 ∧ ∀ i, i < xs.length → (atO xs i).2.2.1.length ≤ 300 := by
  simp only [fewB, Bool.and_eq_true, List.all_eq_true, decide_eq_true_eq] at h
  exact ⟨h.2, fun i hi => h.1 _ (by simp [atO, hi])⟩
theorem fewB_no {xs : List Th} {i : Nat} (hi : i < xs.length) (h : ¬ (atO xs i).2.2.1.length ≤ 300) : fewB xs = false := by
  by_cases hf : fewB xs = true
  · exact absurd ((fewB_at hf).2 i hi) h
  · simpa using hf
theorem fewB_all {xs : List Th} (h : ∀ i, i < xs.length → (atO xs i).2.2.1.length ≤ 300) : fewB xs = decide (xs.length ≤ 60) := by
  have : xs.all (fun x => decide (x.2.2.1.length ≤ 300)) = true := by
    rw [List.all_eq_true]
    intro x hx
    obtain ⟨i, hi, e⟩ := List.getElem_of_mem hx
    have := h i hi
    simp [atO, hi, e] at this
    simpa using this
  rw [fewB, this, Bool.true_and]

set_option maxHeartbeats 1600000 in
theorem few_any (xs : List Th) (p : Option Addr) (c : Nat) (w : World) (hR : ORow w p xs) (hl : xs.length ≤ 9223372036854775807) (hF : ∀ i, i < xs.length → (atO xs i).2.2.1.length ≤ 9223372036854775807) :
    Calls Try.prog 7 #[.slice p xs.length c] w fun e w' => e = .returned (.bool (fewB xs)) ∧ Below w.heap.size w w' := by
  have HR := Lib.hid hR
  have HF := Lib.hid hF
  clear hR hF
  go_enter Try.func7, Try.ntmps7
  go_wp2
  go_loopg [7] xs.length (fun g i wr => ∃ k : Nat, k ≤ xs.length ∧ xs.length - k ≤ g ∧ i = .int .i64 (k : Int) ∧ Below w.heap.size w wr ∧ ∀ j, j < k → (atO xs j).2.2.1.length ≤ 300)
  case atStart => exact ⟨0, Nat.zero_le _, by omega, rfl, Below.refl _ _, fun j hj => by omega⟩
  case round =>
    obtain ⟨k, hk, hg, rfl, hb, hno⟩ := hrel
    have HN := Lib.hid hno
    have HB := Lib.hid hb
    clear hno
    by_cases hlt : k < xs.length
    · obtain ⟨b, o, rfl, c0, c1, c2, c3⟩ := HR.out.below hb k hlt
      have hsz := HF.out k hlt
      have HX : Hid (∀ s, (atO xs k).2.2.1 = s → (¬ s.length ≤ 300 → fewB xs = false) ∧ (s.length ≤ 300 → ∀ j, j < k + 1 → (atO xs j).2.2.1.length ≤ 300)) := fun s e => ⟨fun h => fewB_no hlt (by rw [e]; exact h), fun h j hj => by
        by_cases e2 : j = k
        · subst e2; rw [e]; exact h
        · exact HN.out j (by omega)⟩
      clear hb HN
      generalize (atO xs k).1 = kind at c0
      generalize (atO xs k).2.1 = N at c1
      generalize hS : (atO xs k).2.2.1 = S at c2 hsz
      generalize (atO xs k).2.2.2 = L at c3
      have HY := Lib.hid (HX.out S hS)
      clear HX hS
      by_cases h3 : S.length ≤ 300
      · have h3' : ¬ (300 : Int) < (S.length : Int) := by omega
        go_wp2
        go_roundg (xs.length - (k + 1))
        case measure => omega
        case rel => exact ⟨k + 1, by omega, Nat.le_refl _, by go_num, below_alloc HB.out _, HY.out.2 h3⟩
      · have h3' : (300 : Int) < (S.length : Int) := by omega
        have HFF := Lib.hid (HY.out.1 h3)
        go_wp2
        go_ret
        exact ⟨by rw [HFF.out]; rfl, below_alloc HB.out _⟩
    · have : k = xs.length := by omega
      subst this
      have HFF := Lib.hid (fewB_all HN.out)
      clear hb HN
      by_cases h60 : xs.length ≤ 60
      · have h60' : (xs.length : Int) ≤ 60 := by omega
        go_wp2
        go_ret
        exact ⟨by rw [HFF.out, decide_eq_true h60]; rfl, HB.out⟩
      · have h60' : ¬ (xs.length : Int) ≤ 60 := by omega
        go_wp2
        go_ret
        exact ⟨by rw [HFF.out, decide_eq_false h60]; rfl, HB.out⟩

theorem Wr.new (w : World) : Wr w.heap.size w.heap.size (.slice none 0 0) [] (w.alloc (.cells #[.slice none 0 0] 27)) :=
  ⟨Nat.le_refl _, by simp, heap_alloc_new w _, World.ownsRow_nil _ _ _ _⟩
theorem enc300 : encN 300 = [172, 2] := by rw [encN_big (by omega), encN_small (by omega)]; rfl
theorem read300 : rdN [172, 2] 0 0 300 = (300, 2, 0) := by decide

set_option maxHeartbeats 1600000 in
theorem anchor_any (w : World) : Calls Try.prog 6 #[] w fun e w' => e = .returned (.bool true) ∧ Below w.heap.size w w' := by
  have HN := Lib.hid (wnum_any w.heap.size w.heap.size (.slice none 0 0) [] 300 (by omega) _ (Wr.new w) (by simp))
  go_enter Try.func6, Try.ntmps6
  go_wp2_with fail
  refine HN.out.mono ?_
  rintro e w1 ⟨rfl, v1, k1, k2, k3⟩
  rw [show encN (300 % 9223372036854775808) = [172, 2] from enc300, List.nil_append] at k1
  have HB1 : Hid (Below w.heap.size w w1) := (below_alloc (Below.refl _ _) _).trans ((Wr.new w).bound k3)
  have K1 := Lib.hid k1
  clear k1 k2 k3 HN
  go_wp2_with fail
  refine (wbytes_any _ _ _ _ w1 K1.out (by simp)).mono ?_
  rintro e w2 ⟨rfl, hrow, hb⟩
  have hr := brow_block hrow
  have HF := Lib.hid (from_any [172, 2] _ 2 w2 hr (by simp))
  have c0 : w2.cell? ⟨w1.heap.size, 0, none⟩ = some (.int .u8 172) := by obtain ⟨b, o, e, h⟩ := hr 0 (by simp); cases e; simpa [atB] using h
  have c1 : w2.cell? ⟨w1.heap.size, 1, none⟩ = some (.int .u8 2) := by obtain ⟨b, o, e, h⟩ := hr 1 (by simp); cases e; simpa [atB] using h
  have HB2 : Hid (Below w.heap.size w w2) := below_step HB1.out hb
  clear hrow hb hr
  go_wp2_with fail
  refine HF.out.mono ?_
  rintro e w3 ⟨K, rfl, hK, hR3, hb⟩
  have d0 := c0
  have d1 := c1
  rw [← hb.cell (block_lt_of_cell c0)] at d0
  rw [← hb.cell (block_lt_of_cell c1)] at d1
  have HR3 := Lib.hid hR3
  have HB3 : Hid (Below w.heap.size w w3) := below_step HB2.out hb
  have HW : Hid (w.heap.size ≤ w2.heap.size ∧ w2.heap.size < K) := ⟨HB2.out.size, hK⟩
  clear hR3 hb HF c0 c1 hK
  go_wp2_with fail
  refine (rnum_any 300 (by omega) w3 HR3.out).mono ?_
  rw [read300]
  rintro e w4 ⟨rfl, hR4, hO⟩
  have HR4 := Lib.hid hR4
  have HB4 : Hid (Below w.heap.size w w4) := HB3.out.trans (hO.below HB3.out.size (by intro k e; have := HW.out; omega))
  clear hR4 hO
  go_wp2_with fail
  refine (done_any w4 HR4.out).mono ?_
  rintro e w5 ⟨rfl, hb⟩
  have HB5 : Hid (Below w.heap.size w w5) := below_step HB4.out hb
  clear hb
  go_wp2
  go_ret
  exact ⟨rfl, HB5.out⟩

end Go.Proofs.Ytnoppejmcckgjaa
