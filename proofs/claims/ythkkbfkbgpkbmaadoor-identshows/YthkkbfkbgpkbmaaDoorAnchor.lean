/-
  What the document's examples of layer 1 come to in this program: the anchor returns true. No conditions.
-/
import Derived.Test.YthkkbfkbgpkbmaaDoorFormat
namespace Go.Proofs.YthkkbfkbgpkbmaaDoor
open Go.ChangeShapes Go.WideShapes Go.ChangeAt Go.RowKit Go.Sort
set_option linter.unusedVariables false
set_option linter.unusedSimpArgs false

def cmp3 (a b : Int) : Int := if a < b then -1 else if b < a then 1 else 0
def idc (r n s m : Int) : Int := if cmp3 r s = 0 then cmp3 n m else cmp3 r s
theorem cmp3_lt {a b : Int} (h : a < b) : cmp3 a b = -1 := by simp [cmp3, h]
theorem cmp3_gt {a b : Int} (h : b < a) : cmp3 a b = 1 := by unfold cmp3; rw [if_neg (by omega), if_pos h]
theorem cmp3_eq {a b : Int} (h1 : ¬ a < b) (h2 : ¬ b < a) : cmp3 a b = 0 := by simp [cmp3, h1, h2]

set_option maxHeartbeats 400000 in
theorem compare16 (a b : Int) (w : World) :
    Calls Tryd.prog 16 #[.int .u16 a, .int .u16 b] w fun e w' => e = .returned (.int .i64 (cmp3 a b)) ∧ w' = w := by
  by_cases h1 : a < b
  · rw [cmp3_lt h1]
    go_enter Tryd.func16, Tryd.ntmps16
    go_wp2
    go_ret
    exact ⟨rfl, rfl⟩
  · by_cases h2 : b < a
    · rw [cmp3_gt h2]
      go_enter Tryd.func16, Tryd.ntmps16
      go_wp2
      go_ret
      exact ⟨rfl, rfl⟩
    · rw [cmp3_eq h1 h2]
      go_enter Tryd.func16, Tryd.ntmps16
      go_wp2
      go_ret
      exact ⟨rfl, rfl⟩

set_option maxHeartbeats 400000 in
theorem compare32 (a b : Int) (w : World) :
    Calls Tryd.prog 17 #[.int .u32 a, .int .u32 b] w fun e w' => e = .returned (.int .i64 (cmp3 a b)) ∧ w' = w := by
  by_cases h1 : a < b
  · rw [cmp3_lt h1]
    go_enter Tryd.func17, Tryd.ntmps17
    go_wp2
    go_ret
    exact ⟨rfl, rfl⟩
  · by_cases h2 : b < a
    · rw [cmp3_gt h2]
      go_enter Tryd.func17, Tryd.ntmps17
      go_wp2
      go_ret
      exact ⟨rfl, rfl⟩
    · rw [cmp3_eq h1 h2]
      go_enter Tryd.func17, Tryd.ntmps17
      go_wp2
      go_ret
      exact ⟨rfl, rfl⟩

set_option maxHeartbeats 400000 in
theorem idcmp_any (r n s m : Int) (w : World) :
    Calls Tryd.prog 10 #[.agg #[.int .u16 r, .int .u32 n], .agg #[.int .u16 s, .int .u32 m]] w fun e w' => e = .returned (.int .i64 (idc r n s m)) ∧ Below w.heap.size w w' := by
  unfold idc
  by_cases h : cmp3 r s = 0
  · rw [if_pos h]
    go_enter Tryd.func10, Tryd.ntmps10
    go_wp2_with (first | (go_at_call 16; refine (compare16 _ _ _).mono ?_; rintro e w' ⟨rfl, rfl⟩) | (go_at_call 17; refine (compare32 _ _ _).mono ?_; rintro e w' ⟨rfl, rfl⟩))
    go_ret
    exact ⟨rfl, ((Below.refl _ _).alloc (Nat.le_refl _) _).alloc (by simp) _⟩
  · rw [if_neg h]
    go_enter Tryd.func10, Tryd.ntmps10
    go_wp2_with (first | (go_at_call 16; refine (compare16 _ _ _).mono ?_; rintro e w' ⟨rfl, rfl⟩) | (go_at_call 17; refine (compare32 _ _ _).mono ?_; rintro e w' ⟨rfl, rfl⟩))
    go_ret
    exact ⟨rfl, ((Below.refl _ _).alloc (Nat.le_refl _) _).alloc (by simp) _⟩

/-- Take: the error's number, and what is next then. -/
def takeE (next count : Int) : Int := if count < 0 ∨ next = 0 then 10 else if next + count > 268435457 then 20 else 0
def takeN (next count : Int) : Int := if count < 0 ∨ next = 0 then 0 else if next + count > 268435457 then 0 else next + count

set_option maxHeartbeats 400000 in
theorem take_any (next count : Int) (w : World) (h1 : 0 ≤ next) (h2 : next ≤ 4294967295) (h3 : count ≤ 9223372036854775807) (h4 : -9223372036854775808 ≤ count) :
    Calls Tryd.prog 9 #[.int .u32 next, .int .i64 count] w fun e w' => e = .returned (.tuple #[.int .u32 (takeN next count), .int .i64 (takeE next count)]) ∧ w' = w := by
  unfold takeN takeE
  by_cases c1 : count < 0
  · rw [if_pos (Or.inl c1), if_pos (Or.inl c1)]
    go_enter Tryd.func9, Tryd.ntmps9
    go_wp2
    go_ret2
    exact ⟨rfl, rfl⟩
  · by_cases c2 : next = 0
    · rw [if_pos (Or.inr c2), if_pos (Or.inr c2)]
      subst c2
      go_enter Tryd.func9, Tryd.ntmps9
      go_wp2
      go_ret2
      exact ⟨rfl, rfl⟩
    · have hn : ¬ (count < 0 ∨ next = 0) := by omega
      rw [if_neg hn, if_neg hn]
      clear hn
      have c2' : (next == 0) = false := by simp [c2]
      by_cases c3 : next + count > 268435457
      · rw [if_pos c3, if_pos c3]
        go_enter Tryd.func9, Tryd.ntmps9
        go_wp2
        go_ret2
        exact ⟨rfl, rfl⟩
      · rw [if_neg c3, if_neg c3]
        go_enter Tryd.func9, Tryd.ntmps9
        go_wp2
        go_ret2
        exact ⟨rfl, rfl⟩

set_option maxHeartbeats 400000 in
theorem anchor_any (w : World) : Calls Tryd.prog 4 #[] w fun e w' => e = .returned (.bool true) ∧ Below w.heap.size w w' := by
  have ht := fun W => take_any 5 3 W (by omega) (by omega) (by omega) (by omega)
  have e1 : takeN 5 3 = 8 := by decide
  have e2 : takeE 5 3 = 0 := by decide
  have e3 : idc 1 7 2 3 = -1 := by decide
  rw [e1, e2] at ht
  have HT : Hid (∀ W, Calls Tryd.prog 9 #[.int .u32 5, .int .i64 3] W fun e w' => e = .returned (.tuple #[.int .u32 8, .int .i64 0]) ∧ w' = W) := ht
  clear ht e1 e2
  go_enter Tryd.func4, Tryd.ntmps4
  go_wp2_with (first | (go_at_call 9; refine (HT.out _).mono ?_; rintro e w' ⟨rfl, rfl⟩) | (go_at_call 10; refine (idcmp_any _ _ _ _ _).mono ?_; rintro e w' ⟨rfl, hb⟩))
  go_ret
  exact ⟨rfl, hb⟩

end Go.Proofs.YthkkbfkbgpkbmaaDoor
