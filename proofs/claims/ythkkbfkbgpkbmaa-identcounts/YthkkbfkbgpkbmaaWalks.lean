/-
  What each function that the laws of layer 1 call hands back, for every argument of its types, in whatever memory: cmp.Compare at three unsigned kinds, the compare, plus, right and root calls of IDs and keys, and the document's own order. No conditions but that each number fits its kind, where that is said.
-/
import Derived.Test.YthkkbfkbgpkbmaaRows
import Derived.WalkKit
import Derived.ProofKit
import Derived.OpenShut
import Derived.Below
import Derived.BigQuiet
import Derived.Lib.QuietBelow
namespace Go.Proofs.Ythkkbfkbgpkbmaa
open Go.ChangeShapes Go.WideShapes Go.ChangeAt Go.RowKit Go.Sort
set_option linter.unusedVariables false
set_option linter.unusedSimpArgs false

/-- Which of two numbers is the lesser one. -/
def cmp3 (a b : Int) : Int := if a < b then -1 else if b < a then 1 else 0
def idc (r n s m : Int) : Int := if cmp3 r s = 0 then cmp3 n m else cmp3 r s
def kec (c r n d s m : Int) : Int := if cmp3 c d = 0 then idc r n s m else cmp3 c d
def lessB (r n s m : Int) : Bool := decide (r < s ∨ (r = s ∧ n < m))
def klessB (c r n d s m : Int) : Bool := decide (c < d ∨ (c = d ∧ (r < s ∨ (r = s ∧ n < m))))
def rightB (n : Int) : Bool := decide (1 ≤ n ∧ n ≤ 268435456)
def rootB (r n : Int) : Bool := decide (r = 0 ∧ n = 0)
def signI (a b : Bool) : Int := if a = true then -1 else if b = true then 1 else 0

theorem ret_int {k : IntKind} {a b : Int} (h : a = b) : Ending.returned (.int k a) = .returned (.int k b) := by rw [h]
theorem ret_bool {a b : Bool} (h : a = b) : Ending.returned (.bool a) = .returned (.bool b) := by rw [h]

theorem cmp3_lt {a b : Int} (h : a < b) : cmp3 a b = -1 := by simp [cmp3, h]
theorem cmp3_gt {a b : Int} (h : b < a) : cmp3 a b = 1 := by unfold cmp3; rw [if_neg (by omega), if_pos h]
theorem cmp3_eq {a b : Int} (h1 : ¬ a < b) (h2 : ¬ b < a) : cmp3 a b = 0 := by simp [cmp3, h1, h2]

set_option maxHeartbeats 400000 in
theorem compare64 (a b : Int) (w : World) :
    Calls Try.prog 20 #[.int .u64 a, .int .u64 b] w fun e w' => e = .returned (.int .i64 (cmp3 a b)) ∧ w' = w := by
  by_cases h1 : a < b
  · rw [cmp3_lt h1]
    go_enter Try.func20, Try.ntmps20
    go_wp2
    go_ret
    exact ⟨rfl, rfl⟩
  · by_cases h2 : b < a
    · rw [cmp3_gt h2]
      go_enter Try.func20, Try.ntmps20
      go_wp2
      go_ret
      exact ⟨rfl, rfl⟩
    · rw [cmp3_eq h1 h2]
      go_enter Try.func20, Try.ntmps20
      go_wp2
      go_ret
      exact ⟨rfl, rfl⟩

set_option maxHeartbeats 400000 in
theorem compare16 (a b : Int) (w : World) :
    Calls Try.prog 21 #[.int .u16 a, .int .u16 b] w fun e w' => e = .returned (.int .i64 (cmp3 a b)) ∧ w' = w := by
  by_cases h1 : a < b
  · rw [cmp3_lt h1]
    go_enter Try.func21, Try.ntmps21
    go_wp2
    go_ret
    exact ⟨rfl, rfl⟩
  · by_cases h2 : b < a
    · rw [cmp3_gt h2]
      go_enter Try.func21, Try.ntmps21
      go_wp2
      go_ret
      exact ⟨rfl, rfl⟩
    · rw [cmp3_eq h1 h2]
      go_enter Try.func21, Try.ntmps21
      go_wp2
      go_ret
      exact ⟨rfl, rfl⟩

set_option maxHeartbeats 400000 in
theorem compare32 (a b : Int) (w : World) :
    Calls Try.prog 22 #[.int .u32 a, .int .u32 b] w fun e w' => e = .returned (.int .i64 (cmp3 a b)) ∧ w' = w := by
  by_cases h1 : a < b
  · rw [cmp3_lt h1]
    go_enter Try.func22, Try.ntmps22
    go_wp2
    go_ret
    exact ⟨rfl, rfl⟩
  · by_cases h2 : b < a
    · rw [cmp3_gt h2]
      go_enter Try.func22, Try.ntmps22
      go_wp2
      go_ret
      exact ⟨rfl, rfl⟩
    · rw [cmp3_eq h1 h2]
      go_enter Try.func22, Try.ntmps22
      go_wp2
      go_ret
      exact ⟨rfl, rfl⟩

set_option maxHeartbeats 400000 in
theorem right_any (r n : Int) (w : World) :
    Calls Try.prog 18 #[.agg #[.int .u16 r, .int .u32 n]] w fun e w' => e = .returned (.bool (rightB n)) ∧ Below w.heap.size w w' := by
  by_cases h1 : 1 ≤ n
  · by_cases h2 : n ≤ 268435456
    · have e : rightB n = true := by simp [rightB, h1, h2]
      rw [e]
      clear e
      go_enter Try.func18, Try.ntmps18
      go_wp2
      go_ret
      exact ⟨ret_bool (by simp [h2]), (Below.refl _ _).alloc (Nat.le_refl _) _⟩
    · have e : rightB n = false := by simp [rightB, h1, h2]
      rw [e]
      clear e
      go_enter Try.func18, Try.ntmps18
      go_wp2
      go_ret
      exact ⟨ret_bool (by simp [h2]), (Below.refl _ _).alloc (Nat.le_refl _) _⟩
  · have e : rightB n = false := by simp [rightB, h1]
    rw [e]
    clear e
    go_enter Try.func18, Try.ntmps18
    go_wp2
    go_ret
    exact ⟨rfl, (Below.refl _ _).alloc (Nat.le_refl _) _⟩

set_option maxHeartbeats 400000 in
theorem root_any (r n : Int) (w : World) :
    Calls Try.prog 19 #[.agg #[.int .u16 r, .int .u32 n]] w fun e w' => e = .returned (.bool (rootB r n)) ∧ Below w.heap.size w w' := by
  go_enter Try.func19, Try.ntmps19
  go_wp2
  all_goals
    go_ret
    exact ⟨ret_bool (by simp_all [rootB]), (Below.refl _ _).alloc (Nat.le_refl _) _⟩

set_option maxHeartbeats 400000 in
theorem idcmp_any (r n s m : Int) (w : World) :
    Calls Try.prog 11 #[.agg #[.int .u16 r, .int .u32 n], .agg #[.int .u16 s, .int .u32 m]] w fun e w' => e = .returned (.int .i64 (idc r n s m)) ∧ Below w.heap.size w w' := by
  unfold idc
  by_cases h : cmp3 r s = 0
  · rw [if_pos h]
    go_enter Try.func11, Try.ntmps11
    go_wp2_with (first | (go_at_call 21; refine (compare16 _ _ _).mono ?_; rintro e w' ⟨rfl, rfl⟩) | (go_at_call 22; refine (compare32 _ _ _).mono ?_; rintro e w' ⟨rfl, rfl⟩))
    go_ret
    exact ⟨rfl, ((Below.refl _ _).alloc (Nat.le_refl _) _).alloc (by simp) _⟩
  · rw [if_neg h]
    go_enter Try.func11, Try.ntmps11
    go_wp2_with (first | (go_at_call 21; refine (compare16 _ _ _).mono ?_; rintro e w' ⟨rfl, rfl⟩) | (go_at_call 22; refine (compare32 _ _ _).mono ?_; rintro e w' ⟨rfl, rfl⟩))
    go_ret
    exact ⟨rfl, ((Below.refl _ _).alloc (Nat.le_refl _) _).alloc (by simp) _⟩

set_option maxHeartbeats 400000 in
theorem sign_any (a b : Bool) (w : World) :
    Calls Try.prog 9 #[.bool a, .bool b] w fun e w' => e = .returned (.int .i64 (signI a b)) ∧ w' = w := by
  cases a <;> cases b <;>
  · go_enter Try.func9, Try.ntmps9
    go_wp2
    go_ret
    exact ⟨rfl, rfl⟩

set_option maxHeartbeats 400000 in
theorem keyid_any (c r n : Int) (w : World) :
    Calls Try.prog 7 #[.agg #[.int .u64 c, .int .u16 r, .int .u32 n]] w fun e w' => e = .returned (.agg #[.int .u16 r, .int .u32 n]) ∧ Below w.heap.size w w' := by
  go_enter Try.func7, Try.ntmps7
  go_wp2
  exact bodyPost_ret (v := .agg #[.int .u16 r, .int .u32 n]) (by simp [results, Try.results7, go_sem]) rfl ⟨rfl, ((Below.refl _ _).alloc (Nat.le_refl _) _).alloc (by simp) _⟩


set_option maxHeartbeats 400000 in
theorem keycmp_any (c r n d s m : Int) (w : World) :
    Calls Try.prog 8 #[.agg #[.int .u64 c, .int .u16 r, .int .u32 n], .agg #[.int .u64 d, .int .u16 s, .int .u32 m]] w fun e w' => e = .returned (.int .i64 (kec c r n d s m)) ∧ Below w.heap.size w w' := by
  unfold kec
  by_cases h : cmp3 c d = 0
  · rw [if_pos h]
    go_enter Try.func8, Try.ntmps8
    go_wp2_with (first | (go_at_call 20; refine (compare64 _ _ _).mono ?_; rintro e w' ⟨rfl, rfl⟩))
    have g0 := cell_regrown (w := (w.alloc (.cells #[.int .u64 c, .int .u16 r, .int .u32 n] 26)).alloc (.cells #[.int .u64 d, .int .u16 s, .int .u32 m] 26)) (a := ⟨w.heap.size, 0, none⟩) (v := .int .u64 c) (by simp)
    have g1 := cell_regrown (w := (w.alloc (.cells #[.int .u64 c, .int .u16 r, .int .u32 n] 26)).alloc (.cells #[.int .u64 d, .int .u16 s, .int .u32 m] 26)) (a := ⟨w.heap.size, 1, none⟩) (v := .int .u16 r) (by simp)
    have g2 := cell_regrown (w := (w.alloc (.cells #[.int .u64 c, .int .u16 r, .int .u32 n] 26)).alloc (.cells #[.int .u64 d, .int .u16 s, .int .u32 m] 26)) (a := ⟨w.heap.size, 2, none⟩) (v := .int .u32 n) (by simp)
    have g3 := cell_regrown (w := (w.alloc (.cells #[.int .u64 c, .int .u16 r, .int .u32 n] 26)).alloc (.cells #[.int .u64 d, .int .u16 s, .int .u32 m] 26)) (a := ⟨w.heap.size + 1, 0, none⟩) (v := .int .u64 d) (by simp)
    have g4 := cell_regrown (w := (w.alloc (.cells #[.int .u64 c, .int .u16 r, .int .u32 n] 26)).alloc (.cells #[.int .u64 d, .int .u16 s, .int .u32 m] 26)) (a := ⟨w.heap.size + 1, 1, none⟩) (v := .int .u16 s) (by simp)
    have g5 := cell_regrown (w := (w.alloc (.cells #[.int .u64 c, .int .u16 r, .int .u32 n] 26)).alloc (.cells #[.int .u64 d, .int .u16 s, .int .u32 m] 26)) (a := ⟨w.heap.size + 1, 2, none⟩) (v := .int .u32 m) (by simp)
    refine wp_region_quiet_below (by kernel_rfl) (by kernel_rfl) ?_
    repeat (quiet_step (first | (go_at_call 7; exact Calls.regrown_of (keyid_any _ _ _ _)) | (go_at_call 11; exact Calls.regrown_of (idcmp_any _ _ _ _ _))))
    refine wpQuiet_nil ?_
    intro _ hw'
    obtain ⟨⟨dq, osq⟩, hw''⟩ := hw'
    subst hw''
    go_wp2
    go_ret
    exact ⟨rfl, (((Below.refl _ _).alloc (Nat.le_refl _) _).alloc (by simp) _).trans ((below_regrown _ dq osq).mono (by simp; omega))⟩
  · rw [if_neg h]
    go_enter Try.func8, Try.ntmps8
    go_wp2_with (first | (go_at_call 20; refine (compare64 _ _ _).mono ?_; rintro e w' ⟨rfl, rfl⟩))
    go_ret
    exact ⟨rfl, ((Below.refl _ _).alloc (Nat.le_refl _) _).alloc (by simp) _⟩


/-- Take: the error's number, and what is next then. -/
def takeE (next count : Int) : Int := if count < 0 ∨ next = 0 then 10 else if next + count > 268435457 then 20 else 0
def takeN (next count : Int) : Int := if count < 0 ∨ next = 0 then 0 else if next + count > 268435457 then 0 else next + count

set_option maxHeartbeats 400000 in
theorem take_any (next count : Int) (w : World) (h1 : 0 ≤ next) (h2 : next ≤ 4294967295) (h3 : count ≤ 9223372036854775807) (h4 : -9223372036854775808 ≤ count) :
    Calls Try.prog 15 #[.int .u32 next, .int .i64 count] w fun e w' => e = .returned (.tuple #[.int .u32 (takeN next count), .int .i64 (takeE next count)]) ∧ w' = w := by
  unfold takeN takeE
  by_cases c1 : count < 0
  · rw [if_pos (Or.inl c1), if_pos (Or.inl c1)]
    go_enter Try.func15, Try.ntmps15
    go_wp2
    go_ret2
    exact ⟨rfl, rfl⟩
  · by_cases c2 : next = 0
    · rw [if_pos (Or.inr c2), if_pos (Or.inr c2)]
      subst c2
      go_enter Try.func15, Try.ntmps15
      go_wp2
      go_ret2
      exact ⟨rfl, rfl⟩
    · have hn : ¬ (count < 0 ∨ next = 0) := by omega
      rw [if_neg hn, if_neg hn]
      clear hn
      have c2' : (next == 0) = false := by simp [c2]
      by_cases c3 : next + count > 268435457
      · rw [if_pos c3, if_pos c3]
        go_enter Try.func15, Try.ntmps15
        go_wp2
        go_ret2
        exact ⟨rfl, rfl⟩
      · rw [if_neg c3, if_neg c3]
        go_enter Try.func15, Try.ntmps15
        go_wp2
        go_ret2
        exact ⟨rfl, rfl⟩

set_option maxHeartbeats 400000 in
theorem anchor_any (w : World) : Calls Try.prog 6 #[] w fun e w' => e = .returned (.bool true) ∧ Below w.heap.size w w' := by
  have ht := fun W => take_any 5 3 W (by omega) (by omega) (by omega) (by omega)
  have e1 : takeN 5 3 = 8 := by decide
  have e2 : takeE 5 3 = 0 := by decide
  have e3 : idc 1 7 2 3 = -1 := by decide
  rw [e1, e2] at ht
  have HT : Hid (∀ W, Calls Try.prog 15 #[.int .u32 5, .int .i64 3] W fun e w' => e = .returned (.tuple #[.int .u32 8, .int .i64 0]) ∧ w' = W) := ht
  clear ht e1 e2
  go_enter Try.func6, Try.ntmps6
  go_wp2_with (first | (go_at_call 15; refine (HT.out _).mono ?_; rintro e w' ⟨rfl, rfl⟩) | (go_at_call 11; refine (idcmp_any _ _ _ _ _).mono ?_; rintro e w' ⟨rfl, hb⟩))
  go_ret
  exact ⟨rfl, hb⟩


set_option maxHeartbeats 400000 in
theorem less_any (r n s m : Int) (w : World) :
    Calls Try.prog 12 #[.agg #[.int .u16 r, .int .u32 n], .agg #[.int .u16 s, .int .u32 m]] w fun e w' => e = .returned (.bool (lessB r n s m)) ∧ Below w.heap.size w w' := by
  by_cases h1 : r < s
  · have e : lessB r n s m = true := by simp [lessB, h1]
    rw [e]
    clear e
    go_enter Try.func12, Try.ntmps12
    go_wp2
    go_ret
    exact ⟨rfl, ((Below.refl _ _).alloc (Nat.le_refl _) _).alloc (by simp) _⟩
  · by_cases h2 : r = s
    · have e : lessB r n s m = decide (n < m) := by simp [lessB, h2]
      rw [e]
      clear e
      subst h2
      go_enter Try.func12, Try.ntmps12
      go_wp2
      go_ret
      exact ⟨rfl, ((Below.refl _ _).alloc (Nat.le_refl _) _).alloc (by simp) _⟩
    · have e : lessB r n s m = false := by simp [lessB, h1, h2]
      rw [e]
      clear e
      have h2' : (r == s) = false := by simp [h2]
      go_enter Try.func12, Try.ntmps12
      go_wp2
      go_ret
      exact ⟨rfl, ((Below.refl _ _).alloc (Nat.le_refl _) _).alloc (by simp) _⟩

set_option maxHeartbeats 400000 in
theorem kless_any (c r n d s m : Int) (w : World) :
    Calls Try.prog 10 #[.agg #[.int .u64 c, .int .u16 r, .int .u32 n], .agg #[.int .u64 d, .int .u16 s, .int .u32 m]] w fun e w' => e = .returned (.bool (klessB c r n d s m)) ∧ Below w.heap.size w w' := by
  by_cases h0 : c = d
  · subst h0
    have e0 : klessB c r n c s m = lessB r n s m := by simp [klessB, lessB]
    rw [e0]
    clear e0
    by_cases h1 : r < s
    · have e : lessB r n s m = true := by simp [lessB, h1]
      rw [e]
      clear e
      go_enter Try.func10, Try.ntmps10
      go_wp2
      go_ret
      exact ⟨rfl, ((Below.refl _ _).alloc (Nat.le_refl _) _).alloc (by simp) _⟩
    · by_cases h2 : r = s
      · have e : lessB r n s m = decide (n < m) := by simp [lessB, h2]
        rw [e]
        clear e
        subst h2
        go_enter Try.func10, Try.ntmps10
        go_wp2
        go_ret
        exact ⟨rfl, ((Below.refl _ _).alloc (Nat.le_refl _) _).alloc (by simp) _⟩
      · have e : lessB r n s m = false := by simp [lessB, h1, h2]
        rw [e]
        clear e
        have h2' : (r == s) = false := by simp [h2]
        go_enter Try.func10, Try.ntmps10
        go_wp2
        go_ret
        exact ⟨rfl, ((Below.refl _ _).alloc (Nat.le_refl _) _).alloc (by simp) _⟩
  · have e : klessB c r n d s m = decide (c < d) := by simp [klessB, h0]
    rw [e]
    clear e
    have h0' : (c != d) = true := by simp [h0]
    go_enter Try.func10, Try.ntmps10
    go_wp2
    go_ret
    exact ⟨rfl, ((Below.refl _ _).alloc (Nat.le_refl _) _).alloc (by simp) _⟩

end Go.Proofs.Ythkkbfkbgpkbmaa
