
/-
  What the program's makes, names, turns, Root, Take, Plain, fitText and hasMore of layer 8 hand back. No conditions beyond what each theorem states.
-/
import Derived.Test.YtedlmngfkkpmgaaOpRef3
import Derived.Test.YtedlmngfkkpmgaaOpSpec
namespace Go.Proofs.Ytedlmngfkkpmgaa
open Go.ChangeShapes Go.WideShapes Go.ChangeAt Go.RowKit Go.Lib
set_option linter.unusedVariables false
set_option linter.unusedSimpArgs false

theorem makes_yes (k : Int) (h : k = 1 ∨ k = 3) (w : World) : Calls Try.prog 53 #[.int .i64 k] w fun e w' => e = .returned (.bool true) ∧ w' = w := by
  rcases h with rfl | rfl
  all_goals
    go_enter Try.func53, Try.ntmps53
    go_wp2
    go_ret
    exact ⟨rfl, rfl⟩
theorem makes_no (k : Int) (h1 : ¬ k = 1) (h3 : ¬ k = 3) (w : World) : Calls Try.prog 53 #[.int .i64 k] w fun e w' => e = .returned (.bool false) ∧ w' = w := by
  have a1 := beq_no h1
  have a3 := beq_no h3
  go_enter Try.func53, Try.ntmps53
  go_wp2
  go_ret
  exact ⟨rfl, rfl⟩
theorem names_yes (k : Int) (h : k = 2 ∨ k = 3) (w : World) : Calls Try.prog 55 #[.int .i64 k] w fun e w' => e = .returned (.bool true) ∧ w' = w := by
  rcases h with rfl | rfl
  all_goals
    go_enter Try.func55, Try.ntmps55
    go_wp2
    go_ret
    exact ⟨rfl, rfl⟩
theorem names_no (k : Int) (h2 : ¬ k = 2) (h3 : ¬ k = 3) (w : World) : Calls Try.prog 55 #[.int .i64 k] w fun e w' => e = .returned (.bool false) ∧ w' = w := by
  have a2 := beq_no h2
  have a3 := beq_no h3
  go_enter Try.func55, Try.ntmps55
  go_wp2
  go_ret
  exact ⟨rfl, rfl⟩
theorem turns_yes (k : Int) (h1 : ¬ k = 1) (h2 : ¬ k = 2) (h3 : ¬ k = 3) (w : World) : Calls Try.prog 57 #[.int .i64 k] w fun e w' => e = .returned (.bool true) ∧ w' = w := by
  have HM := Lib.hid (makes_no k h1 h3)
  have HN := Lib.hid (names_no k h2 h3)
  clear h1 h2 h3
  go_enter Try.func57, Try.ntmps57
  go_wp2_with (first | (go_at_call 53; refine (HM.out _).mono ?_; rintro e w1 ⟨rfl, he⟩; obtain rfl := Eq.symm he) | (go_at_call 55; refine (HN.out _).mono ?_; rintro e w2 ⟨rfl, he⟩; obtain rfl := Eq.symm he))
  go_ret
  exact ⟨rfl, rfl⟩
theorem turns_no (k : Int) (h : k = 1 ∨ k = 2 ∨ k = 3) (w : World) : Calls Try.prog 57 #[.int .i64 k] w fun e w' => e = .returned (.bool false) ∧ w' = w := by
  by_cases hk : k = 1 ∨ k = 3
  · have HM := Lib.hid (makes_yes k hk)
    clear h hk
    go_enter Try.func57, Try.ntmps57
    go_wp2_with (first | (go_at_call 53; refine (HM.out _).mono ?_; rintro e w1 ⟨rfl, he⟩; obtain rfl := Eq.symm he))
    go_ret
    exact ⟨rfl, rfl⟩
  · have HM := Lib.hid (makes_no k (by omega) (by omega))
    have HN := Lib.hid (names_yes k (by omega))
    clear h hk
    go_enter Try.func57, Try.ntmps57
    go_wp2_with (first | (go_at_call 53; refine (HM.out _).mono ?_; rintro e w1 ⟨rfl, he⟩; obtain rfl := Eq.symm he) | (go_at_call 55; refine (HN.out _).mono ?_; rintro e w2 ⟨rfl, he⟩; obtain rfl := Eq.symm he))
    go_ret
    exact ⟨rfl, rfl⟩
theorem idroot_yes (w : World) : Calls Try.prog 74 #[.agg #[.int .u16 0, .int .u32 0]] w fun e w' => e = .returned (.bool true) ∧ Below w.heap.size w w' := by
  go_enter Try.func74, Try.ntmps74
  go_wp2
  go_ret
  exact ⟨rfl, below_alloc (Below.refl _ _) _⟩
theorem idroot_no (r n : Int) (h : ¬ (r = 0 ∧ n = 0)) (w : World) : Calls Try.prog 74 #[.agg #[.int .u16 r, .int .u32 n]] w fun e w' => e = .returned (.bool false) ∧ Below w.heap.size w w' := by
  by_cases hr : r = 0
  · subst hr
    have hn : (n == 0) = false := beq_no (fun e => h ⟨rfl, e⟩)
    go_enter Try.func74, Try.ntmps74
    go_wp2
    all_goals
      go_ret
      exact ⟨by simp_all, below_alloc (Below.refl _ _) _⟩
  · have hr' : (r == 0) = false := beq_no hr
    go_enter Try.func74, Try.ntmps74
    go_wp2
    all_goals
      go_ret
      exact ⟨by simp_all, below_alloc (Below.refl _ _) _⟩
/-- Take's error. -/
def tookE (num a : Int) : Int := if num = 0 then 10 else if 268435457 < num + a then 20 else 0
def tookN (num a : Int) : Int := if num = 0 then 0 else if 268435457 < num + a then 0 else num + a
theorem idtake_any (num a : Int) (h0 : 0 ≤ num) (h1 : num ≤ 4294967295) (a0 : 0 ≤ a) (a1 : a ≤ 1000000000) (w : World) : Calls Try.prog 77 #[.int .u32 num, .int .i64 a] w fun e w' => e = .returned (.tuple #[.int .u32 (tookN num a), .int .i64 (tookE num a)]) ∧ w' = w := by
  unfold tookN tookE
  have ha : ¬ a < 0 := by omega
  by_cases h : num = 0
  · subst h
    rw [if_pos rfl, if_pos rfl]
    go_enter Try.func77, Try.ntmps77
    go_wp2
    go_ret2
    exact ⟨rfl, rfl⟩
  · rw [if_neg h, if_neg h]
    have h' : (num == 0) = false := beq_no h
    by_cases g : 268435457 < num + a
    · rw [if_pos g, if_pos g]
      go_enter Try.func77, Try.ntmps77
      go_wp2
      go_ret2
      exact ⟨rfl, rfl⟩
    · rw [if_neg g, if_neg g]
      go_enter Try.func77, Try.ntmps77
      go_wp2
      go_ret2
      exact ⟨rfl, rfl⟩

set_option maxHeartbeats 1600000 in
theorem plain_at (s : ByteArray) (hs : s.size ≤ 1000000) (w : World) :
    Calls Try.prog 80 #[.string s] w fun e w' => e = .returned (.bool (plainB s.data.toList)) ∧ w' = w := by
  go_enter Try.func80, Try.ntmps80
  go_wp2
  go_loopg [6] s.size (fun g i wr => ∃ k : Nat, k ≤ s.size ∧ s.size - k ≤ g ∧ i = .int .i64 (k : Int) ∧ plainB (s.data.toList.take k) = true ∧ wr = w)
  case atStart => exact ⟨0, Nat.zero_le _, by omega, rfl, rfl, rfl⟩
  case round =>
    obtain ⟨k, hk, hg, rfl, hp, rfl⟩ := hrel
    have HP := Lib.hid hp
    clear hp
    by_cases hlt : k < s.size
    · have HNX : Hid (plainB (s.data.toList.take (k + 1)) = plain1 s[k]) := by
        show _ = _
        rw [plainB_take (s := s.data.toList) hlt, HP.out, bytes_getD s hlt]
        rfl
      have HNO : Hid (plain1 s[k] = false → plainB s.data.toList = false) := plain_walks s hlt
      have HX : Hid (plain1 s[k] = (s[k].toNat == 10 || (decide (32 ≤ s[k].toNat) && decide (s[k].toNat ≤ 126)))) := rfl
      have hb := s[k].toNat_lt
      clear HP
      by_cases h10 : s[k].toNat = 10
      · have h10' : ((s[k].toNat : Int) == 10) = true := by rw [h10]; rfl
        have HT : Hid (plainB (s.data.toList.take (k + 1)) = true) := by show _ = _; rw [HNX.out, HX.out, h10]; rfl
        go_wp2
        go_roundg (s.size - (k + 1))
        case measure => omega
        case rel => exact ⟨k + 1, by omega, Nat.le_refl _, by go_num, HT.out, rfl⟩
      · have h10' : ((s[k].toNat : Int) == 10) = false := by rw [beq_eq_false_iff_ne]; omega
        by_cases h32 : s[k].toNat < 32
        · have h32' : ((s[k].toNat : Nat) : Int) < 32 := by omega
          have HT : Hid (plainB s.data.toList = false) := HNO.out (by rw [HX.out, decide_eq_false (by omega : ¬ 32 ≤ s[k].toNat)]; simp [h10])
          go_wp2
          go_ret
          exact ⟨by rw [HT.out]; rfl, rfl⟩
        · have h32' : ¬ ((s[k].toNat : Nat) : Int) < 32 := by omega
          by_cases h126 : 126 < s[k].toNat
          · have h126' : 126 < ((s[k].toNat : Nat) : Int) := by omega
            have HT : Hid (plainB s.data.toList = false) := HNO.out (by rw [HX.out, decide_eq_false (by omega : ¬ s[k].toNat ≤ 126)]; simp [h10])
            go_wp2
            go_ret
            exact ⟨by rw [HT.out]; rfl, rfl⟩
          · have h126' : ¬ 126 < ((s[k].toNat : Nat) : Int) := by omega
            have HT : Hid (plainB (s.data.toList.take (k + 1)) = true) := by show _ = _; rw [HNX.out, HX.out, decide_eq_true (by omega : 32 ≤ s[k].toNat), decide_eq_true (by omega : s[k].toNat ≤ 126)]; simp
            go_wp2
            go_roundg (s.size - (k + 1))
            case measure => omega
            case rel => exact ⟨k + 1, by omega, Nat.le_refl _, by go_num, HT.out, rfl⟩
    · have : k = s.size := by omega
      subst this
      have HT : Hid (plainB s.data.toList = true) := by have := HP.out; rwa [List.take_of_length_le (show s.data.toList.length ≤ s.size from Nat.le_refl _)] at this
      go_wp2
      go_ret
      exact ⟨by rw [HT.out]; rfl, rfl⟩
theorem plain_any (s : List UInt8) (hs : s.length ≤ 1000000) (w : World) :
    Calls Try.prog 80 #[.string ⟨s.toArray⟩] w fun e w' => e = .returned (.bool (plainB s)) ∧ w' = w := plain_at ⟨s.toArray⟩ hs w


theorem plain_spec : PlainSpec := fun s w h => (plain_any s (by omega) w).mono (by rintro e w' ⟨he, rfl⟩; exact ⟨he, Below.refl _ _⟩)

def textE (s : List UInt8) : Int := if s = [] ∨ plainB s = false then 11 else if 64 < s.length then 15 else 0
theorem fittext_any (s : List UInt8) (hs : s.length ≤ 1000000) (w : World) : Calls Try.prog 75 #[.string ⟨s.toArray⟩] w fun e w' => e = .returned (.int .i64 (textE s)) ∧ w' = w := by
  unfold textE
  have HP := Lib.hid (fun W => plain_any s hs W)
  have hsz : (⟨s.toArray⟩ : ByteArray).size = s.length := rfl
  by_cases h3 : s = []
  · subst h3
    rw [if_pos (Or.inl rfl)]
    clear HP hsz
    go_enter Try.func75, Try.ntmps75
    go_wp2
    go_ret
    exact ⟨rfl, rfl⟩
  · obtain ⟨h3a, h3b, h3c, h3d⟩ := text_no h3
    cases h4 : plainB s with
    | false =>
      rw [if_pos (Or.inr rfl)]
      rw [h4] at HP
      generalize (⟨s.toArray⟩ : ByteArray) = bt at HP hsz h3a h3b h3c h3d ⊢
      go_enter Try.func75, Try.ntmps75
      go_wp2_with (first | (go_at_call 80; refine (HP.out _).mono ?_; rintro e w1 ⟨rfl, he⟩; obtain rfl := Eq.symm he))
      go_ret
      exact ⟨rfl, rfl⟩
    | true =>
      rw [if_neg (by rintro (a | a); exact h3 a; cases a)]
      rw [h4] at HP
      generalize (⟨s.toArray⟩ : ByteArray) = bt at HP hsz h3a h3b h3c h3d ⊢
      by_cases h5 : 64 < s.length
      · rw [if_pos h5]
        have h5' : (64 : Int) < (bt.size : Int) := by omega
        go_enter Try.func75, Try.ntmps75
        go_wp2_with (first | (go_at_call 80; refine (HP.out _).mono ?_; rintro e w1 ⟨rfl, he⟩; obtain rfl := Eq.symm he))
        go_ret
        exact ⟨rfl, rfl⟩
      · rw [if_neg h5]
        have h5' : ¬ (64 : Int) < (bt.size : Int) := by omega
        go_enter Try.func75, Try.ntmps75
        go_wp2_with (first | (go_at_call 80; refine (HP.out _).mono ?_; rintro e w1 ⟨rfl, he⟩; obtain rfl := Eq.symm he))
        go_ret
        exact ⟨rfl, rfl⟩

end Go.Proofs.Ytedlmngfkkpmgaa
