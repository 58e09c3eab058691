/-
  Several texts of one proof, joined: each part says at its head what it proves. No conditions beyond what each theorem states.
-/
import Derived.Test.YtedlmngfkkpmgaaZ05
import Derived.Test.YtedlmngfkkpmgaaZ06
import Derived.Test.YtedlmngfkkpmgaaZ09
/-
  What the program's makes, names, turns, Root, Take, Plain, fitText and hasMore of layer 8 hand back. No conditions beyond what each theorem states.
-/
namespace Go.Proofs.Ytedlmngfkkpmgaa
open Go.ChangeShapes Go.WideShapes Go.ChangeAt Go.RowKit Go.Lib
set_option linter.unusedVariables false
set_option linter.unusedSimpArgs false

theorem makes_yes (k : Int) (h : k = 1 ∨ k = 3) (w : World) : Calls Try.prog 53 #[.int .i64 k] w fun e w' => e = .returned (.bool true) ∧ w' = w := by
  rcases h with rfl | rfl
  all_goals
    go_enter Try.func53, Try.ntmps53
    go_wp2
    go_ret
    exact ⟨rfl, rfl⟩
theorem makes_no (k : Int) (h1 : ¬ k = 1) (h3 : ¬ k = 3) (w : World) : Calls Try.prog 53 #[.int .i64 k] w fun e w' => e = .returned (.bool false) ∧ w' = w := by
  have a1 := beq_no h1
  have a3 := beq_no h3
  go_enter Try.func53, Try.ntmps53
  go_wp2
  go_ret
  exact ⟨rfl, rfl⟩
theorem names_yes (k : Int) (h : k = 2 ∨ k = 3) (w : World) : Calls Try.prog 55 #[.int .i64 k] w fun e w' => e = .returned (.bool true) ∧ w' = w := by
  rcases h with rfl | rfl
  all_goals
    go_enter Try.func55, Try.ntmps55
    go_wp2
    go_ret
    exact ⟨rfl, rfl⟩
theorem names_no (k : Int) (h2 : ¬ k = 2) (h3 : ¬ k = 3) (w : World) : Calls Try.prog 55 #[.int .i64 k] w fun e w' => e = .returned (.bool false) ∧ w' = w := by
  have a2 := beq_no h2
  have a3 := beq_no h3
  go_enter Try.func55, Try.ntmps55
  go_wp2
  go_ret
  exact ⟨rfl, rfl⟩
theorem turns_yes (k : Int) (h1 : ¬ k = 1) (h2 : ¬ k = 2) (h3 : ¬ k = 3) (w : World) : Calls Try.prog 57 #[.int .i64 k] w fun e w' => e = .returned (.bool true) ∧ w' = w := by
  have HM := Lib.hid (makes_no k h1 h3)
  have HN := Lib.hid (names_no k h2 h3)
  clear h1 h2 h3
  go_enter Try.func57, Try.ntmps57
  go_wp2_with (first | (go_at_call 53; refine (HM.out _).mono ?_; rintro e w1 ⟨rfl, he⟩; obtain rfl := Eq.symm he) | (go_at_call 55; refine (HN.out _).mono ?_; rintro e w2 ⟨rfl, he⟩; obtain rfl := Eq.symm he))
  go_ret
  exact ⟨rfl, rfl⟩
theorem turns_no (k : Int) (h : k = 1 ∨ k = 2 ∨ k = 3) (w : World) : Calls Try.prog 57 #[.int .i64 k] w fun e w' => e = .returned (.bool false) ∧ w' = w := by
  by_cases hk : k = 1 ∨ k = 3
  · have HM := Lib.hid (makes_yes k hk)
    clear h hk
    go_enter Try.func57, Try.ntmps57
    go_wp2_with (first | (go_at_call 53; refine (HM.out _).mono ?_; rintro e w1 ⟨rfl, he⟩; obtain rfl := Eq.symm he))
    go_ret
    exact ⟨rfl, rfl⟩
  · have HM := Lib.hid (makes_no k (by omega) (by omega))
    have HN := Lib.hid (names_yes k (by omega))
    clear h hk
    go_enter Try.func57, Try.ntmps57
    go_wp2_with (first | (go_at_call 53; refine (HM.out _).mono ?_; rintro e w1 ⟨rfl, he⟩; obtain rfl := Eq.symm he) | (go_at_call 55; refine (HN.out _).mono ?_; rintro e w2 ⟨rfl, he⟩; obtain rfl := Eq.symm he))
    go_ret
    exact ⟨rfl, rfl⟩
theorem idroot_yes (w : World) : Calls Try.prog 74 #[.agg #[.int .u16 0, .int .u32 0]] w fun e w' => e = .returned (.bool true) ∧ Below w.heap.size w w' := by
  go_enter Try.func74, Try.ntmps74
  go_wp2
  go_ret
  exact ⟨rfl, below_alloc (Below.refl _ _) _⟩
theorem idroot_no (r n : Int) (h : ¬ (r = 0 ∧ n = 0)) (w : World) : Calls Try.prog 74 #[.agg #[.int .u16 r, .int .u32 n]] w fun e w' => e = .returned (.bool false) ∧ Below w.heap.size w w' := by
  by_cases hr : r = 0
  · subst hr
    have hn : (n == 0) = false := beq_no (fun e => h ⟨rfl, e⟩)
    go_enter Try.func74, Try.ntmps74
    go_wp2
    all_goals
      go_ret
      exact ⟨by simp_all, below_alloc (Below.refl _ _) _⟩
  · have hr' : (r == 0) = false := beq_no hr
    go_enter Try.func74, Try.ntmps74
    go_wp2
    all_goals
      go_ret
      exact ⟨by simp_all, below_alloc (Below.refl _ _) _⟩
/-- Take's error. -/
def tookE (num a : Int) : Int := if num = 0 then 10 else if 268435457 < num + a then 20 else 0
def tookN (num a : Int) : Int := if num = 0 then 0 else if 268435457 < num + a then 0 else num + a
theorem idtake_any (num a : Int) (h0 : 0 ≤ num) (h1 : num ≤ 4294967295) (a0 : 0 ≤ a) (a1 : a ≤ 1000000000) (w : World) : Calls Try.prog 77 #[.int .u32 num, .int .i64 a] w fun e w' => e = .returned (.tuple #[.int .u32 (tookN num a), .int .i64 (tookE num a)]) ∧ w' = w := by
  unfold tookN tookE
  have ha : ¬ a < 0 := by omega
  by_cases h : num = 0
  · subst h
    rw [if_pos rfl, if_pos rfl]
    go_enter Try.func77, Try.ntmps77
    go_wp2
    go_ret2
    exact ⟨rfl, rfl⟩
  · rw [if_neg h, if_neg h]
    have h' : (num == 0) = false := beq_no h
    by_cases g : 268435457 < num + a
    · rw [if_pos g, if_pos g]
      go_enter Try.func77, Try.ntmps77
      go_wp2
      go_ret2
      exact ⟨rfl, rfl⟩
    · rw [if_neg g, if_neg g]
      go_enter Try.func77, Try.ntmps77
      go_wp2
      go_ret2
      exact ⟨rfl, rfl⟩

set_option maxHeartbeats 1600000 in
theorem plain_at (s : ByteArray) (hs : s.size ≤ 1000000) (w : World) :
    Calls Try.prog 80 #[.string s] w fun e w' => e = .returned (.bool (plainB s.data.toList)) ∧ w' = w := by
  go_enter Try.func80, Try.ntmps80
  go_wp2
  go_loopg [6] s.size (fun g i wr => ∃ k : Nat, k ≤ s.size ∧ s.size - k ≤ g ∧ i = .int .i64 (k : Int) ∧ plainB (s.data.toList.take k) = true ∧ wr = w)
  case atStart => exact ⟨0, Nat.zero_le _, by omega, rfl, rfl, rfl⟩
  case round =>
    obtain ⟨k, hk, hg, rfl, hp, rfl⟩ := hrel
    have HP := Lib.hid hp
    clear hp
    by_cases hlt : k < s.size
    · have HNX : Hid (plainB (s.data.toList.take (k + 1)) = plain1 s[k]) := by
        show _ = _
        rw [plainB_take (s := s.data.toList) hlt, HP.out, bytes_getD s hlt]
        rfl
      have HNO : Hid (plain1 s[k] = false → plainB s.data.toList = false) := plain_walks s hlt
      have HX : Hid (plain1 s[k] = (s[k].toNat == 10 || (decide (32 ≤ s[k].toNat) && decide (s[k].toNat ≤ 126)))) := rfl
      have hb := s[k].toNat_lt
      clear HP
      by_cases h10 : s[k].toNat = 10
      · have h10' : ((s[k].toNat : Int) == 10) = true := by rw [h10]; rfl
        have HT : Hid (plainB (s.data.toList.take (k + 1)) = true) := by show _ = _; rw [HNX.out, HX.out, h10]; rfl
        go_wp2
        go_roundg (s.size - (k + 1))
        case measure => omega
        case rel => exact ⟨k + 1, by omega, Nat.le_refl _, by go_num, HT.out, rfl⟩
      · have h10' : ((s[k].toNat : Int) == 10) = false := by rw [beq_eq_false_iff_ne]; omega
        by_cases h32 : s[k].toNat < 32
        · have h32' : ((s[k].toNat : Nat) : Int) < 32 := by omega
          have HT : Hid (plainB s.data.toList = false) := HNO.out (by rw [HX.out, decide_eq_false (by omega : ¬ 32 ≤ s[k].toNat)]; simp [h10])
          go_wp2
          go_ret
          exact ⟨by rw [HT.out]; rfl, rfl⟩
        · have h32' : ¬ ((s[k].toNat : Nat) : Int) < 32 := by omega
          by_cases h126 : 126 < s[k].toNat
          · have h126' : 126 < ((s[k].toNat : Nat) : Int) := by omega
            have HT : Hid (plainB s.data.toList = false) := HNO.out (by rw [HX.out, decide_eq_false (by omega : ¬ s[k].toNat ≤ 126)]; simp [h10])
            go_wp2
            go_ret
            exact ⟨by rw [HT.out]; rfl, rfl⟩
          · have h126' : ¬ 126 < ((s[k].toNat : Nat) : Int) := by omega
            have HT : Hid (plainB (s.data.toList.take (k + 1)) = true) := by show _ = _; rw [HNX.out, HX.out, decide_eq_true (by omega : 32 ≤ s[k].toNat), decide_eq_true (by omega : s[k].toNat ≤ 126)]; simp
            go_wp2
            go_roundg (s.size - (k + 1))
            case measure => omega
            case rel => exact ⟨k + 1, by omega, Nat.le_refl _, by go_num, HT.out, rfl⟩
    · have : k = s.size := by omega
      subst this
      have HT : Hid (plainB s.data.toList = true) := by have := HP.out; rwa [List.take_of_length_le (show s.data.toList.length ≤ s.size from Nat.le_refl _)] at this
      go_wp2
      go_ret
      exact ⟨by rw [HT.out]; rfl, rfl⟩
theorem plain_any (s : List UInt8) (hs : s.length ≤ 1000000) (w : World) :
    Calls Try.prog 80 #[.string ⟨s.toArray⟩] w fun e w' => e = .returned (.bool (plainB s)) ∧ w' = w := plain_at ⟨s.toArray⟩ hs w


theorem plain_spec : PlainSpec := fun s w h => (plain_any s (by omega) w).mono (by rintro e w' ⟨he, rfl⟩; exact ⟨he, Below.refl _ _⟩)

def textE (s : List UInt8) : Int := if s = [] ∨ plainB s = false then 11 else if 64 < s.length then 15 else 0
theorem fittext_any (s : List UInt8) (hs : s.length ≤ 1000000) (w : World) : Calls Try.prog 75 #[.string ⟨s.toArray⟩] w fun e w' => e = .returned (.int .i64 (textE s)) ∧ w' = w := by
  unfold textE
  have HP := Lib.hid (fun W => plain_any s hs W)
  have hsz : (⟨s.toArray⟩ : ByteArray).size = s.length := rfl
  by_cases h3 : s = []
  · subst h3
    rw [if_pos (Or.inl rfl)]
    clear HP hsz
    go_enter Try.func75, Try.ntmps75
    go_wp2
    go_ret
    exact ⟨rfl, rfl⟩
  · obtain ⟨h3a, h3b, h3c, h3d⟩ := text_no h3
    cases h4 : plainB s with
    | false =>
      rw [if_pos (Or.inr rfl)]
      rw [h4] at HP
      generalize (⟨s.toArray⟩ : ByteArray) = bt at HP hsz h3a h3b h3c h3d ⊢
      go_enter Try.func75, Try.ntmps75
      go_wp2_with (first | (go_at_call 80; refine (HP.out _).mono ?_; rintro e w1 ⟨rfl, he⟩; obtain rfl := Eq.symm he))
      go_ret
      exact ⟨rfl, rfl⟩
    | true =>
      rw [if_neg (by rintro (a | a); exact h3 a; cases a)]
      rw [h4] at HP
      generalize (⟨s.toArray⟩ : ByteArray) = bt at HP hsz h3a h3b h3c h3d ⊢
      by_cases h5 : 64 < s.length
      · rw [if_pos h5]
        have h5' : (64 : Int) < (bt.size : Int) := by omega
        go_enter Try.func75, Try.ntmps75
        go_wp2_with (first | (go_at_call 80; refine (HP.out _).mono ?_; rintro e w1 ⟨rfl, he⟩; obtain rfl := Eq.symm he))
        go_ret
        exact ⟨rfl, rfl⟩
      · rw [if_neg h5]
        have h5' : ¬ (64 : Int) < (bt.size : Int) := by omega
        go_enter Try.func75, Try.ntmps75
        go_wp2_with (first | (go_at_call 80; refine (HP.out _).mono ?_; rintro e w1 ⟨rfl, he⟩; obtain rfl := Eq.symm he))
        go_ret
        exact ⟨rfl, rfl⟩

end Go.Proofs.Ytedlmngfkkpmgaa
/-
  What the program's hasMore of layer 8 hands back. No conditions beyond what each theorem states.
-/
namespace Go.Proofs.Ytedlmngfkkpmgaa
open Go.ChangeShapes Go.WideShapes Go.ChangeAt Go.RowKit Go.Lib
set_option linter.unusedVariables false
set_option linter.unusedSimpArgs false

/-- Has it what its kind has not? -/
def moreO (o : Om) : Bool :=
  if o.kind = 1 then decide (0 < o.spans.length ∨ o.seq ≠ 0)
  else if o.kind = 2 then decide (placelessO o = false ∨ o.text ≠ [] ∨ o.seq ≠ 0)
  else if o.kind = 3 then decide (o.text ≠ [] ∨ o.seq ≠ 0)
  else decide (placelessO o = false ∨ o.text ≠ [] ∨ 0 < o.spans.length)
theorem bne_no {a b : Int} (h : ¬ a = b) : (a != b) = true := by simpa using h
theorem bytes_bne {a b : List UInt8} (h : (a == b) = false) : (a != b) = true := by unfold bne; rw [h]; rfl

set_option maxHeartbeats 3200000 in
theorem more1 (o : Om) (p : Option Addr) (c : Nat) (w : World) (hk : o.kind = 1) : Calls Try.prog 69 #[ov o p c] w fun e w' => e = .returned (.bool (moreO o)) ∧ Below w.heap.size w w' := by
  have HF : Hid (moreO o = decide (0 < o.spans.length ∨ o.seq ≠ 0)) := by show _ = _; unfold moreO; rw [if_pos hk]
  have HM := Lib.hid (makes_yes o.kind (Or.inl hk))
  have HN := Lib.hid (names_no o.kind (by omega) (by omega))
  have HT := Lib.hid (turns_no o.kind (Or.inl hk))
  obtain ⟨kind, r, n, num, text, spans, seq⟩ := o
  unfold ov
  simp only at hk HF HM HN HT ⊢
  subst hk
  generalize moreO ⟨1, r, n, num, text, spans, seq⟩ = MO at HF ⊢
  generalize (⟨text.toArray⟩ : ByteArray) = bt
  by_cases h1 : 0 < spans.length
  · have h1' : (0 : Int) < (spans.length : Int) := by omega
    have HE : Hid (MO = true) := by show _ = _; rw [HF.out]; exact decide_eq_true (Or.inl h1)
    clear HF
    go_enter Try.func69, Try.ntmps69
    go_wp2_with (first | (go_at_call 53; refine (HM.out _).mono ?_; rintro e w1 ⟨rfl, he⟩; obtain rfl := Eq.symm he) | (go_at_call 55; refine (HN.out _).mono ?_; rintro e w2 ⟨rfl, he⟩; obtain rfl := Eq.symm he))
    go_ret
    exact ⟨by rw [HE.out]; rfl, below_alloc (Below.refl _ _) _⟩
  · have h1' : ¬ (0 : Int) < (spans.length : Int) := by omega
    by_cases h2 : seq = 0
    · subst h2
      have HE : Hid (MO = false) := by show _ = _; rw [HF.out]; exact decide_eq_false (by rintro (a | a); exact h1 a; exact a rfl)
      clear HF
      go_enter Try.func69, Try.ntmps69
      go_wp2_with (first | (go_at_call 53; refine (HM.out _).mono ?_; rintro e w1 ⟨rfl, he⟩; obtain rfl := Eq.symm he) | (go_at_call 55; refine (HN.out _).mono ?_; rintro e w2 ⟨rfl, he⟩; obtain rfl := Eq.symm he) | (go_at_call 57; refine (HT.out _).mono ?_; rintro e w3 ⟨rfl, he⟩; obtain rfl := Eq.symm he))
      go_ret
      exact ⟨by rw [HE.out]; rfl, below_alloc (Below.refl _ _) _⟩
    · have h2' := beq_no h2
      have h2'' := bne_no h2
      have HE : Hid (MO = true) := by show _ = _; rw [HF.out]; exact decide_eq_true (Or.inr h2)
      clear HF
      go_enter Try.func69, Try.ntmps69
      go_wp2_with (first | (go_at_call 53; refine (HM.out _).mono ?_; rintro e w1 ⟨rfl, he⟩; obtain rfl := Eq.symm he) | (go_at_call 55; refine (HN.out _).mono ?_; rintro e w2 ⟨rfl, he⟩; obtain rfl := Eq.symm he) | (go_at_call 57; refine (HT.out _).mono ?_; rintro e w3 ⟨rfl, he⟩; obtain rfl := Eq.symm he))
      go_ret
      exact ⟨by rw [HE.out]; rfl, below_alloc (Below.refl _ _) _⟩
set_option maxHeartbeats 3200000 in
theorem more3 (o : Om) (p : Option Addr) (c : Nat) (w : World) (hk : o.kind = 3) : Calls Try.prog 69 #[ov o p c] w fun e w' => e = .returned (.bool (moreO o)) ∧ Below w.heap.size w w' := by
  have HF : Hid (moreO o = decide (o.text ≠ [] ∨ o.seq ≠ 0)) := by show _ = _; unfold moreO; rw [if_neg (by omega), if_neg (by omega), if_pos hk]
  have HM := Lib.hid (makes_yes o.kind (Or.inr hk))
  have HN := Lib.hid (names_yes o.kind (Or.inr hk))
  have HT := Lib.hid (turns_no o.kind (Or.inr (Or.inr hk)))
  obtain ⟨kind, r, n, num, text, spans, seq⟩ := o
  unfold ov
  simp only at hk HF HM HN HT ⊢
  subst hk
  generalize moreO ⟨3, r, n, num, text, spans, seq⟩ = MO at HF ⊢
  by_cases h1 : text = []
  · subst h1
    by_cases h2 : seq = 0
    · subst h2
      have HE : Hid (MO = false) := by show _ = _; rw [HF.out]; exact decide_eq_false (by rintro (a | a); exact a rfl; exact a rfl)
      clear HF
      go_enter Try.func69, Try.ntmps69
      go_wp2_with (first | (go_at_call 53; refine (HM.out _).mono ?_; rintro e w1 ⟨rfl, he⟩; obtain rfl := Eq.symm he) | (go_at_call 55; refine (HN.out _).mono ?_; rintro e w2 ⟨rfl, he⟩; obtain rfl := Eq.symm he) | (go_at_call 57; refine (HT.out _).mono ?_; rintro e w3 ⟨rfl, he⟩; obtain rfl := Eq.symm he))
      go_ret
      exact ⟨by rw [HE.out]; rfl, below_alloc (Below.refl _ _) _⟩
    · have h2' := beq_no h2
      have h2'' := bne_no h2
      have HE : Hid (MO = true) := by show _ = _; rw [HF.out]; exact decide_eq_true (Or.inr h2)
      clear HF
      go_enter Try.func69, Try.ntmps69
      go_wp2_with (first | (go_at_call 53; refine (HM.out _).mono ?_; rintro e w1 ⟨rfl, he⟩; obtain rfl := Eq.symm he) | (go_at_call 55; refine (HN.out _).mono ?_; rintro e w2 ⟨rfl, he⟩; obtain rfl := Eq.symm he) | (go_at_call 57; refine (HT.out _).mono ?_; rintro e w3 ⟨rfl, he⟩; obtain rfl := Eq.symm he))
      go_ret
      exact ⟨by rw [HE.out]; rfl, below_alloc (Below.refl _ _) _⟩
  · obtain ⟨h3a, h3b, h3c, h3d⟩ := text_no h1
    have h3e := bytes_bne h3a
    have h3f := bytes_bne h3b
    generalize (⟨text.toArray⟩ : ByteArray) = bt at h3a h3b h3c h3d h3e h3f ⊢
    have HE : Hid (MO = true) := by show _ = _; rw [HF.out]; exact decide_eq_true (Or.inl h1)
    clear HF
    go_enter Try.func69, Try.ntmps69
    go_wp2_with (first | (go_at_call 53; refine (HM.out _).mono ?_; rintro e w1 ⟨rfl, he⟩; obtain rfl := Eq.symm he) | (go_at_call 55; refine (HN.out _).mono ?_; rintro e w2 ⟨rfl, he⟩; obtain rfl := Eq.symm he))
    go_ret
    exact ⟨by rw [HE.out]; rfl, below_alloc (Below.refl _ _) _⟩
set_option maxHeartbeats 3200000 in
theorem more2 (o : Om) (p : Option Addr) (c : Nat) (w : World) (hk : o.kind = 2) : Calls Try.prog 69 #[ov o p c] w fun e w' => e = .returned (.bool (moreO o)) ∧ Below w.heap.size w w' := by
  have HF : Hid (moreO o = decide (placelessO o = false ∨ o.text ≠ [] ∨ o.seq ≠ 0)) := by show _ = _; unfold moreO; rw [if_neg (by omega), if_pos hk]
  have HM := Lib.hid (makes_no o.kind (by omega) (by omega))
  have HN := Lib.hid (names_yes o.kind (Or.inl hk))
  have HT := Lib.hid (turns_no o.kind (Or.inr (Or.inl hk)))
  have HL : Hid (placelessO o = decide (o.r = 0 ∧ o.n = 0 ∧ o.num = 0)) := rfl
  obtain ⟨kind, r, n, num, text, spans, seq⟩ := o
  unfold ov
  simp only at hk HF HM HN HT HL ⊢
  subst hk
  generalize moreO ⟨2, r, n, num, text, spans, seq⟩ = MO at HF ⊢
  generalize placelessO ⟨2, r, n, num, text, spans, seq⟩ = PL at HF HL
  by_cases hr : r = 0 ∧ n = 0
  · obtain ⟨rfl, rfl⟩ := hr
    have HR := Lib.hid idroot_yes
    by_cases hm : num = 0
    · subst hm
      have HPL : Hid (PL = true) := by show _ = _; rw [HL.out]; rfl
      clear HL
      by_cases h1 : text = []
      · subst h1
        by_cases h2 : seq = 0
        · subst h2
          have HE : Hid (MO = false) := by show _ = _; rw [HF.out]; exact decide_eq_false (by rintro (a | a | a); rw [HPL.out] at a; cases a; exact a rfl; exact a rfl)
          clear HF
          go_enter Try.func69, Try.ntmps69
          go_wp2_with (first | (go_at_call 53; refine (HM.out _).mono ?_; rintro e w1 ⟨rfl, he⟩; obtain rfl := Eq.symm he) | (go_at_call 74; refine (HR.out _).mono ?_; rintro e w4 ⟨rfl, hb4⟩; obtain ⟨d0, d1, d2, d3, d4, d5, d6⟩ := seven_cells (kept_box (heap_alloc_new w _) hb4)) | (go_at_call 55; refine (HN.out _).mono ?_; rintro e w2 ⟨rfl, he⟩; obtain rfl := Eq.symm he) | (go_at_call 57; refine (HT.out _).mono ?_; rintro e w3 ⟨rfl, he⟩; obtain rfl := Eq.symm he))
          go_ret
          exact ⟨by rw [HE.out]; rfl, below_step (below_alloc (Below.refl _ _) _) hb4⟩
        · have h2' := beq_no h2
          have h2'' := bne_no h2
          have HE : Hid (MO = true) := by show _ = _; rw [HF.out]; exact decide_eq_true (Or.inr (Or.inr h2))
          clear HF
          go_enter Try.func69, Try.ntmps69
          go_wp2_with (first | (go_at_call 53; refine (HM.out _).mono ?_; rintro e w1 ⟨rfl, he⟩; obtain rfl := Eq.symm he) | (go_at_call 74; refine (HR.out _).mono ?_; rintro e w4 ⟨rfl, hb4⟩; obtain ⟨d0, d1, d2, d3, d4, d5, d6⟩ := seven_cells (kept_box (heap_alloc_new w _) hb4)) | (go_at_call 55; refine (HN.out _).mono ?_; rintro e w2 ⟨rfl, he⟩; obtain rfl := Eq.symm he) | (go_at_call 57; refine (HT.out _).mono ?_; rintro e w3 ⟨rfl, he⟩; obtain rfl := Eq.symm he))
          go_ret
          exact ⟨by rw [HE.out]; rfl, below_step (below_alloc (Below.refl _ _) _) hb4⟩
      · obtain ⟨h3a, h3b, h3c, h3d⟩ := text_no h1
        have h3e := bytes_bne h3a
        have h3f := bytes_bne h3b
        generalize (⟨text.toArray⟩ : ByteArray) = bt at h3a h3b h3c h3d h3e h3f ⊢
        have HE : Hid (MO = true) := by show _ = _; rw [HF.out]; exact decide_eq_true (Or.inr (Or.inl h1))
        clear HF
        go_enter Try.func69, Try.ntmps69
        go_wp2_with (first | (go_at_call 53; refine (HM.out _).mono ?_; rintro e w1 ⟨rfl, he⟩; obtain rfl := Eq.symm he) | (go_at_call 74; refine (HR.out _).mono ?_; rintro e w4 ⟨rfl, hb4⟩; obtain ⟨d0, d1, d2, d3, d4, d5, d6⟩ := seven_cells (kept_box (heap_alloc_new w _) hb4)))
        go_ret
        exact ⟨by rw [HE.out]; rfl, below_step (below_alloc (Below.refl _ _) _) hb4⟩
    · have hm' := beq_no hm
      have hm'' := bne_no hm
      have HPL : Hid (PL = false) := by show _ = _; rw [HL.out]; exact decide_eq_false fun h => hm h.2.2
      clear HL
      generalize (⟨text.toArray⟩ : ByteArray) = bt
      have HE : Hid (MO = true) := by show _ = _; rw [HF.out]; exact decide_eq_true (Or.inl HPL.out)
      clear HF
      go_enter Try.func69, Try.ntmps69
      go_wp2_with (first | (go_at_call 53; refine (HM.out _).mono ?_; rintro e w1 ⟨rfl, he⟩; obtain rfl := Eq.symm he) | (go_at_call 74; refine (HR.out _).mono ?_; rintro e w4 ⟨rfl, hb4⟩; obtain ⟨d0, d1, d2, d3, d4, d5, d6⟩ := seven_cells (kept_box (heap_alloc_new w _) hb4)))
      go_ret
      exact ⟨by rw [HE.out]; rfl, below_step (below_alloc (Below.refl _ _) _) hb4⟩
  · have HR := Lib.hid (idroot_no r n hr)
    have HPL : Hid (PL = false) := by show _ = _; rw [HL.out]; exact decide_eq_false fun h => hr ⟨h.1, h.2.1⟩
    clear HL
    generalize (⟨text.toArray⟩ : ByteArray) = bt
    have HE : Hid (MO = true) := by show _ = _; rw [HF.out]; exact decide_eq_true (Or.inl HPL.out)
    clear HF
    go_enter Try.func69, Try.ntmps69
    go_wp2_with (first | (go_at_call 53; refine (HM.out _).mono ?_; rintro e w1 ⟨rfl, he⟩; obtain rfl := Eq.symm he) | (go_at_call 74; refine (HR.out _).mono ?_; rintro e w4 ⟨rfl, hb4⟩; obtain ⟨d0, d1, d2, d3, d4, d5, d6⟩ := seven_cells (kept_box (heap_alloc_new w _) hb4)))
    go_ret
    exact ⟨by rw [HE.out]; rfl, below_step (below_alloc (Below.refl _ _) _) hb4⟩
set_option maxHeartbeats 3200000 in
theorem more4 (o : Om) (p : Option Addr) (c : Nat) (w : World) (k1 : ¬ o.kind = 1) (k2 : ¬ o.kind = 2) (k3 : ¬ o.kind = 3) : Calls Try.prog 69 #[ov o p c] w fun e w' => e = .returned (.bool (moreO o)) ∧ Below w.heap.size w w' := by
  have HF : Hid (moreO o = decide (placelessO o = false ∨ o.text ≠ [] ∨ 0 < o.spans.length)) := by show _ = _; unfold moreO; rw [if_neg k1, if_neg k2, if_neg k3]
  have HM := Lib.hid (makes_no o.kind k1 k3)
  have HN := Lib.hid (names_no o.kind k2 k3)
  have HT := Lib.hid (turns_yes o.kind k1 k2 k3)
  have HL : Hid (placelessO o = decide (o.r = 0 ∧ o.n = 0 ∧ o.num = 0)) := rfl
  obtain ⟨kind, r, n, num, text, spans, seq⟩ := o
  unfold ov
  simp only at k1 k2 k3 HF HM HN HT HL ⊢
  have k1a := beq_no k1
  have k1b := bne_no k1
  generalize moreO ⟨kind, r, n, num, text, spans, seq⟩ = MO at HF ⊢
  generalize placelessO ⟨kind, r, n, num, text, spans, seq⟩ = PL at HF HL
  by_cases hr : r = 0 ∧ n = 0
  · obtain ⟨rfl, rfl⟩ := hr
    have HR := Lib.hid idroot_yes
    by_cases hm : num = 0
    · subst hm
      have HPL : Hid (PL = true) := by show _ = _; rw [HL.out]; rfl
      clear HL
      by_cases h1 : text = []
      · subst h1
        by_cases h2 : 0 < spans.length
        · have h2' : (0 : Int) < (spans.length : Int) := by omega
          have HE : Hid (MO = true) := by show _ = _; rw [HF.out]; exact decide_eq_true (Or.inr (Or.inr h2))
          clear HF
          go_enter Try.func69, Try.ntmps69
          go_wp2_with (first | (go_at_call 53; refine (HM.out _).mono ?_; rintro e w1 ⟨rfl, he⟩; obtain rfl := Eq.symm he) | (go_at_call 74; refine (HR.out _).mono ?_; rintro e w4 ⟨rfl, hb4⟩; obtain ⟨d0, d1, d2, d3, d4, d5, d6⟩ := seven_cells (kept_box (heap_alloc_new w _) hb4)) | (go_at_call 55; refine (HN.out _).mono ?_; rintro e w2 ⟨rfl, he⟩; obtain rfl := Eq.symm he) | (go_at_call 57; refine (HT.out _).mono ?_; rintro e w3 ⟨rfl, he⟩; obtain rfl := Eq.symm he))
          go_ret
          exact ⟨by rw [HE.out]; rfl, below_step (below_alloc (Below.refl _ _) _) hb4⟩
        · have h2' : ¬ (0 : Int) < (spans.length : Int) := by omega
          have HE : Hid (MO = false) := by show _ = _; rw [HF.out]; exact decide_eq_false (by rintro (a | a | a); rw [HPL.out] at a; cases a; exact a rfl; exact h2 a)
          clear HF
          go_enter Try.func69, Try.ntmps69
          go_wp2_with (first | (go_at_call 53; refine (HM.out _).mono ?_; rintro e w1 ⟨rfl, he⟩; obtain rfl := Eq.symm he) | (go_at_call 74; refine (HR.out _).mono ?_; rintro e w4 ⟨rfl, hb4⟩; obtain ⟨d0, d1, d2, d3, d4, d5, d6⟩ := seven_cells (kept_box (heap_alloc_new w _) hb4)) | (go_at_call 55; refine (HN.out _).mono ?_; rintro e w2 ⟨rfl, he⟩; obtain rfl := Eq.symm he) | (go_at_call 57; refine (HT.out _).mono ?_; rintro e w3 ⟨rfl, he⟩; obtain rfl := Eq.symm he))
          go_ret
          exact ⟨by rw [HE.out]; rfl, below_step (below_alloc (Below.refl _ _) _) hb4⟩
      · obtain ⟨h3a, h3b, h3c, h3d⟩ := text_no h1
        have h3e := bytes_bne h3a
        have h3f := bytes_bne h3b
        generalize (⟨text.toArray⟩ : ByteArray) = bt at h3a h3b h3c h3d h3e h3f ⊢
        have HE : Hid (MO = true) := by show _ = _; rw [HF.out]; exact decide_eq_true (Or.inr (Or.inl h1))
        clear HF
        go_enter Try.func69, Try.ntmps69
        go_wp2_with (first | (go_at_call 53; refine (HM.out _).mono ?_; rintro e w1 ⟨rfl, he⟩; obtain rfl := Eq.symm he) | (go_at_call 74; refine (HR.out _).mono ?_; rintro e w4 ⟨rfl, hb4⟩; obtain ⟨d0, d1, d2, d3, d4, d5, d6⟩ := seven_cells (kept_box (heap_alloc_new w _) hb4)))
        go_ret
        exact ⟨by rw [HE.out]; rfl, below_step (below_alloc (Below.refl _ _) _) hb4⟩
    · have hm' := beq_no hm
      have hm'' := bne_no hm
      have HPL : Hid (PL = false) := by show _ = _; rw [HL.out]; exact decide_eq_false fun h => hm h.2.2
      clear HL
      generalize (⟨text.toArray⟩ : ByteArray) = bt
      have HE : Hid (MO = true) := by show _ = _; rw [HF.out]; exact decide_eq_true (Or.inl HPL.out)
      clear HF
      go_enter Try.func69, Try.ntmps69
      go_wp2_with (first | (go_at_call 53; refine (HM.out _).mono ?_; rintro e w1 ⟨rfl, he⟩; obtain rfl := Eq.symm he) | (go_at_call 74; refine (HR.out _).mono ?_; rintro e w4 ⟨rfl, hb4⟩; obtain ⟨d0, d1, d2, d3, d4, d5, d6⟩ := seven_cells (kept_box (heap_alloc_new w _) hb4)))
      go_ret
      exact ⟨by rw [HE.out]; rfl, below_step (below_alloc (Below.refl _ _) _) hb4⟩
  · have HR := Lib.hid (idroot_no r n hr)
    have HPL : Hid (PL = false) := by show _ = _; rw [HL.out]; exact decide_eq_false fun h => hr ⟨h.1, h.2.1⟩
    clear HL
    generalize (⟨text.toArray⟩ : ByteArray) = bt
    have HE : Hid (MO = true) := by show _ = _; rw [HF.out]; exact decide_eq_true (Or.inl HPL.out)
    clear HF
    go_enter Try.func69, Try.ntmps69
    go_wp2_with (first | (go_at_call 53; refine (HM.out _).mono ?_; rintro e w1 ⟨rfl, he⟩; obtain rfl := Eq.symm he) | (go_at_call 74; refine (HR.out _).mono ?_; rintro e w4 ⟨rfl, hb4⟩; obtain ⟨d0, d1, d2, d3, d4, d5, d6⟩ := seven_cells (kept_box (heap_alloc_new w _) hb4)))
    go_ret
    exact ⟨by rw [HE.out]; rfl, below_step (below_alloc (Below.refl _ _) _) hb4⟩
theorem more_any (o : Om) (p : Option Addr) (c : Nat) (w : World) : Calls Try.prog 69 #[ov o p c] w fun e w' => e = .returned (.bool (moreO o)) ∧ Below w.heap.size w w' := by
  by_cases k1 : o.kind = 1
  · exact more1 o p c w k1
  · by_cases k2 : o.kind = 2
    · exact more2 o p c w k2
    · by_cases k3 : o.kind = 3
      · exact more3 o p c w k3
      · exact more4 o p c w k1 k2 k3
end Go.Proofs.Ytedlmngfkkpmgaa
/-
  What the program's Atoms, placed, fitContent and Fit of layer 8 hand back. No conditions beyond what each theorem states.
-/
namespace Go.Proofs.Ytedlmngfkkpmgaa
open Go.ChangeShapes Go.WideShapes Go.ChangeAt Go.RowKit Go.Lib
set_option linter.unusedVariables false
set_option linter.unusedSimpArgs false

/-- What Atoms asks for: spans that are right, where it counts them. -/
def CountsP (o : Om) : Prop := o.kind = 3 → RightS o.spans ∧ totalL o.spans ≤ 3000
set_option maxHeartbeats 1600000 in
theorem atoms_any (o : Om) (p : Option Addr) (c : Nat) (w : World) (H : InO o p c w) (hc : CountsP o) (ht : o.text.length ≤ 300) (hl : o.spans.length ≤ 60) :
    Calls Try.prog 32 #[ov o p c] w fun e w' => e = .returned (.int .i64 (atomsO o)) ∧ Below w.heap.size w w' := by
  have HI : Hid (o.kind = 3 → ∀ W, Below w.heap.size w W → Calls Try.prog 51 #[.slice p o.spans.length c] W fun e w' => e = .returned (.int .i64 (totalL o.spans : Int)) ∧ Below W.heap.size W w') := fun h W hb => total_spec o.spans p c W (H.row.below hb) (hc h).1 H.fit.2.2.2.2.2.2.2.2.1 (by omega) (hc h).2 H.cap H.nil
  have HA : Hid (atomsO o = if o.kind = 1 then (o.text.length : Int) else if o.kind = 3 then (totalL o.spans : Int) else 0) := rfl
  have hsz : (⟨o.text.toArray⟩ : ByteArray).size = o.text.length := rfl
  clear H hc
  obtain ⟨kind, r, n, num, text, spans, seq⟩ := o
  unfold ov
  simp only at *
  by_cases h1 : kind = 1
  · subst h1
    have HE : Hid (atomsO ⟨1, r, n, num, text, spans, seq⟩ = (text.length : Int)) := by show _ = _; rw [HA.out, if_pos rfl]
    generalize (⟨text.toArray⟩ : ByteArray) = bt at hsz ⊢
    go_enter Try.func32, Try.ntmps32
    go_wp2
    go_ret
    exact ⟨by rw [HE.out, ← hsz]; rfl, below_alloc (Below.refl _ _) _⟩
  · have h1' : (kind == 1) = false := beq_no h1
    by_cases h3 : kind = 3
    · subst h3
      have HE : Hid (atomsO ⟨3, r, n, num, text, spans, seq⟩ = (totalL spans : Int)) := by show _ = _; rw [HA.out, if_neg (by decide), if_pos rfl]
      have HI3 : Hid (∀ W, Below w.heap.size w W → Calls Try.prog 51 #[.slice p spans.length c] W fun e w' => e = .returned (.int .i64 (totalL spans : Int)) ∧ Below W.heap.size W w') := HI.out rfl
      clear HI
      go_enter Try.func32, Try.ntmps32
      go_wp2_with fail
      refine (HI3.out _ (below_alloc (Below.refl _ _) _)).mono ?_
      rintro e w1 ⟨rfl, hb⟩
      have HB : Hid (Below w.heap.size w w1) := below_step (below_alloc (Below.refl _ _) _) hb
      clear hb HI3
      go_wp2
      go_ret
      exact ⟨by rw [HE.out]; rfl, HB.out⟩
    · have h3' : (kind == 3) = false := beq_no h3
      have HE : Hid (atomsO ⟨kind, r, n, num, text, spans, seq⟩ = 0) := by show _ = _; rw [HA.out, if_neg h1, if_neg h3]
      go_enter Try.func32, Try.ntmps32
      go_wp2
      go_ret
      exact ⟨by rw [HE.out]; rfl, below_alloc (Below.refl _ _) _⟩
theorem atoms_spec : AtomsSpec := by
  intro o p c w H ht hl hf
  refine atoms_any o p c w H (fun hk => ?_) ht hl
  rcases fitO_cases hf with h | h | h | h
  · exact absurd (hk.symm.trans h.1) (by decide)
  · exact absurd (hk.symm.trans h.1) (by decide)
  · obtain ⟨a1, a2, a3⟩ := fitL_ok h.2.2.2.1
    exact ⟨a1, by omega⟩
  · rcases h.1 with h | h
    · exact absurd (hk.symm.trans h) (by decide)
    · exact absurd (hk.symm.trans h) (by decide)
theorem total_pos {l : List Sp} (h : fitL l = 0) : 1 ≤ totalL l := by
  obtain ⟨a1, a2, a3⟩ := fitL_ok h
  cases l with
  | nil => unfold fitL at h; rw [if_pos (show ([] : List Sp).length = 0 from rfl)] at h; cases h
  | cons s l =>
    have hr := rightS_iff.1 (a1 s (by simp))
    rw [totalL_cons]
    omega
theorem took_numbered {o : Om} (h1 : 1 ≤ atomsO o) (h0 : 0 ≤ o.num) : numberedO o = (decide (tookE o.num (atomsO o) = 0) && anchB o) := by
  unfold numberedO anchB tookE
  by_cases hm : o.num = 0
  · rw [if_pos hm, decide_eq_false (by omega), decide_eq_false (by omega)]; rfl
  · rw [if_neg hm]
    by_cases hg : 268435457 < o.num + atomsO o
    · rw [if_pos hg, decide_eq_false (by omega), decide_eq_false (by omega)]; rfl
    · rw [if_neg hg, decide_eq_true (rfl : (0 : Int) = 0), Bool.true_and]
      apply decide_eq_decide.2
      omega

set_option maxHeartbeats 3200000 in
theorem placed_any (o : Om) (p : Option Addr) (c : Nat) (w : World) (H : InO o p c w) (hc : CountsP o) (ht : o.text.length ≤ 300) (hl : o.spans.length ≤ 60) (h1 : 1 ≤ atomsO o) :
    Calls Try.prog 71 #[ov o p c] w fun e w' => e = .returned (.bool (numberedO o)) ∧ Below w.heap.size w w' := by
  have HA : Hid (∀ W, Below w.heap.size w W → Calls Try.prog 32 #[ov o p c] W fun e w' => e = .returned (.int .i64 (atomsO o)) ∧ Below W.heap.size W w') := fun W hb => atoms_any o p c W (H.below hb) hc ht hl
  have hat : atomsO o ≤ 1000000 := by
    unfold atomsO
    by_cases h1 : o.kind = 1
    · rw [if_pos h1]; omega
    · rw [if_neg h1]
      by_cases h3 : o.kind = 3
      · rw [if_pos h3]; have := (hc h3).2; omega
      · rw [if_neg h3]; omega
  have hf := H.fit
  have HF : Hid (numberedO o = (decide (tookE o.num (atomsO o) = 0) && anchB o)) := took_numbered h1 hf.2.2.2.2.2.2.1
  have HK : Hid (∀ W, Calls Try.prog 77 #[.int .u32 o.num, .int .i64 (atomsO o)] W fun e w' => e = .returned (.tuple #[.int .u32 (tookN o.num (atomsO o)), .int .i64 (tookE o.num (atomsO o))]) ∧ Below W.heap.size W w') := fun W => (idtake_any o.num (atomsO o) hf.2.2.2.2.2.2.1 hf.2.2.2.2.2.2.2.1 (by omega) (by omega) W).mono (by rintro e w' ⟨he, rfl⟩; exact ⟨he, Below.refl _ _⟩)
  have HAN : Hid (anchB o = decide (o.r = 0 ∧ o.n = 0 ∨ 1 ≤ o.n ∧ o.n ≤ 268435456)) := rfl
  obtain ⟨kind, r, n, num, text, spans, seq⟩ := o
  generalize atomsO ⟨kind, r, n, num, text, spans, seq⟩ = A at HA hat HF HK
  generalize numberedO ⟨kind, r, n, num, text, spans, seq⟩ = NU at HF ⊢
  unfold ov at HA ⊢
  simp only at HA HF HK HAN ⊢
  generalize anchB ⟨kind, r, n, num, text, spans, seq⟩ = AN at HF HAN
  generalize hTE : tookE num A = TE at HF HK
  generalize tookN num A = TN at HK
  clear H hc hf hTE
  generalize (⟨text.toArray⟩ : ByteArray) = bt at HA ⊢
  have HX : Hid ((w.alloc (.cells #[.int .i64 kind, .int .u16 r, .int .u32 n, .int .u32 num, .string bt, .slice p spans.length c, .int .u32 seq] 69)).heap[w.heap.size]? = some (.cells #[.int .i64 kind, .int .u16 r, .int .u32 n, .int .u32 num, .string bt, .slice p spans.length c, .int .u32 seq] 69 (0, 0))) := heap_alloc_new w _
  have HA2 : Hid (∀ (B : Obj) dd os, Calls Try.prog 32 #[.agg #[.int .i64 kind, .int .u16 r, .int .u32 n, .int .u32 num, .string bt, .slice p spans.length c, .int .u32 seq]] (Go.Sort.grow (redrawn (w.alloc B) dd) os) fun e w' => e = .returned (.int .i64 A) ∧ Below (Go.Sort.grow (redrawn (w.alloc B) dd) os).heap.size (Go.Sort.grow (redrawn (w.alloc B) dd) os) w') := fun B dd os => HA.out _ (below_step (below_alloc (Below.refl _ _) _) (below_regrown _ _ _))
  obtain ⟨s0, s1, s2, s3, s4, s5, s6⟩ := seven_cells HX.out
  have t0 := cell_regrown s0
  have t1 := cell_regrown s1
  have t2 := cell_regrown s2
  have t3 := cell_regrown s3
  have t4 := cell_regrown s4
  have t5 := cell_regrown s5
  have t6 := cell_regrown s6
  clear HA s0 s1 s2 s3 s4 s5 s6
  by_cases hz : TE = 0
  · subst hz
    by_cases hr : r = 0 ∧ n = 0
    · obtain ⟨rfl, rfl⟩ := hr
      have HE : Hid (NU = true) := by show _ = _; rw [HF.out, HAN.out]; rfl
      have HR := Lib.hid idroot_yes
      clear HF HAN
      go_enter Try.func71, Try.ntmps71
      go_wp2_with fail
      refine wp_region_quiet_below (by kernel_rfl) (by kernel_rfl) ?_
      repeat (go_big_quiet_step (first | (go_at_call 32; exact Calls.regrown_of (HA2.out _ _ _)) | (go_at_call 77; exact Calls.regrown_of (HK.out _))))
      refine wpQuiet_nil ?_
      intro _ hw'
      obtain ⟨⟨dq, osq⟩, hw''⟩ := hw'
      subst hw'' 
      go_wp2_with fail
      refine (HR.out _).mono ?_
      rintro e w2 ⟨rfl, hb2⟩
      have HB : Hid (Below w.heap.size w w2) := below_step (below_step (below_alloc (Below.refl _ _) _) (below_regrown _ _ _)) hb2
      clear hb2
      go_wp2
      go_ret
      exact ⟨by rw [HE.out]; rfl, HB.out⟩
    · have HE : Hid (NU = rightN (r, n)) := by
        show _ = _
        rw [HF.out, HAN.out, decide_eq_true (rfl : (0 : Int) = 0), Bool.true_and]
        apply decide_eq_decide.2
        exact ⟨fun h => h.resolve_left hr, Or.inr⟩
      have HR := Lib.hid (idroot_no r n hr)
      have HI : Hid (∀ W : World, Calls Try.prog 78 #[.agg #[.int .u16 r, .int .u32 n]] W fun e w' => e = .returned (.bool (rightN (r, n))) ∧ Below W.heap.size W w') := idright_any (r, n)
      generalize rightN (r, n) = RN at HI HE
      clear HF HAN
      go_enter Try.func71, Try.ntmps71
      go_wp2_with fail
      refine wp_region_quiet_below (by kernel_rfl) (by kernel_rfl) ?_
      repeat (go_big_quiet_step (first | (go_at_call 32; exact Calls.regrown_of (HA2.out _ _ _)) | (go_at_call 77; exact Calls.regrown_of (HK.out _))))
      refine wpQuiet_nil ?_
      intro _ hw'
      obtain ⟨⟨dq, osq⟩, hw''⟩ := hw'
      subst hw'' 
      go_wp2_with fail
      refine (HR.out _).mono ?_
      rintro e w2 ⟨rfl, hb2⟩
      have HB : Hid (Below w.heap.size w w2) := below_step (below_step (below_alloc (Below.refl _ _) _) (below_regrown _ _ _)) hb2
      have HX2 := Lib.hid (kept_box HX.out (below_step (below_regrown _ dq osq) hb2))
      obtain ⟨d0, d1, d2, d3, d4, d5, d6⟩ := seven_cells HX2.out
      clear hb2 t0 t1 t2 t3 t4 t5 t6
      go_wp2_with fail
      refine (HI.out _).mono ?_
      rintro e w3 ⟨rfl, hb3⟩
      have HB3 : Hid (Below w.heap.size w w3) := below_step HB.out hb3
      clear hb3
      go_wp2
      go_ret
      exact ⟨by rw [HE.out]; rfl, HB3.out⟩
  · have HE : Hid (NU = false) := by show _ = _; rw [HF.out, decide_eq_false hz]; rfl
    have hz' := beq_no hz
    clear HF HAN
    go_enter Try.func71, Try.ntmps71
    go_wp2_with fail
    refine wp_region_quiet_below (by kernel_rfl) (by kernel_rfl) ?_
    repeat (go_big_quiet_step (first | (go_at_call 32; exact Calls.regrown_of (HA2.out _ _ _)) | (go_at_call 77; exact Calls.regrown_of (HK.out _))))
    refine wpQuiet_nil ?_
    intro _ hw'
    obtain ⟨⟨dq, osq⟩, hw''⟩ := hw'
    subst hw'' 
    go_wp2
    go_ret
    exact ⟨by rw [HE.out]; rfl, below_step (below_alloc (Below.refl _ _) _) (below_regrown _ _ _)⟩
/-- What comes, goes, or is undone: its error. -/
def contE (o : Om) : Int := if o.kind = 1 then textE o.text else if o.kind = 2 ∨ o.kind = 3 then fitL o.spans else if o.seq < 1 ∨ 268435456 < o.seq then 11 else 0

set_option maxHeartbeats 1600000 in
theorem content_any (HFS : FitSpec) (o : Om) (p : Option Addr) (c : Nat) (w : World) (H : InO o p c w) (ht : o.text.length ≤ 300) (hl : o.spans.length ≤ 60) :
    Calls Try.prog 70 #[ov o p c] w fun e w' => e = .returned (.int .i64 (contE o)) ∧ Below w.heap.size w w' := by
  have HFT := Lib.hid (fun W => fittext_any o.text (by omega) W)
  have HSF : Hid (∀ W, Below w.heap.size w W → Calls Try.prog 76 #[.slice p o.spans.length c] W fun e w' => e = .returned (.int .i64 (fitL o.spans)) ∧ Below W.heap.size W w') := fun W hb => HFS o.spans p c W (H.row.below hb) H.fit.2.2.2.2.2.2.2.2.1 (by omega) H.cap H.nil
  have HC : Hid (contE o = if o.kind = 1 then textE o.text else if o.kind = 2 ∨ o.kind = 3 then fitL o.spans else if o.seq < 1 ∨ 268435456 < o.seq then 11 else 0) := rfl
  clear H
  obtain ⟨kind, r, n, num, text, spans, seq⟩ := o
  unfold ov
  simp only at *
  generalize contE ⟨kind, r, n, num, text, spans, seq⟩ = E at HC ⊢
  generalize textE text = TE at HC HFT
  generalize fitL spans = FE at HC HSF
  generalize (⟨text.toArray⟩ : ByteArray) = bt at HFT ⊢
  by_cases k1 : kind = 1
  · subst k1
    have HE : Hid (E = TE) := by show _ = _; rw [HC.out, if_pos rfl]
    clear HC HSF
    go_enter Try.func70, Try.ntmps70
    go_wp2_with fail
    refine (HFT.out _).mono ?_
    rintro e w1 ⟨rfl, he⟩
    obtain rfl := Eq.symm he
    go_wp2
    go_ret
    exact ⟨by rw [HE.out]; rfl, below_alloc (Below.refl _ _) _⟩
  · have k1' := beq_no k1
    by_cases k2 : kind = 2 ∨ kind = 3
    · have HN := Lib.hid (names_yes kind k2)
      have HE : Hid (E = FE) := by show _ = _; rw [HC.out, if_neg k1, if_pos k2]
      clear HC HFT
      go_enter Try.func70, Try.ntmps70
      go_wp2_with fail
      refine (HN.out _).mono ?_
      rintro e w1 ⟨rfl, he⟩
      obtain rfl := Eq.symm he
      go_wp2_with fail
      refine (HSF.out _ (below_alloc (Below.refl _ _) _)).mono ?_
      rintro e w2 ⟨rfl, hb2⟩
      have HB : Hid (Below w.heap.size w w2) := below_step (below_alloc (Below.refl _ _) _) hb2
      clear hb2
      go_wp2
      go_ret
      exact ⟨by rw [HE.out]; rfl, HB.out⟩
    · have HN := Lib.hid (names_no kind (by omega) (by omega))
      have HE0 : Hid (E = if seq < 1 ∨ 268435456 < seq then 11 else 0) := by show _ = _; rw [HC.out, if_neg k1, if_neg k2]
      clear HC HFT HSF
      by_cases s1 : seq < 1
      · have HE : Hid (E = 11) := by show _ = _; rw [HE0.out, if_pos (Or.inl s1)]
        go_enter Try.func70, Try.ntmps70
        go_wp2_with fail
        refine (HN.out _).mono ?_
        rintro e w1 ⟨rfl, he⟩
        obtain rfl := Eq.symm he
        go_wp2
        go_ret
        exact ⟨by rw [HE.out]; rfl, below_alloc (Below.refl _ _) _⟩
      · by_cases s2 : 268435456 < seq
        · have HE : Hid (E = 11) := by show _ = _; rw [HE0.out, if_pos (Or.inr s2)]
          go_enter Try.func70, Try.ntmps70
          go_wp2_with fail
          refine (HN.out _).mono ?_
          rintro e w1 ⟨rfl, he⟩
          obtain rfl := Eq.symm he
          go_wp2
          go_ret
          exact ⟨by rw [HE.out]; rfl, below_alloc (Below.refl _ _) _⟩
        · have HE : Hid (E = 0) := by show _ = _; rw [HE0.out, if_neg (by rintro (a | a); exact s1 a; exact s2 a)]
          go_enter Try.func70, Try.ntmps70
          go_wp2_with fail
          refine (HN.out _).mono ?_
          rintro e w1 ⟨rfl, he⟩
          obtain rfl := Eq.symm he
          go_wp2
          go_ret
          exact ⟨by rw [HE.out]; rfl, below_alloc (Below.refl _ _) _⟩
theorem fitO_steps (o : Om) : fitO o = if o.kind < 1 ∨ 5 < o.kind then 11 else if moreO o = true then 11 else if contE o ≠ 0 then contE o else if o.kind = 1 ∨ o.kind = 3 then (if numberedO o = false then 11 else 0) else 0 := by
  unfold fitO moreO contE
  by_cases k1 : o.kind = 1
  · simp only [if_pos k1]
    rw [if_neg (show ¬ (o.kind < 1 ∨ 5 < o.kind) by omega)]
    unfold textE
    by_cases a : 0 < o.spans.length ∨ o.seq ≠ 0
    · rw [if_pos (show 0 < o.spans.length ∨ o.seq ≠ 0 ∨ o.text = [] ∨ plainB o.text = false by rcases a with a | a; exact Or.inl a; exact Or.inr (Or.inl a)), if_pos (decide_eq_true a)]
    · rw [if_neg (show ¬ decide (0 < o.spans.length ∨ o.seq ≠ 0) = true by rw [decide_eq_false a]; simp)]
      by_cases b : o.text = [] ∨ plainB o.text = false
      · rw [if_pos (show 0 < o.spans.length ∨ o.seq ≠ 0 ∨ o.text = [] ∨ plainB o.text = false from Or.inr (Or.inr b))]
        simp only [if_pos b]
        rfl
      · rw [if_neg (show ¬ (0 < o.spans.length ∨ o.seq ≠ 0 ∨ o.text = [] ∨ plainB o.text = false) by rintro (x | x | x); exact a (Or.inl x); exact a (Or.inr x); exact b x)]
        simp only [if_neg b]
        by_cases d : 64 < o.text.length
        · simp only [if_pos d]
          rfl
        · simp only [if_neg d]
          rw [if_neg (show ¬ (0 : Int) ≠ 0 by simp), if_pos (show o.kind = 1 ∨ o.kind = 3 from Or.inl k1)]
  · simp only [if_neg k1]
    by_cases k2 : o.kind = 2
    · simp only [if_pos k2, if_pos (show o.kind = 2 ∨ o.kind = 3 from Or.inl k2)]
      rw [if_neg (show ¬ (o.kind < 1 ∨ 5 < o.kind) by omega)]
      by_cases a : placelessO o = false ∨ o.text ≠ [] ∨ o.seq ≠ 0
      · rw [if_pos (by rcases a with a | a | a; exact Or.inr (Or.inr a); exact Or.inl a; exact Or.inr (Or.inl a)), if_pos (decide_eq_true a)]
      · rw [if_neg (by rintro (x | x | x); exact a (Or.inr (Or.inl x)); exact a (Or.inr (Or.inr x)); exact a (Or.inl x)), if_neg (show ¬ decide _ = true by rw [decide_eq_false a]; simp)]
        by_cases b : fitL o.spans = 0
        · rw [if_neg (show ¬ fitL o.spans ≠ 0 by simpa using b), if_neg (show ¬ (o.kind = 1 ∨ o.kind = 3) by omega), b]
        · rw [if_pos b]
    · simp only [if_neg k2]
      by_cases k3 : o.kind = 3
      · simp only [if_pos k3, if_pos (show o.kind = 2 ∨ o.kind = 3 from Or.inr k3)]
        rw [if_neg (show ¬ (o.kind < 1 ∨ 5 < o.kind) by omega)]
        by_cases a : o.text ≠ [] ∨ o.seq ≠ 0
        · rw [if_pos a, if_pos (decide_eq_true a)]
        · rw [if_neg a, if_neg (show ¬ decide _ = true by rw [decide_eq_false a]; simp)]
          by_cases b : fitL o.spans ≠ 0
          · simp only [if_pos b]
          · simp only [if_neg b]
            rw [if_pos (show o.kind = 1 ∨ o.kind = 3 from Or.inr k3)]
      · simp only [if_neg k3, if_neg (show ¬ (o.kind = 2 ∨ o.kind = 3) by omega), if_neg (show ¬ (o.kind = 1 ∨ o.kind = 3) by omega)]
        by_cases k4 : o.kind = 4 ∨ o.kind = 5
        · rw [if_pos k4, if_neg (show ¬ (o.kind < 1 ∨ 5 < o.kind) by omega)]
          by_cases a : placelessO o = false ∨ o.text ≠ [] ∨ 0 < o.spans.length
          · rw [if_pos (by rcases a with a | a | a; exact Or.inr (Or.inr (Or.inl a)); exact Or.inl a; exact Or.inr (Or.inl a)), if_pos (decide_eq_true a)]
          · rw [if_neg (show ¬ decide _ = true by rw [decide_eq_false a]; simp)]
            by_cases b : o.seq < 1 ∨ 268435456 < o.seq
            · rw [if_pos (Or.inr (Or.inr (Or.inr b)))]
              simp only [if_pos b]
              rfl
            · rw [if_neg (by rintro (x | x | x | x); exact a (Or.inr (Or.inl x)); exact a (Or.inr (Or.inr x)); exact a (Or.inl x); exact b x)]
              simp only [if_neg b]
              rfl
        · rw [if_neg k4, if_pos (show o.kind < 1 ∨ 5 < o.kind by omega)]

set_option maxHeartbeats 3200000 in
theorem fitO_of (HFS : FitSpec) : FitOSpec := by
  intro o p c w H ht hl
  have HS := Lib.hid (fitO_steps o)
  have HM := Lib.hid (fun W => more_any o p c W)
  have HC : Hid (∀ W, Below w.heap.size w W → Calls Try.prog 70 #[ov o p c] W fun e w' => e = .returned (.int .i64 (contE o)) ∧ Below W.heap.size W w') := fun W hb => content_any HFS o p c W (H.below hb) ht hl
  have HP : Hid (contE o = 0 → o.kind = 1 ∨ o.kind = 3 → ∀ W, Below w.heap.size w W → Calls Try.prog 71 #[ov o p c] W fun e w' => e = .returned (.bool (numberedO o)) ∧ Below W.heap.size W w') := fun hc hk W hb => by
    unfold contE at hc
    rcases hk with hk | hk
    · refine placed_any o p c W (H.below hb) (fun k3 => absurd (hk.symm.trans k3) (by decide)) ht hl ?_
      unfold atomsO
      rw [if_pos hk]
      rw [if_pos hk] at hc
      unfold textE at hc
      by_cases e : o.text = []
      · rw [if_pos (Or.inl e)] at hc; cases hc
      · have : o.text.length ≠ 0 := fun h => e (List.eq_nil_of_length_eq_zero h)
        omega
    · rw [if_neg (by omega), if_pos (Or.inr hk)] at hc
      obtain ⟨a1, a2, a3⟩ := fitL_ok hc
      refine placed_any o p c W (H.below hb) (fun _ => ⟨a1, by omega⟩) ht hl ?_
      have := total_pos hc
      unfold atomsO
      rw [if_neg (by omega), if_pos hk]
      omega
  have HKY := Lib.hid (makes_yes o.kind)
  have HKN := Lib.hid (makes_no o.kind)
  clear H HFS
  obtain ⟨kind, r, n, num, text, spans, seq⟩ := o
  generalize fitO ⟨kind, r, n, num, text, spans, seq⟩ = FO at HS ⊢
  generalize moreO ⟨kind, r, n, num, text, spans, seq⟩ = MO at HS HM
  generalize contE ⟨kind, r, n, num, text, spans, seq⟩ = CE at HS HC HP
  generalize numberedO ⟨kind, r, n, num, text, spans, seq⟩ = NU at HS HP
  unfold ov at HM HC HP ⊢
  simp only at HS HM HC HP HKY HKN ⊢
  generalize (⟨text.toArray⟩ : ByteArray) = bt at HM HC HP ⊢
  by_cases k1 : kind < 1
  · have HE : Hid (FO = 11) := by show _ = _; rw [HS.out, if_pos (Or.inl k1)]
    clear HS HM HC HP HKY HKN
    go_enter Try.func50, Try.ntmps50
    go_wp2
    go_ret
    exact ⟨by rw [HE.out]; rfl, below_alloc (Below.refl _ _) _⟩
  · by_cases k5 : 5 < kind
    · have HE : Hid (FO = 11) := by show _ = _; rw [HS.out, if_pos (Or.inr k5)]
      clear HS HM HC HP HKY HKN
      go_enter Try.func50, Try.ntmps50
      go_wp2
      go_ret
      exact ⟨by rw [HE.out]; rfl, below_alloc (Below.refl _ _) _⟩
    · have HS1 : Hid (FO = if MO = true then 11 else if CE ≠ 0 then CE else if kind = 1 ∨ kind = 3 then (if NU = false then 11 else 0) else 0) := by show _ = _; rw [HS.out, if_neg (by omega)]
      clear HS
      have HX : Hid ((w.alloc (.cells #[.int .i64 kind, .int .u16 r, .int .u32 n, .int .u32 num, .string bt, .slice p spans.length c, .int .u32 seq] 69)).heap[w.heap.size]? = some (.cells #[.int .i64 kind, .int .u16 r, .int .u32 n, .int .u32 num, .string bt, .slice p spans.length c, .int .u32 seq] 69 (0, 0))) := heap_alloc_new w _
      cases MO with
      | true =>
        have HE : Hid (FO = 11) := by show _ = _; rw [HS1.out, if_pos rfl]
        clear HS1 HC HP HKY HKN
        go_enter Try.func50, Try.ntmps50
        go_wp2_with fail
        refine (HM.out _).mono ?_
        rintro e w1 ⟨rfl, hb1⟩
        have HB1 : Hid (Below w.heap.size w w1) := below_step (below_alloc (Below.refl _ _) _) hb1
        clear hb1
        go_wp2
        go_ret
        exact ⟨by rw [HE.out]; rfl, HB1.out⟩
      | false =>
        have HS2 : Hid (FO = if CE ≠ 0 then CE else if kind = 1 ∨ kind = 3 then (if NU = false then 11 else 0) else 0) := by show _ = _; rw [HS1.out, if_neg (by simp)]
        clear HS1
        go_enter Try.func50, Try.ntmps50
        go_wp2_with fail
        refine (HM.out _).mono ?_
        rintro e w1 ⟨rfl, hb1⟩
        have HB1 : Hid (Below w.heap.size w w1) := below_step (below_alloc (Below.refl _ _) _) hb1
        have HX1 := Lib.hid (kept_box HX.out hb1)
        obtain ⟨d0, d1, d2, d3, d4, d5, d6⟩ := seven_cells HX1.out
        clear hb1 HX
        go_wp2_with fail
        refine (HC.out _ HB1.out).mono ?_
        rintro e w2 ⟨rfl, hb2⟩
        have HB2 : Hid (Below w.heap.size w w2) := below_step HB1.out hb2
        have HX2 := Lib.hid (kept_box HX1.out hb2)
        clear hb2 d0 d1 d2 d3 d4 d5 d6 HX1
        obtain ⟨d0, d1, d2, d3, d4, d5, d6⟩ := seven_cells HX2.out
        by_cases ce : CE = 0
        · subst ce
          have HS3 : Hid (FO = if kind = 1 ∨ kind = 3 then (if NU = false then 11 else 0) else 0) := by show _ = _; rw [HS2.out, if_neg (by simp)]
          by_cases km : kind = 1 ∨ kind = 3
          · have HPK := Lib.hid (HP.out rfl km)
            have HKY2 := Lib.hid (HKY.out km)
            have HS4 : Hid (FO = if NU = false then 11 else 0) := by show _ = _; rw [HS3.out, if_pos km]
            clear HP HKY HKN HS2 HS3
            go_wp2_with fail
            refine (HKY2.out _).mono ?_
            rintro e w3 ⟨rfl, he⟩
            obtain rfl := Eq.symm he
            go_wp2_with fail
            refine (HPK.out _ HB2.out).mono ?_
            rintro e w4 ⟨rfl, hb4⟩
            have HB4 : Hid (Below w.heap.size w w4) := below_step HB2.out hb4
            clear hb4
            cases NU with
            | true =>
              go_wp2
              go_ret
              exact ⟨by rw [HS4.out]; rfl, HB4.out⟩
            | false =>
              go_wp2
              go_ret
              exact ⟨by rw [HS4.out]; rfl, HB4.out⟩
          · have HKN2 := Lib.hid (HKN.out (by omega) (by omega))
            have HS4 : Hid (FO = 0) := by show _ = _; rw [HS3.out, if_neg km]
            clear HP HKY HKN HS2 HS3
            go_wp2_with fail
            refine (HKN2.out _).mono ?_
            rintro e w3 ⟨rfl, he⟩
            obtain rfl := Eq.symm he
            go_wp2
            go_ret
            exact ⟨by rw [HS4.out]; rfl, HB2.out⟩
        · have ce1 := beq_no ce
          have ce2 := bne_no ce
          have HS4 : Hid (FO = CE) := by show _ = _; rw [HS2.out, if_pos ce]
          go_wp2
          go_ret
          exact ⟨by rw [HS4.out]; rfl, HB2.out⟩
end Go.Proofs.Ytedlmngfkkpmgaa
/-
  What the program's ID, Key, Undoes and Atoms of layer 9 hand back. No conditions beyond what each theorem states.
-/
namespace Go.Proofs.Ytedlmngfkkpmgaa
open Go.ChangeShapes Go.WideShapes Go.ChangeAt Go.RowKit Go.Lib
set_option linter.unusedVariables false
set_option linter.unusedSimpArgs false

theorem szTI : (Try.prog.info? 38).map (·.size) = some 2 := by kernel_rfl
theorem szTK : (Try.prog.info? 41).map (·.size) = some 3 := by kernel_rfl
theorem only_two (w : World) (B : Nat) (a b : Value) : Only B w ((w.setCell ⟨B, 0, none⟩ a).setCell ⟨B, 1, none⟩ b) := (only_set w B 0 a).trans (only_set _ B 1 b)
theorem only_new {w W W' : World} {X : Nat} (hb : Below w.heap.size w W) (ho : Only X W W') (hX : w.heap.size ≤ X) : Below w.heap.size w W' := hb.trans (ho.below hb.size (fun k ek => by have ek : k = X := ek; omega))
set_option maxHeartbeats 800000 in
theorem idT_spec : IDTSpec := by
  intro t p c w
  unfold tv
  generalize t.ops.length = L
  have HX := Lib.hid (heap_alloc2_new w (.cells #[.int .u16 t.r, .int .u32 t.seq, .int .u64 t.clock, .int .i64 t.user, .slice p L c] 27) (.cells #[.int .u16 0, .int .u32 0] 38))
  go_enter Try.func11, Try.ntmps11
  go_wp2
  (try simp only [Exit.inBlock, Exit.then])
  refine bodyPost_ret (results_cell_row rfl _ _ (w.heap.size + 1) 38 #[.int .u16 t.r, .int .u32 t.seq] (0, 0) _ rfl (heap_alloc2_new w _ _) Try.underlying38 rfl szTI) rfl ?_
  exact ⟨rfl, below_alloc (below_alloc (Below.refl _ _) _) _⟩
set_option maxHeartbeats 800000 in
theorem keyT_spec : KeyTSpec := by
  intro t p c n w
  unfold tv
  generalize t.ops.length = L
  have HX := Lib.hid (heap_alloc2_new w (.cells #[.int .u16 t.r, .int .u32 t.seq, .int .u64 t.clock, .int .i64 t.user, .slice p L c] 27) (.cells #[.int .u64 0, .int .u16 0, .int .u32 0] 41))
  go_enter Try.func12, Try.ntmps12
  go_wp2
  (try simp only [Exit.inBlock, Exit.then])
  refine bodyPost_ret (results_cell_row rfl _ _ (w.heap.size + 1) 41 #[.int .u64 t.clock, .int .u16 t.r, .int .u32 n] (0, 0) _ rfl (heap_alloc2_new w _ _) Try.underlying41 rfl szTK) rfl ?_
  exact ⟨rfl, below_alloc (below_alloc (Below.refl _ _) _) _⟩
set_option maxHeartbeats 6400000 in
set_option maxRecDepth 20000 in
theorem atomsT_any (t : Tm) (xs : List OV) (p : Option Addr) (c : Nat) (w : World) (H : InT t xs p c w) (hs : SmallX xs) (h0 : fitT t = 0) :
    Calls Try.prog 14 #[tv t p c] w fun e w' => e = .returned (.int .i64 (atomsL t.ops)) ∧ Below w.heap.size w w' := by
  have hlen : t.ops.length = xs.length := by rw [H.ops, List.length_map]
  have HR := Lib.hid H.row.row
  have HDR : Hid (∀ k, k < xs.length → t.ops.drop k = (xs.getD k ov0).1 :: t.ops.drop (k + 1)) := fun k hk => drop_ops H.ops hk
  have HFI : Hid (∀ k, k < xs.length → FitOm (xs.getD k ov0).1) := fun k hk => (H.row.at hk).fit
  have HTV : Hid (∀ p c, tv t p c = .agg #[.int .u16 t.r, .int .u32 t.seq, .int .u64 t.clock, .int .i64 t.user, .slice p xs.length c]) := fun p c => by unfold tv; rw [hlen]
  have HOK := fitOs_ok t.ops (-1) (fitT_ok h0).2.2.2.2.2.2.2.2
  have hl16 : xs.length ≤ 16 := by have := (fitT_ok h0).2.2.2.2.2.2.2.1; omega
  have HFO : Hid (∀ k, k < xs.length → fitO (xs.getD k ov0).1 = 0) := fun k hk => (HOK _ (by rw [H.ops]; exact List.mem_map.2 ⟨_, getD_mem ov0 hk, rfl⟩)).1
  have HAT : Hid (∀ k, k < xs.length → ∀ W, Below w.heap.size w W → Calls Try.prog 32 #[ov (xs.getD k ov0).1 (xs.getD k ov0).2.1 (xs.getD k ov0).2.2] W fun e w' => e = .returned (.int .i64 (atomsO (xs.getD k ov0).1)) ∧ Below W.heap.size W w') := fun k hk W hb => atoms_spec _ _ _ W ((H.row.at hk).below hb) (hs.at hk).1 (hs.at hk).2 (HFO.out k hk)
  have HTK : Hid (∀ k, k < xs.length → atomsL (t.ops.take (k + 1)) = atomsL (t.ops.take k) + atomsO (xs.getD k ov0).1) := fun k hk => by
    have hk' : k < t.ops.length := by omega
    rw [take_getD o0 hk', atomsL_append, H.ops, getD_map1 xs hk, atomsL_cons, atomsL_nil, Int.add_zero]
  have HRG : Hid (∀ k, k ≤ xs.length → 0 ≤ atomsL (t.ops.take k) ∧ atomsL (t.ops.take k) ≤ k * 1024) := fun k => by
    induction k with
    | zero => intro _; rw [List.take_zero, atomsL_nil]; exact ⟨Int.le_refl _, by omega⟩
    | succ k ih =>
      intro hk
      have i := ih (by omega)
      have r := atoms_range (HFO.out k (by omega)) (HFI.out k (by omega))
      rw [HTK.out k (by omega)]
      omega
  clear H HOK h0
  rw [HTV.out]
  go_enter Try.func14, Try.ntmps14
  go_wp2
  have HX := Lib.hid (heap_alloc_new w (.cells #[.int .u16 t.r, .int .u32 t.seq, .int .u64 t.clock, .int .i64 t.user, .slice p xs.length c] 27))
  go_loopg [3, 9] xs.length (fun g a i wr => ∃ k : Nat, k ≤ xs.length ∧ xs.length - k ≤ g ∧ i = .int .i64 (k : Int) ∧ a = .int .i64 (atomsL (t.ops.take k)) ∧ Below (w.alloc (.cells #[.int .u16 t.r, .int .u32 t.seq, .int .u64 t.clock, .int .i64 t.user, .slice p xs.length c] 27)).heap.size (w.alloc (.cells #[.int .u16 t.r, .int .u32 t.seq, .int .u64 t.clock, .int .i64 t.user, .slice p xs.length c] 27)) wr)
  case atStart => exact ⟨0, Nat.zero_le _, by omega, rfl, by rw [List.take_zero, atomsL_nil], Below.refl _ _⟩
  case round =>
    obtain ⟨k, hk, hg, rfl, rfl, hB⟩ := hrel
    have HB := Lib.hid hB
    have HBW : Hid (Below w.heap.size w wr) := below_step (below_alloc (Below.refl _ _) _) HB.out
    obtain ⟨z0, z1, z2, z3, z4⟩ := five_cells (kept_box HX.out HB.out)
    clear hB
    have hrg := HRG.out k hk
    by_cases hlt : k < xs.length
    · have hkl : (k : Int) < (xs.length : Int) := by omega
      have HTKk := Lib.hid (HTK.out k hlt)
      have HATk := Lib.hid (fun (A : Obj) => HAT.out k hlt (wr.alloc A) (below_alloc HBW.out A))
      have hrk := atoms_range (HFO.out k hlt) (HFI.out k hlt)
      obtain ⟨b, o, rfl, c0, c1, c2, c3, c4, c5, c6⟩ := orow_at (HR.out.below HBW.out) hlt
      generalize atomsL (t.ops.take k) = A at HTKk hrg
      generalize xs.getD k ov0 = x at c0 c1 c2 c3 c4 c5 c6 HTKk HATk hrk
      obtain ⟨om, px, cx⟩ := x
      simp only at c0 c1 c2 c3 c4 c5 c6 HTKk HATk hrk
      have HOM : Hid (∀ p c, ov om p c = .agg #[.int .i64 om.kind, .int .u16 om.r, .int .u32 om.n, .int .u32 om.num, .string ⟨om.text.toArray⟩, .slice p om.spans.length c, .int .u32 om.seq]) := fun p c => rfl
      rw [HOM.out] at HATk
      generalize (⟨om.text.toArray⟩ : ByteArray) = bt at c4 HATk HOM
      have hw : IntKind.i64.wrap (A + atomsO om) = A + atomsO om := by rw [IntKind.wrap_i64]; omega
      generalize atomsO om = AO at HTKk HATk hrk hw
      go_wp2_with fail
      refine (HATk.out _).mono ?_
      rintro e w1 ⟨rfl, hb1⟩
      have HB1 := Lib.hid (below_step (below_alloc HB.out _) hb1)
      clear hb1
      go_wp2
      go_roundg (xs.length - (k + 1))
      case measure => omega
      case rel => exact ⟨k + 1, by omega, Nat.le_refl _, by go_num, by rw [HTKk.out], HB1.out⟩
    · have : k = xs.length := by omega
      subst this
      have hkl : ¬ (xs.length : Int) < (xs.length : Int) := by omega
      have HLA : Hid (t.ops.take xs.length = t.ops) := by show _ = _; rw [← hlen, List.take_length]
      rw [HLA.out]
      go_wp2
      go_ret
      exact ⟨rfl, HBW.out⟩

theorem atomsT_spec : AtomsTSpec := fun t xs p c w H hs h0 => atomsT_any t xs p c w H hs h0
end Go.Proofs.Ytedlmngfkkpmgaa
