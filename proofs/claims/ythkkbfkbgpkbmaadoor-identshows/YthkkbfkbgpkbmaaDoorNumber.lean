/-
  What the document's own Number hands back, for every text of at most 200 bytes and every bound: the number that the text shows, and whether it is at most the bound; or nought and false. No other conditions.
-/
import Derived.Test.YthkkbfkbgpkbmaaDoorFormat
namespace Go.Proofs.YthkkbfkbgpkbmaaDoor
open Go.ChangeShapes Go.WideShapes Go.ChangeAt Go.RowKit Go.Sort
set_option linter.unusedVariables false
set_option linter.unusedSimpArgs false

def isD (c : UInt8) : Bool := decide (48 ≤ c.toNat ∧ c.toNat ≤ 57)
def val (l : List UInt8) : Nat := l.foldl (fun a c => 10 * a + (c.toNat - 48)) 0
theorem val_snoc (l : List UInt8) (c : UInt8) : val (l ++ [c]) = 10 * val l + (c.toNat - 48) := by simp [val, List.foldl_append]
theorem val_acc (l : List UInt8) (a : Nat) (h : ∀ c ∈ l, isD c = true) : l.foldl (fun a c => 10 * a + (c.toNat - 48)) a < (a + 1) * 10 ^ l.length := by
  induction l generalizing a with
  | nil => simp
  | cons c l ih =>
    simp only [List.foldl_cons, List.length_cons]
    have h1 := h c (by simp)
    simp only [isD, decide_eq_true_eq] at h1
    have h2 := ih (10 * a + (c.toNat - 48)) (fun x hx => h x (by simp [hx]))
    have h3 : (10 * a + (c.toNat - 48) + 1) * 10 ^ l.length ≤ ((a + 1) * 10) * 10 ^ l.length := Nat.mul_le_mul_right _ (by omega)
    have h4 : (a + 1) * 10 ^ (l.length + 1) = ((a + 1) * 10) * 10 ^ l.length := by rw [Nat.pow_succ, Nat.mul_assoc, Nat.mul_comm 10]
    omega
theorem val_lt (l : List UInt8) (h : ∀ c ∈ l, isD c = true) : val l < 10 ^ l.length := by
  have := val_acc l 0 h
  simpa [val] using this
theorem val_small (l : List UInt8) (h : ∀ c ∈ l, isD c = true) (hl : l.length ≤ 15) : val l < 1000000000000000 := by
  have h1 := val_lt l h
  have h2 : 10 ^ l.length ≤ 10 ^ 15 := Nat.pow_le_pow_right (by omega) hl
  have h3 : (10 : Nat) ^ 15 = 1000000000000000 := by decide
  omega

/-- The text shows a number: from one to fifteen digits, none of them a nought ahead of others. -/
def numB (l : List UInt8) : Bool := decide (1 ≤ l.length) && decide (l.length ≤ 15) && !(decide (1 < l.length) && (l.headD 0 == 48)) && l.all isD
def numV (l : List UInt8) : Nat := if numB l = true then val l else 0

theorem take_snoc (s : ByteArray) (k : Nat) (h : k < s.size) : s.data.toList.take (k + 1) = s.data.toList.take k ++ [s[k]] := by
  rw [List.take_succ_eq_append_getElem (by simpa using h)]; rfl
theorem head_is (s : ByteArray) (h : 0 < s.size) : s.data.toList.headD 0 = s[0] := by
  have hl : 0 < s.data.toList.length := by simpa using h
  rw [List.headD_eq_head?_getD, List.head?_eq_getElem?, List.getElem?_eq_getElem hl]
  rfl

theorem ret_pair {a b : Nat} {c d : Bool} (h : a = b) (k : c = d) : Ending.returned (.tuple #[.int .u64 (a : Int), .bool c]) = .returned (.tuple #[.int .u64 (b : Int), .bool d]) := by rw [h, k]

set_option maxHeartbeats 1600000 in
set_option maxRecDepth 100000 in
theorem number_loop (s : ByteArray) (most : Nat) (h1 : 1 ≤ s.size) (h2 : s.size ≤ 15) (h3 : ¬ (1 < s.size ∧ s[0] = 48)) (h4 : decide (1 < (s.size : Int)) = true ∨ decide (1 < (s.size : Int)) = false) (w : World) :
    Calls Tryd.prog 15 #[.string s, .int .u64 most] w fun e w' => e = .returned (.tuple #[.int .u64 (numV s.data.toList), .bool (numB s.data.toList && decide (numV s.data.toList ≤ most))]) ∧ w' = w := by
  have el : s.data.toList.length = s.size := by simp
  have HN : Hid (numB s.data.toList = s.data.toList.all isD) := by
    have e1 : (decide (1 < s.size) && (s[0] == 48)) = false := by
      by_cases hh : 1 < s.size
      · have : ¬ s[0] = 48 := fun e => h3 ⟨hh, e⟩
        simp [this]
      · simp [hh]
    show numB s.data.toList = s.data.toList.all isD
    simp only [numB, el, head_is s (by omega), e1]
    simp [h1, h2]
  have g1 : (1 : Int) ≤ (s.size : Int) := by omega
  have g2 : (s.size : Int) ≤ 15 := by omega
  have g4 : 1 < s.size → ((s[0].toNat : Int) == 48) = false := fun hh => by
    have : ¬ s[0] = 48 := fun e => h3 ⟨hh, e⟩
    simp only [beq_eq_false_iff_ne, ne_eq]
    intro e
    apply this
    apply UInt8.toNat_inj.1
    have e2 : s[0].toNat = 48 := by omega
    rw [e2]; rfl
  clear h3
  rcases h4 with h4 | h4
  all_goals
    first
      | (have g5 := g4 (by have := of_decide_eq_true h4; omega); clear g4)
      | clear g4
    go_enter Tryd.func15, Tryd.ntmps15
    go_wp2
    go_loop [6, 7] (fun n i => ∃ k : Nat, k ≤ s.size ∧ i = .int .i64 k ∧ n = .int .u64 (val (s.data.toList.take k)) ∧ ∀ c ∈ s.data.toList.take k, isD c = true) (fun _ i => s.size - (intOf i).toNat)
    case atStart => exact ⟨0, Nat.zero_le _, rfl, rfl, by simp⟩
    case round =>
      obtain ⟨k, hk, rfl, rfl, hd⟩ := hrel
      have hv := val_small (s.data.toList.take k) hd (by simp; omega)
      have HD : Hid (∀ c ∈ s.data.toList.take k, isD c = true) := hd
      clear hd
      by_cases hlt : k < s.size
      · have HS : Hid (s.data.toList.take (k + 1) = s.data.toList.take k ++ [s[k]]) := take_snoc s k hlt
        by_cases hd1 : 48 ≤ (s[k].toNat : Int)
        · by_cases hd2 : (s[k].toNat : Int) ≤ 57
          · have HI : Hid (isD s[k] = true) := by
              show isD s[k] = true
              simp only [isD, decide_eq_true_eq]
              omega
            go_wp2
            go_round
            case rel =>
              refine ⟨k + 1, by omega, by go_num, ?_, ?_⟩
              · rw [HS.out, val_snoc]
                congr 1
                omega
              · intro c hc
                rw [HS.out, List.mem_append] at hc
                rcases hc with hc | hc
                · exact HD.out c hc
                · simp at hc; rw [hc]; exact HI.out
            case measure => simp [intOf]; omega
          · have HI : Hid (s.data.toList.all isD = false) := by
              show s.data.toList.all isD = false
              rw [Bool.eq_false_iff]
              intro hall
              rw [List.all_eq_true] at hall
              have := hall s[k] (by
                have : s[k] ∈ s.data.toList.take (k + 1) := by rw [HS.out]; simp
                exact List.mem_of_mem_take this)
              simp only [isD, decide_eq_true_eq] at this
              omega
            go_wp2
            go_ret2
            exact ⟨ret_pair (a := 0) (c := false) (by simp [numV, HN.out, HI.out]) (by simp [HN.out, HI.out]), rfl⟩
        · have HI : Hid (s.data.toList.all isD = false) := by
            show s.data.toList.all isD = false
            rw [Bool.eq_false_iff]
            intro hall
            rw [List.all_eq_true] at hall
            have := hall s[k] (by
              have : s[k] ∈ s.data.toList.take (k + 1) := by rw [HS.out]; simp
              exact List.mem_of_mem_take this)
            simp only [isD, decide_eq_true_eq] at this
            omega
          go_wp2
          go_ret2
          exact ⟨ret_pair (a := 0) (c := false) (by simp [numV, HN.out, HI.out]) (by simp [HN.out, HI.out]), rfl⟩
      · have hkk : s.data.toList.take k = s.data.toList := List.take_of_length_le (by simp; omega)
        have HI : Hid (s.data.toList.all isD = true) := by
          show s.data.toList.all isD = true
          rw [List.all_eq_true]
          have := HD.out
          rw [hkk] at this
          exact this
        have HK : Hid (s.data.toList.take k = s.data.toList) := hkk
        clear hkk
        go_wp2
        go_ret2
        exact ⟨ret_pair (by rw [HK.out]; simp [numV, HN.out, HI.out]) (by rw [HK.out]; simp [numV, HN.out, HI.out]), rfl⟩

set_option maxHeartbeats 1600000 in
set_option maxRecDepth 100000 in
theorem number_any (s : ByteArray) (most : Nat) (hs : s.size ≤ 200) (w : World) :
    Calls Tryd.prog 15 #[.string s, .int .u64 most] w fun e w' => e = .returned (.tuple #[.int .u64 (numV s.data.toList), .bool (numB s.data.toList && decide (numV s.data.toList ≤ most))]) ∧ w' = w := by
  have el : s.data.toList.length = s.size := by simp
  by_cases h1 : 1 ≤ s.size
  · by_cases h2 : s.size ≤ 15
    · by_cases h3 : 1 < s.size ∧ s[0] = 48
      · have HV : Hid (numB s.data.toList = false) := by
          show numB s.data.toList = false
          simp only [numB, el, head_is s (by omega)]
          simp [h3.1, h3.2]
        have g1 : (1 : Int) ≤ (s.size : Int) := by omega
        have g2 : (s.size : Int) ≤ 15 := by omega
        have g3 : (1 : Int) < (s.size : Int) := by omega
        have g4 : ((s[0].toNat : Int) == 48) = true := by rw [h3.2]; rfl
        go_enter Tryd.func15, Tryd.ntmps15
        go_wp2
        go_ret2
        exact ⟨ret_pair (a := 0) (c := false) (by simp [numV, HV.out]) (by simp [HV.out]), rfl⟩
      · exact number_loop s most h1 h2 h3 (by cases decide (1 < (s.size : Int)) <;> simp) w
    · have HV : Hid (numB s.data.toList = false) := by
        show numB s.data.toList = false
        simp only [numB, el]
        simp [h2]
      have g1 : (1 : Int) ≤ (s.size : Int) := by omega
      have g2 : ¬ (s.size : Int) ≤ 15 := by omega
      go_enter Tryd.func15, Tryd.ntmps15
      go_wp2
      go_ret2
      exact ⟨ret_pair (a := 0) (c := false) (by simp [numV, HV.out]) (by simp [HV.out]), rfl⟩
  · have HV : Hid (numB s.data.toList = false) := by
      show numB s.data.toList = false
      simp only [numB, el]
      simp [h1]
    have g1 : ¬ (1 : Int) ≤ (s.size : Int) := by omega
    go_enter Tryd.func15, Tryd.ntmps15
    go_wp2
    go_ret2
    exact ⟨ret_pair (a := 0) (c := false) (by simp [numV, HV.out]) (by simp [HV.out]), rfl⟩

end Go.Proofs.YthkkbfkbgpkbmaaDoor
