/-
  What the document's own Read hands back, for every text of at most 200 bytes: whether the text ahead of its first colon and the text behind it both show numbers that may be, and then those numbers. No other conditions.
-/
import Derived.Test.YthkkbfkbgpkbmaaDoorNumber
import Derived.Lib.Split
import Derived.Lib.IndexBytes
namespace Go.Proofs.YthkkbfkbgpkbmaaDoor
open Go.ChangeShapes Go.WideShapes Go.ChangeAt Go.RowKit Go.Sort
set_option linter.unusedVariables false
set_option linter.unusedSimpArgs false

def pre (l : List UInt8) : List UInt8 := l.takeWhile (fun c => c != 58)
def post (l : List UInt8) : List UInt8 := (l.dropWhile (fun c => c != 58)).drop 1
def has (l : List UInt8) : Bool := l.any (fun c => c == 58)
theorem parts (a b : List UInt8) (h : ∀ c ∈ a, c ≠ 58) : pre (a ++ 58 :: b) = a ∧ post (a ++ 58 :: b) = b ∧ has (a ++ 58 :: b) = true := by
  induction a with
  | nil => simp [pre, post, has]
  | cons c a ih =>
    have hc : (c != 58) = true := by simpa using h c (by simp)
    obtain ⟨h1, h2, h3⟩ := ih (fun x hx => h x (by simp [hx]))
    refine ⟨?_, ?_, ?_⟩
    · simp only [pre, List.cons_append, List.takeWhile_cons, hc, if_true]
      exact congrArg _ h1
    · simp only [post, List.cons_append, List.dropWhile_cons, hc, if_true]
      exact h2
    · simp only [has, List.cons_append, List.any_cons]
      simp only [has] at h3
      simp [h3]

def refB (l : List UInt8) : Bool := has l && ((numB (pre l) && decide (numV (pre l) ≤ 65535)) && (numB (post l) && decide (numV (post l) ≤ 4294967295)))

theorem extract_to (s : ByteArray) (k : Nat) : (s.extract k s.size).data.toList = s.data.toList.drop k := Lib.extract_to_end s k

theorem fin_both (l a b : List UInt8) (hp : pre l = a ∧ post l = b ∧ has l = true) {v1 v2 : Nat} {b1 b2 : Bool} (h1 : v1 = numV a ∧ b1 = (numB a && decide (numV a ≤ 65535))) (h2 : v2 = numV b ∧ b2 = (numB b && decide (numV b ≤ 4294967295))) :
    (b1 && b2) = refB l ∧ ((b1 && b2) = true → IntKind.u16.wrap (v1 : Int) = (numV (pre l) : Int) ∧ (v2 : Int) % 4294967296 = (numV (post l) : Int)) := by
  obtain ⟨e1, e2, e3⟩ := hp
  obtain ⟨f1, f2⟩ := h1
  obtain ⟨g1, g2⟩ := h2
  constructor
  · rw [refB, e1, e2, e3, f2, g2]; simp
  · intro h
    rw [f2, g2] at h
    simp only [Bool.and_eq_true, decide_eq_true_eq] at h
    rw [e1, e2, f1, g1, IntKind.wrap_u16]
    omega

/-- What the document's Read leaves. -/
def RefPost (l : List UInt8) (w : World) (e : Ending) (w' : World) : Prop :=
  ∃ (x y : Int) (b : Bool), e = .returned (.tuple #[.agg #[.int .u16 x, .int .u32 y], .bool b]) ∧ (b = refB l ∧ (b = true → x = numV (pre l) ∧ y = numV (post l))) ∧ Below w.heap.size w w'

theorem number_some (s : ByteArray) (most : Nat) (hs : s.size ≤ 200) (w : World) :
    Calls Tryd.prog 15 #[.string s, .int .u64 most] w fun e w' => ∃ (v : Nat) (b : Bool), e = .returned (.tuple #[.int .u64 v, .bool b]) ∧ w = w' ∧ Hid (v = numV s.data.toList ∧ b = (numB s.data.toList && decide (numV s.data.toList ≤ most))) :=
  (number_any s most hs w).mono fun e w' ⟨h1, h2⟩ => ⟨_, _, h1, h2.symm, rfl, rfl⟩

set_option maxHeartbeats 1600000 in
set_option maxRecDepth 100000 in
theorem refread_any (s : ByteArray) (hs : s.size ≤ 200) (w : World) :
    Calls Tryd.prog 8 #[.string s] w fun e w' => RefPost s.data.toList w e w' := by
  have el : s.data.toList.length = s.size := by simp
  have hs' : (s.size : Int) ≤ 200 := by omega
  go_enter Tryd.func8, Tryd.ntmps8
  go_wp2
  go_loop [4] (fun i => ∃ k : Nat, k ≤ s.size ∧ i = .int .i64 k ∧ ∀ c ∈ s.data.toList.take k, c ≠ 58) (fun i => s.size - (intOf i).toNat)
  case atStart => exact ⟨0, Nat.zero_le _, rfl, by simp⟩
  case round =>
    obtain ⟨k, hk, rfl, hd⟩ := hrel
    have HD : Hid (∀ c ∈ s.data.toList.take k, c ≠ 58) := hd
    clear hd
    by_cases hlt : k < s.size
    · have HS : Hid (s.data.toList.take (k + 1) = s.data.toList.take k ++ [s[k]]) := take_snoc s k hlt
      by_cases hc : s[k] = 58
      · have hc1 : ((s[k].toNat : Int) == 58) = true := by rw [hc]; rfl
        have HP : Hid (pre s.data.toList = s.data.toList.take k ∧ post s.data.toList = s.data.toList.drop (k + 1) ∧ has s.data.toList = true) := by
          have e : s.data.toList = s.data.toList.take k ++ 58 :: s.data.toList.drop (k + 1) := by
            have e1 : s.data.toList.take (k + 1) ++ s.data.toList.drop (k + 1) = s.data.toList := List.take_append_drop _ _
            rw [HS.out, hc, List.append_assoc] at e1
            exact e1.symm
          have := parts (s.data.toList.take k) (s.data.toList.drop (k + 1)) HD.out
          rw [← e] at this
          exact this
        have z1 : (s.extract 0 k).size ≤ 200 := by simp; omega
        have z2 : (s.extract (k + 1) s.size).size ≤ 200 := by simp; omega
        clear hc
        go_wp2_with fail
        refine (number_some _ 65535 z1 _).mono ?_
        rintro e w3 ⟨v1, b1, rfl, rfl, hv1⟩
        go_wp2_with fail
        refine (number_some _ 4294967295 z2 _).mono ?_
        rintro e w4 ⟨v2, b2, rfl, rfl, hv2⟩
        have HV : Hid ((b1 && b2) = refB s.data.toList ∧ ((b1 && b2) = true → IntKind.u16.wrap (v1 : Int) = (numV (pre s.data.toList) : Int) ∧ (v2 : Int) % 4294967296 = (numV (post s.data.toList) : Int))) := by
          have e1 : (s.extract 0 k).data.toList = s.data.toList.take k := Lib.extract_from_zero s k
          have e2 : (s.extract (k + 1) s.size).data.toList = s.data.toList.drop (k + 1) := extract_to s (k + 1)
          have q1 := hv1.out
          have q2 := hv2.out
          rw [e1] at q1
          rw [e2] at q2
          exact fin_both _ _ _ HP.out q1 q2
        clear hv1 hv2
        cases b1
        · go_wp2_with fail
          exact bodyPost_ret (v := .tuple #[.agg #[.int .u16 (IntKind.u16.wrap (v1 : Int)), .int .u32 ((v2 : Int) % 4294967296)], .bool false]) (by simp [results, Tryd.results8, go_sem]) rfl
            ⟨_, _, false, rfl, ⟨by have := HV.out.1; simpa using this, by simp⟩, (Below.refl _ _).alloc (Nat.le_refl _) _⟩
        · go_wp2_with fail
          exact bodyPost_ret (v := .tuple #[.agg #[.int .u16 (IntKind.u16.wrap (v1 : Int)), .int .u32 ((v2 : Int) % 4294967296)], .bool b2]) (by simp [results, Tryd.results8, go_sem]) rfl
            ⟨_, _, b2, rfl, ⟨by have := HV.out.1; simpa using this, by have := HV.out.2; simpa using this⟩, (Below.refl _ _).alloc (Nat.le_refl _) _⟩
      · have hc1 : ((s[k].toNat : Int) == 58) = false := by
          simp only [beq_eq_false_iff_ne, ne_eq]
          intro e
          apply hc
          apply UInt8.toNat_inj.1
          have e2 : s[k].toNat = 58 := by omega
          rw [e2]; rfl
        have HC : Hid (s[k] ≠ 58) := hc
        clear hc
        go_wp2
        go_round
        case rel =>
          refine ⟨k + 1, by omega, by go_num, ?_⟩
          intro c h
          rw [HS.out, List.mem_append] at h
          rcases h with h | h
          · exact HD.out c h
          · simp at h; rw [h]; exact HC.out
        case measure => simp [intOf]; omega
    · have HH : Hid (has s.data.toList = false) := by
        have hkk : s.data.toList.take k = s.data.toList := List.take_of_length_le (by simp; omega)
        have := HD.out
        rw [hkk] at this
        show has s.data.toList = false
        simp only [has, List.any_eq_false, beq_iff_eq]
        exact this
      go_wp2
      exact bodyPost_ret (v := .tuple #[.agg #[.int .u16 0, .int .u32 0], .bool false]) (by simp [results, Tryd.results8, go_sem]) rfl
        ⟨0, 0, false, rfl, ⟨by simp [refB, HH.out], by simp⟩, (Below.refl _ _).alloc (Nat.le_refl _) _⟩

end Go.Proofs.YthkkbfkbgpkbmaaDoor
