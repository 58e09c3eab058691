/-
  What Tick, Later and the two Plus calls hand back, for every argument of their types: Later, for a slice of any length that lies in memory. No conditions but that each number fits its kind.
-/
import Derived.Test.YthkkbfkbgpkbmaaWalks
import Derived.WalkSpells
import Derived.WalkLawsBesides
namespace Go.Proofs.Ythkkbfkbgpkbmaa
open Go.ChangeShapes Go.WideShapes Go.ChangeAt Go.RowKit Go.Sort
set_option linter.unusedVariables false
set_option linter.unusedSimpArgs false

def max2 (a b : Int) : Int := if a < b then b else a
theorem max2_le (a b : Int) : a ≤ max2 a b ∧ b ≤ max2 a b := by unfold max2; split <;> omega
theorem max2_or (a b : Int) : max2 a b = a ∨ max2 a b = b := by unfold max2; split <;> simp
/-- The greatest of all. -/
def laterI (c : Int) (l : List Int) : Int := l.foldl max2 c

theorem laterI_snoc (c : Int) (l : List Int) (x : Int) : laterI c (l ++ [x]) = max2 (laterI c l) x := by
  simp [laterI, List.foldl_append]
theorem laterI_cons (c : Int) (l : List Int) (x : Int) : laterI c (x :: l) = laterI (max2 c x) l := rfl

theorem laterI_ge (c : Int) (l : List Int) : c ≤ laterI c l := by
  induction l generalizing c with
  | nil => simp [laterI]
  | cons x l ih =>
    rw [laterI_cons]
    have := ih (max2 c x)
    have := max2_le c x
    omega

theorem laterI_all (c : Int) (l : List Int) (y : Int) (h : y ∈ l) : y ≤ laterI c l := by
  induction l generalizing c with
  | nil => cases h
  | cons x l ih =>
    rw [laterI_cons]
    rcases List.mem_cons.1 h with rfl | h
    · have := laterI_ge (max2 c y) l
      have := max2_le c y
      omega
    · exact ih _ h

theorem laterI_mem (c : Int) (l : List Int) : laterI c l = c ∨ laterI c l ∈ l := by
  induction l generalizing c with
  | nil => exact Or.inl rfl
  | cons x l ih =>
    rw [laterI_cons]
    rcases ih (max2 c x) with h | h
    · rw [h]
      rcases max2_or c x with e | e
      · exact Or.inl e
      · exact Or.inr (by rw [e]; simp)
    · exact Or.inr (List.mem_cons_of_mem _ h)

theorem take_snoc_getD (zs : List Int) (k : Nat) (h : k < zs.length) : zs.take (k + 1) = zs.take k ++ [zs.getD k 0] := by
  rw [List.take_succ_eq_append_getElem h, List.getD_eq_getElem?_getD, List.getElem?_eq_getElem h]
  rfl

def tickE (c : Int) : Int := if 1099511627776 ≤ c then 20 else 0
def tickN (c : Int) : Int := if 1099511627776 ≤ c then 0 else c + 1

set_option maxHeartbeats 400000 in
theorem tick_any (c : Int) (w : World) (h0 : 0 ≤ c) :
    Calls Try.prog 13 #[.int .u64 c] w fun e w' => e = .returned (.tuple #[.int .u64 (tickN c), .int .i64 (tickE c)]) ∧ w' = w := by
  unfold tickN tickE
  by_cases h : 1099511627776 ≤ c
  · rw [if_pos h, if_pos h]
    go_enter Try.func13, Try.ntmps13
    go_wp2
    go_ret2
    exact ⟨rfl, rfl⟩
  · rw [if_neg h, if_neg h]
    go_enter Try.func13, Try.ntmps13
    go_wp2
    go_ret2
    exact ⟨rfl, rfl⟩

set_option maxHeartbeats 400000 in
theorem later_any (c : Int) (b off len cap : Nat) (zs : List Int) (w : World) (hz : len ≤ zs.length) (hbig : len ≤ 9223372036854775807)
    (hc : ∀ j, j < zs.length → w.cell? ⟨b, off + j, none⟩ = some (.int .u64 (zs.getD j 0))) :
    Calls Try.prog 14 #[.int .u64 c, .slice (some ⟨b, off, none⟩) len cap] w fun e w' => e = .returned (.int .u64 (laterI c (zs.take len))) ∧ w' = w := by
  go_enter Try.func14, Try.ntmps14
  go_wp2
  go_loop [0, 9] (fun t i => ∃ k : Nat, k ≤ len ∧ i = .int .i64 k ∧ t = .int .u64 (laterI c (zs.take k))) (fun _ i => len - (intOf i).toNat)
  case atStart => exact ⟨0, Nat.zero_le _, rfl, rfl⟩
  case round =>
    obtain ⟨k, hk, rfl, rfl⟩ := hrel
    by_cases hlt : k < len
    · have hcell : w.cell? ⟨b, off + k, none⟩ = some (.int .u64 (zs.getD k 0)) := hc k (by omega)
      have HS : Hid (laterI c (zs.take (k + 1)) = max2 (laterI c (zs.take k)) (zs.getD k 0)) := by
        have := laterI_snoc c (zs.take k) (zs.getD k 0)
        rw [← take_snoc_getD zs k (by omega)] at this
        exact this
      clear hc
      go_wp2
      go_round
      case rel => exact ⟨k + 1, by omega, by go_num, by rw [HS.out]; simp [max2, List.getD_eq_getElem?_getD]⟩
      case measure => simp [intOf]; omega
    · go_wp2
      have : k = len := by omega
      subst this
      go_ret
      exact ⟨rfl, rfl⟩

set_option maxHeartbeats 400000 in
theorem later_none (c : Int) (a : Option Addr) (cap : Nat) (w : World) :
    Calls Try.prog 14 #[.int .u64 c, .slice a 0 cap] w fun e w' => e = .returned (.int .u64 c) ∧ w' = w := by
  go_enter Try.func14, Try.ntmps14
  go_wp2
  go_loop [0, 9] (fun t i => i = .int .i64 0 ∧ t = .int .u64 c) (fun _ i => 0)
  case atStart => exact ⟨rfl, rfl⟩
  case round =>
    obtain ⟨rfl, rfl⟩ := hrel
    go_wp2
    go_ret
    exact ⟨rfl, rfl⟩

set_option maxHeartbeats 400000 in
theorem idplus_any (r n k : Int) (w : World) (h1 : 0 ≤ n) (h2 : 0 ≤ k) (h3 : n + k ≤ 4294967295) :
    Calls Try.prog 16 #[.agg #[.int .u16 r, .int .u32 n], .int .i64 k] w fun e w' => e = .returned (.agg #[.int .u16 r, .int .u32 (n + k)]) ∧ Below w.heap.size w w' := by
  go_enter Try.func16, Try.ntmps16
  go_wp2
  exact bodyPost_ret (v := .agg #[.int .u16 r, .int .u32 (n + k)]) (by simp [results, Try.results16, go_sem]) rfl ⟨rfl, ((Below.refl _ _).alloc (Nat.le_refl _) _).alloc (by simp) _⟩

set_option maxHeartbeats 400000 in
theorem keyplus_any (c r n k : Int) (w : World) (h1 : 0 ≤ n) (h2 : 0 ≤ k) (h3 : n + k ≤ 4294967295) :
    Calls Try.prog 17 #[.agg #[.int .u64 c, .int .u16 r, .int .u32 n], .int .i64 k] w fun e w' => e = .returned (.agg #[.int .u64 c, .int .u16 r, .int .u32 (n + k)]) ∧ Below w.heap.size w w' := by
  go_enter Try.func17, Try.ntmps17
  go_wp2
  exact bodyPost_ret (v := .agg #[.int .u64 c, .int .u16 r, .int .u32 (n + k)]) (by simp [results, Try.results17, go_sem]) rfl ⟨rfl, ((Below.refl _ _).alloc (Nat.le_refl _) _).alloc (by simp) _⟩

end Go.Proofs.Ythkkbfkbgpkbmaa
