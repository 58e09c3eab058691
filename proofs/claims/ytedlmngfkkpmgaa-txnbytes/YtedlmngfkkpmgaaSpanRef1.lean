
/-
  What the document's Right, meet, Has of layer 7 hand back. No conditions beyond what each theorem states.
-/
import Derived.Test.YtedlmngfkkpmgaaSpanMath
namespace Go.Proofs.Ytedlmngfkkpmgaa
open Go.ChangeShapes Go.WideShapes Go.ChangeAt Go.RowKit Go.Lib
set_option linter.unusedVariables false
set_option linter.unusedSimpArgs false

theorem infoSp : (Try.prog.info? 114).map (fun i => (i.zero, i.size, i.bytes)) = some (some (.agg #[.int .u16 0, .int .u32 0, .int .i64 0]), 3, 16) := by kernel_rfl
theorem infoRS : (Try.prog.info? 101).map (fun i => (i.zero, i.size, i.bytes)) = some (some (.agg #[.int .u16 0, .int .u32 0, .int .i64 0]), 3, 16) := by kernel_rfl
theorem infoRI : (Try.prog.info? 46).map (fun i => (i.zero, i.size, i.bytes)) = some (some (.agg #[.int .u16 0, .int .u32 0]), 2, 8) := by kernel_rfl
theorem infoII : (Try.prog.info? 66).map (fun i => (i.zero, i.size, i.bytes)) = some (some (.agg #[.int .u16 0, .int .u32 0]), 2, 8) := by kernel_rfl
def sv (s : Sp) : Value := .agg #[.int .u16 s.1, .int .u32 s.2.1, .int .i64 s.2.2]
def nv (a : Nm) : Value := .agg #[.int .u16 a.1, .int .u32 a.2]

set_option maxHeartbeats 800000 in
theorem refright_any (s : Sp) (w : World) (hf : FitS s) :
    Calls Try.prog 67 #[sv s] w fun e w' => e = .returned (.bool (rightS s)) ∧ Below w.heap.size w w' := by
  obtain ⟨r, n, l⟩ := s
  unfold FitS at hf
  simp only at hf
  obtain ⟨_, _, hn0, hn1, hl0, hl1⟩ := hf
  have HR : Hid (rightS (r, n, l) = decide (1 ≤ n ∧ 1 ≤ l ∧ l ≤ 1024 ∧ n ≤ 268435456 ∧ n + l - 1 ≤ 268435456)) := rfl
  unfold sv
  simp only
  go_enter Try.func67, Try.ntmps67
  by_cases h1 : 1 ≤ n
  · by_cases h2 : 1 ≤ l
    · by_cases h3 : l ≤ 1024
      · by_cases h4 : n ≤ 268435456
        · by_cases h5 : n + l - 1 ≤ 268435456
          · have HT : Hid (rightS (r, n, l) = true) := by rw [HR.out]; exact decide_eq_true ⟨h1, h2, h3, h4, h5⟩
            go_wp2
            go_ret
            exact ⟨by rw [HT.out]; rfl, below_alloc (Below.refl _ _) _⟩
          · have HT : Hid (rightS (r, n, l) = false) := by rw [HR.out]; exact decide_eq_false fun h => h5 h.2.2.2.2
            go_wp2
            go_ret
            exact ⟨by rw [HT.out]; rfl, below_alloc (Below.refl _ _) _⟩
        · have HT : Hid (rightS (r, n, l) = false) := by rw [HR.out]; exact decide_eq_false fun h => h4 h.2.2.2.1
          go_wp2
          go_ret
          exact ⟨by rw [HT.out]; rfl, below_alloc (Below.refl _ _) _⟩
      · have HT : Hid (rightS (r, n, l) = false) := by rw [HR.out]; exact decide_eq_false fun h => h3 h.2.2.1
        go_wp2
        go_ret
        exact ⟨by rw [HT.out]; rfl, below_alloc (Below.refl _ _) _⟩
    · have HT : Hid (rightS (r, n, l) = false) := by rw [HR.out]; exact decide_eq_false fun h => h2 h.2.1
      go_wp2
      go_ret
      exact ⟨by rw [HT.out]; rfl, below_alloc (Below.refl _ _) _⟩
  · have HT : Hid (rightS (r, n, l) = false) := by rw [HR.out]; exact decide_eq_false fun h => h1 h.1
    go_wp2
    go_ret
    exact ⟨by rw [HT.out]; rfl, below_alloc (Below.refl _ _) _⟩

set_option maxHeartbeats 1600000 in
theorem refmeet_any (s t : Sp) (w : World) (hs : rightS s = true) (ht : rightS t = true) :
    Calls Try.prog 73 #[sv s, sv t] w fun e w' => e = .returned (.bool (meetS s t)) ∧ Below w.heap.size w w' := by
  obtain ⟨r, n, l⟩ := s
  obtain ⟨q, m, k⟩ := t
  obtain ⟨n1, l1, l2, n2, _⟩ := rightS_iff.1 hs
  obtain ⟨m1, k1, k2, m2, _⟩ := rightS_iff.1 ht
  simp only at n1 l1 l2 n2 m1 k1 k2 m2
  have HM : Hid (meetS (r, n, l) (q, m, k) = decide (r = q ∧ n < m + k ∧ m < n + l)) := rfl
  clear hs ht
  unfold sv
  simp only
  by_cases h1 : r = q
  · subst h1
    by_cases h2 : n < m + k
    · by_cases h3 : m < n + l
      · have HT : Hid (meetS (r, n, l) (r, m, k) = true) := by rw [HM.out]; exact decide_eq_true ⟨rfl, h2, h3⟩
        go_enter Try.func73, Try.ntmps73
        go_wp2
        go_ret
        exact ⟨by rw [HT.out]; rfl, below_alloc (below_alloc (Below.refl _ _) _) _⟩
      · have HT : Hid (meetS (r, n, l) (r, m, k) = false) := by rw [HM.out]; exact decide_eq_false fun h => h3 h.2.2
        go_enter Try.func73, Try.ntmps73
        go_wp2
        go_ret
        exact ⟨by rw [HT.out]; rfl, below_alloc (below_alloc (Below.refl _ _) _) _⟩
    · have HT : Hid (meetS (r, n, l) (r, m, k) = false) := by rw [HM.out]; exact decide_eq_false fun h => h2 h.2.1
      go_enter Try.func73, Try.ntmps73
      go_wp2
      go_ret
      exact ⟨by rw [HT.out]; rfl, below_alloc (below_alloc (Below.refl _ _) _) _⟩
  · have h1' : (r == q) = false := by simp [h1]
    have HT : Hid (meetS (r, n, l) (q, m, k) = false) := by rw [HM.out]; exact decide_eq_false fun h => h1 h.1
    go_enter Try.func73, Try.ntmps73
    go_wp2
    go_ret
    exact ⟨by rw [HT.out]; rfl, below_alloc (below_alloc (Below.refl _ _) _) _⟩

end Go.Proofs.Ytedlmngfkkpmgaa
