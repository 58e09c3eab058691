/-
  What With hands back, for every list of entries by rising replicas that lies in memory. No conditions beyond what each theorem states.
-/
import Derived.Test.YthihfigphedomaaDoorMath
namespace Go.Proofs.YthihfigphedomaaDoor
open Go.ChangeShapes Go.WideShapes Go.ChangeAt Go.RowKit Go.Lib
open Go.Sort
set_option linter.unusedVariables false
set_option linter.unusedSimpArgs false

/-- Where the entries are cut. -/
def cutAt (xs : List En) (r : Int) : Nat := if hasL xs r then rank xs r + 1 else rank xs r
theorem cutAt_le (xs : List En) (r : Int) : cutAt xs r ≤ xs.length := by
  have := rank_le xs r
  unfold cutAt
  split
  · rename_i h
    simp only [hasL, decide_eq_true_eq] at h; omega
  · exact this
theorem filter_all {l : List En} {f : En → Bool} (h : ∀ x ∈ l, f x = true) : l.filter f = l := List.filter_eq_self.2 h
theorem filter_no {l : List En} {f : En → Bool} (h : ∀ x ∈ l, f x = false) : l.filter f = [] := List.filter_eq_nil_iff.2 fun x hx => by rw [h x hx]; simp
theorem mem_take_at {xs : List En} {k : Nat} {x : En} (h : x ∈ xs.take k) : ∃ i, i < k ∧ i < xs.length ∧ atL xs i = x := by
  obtain ⟨i, hi, e⟩ := mem_atL h
  rw [List.length_take] at hi
  exact ⟨i, by omega, by omega, by rw [← e, atL_take _ _ _ (by omega)]⟩
theorem mem_drop_at {xs : List En} {k : Nat} {x : En} (h : x ∈ xs.drop k) : ∃ i, k ≤ i ∧ i < xs.length ∧ atL xs i = x := by
  obtain ⟨i, hi, e⟩ := mem_atL h
  rw [List.length_drop] at hi
  exact ⟨k + i, by omega, by omega, by rw [← e, atL_drop]⟩
theorem lo_take {xs : List En} (h : Srt xs) (r : Int) : lo xs r = xs.take (rank xs r) := by
  have e : lo xs r = lo (xs.take (rank xs r)) r ++ lo (xs.drop (rank xs r)) r := by rw [lo, lo, lo, ← List.filter_append, List.take_append_drop]
  rw [e, lo, lo, filter_all, filter_no, List.append_nil]
  · intro x hx
    obtain ⟨i, h1, h2, rfl⟩ := mem_drop_at hx
    have := (rank_iff h r h2).2 h1
    simp; omega
  · intro x hx
    obtain ⟨i, h1, h2, rfl⟩ := mem_take_at hx
    have := mt (rank_iff h r h2).1 (by omega)
    simp; omega
theorem hi_drop {xs : List En} (h : Srt xs) (r : Int) : hi xs r = xs.drop (cutAt xs r) := by
  have e : hi xs r = hi (xs.take (cutAt xs r)) r ++ hi (xs.drop (cutAt xs r)) r := by rw [hi, hi, hi, ← List.filter_append, List.take_append_drop]
  have hle := rank_le xs r
  rw [e, hi, hi, filter_no, filter_all, List.nil_append]
  · intro x hx
    obtain ⟨i, h1, h2, rfl⟩ := mem_drop_at hx
    unfold cutAt at h1
    split at h1
    · rename_i hh
      simp only [hasL, decide_eq_true_eq] at hh
      have := h _ _ (show rank xs r < i by omega) h2
      simp; omega
    · rename_i hh
      have h3 := (rank_iff h r h2).2 h1
      by_cases h4 : (atL xs i).1 = r
      · exfalso
        apply hh
        simp only [hasL, decide_eq_true_eq]
        have h5 := (rank_iff h r (show rank xs r < xs.length by omega)).2 (Nat.le_refl _)
        refine ⟨by omega, ?_⟩
        rcases Nat.eq_or_lt_of_le h1 with e2 | e2
        · rw [e2]; exact h4
        · have := h _ _ e2 h2; omega
      · simp; omega
  · intro x hx
    obtain ⟨i, h1, h2, rfl⟩ := mem_take_at hx
    unfold cutAt at h1
    split at h1
    · rename_i hh
      simp only [hasL, decide_eq_true_eq] at hh
      rcases Nat.lt_or_ge i (rank xs r) with h3 | h3
      · have := mt (rank_iff h r h2).1 (by omega); simp; omega
      · have : i = rank xs r := by omega
        subst this; simp; omega
    · have := mt (rank_iff h r h2).1 (by omega); simp; omega

theorem row_take {W : World} {p : Option Addr} {xs : List En} (h : Row W p xs) (k : Nat) : Row W p (xs.take k) := fun i hi => by
  rw [List.length_take] at hi
  rw [atL_take _ _ _ (by omega)]
  exact h i (by omega)
theorem row_drop {W : World} {a : Addr} {xs : List En} (h : Row W (some a) xs) (m : Nat) : Row W (some (a.add (m * 2))) (xs.drop m) := fun i hi => by
  rw [List.length_drop] at hi
  obtain ⟨b, o, e, h1, h2⟩ := h (m + i) (by omega)
  cases e
  rw [atL_drop]
  refine ⟨b, o + m * 2, by rw [Lib.add_plain], ?_, ?_⟩
  · rw [show o + m * 2 + i * 2 = o + (m + i) * 2 by omega]; exact h1
  · rw [show o + m * 2 + i * 2 + 1 = o + (m + i) * 2 + 1 by omega]; exact h2
theorem row_end {W : World} {a : Addr} {xs : List En} {m : Nat} (h : xs.length ≤ m) : Row W (some a) (xs.drop m) := fun i hi => by
  rw [List.length_drop] at hi; omega
theorem Holding.made {w w1 w2 : World} {n : Nat} (h : Below w.heap.size w w1) (ho : w2.ownsRow w.heap.size 55 2 (.slice (some ⟨w1.heap.size, 0, none⟩) 0 n) 0 []) (hg : w1.grownBy w2 none) : Holding w 55 (.slice (some ⟨w1.heap.size, 0, none⟩) 0 n) [] w2 :=
  ⟨ho, h.grown hg h.size (fun j hj => by cases hj)⟩

set_option maxHeartbeats 3200000 in
set_option maxRecDepth 100000 in
theorem with_some (xs : List En) (r s : Int) (a : Addr) (c : Nat) (w : World) (hR : Row w (some a) xs) (hs : Srt xs) (hl : xs.length ≤ 1000) (hc : xs.length ≤ c) :
    Calls Tryd.prog 15 #[.slice (some a) xs.length c, .int .u16 r, .int .u32 s] w (Gave w (withL xs r s)) := by
  have HF := Lib.hid (find_any xs r (some a) c w hR hs (by omega))
  have HE : Hid (withL xs r s = xs.take (rank xs r) ++ mid r s ++ xs.drop (cutAt xs r)) := by rw [withL, lo_take hs, hi_drop hs]; exact rfl
  have HR : Hid (Row w (some a) xs) := hR
  have hkl := rank_le xs r
  have hcl := cutAt_le xs r
  have HC : Hid (cutAt xs r = if hasL xs r then rank xs r + 1 else rank xs r) := rfl
  clear hR hs
  obtain ⟨i0, hi, hz0, hz1, hz2⟩ := info_parts info55
  generalize withL xs r s = Z at HE ⊢
  generalize cutAt xs r = m at HE hcl HC
  generalize rank xs r = k at HF HE hkl HC
  generalize hasL xs r = b at HF HC
  go_enter Tryd.func15, Tryd.ntmps15
  go_wp2_with fail
  refine HF.out.mono ?_
  rintro e w1 ⟨rfl, hb1⟩
  have HB1 := Lib.hid hb1
  clear hb1 HF
  go_wp2_with (at_make; refine wpList_make_own _ rfl _ _ 23 rfl w.heap.size 55 i0 (.agg #[.int .u16 0, .int .u32 0]) 2 Tryd.underlying23 hi hz0 hz1 _ _ _ (xs.length + 1) rfl rfl (by omega) (by rw [hz2]; omega) (by unfold maxLen; omega) HB1.out.size ?_)
  intro w2 hown0 hgrow0
  have HO2 : Hid (Holding w 55 (.slice (some ⟨w1.heap.size, 0, none⟩) 0 (xs.length + 1)) [] w2) := Holding.made HB1.out hown0 hgrow0
  clear hown0 hgrow0
  go_wp2_with (first
    | (at_builtin; refine wpList_append_own _ rfl (.tmp 20) (.tmp 23) 23 rfl w.heap.size 55 i0 (.agg #[.int .u16 0, .int .u32 0]) 2 8 Tryd.underlying23 hi hz0 hz1 hz2 rfl (by decide) _ 0 [] rfl (show w2.ownsRow w.heap.size 55 2 _ 0 [] from HO2.out.1) a k c (cellsL (xs.take k)) rfl (by rw [cellsL_length, List.length_take, Nat.min_eq_left hkl]) (cells_of_row ((row_take HR.out k).below HO2.out.2)) (cellsL_one _) (by unfold maxLen; omega) (by omega) (by exact HO2.out.2.size) ?_))
  intro v3 w3 hown hgrow _
  have HO3 : Hid (Holding w 55 v3 (xs.take k) w3) := by
    have hlen : (xs.take k).length = k := by rw [List.length_take, Nat.min_eq_left hkl]
    exact ⟨by rw [hlen]; simpa using hown, HO2.out.2.grown hgrow HO2.out.2.size (fun j hj => (HO2.out.1.lt j hj).1)⟩
  clear hown hgrow HO2
  obtain ⟨A, hA⟩ : ∃ A, A = xs.take k ++ mid r s := ⟨_, rfl⟩
  have HA : Hid (A = xs.take k ++ mid r s) := hA
  have hkt : (xs.take k).length = k := by rw [List.length_take, Nat.min_eq_left hkl]
  have HKT : Hid ((xs.take k).length = k) := hkt
  have hAl : A.length ≤ 1001 := by rw [hA, List.length_append, hkt, mid]; split <;> simp <;> omega
  rw [← hA] at HE
  clear hA hkt
  have hmk : m = k ∨ m = k + 1 := by rw [HC.out]; split <;> simp
  by_cases hs : 0 < s
  case' pos =>
    go_wp2_with (first
      | (at_builtin; refine wpList_append_own _ rfl (.tmp 27) (.tmp 31) 23 rfl w.heap.size 55 i0 (.agg #[.int .u16 0, .int .u32 0]) 2 8 Tryd.underlying23 hi hz0 hz1 hz2 rfl (by decide) _ k _ rfl (show (w3.alloc _).ownsRow w.heap.size 55 2 _ k (cellsL (xs.take k)) from by have := (HO3.out.alloc (.cells #[.int .u16 r, .int .u32 s] 55)).1; rw [HKT.out] at this; exact this) ⟨w3.heap.size, 0, none⟩ 1 1 [.int .u16 r, .int .u32 s] rfl rfl (cells_pair 55 (by simp) (by simp)) (pair_one r s) (by unfold maxLen; omega) (by omega) (by have := HO3.out.2.size; simp; omega) ?_))
    intro v4 w4 hown hgrow _
    have HO4 : Hid (Holding w 55 v4 A w4) := by
      rw [HA.out, mid, if_pos hs]
      exact (HO3.out.alloc _).onto (by rw [HKT.out]; exact hown) hgrow
    clear hown hgrow
  case' neg =>
    have HO4 : Hid (Holding w 55 v3 A w3) := by rw [HA.out, mid, if_neg hs, List.append_nil]; exact HO3.out
  all_goals
    clear HO3
    have hdl : (xs.drop m).length = xs.length - m := List.length_drop
    have HDL : Hid ((xs.drop m).length = xs.length - m) := hdl
    clear hdl
    have hb : b = true ∧ m = k + 1 ∨ b = false ∧ m = k := by
      have := HC.out
      cases b
      · exact Or.inr ⟨rfl, by simpa using this⟩
      · exact Or.inl ⟨rfl, by simpa using this⟩
    clear HC hmk
    rcases hb with ⟨hb, hm⟩ | ⟨hb, hm⟩
    · subst hb hm
      by_cases hmc : c = k + 1
      · have hxl : xs.length ≤ k + 1 := by omega
        go_wp2_with (first
          | (at_builtin; refine wpList_append_own _ rfl (.tmp 36) (.tmp 39) 23 rfl w.heap.size 55 i0 (.agg #[.int .u16 0, .int .u32 0]) 2 8 Tryd.underlying23 hi hz0 hz1 hz2 rfl (by decide) _ _ _ rfl HO4.out.1 a _ _ (cellsL (xs.drop (k + 1))) rfl (by rw [cellsL_length, HDL.out] <;> omega) (cells_of_row (row_end hxl)) (cellsL_one _) (by unfold maxLen; omega) (by omega) (by exact HO4.out.2.size) ?_))
        intro v5 w5 hown hgrow _
        have HO5 : Hid (Holding w 55 v5 Z w5) := by rw [HE.out]; exact HO4.out.cat (by rw [HDL.out]; first | exact hown | (rw [Nat.sub_eq_zero_of_le hxl]; exact hown)) hgrow
        clear hown hgrow
        obtain ⟨p', c', rfl, hr⟩ := HO5.out.gave
        have HR' := Lib.hid hr
        clear hr
        go_wp2
        go_ret
        exact ⟨p', c', rfl, HR'.out, HO5.out.2⟩
      · go_wp2_with (first
          | (at_builtin; refine wpList_append_own _ rfl (.tmp 36) (.tmp 39) 23 rfl w.heap.size 55 i0 (.agg #[.int .u16 0, .int .u32 0]) 2 8 Tryd.underlying23 hi hz0 hz1 hz2 rfl (by decide) _ _ _ rfl HO4.out.1 (a.add ((k + 1) * 2)) _ _ (cellsL (xs.drop (k + 1))) rfl (by rw [cellsL_length, HDL.out] <;> omega) (cells_of_row ((row_drop HR.out (k + 1)).below HO4.out.2)) (cellsL_one _) (by unfold maxLen; omega) (by omega) (by exact HO4.out.2.size) ?_))
        intro v5 w5 hown hgrow _
        have HO5 : Hid (Holding w 55 v5 Z w5) := by rw [HE.out]; exact HO4.out.cat (by rw [HDL.out]; first | exact hown | (rw [Nat.sub_eq_zero_of_le hxl]; exact hown)) hgrow
        clear hown hgrow
        obtain ⟨p', c', rfl, hr⟩ := HO5.out.gave
        have HR' := Lib.hid hr
        clear hr
        go_wp2
        go_ret
        exact ⟨p', c', rfl, HR'.out, HO5.out.2⟩
    · subst hb hm
      by_cases hmc : c = m
      · have hxl : xs.length ≤ m := by omega
        go_wp2_with (first
          | (at_builtin; refine wpList_append_own _ rfl (.tmp 36) (.tmp 39) 23 rfl w.heap.size 55 i0 (.agg #[.int .u16 0, .int .u32 0]) 2 8 Tryd.underlying23 hi hz0 hz1 hz2 rfl (by decide) _ _ _ rfl HO4.out.1 a _ _ (cellsL (xs.drop m)) rfl (by rw [cellsL_length, HDL.out] <;> omega) (cells_of_row (row_end hxl)) (cellsL_one _) (by unfold maxLen; omega) (by omega) (by exact HO4.out.2.size) ?_))
        intro v5 w5 hown hgrow _
        have HO5 : Hid (Holding w 55 v5 Z w5) := by rw [HE.out]; exact HO4.out.cat (by rw [HDL.out]; first | exact hown | (rw [Nat.sub_eq_zero_of_le hxl]; exact hown)) hgrow
        clear hown hgrow
        obtain ⟨p', c', rfl, hr⟩ := HO5.out.gave
        have HR' := Lib.hid hr
        clear hr
        go_wp2
        go_ret
        exact ⟨p', c', rfl, HR'.out, HO5.out.2⟩
      · go_wp2_with (first
          | (at_builtin; refine wpList_append_own _ rfl (.tmp 36) (.tmp 39) 23 rfl w.heap.size 55 i0 (.agg #[.int .u16 0, .int .u32 0]) 2 8 Tryd.underlying23 hi hz0 hz1 hz2 rfl (by decide) _ _ _ rfl HO4.out.1 (a.add (m * 2)) _ _ (cellsL (xs.drop m)) rfl (by rw [cellsL_length, HDL.out] <;> omega) (cells_of_row ((row_drop HR.out m).below HO4.out.2)) (cellsL_one _) (by unfold maxLen; omega) (by omega) (by exact HO4.out.2.size) ?_))
        intro v5 w5 hown hgrow _
        have HO5 : Hid (Holding w 55 v5 Z w5) := by rw [HE.out]; exact HO4.out.cat (by rw [HDL.out]; first | exact hown | (rw [Nat.sub_eq_zero_of_le hxl]; exact hown)) hgrow
        clear hown hgrow
        obtain ⟨p', c', rfl, hr⟩ := HO5.out.gave
        have HR' := Lib.hid hr
        clear hr
        go_wp2
        go_ret
        exact ⟨p', c', rfl, HR'.out, HO5.out.2⟩

set_option maxHeartbeats 1600000 in
set_option maxRecDepth 100000 in
theorem with_none (r s : Int) (w : World) :
    Calls Tryd.prog 15 #[.slice none 0 0, .int .u16 r, .int .u32 s] w (Gave w (mid r s)) := by
  have HF : Hid (Calls Tryd.prog 27 #[.slice none 0 0, .int .u16 r] w fun e w' => e = .returned (.tuple #[.int .i64 0, .bool false]) ∧ Below w.heap.size w w') := find_any [] r none 0 w (fun i hi => by simp at hi) (fun i j _ hj => by simp at hj) (by simp)
  obtain ⟨i0, hi, hz0, hz1, hz2⟩ := info_parts info55
  have hm : (mid r s).length ≤ 1 := by unfold mid; split <;> simp
  go_enter Tryd.func15, Tryd.ntmps15
  go_wp2_with fail
  refine HF.out.mono ?_
  rintro e w1 ⟨rfl, hb1⟩
  have HB1 := Lib.hid hb1
  clear hb1 HF
  go_wp2_with (at_make; refine wpList_make_own _ rfl _ _ 23 rfl w.heap.size 55 i0 (.agg #[.int .u16 0, .int .u32 0]) 2 Tryd.underlying23 hi hz0 hz1 _ _ _ 1 rfl rfl (by omega) (by rw [hz2]; omega) (by unfold maxLen; omega) HB1.out.size ?_)
  intro w2 hown0 hgrow0
  have HO2 : Hid (Holding w 55 (.slice (some ⟨w1.heap.size, 0, none⟩) 0 1) [] w2) := Holding.made HB1.out hown0 hgrow0
  clear hown0 hgrow0
  by_cases hs : 0 < s
  · go_wp2_with (first
      | (at_builtin; refine wpList_append_own_none rfl (.tmp 20) (.tmp 23) 23 rfl w.heap.size 55 i0 2 Tryd.underlying23 hi _ 0 [] rfl (show w2.ownsRow w.heap.size 55 2 _ 0 [] from HO2.out.1) rfl ?_)
      | (at_builtin; refine wpList_append_own _ rfl (.tmp 27) (.tmp 31) 23 rfl w.heap.size 55 i0 (.agg #[.int .u16 0, .int .u32 0]) 2 8 Tryd.underlying23 hi hz0 hz1 hz2 rfl (by decide) _ 0 [] rfl (show (w2.alloc _).ownsRow w.heap.size 55 2 _ 0 [] from (HO2.out.alloc _).1) ⟨w2.heap.size, 0, none⟩ 1 1 [.int .u16 r, .int .u32 s] rfl rfl (cells_pair 55 (by simp) (by simp)) (pair_one r s) (by unfold maxLen; omega) (by omega) (by have := HO2.out.2.size; simp; omega) ?_))
    intro v4 w4 hown hgrow _
    have HO4 : Hid (Holding w 55 v4 (mid r s) w4) := by
      rw [mid, if_pos hs]
      exact (HO2.out.alloc _).onto (xs := []) hown hgrow
    clear hown hgrow HO2
    go_wp2_with (first
      | (at_builtin; refine wpList_append_own_none rfl (.tmp 36) (.tmp 39) 23 rfl w.heap.size 55 i0 2 Tryd.underlying23 hi _ _ _ rfl HO4.out.1 rfl ?_))
    obtain ⟨p', c', rfl, hr⟩ := HO4.out.gave
    go_ret
    exact ⟨p', c', rfl, hr, HO4.out.2⟩
  · go_wp2_with (first
      | (at_builtin; refine wpList_append_own_none rfl (.tmp 20) (.tmp 23) 23 rfl w.heap.size 55 i0 2 Tryd.underlying23 hi _ 0 [] rfl (show w2.ownsRow w.heap.size 55 2 _ 0 [] from HO2.out.1) rfl ?_)
      | (at_builtin; refine wpList_append_own_none rfl (.tmp 36) (.tmp 39) 23 rfl w.heap.size 55 i0 2 Tryd.underlying23 hi _ 0 [] rfl (show w2.ownsRow w.heap.size 55 2 _ 0 [] from HO2.out.1) rfl ?_))
    go_ret
    have e : mid r s = [] := by rw [mid, if_neg (by omega)]
    rw [e]
    exact ⟨_, _, rfl, fun i hi => by simp at hi, HO2.out.2⟩

/-- With, at whatever slice. -/
theorem with_any (xs : List En) (r s : Int) (p : Option Addr) (c : Nat) (w : World) (hR : Row w p xs) (hs : Srt xs) (hl : xs.length ≤ 1000) (hc : xs.length ≤ c) (hn : p = none → c = 0) :
    Calls Tryd.prog 15 #[.slice p xs.length c, .int .u16 r, .int .u32 s] w (Gave w (withL xs r s)) := by
  cases p with
  | some a => exact with_some xs r s a c w hR hs hl hc
  | none =>
    have e := row_none hR
    have e2 := hn rfl
    subst e e2
    have e3 : withL [] r s = mid r s := by simp [withL, lo, YthihfigphedomaaDoor.hi]
    rw [e3]
    exact with_none r s w

end Go.Proofs.YthihfigphedomaaDoor
