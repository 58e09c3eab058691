/-
  Several texts of one proof, joined: each part says at its head what it proves. No conditions beyond what each theorem states.
-/
import Derived.Laws.AppendOwnNone
import Derived.Lib.Walk
import Derived.Test.YtceanfpcddcfoaaGreatZ19
import Derived.Test.YtceanfpcddcfoaaGreatZ14
/-
  What With hands back, for every list of entries by rising replicas that lies in memory. No conditions beyond what each theorem states.
-/
namespace Go.Proofs.YtceanfpcddcfoaaGreat.Vec
open Go.ChangeShapes Go.WideShapes Go.ChangeAt Go.RowKit Go.Lib
open Go.Sort
set_option linter.unusedVariables false
set_option linter.unusedSimpArgs false

/-- Where the entries are cut. -/
def cutAt (xs : List En) (r : Int) : Nat := if hasL xs r then rank xs r + 1 else rank xs r
theorem cutAt_le (xs : List En) (r : Int) : cutAt xs r ≤ xs.length := by
  have := rank_le xs r
  unfold cutAt
  split
  · rename_i h
    simp only [hasL, decide_eq_true_eq] at h; omega
  · exact this
theorem filter_all {l : List En} {f : En → Bool} (h : ∀ x ∈ l, f x = true) : l.filter f = l := List.filter_eq_self.2 h
theorem filter_no {l : List En} {f : En → Bool} (h : ∀ x ∈ l, f x = false) : l.filter f = [] := List.filter_eq_nil_iff.2 fun x hx => by rw [h x hx]; simp
theorem mem_take_at {xs : List En} {k : Nat} {x : En} (h : x ∈ xs.take k) : ∃ i, i < k ∧ i < xs.length ∧ atL xs i = x := by
  obtain ⟨i, hi, e⟩ := mem_atL h
  rw [List.length_take] at hi
  exact ⟨i, by omega, by omega, by rw [← e, atL_take _ _ _ (by omega)]⟩
theorem mem_drop_at {xs : List En} {k : Nat} {x : En} (h : x ∈ xs.drop k) : ∃ i, k ≤ i ∧ i < xs.length ∧ atL xs i = x := by
  obtain ⟨i, hi, e⟩ := mem_atL h
  rw [List.length_drop] at hi
  exact ⟨k + i, by omega, by omega, by rw [← e, atL_drop]⟩
theorem lo_take {xs : List En} (h : Srt xs) (r : Int) : lo xs r = xs.take (rank xs r) := by
  have e : lo xs r = lo (xs.take (rank xs r)) r ++ lo (xs.drop (rank xs r)) r := by rw [lo, lo, lo, ← List.filter_append, List.take_append_drop]
  rw [e, lo, lo, filter_all, filter_no, List.append_nil]
  · intro x hx
    obtain ⟨i, h1, h2, rfl⟩ := mem_drop_at hx
    have := (rank_iff h r h2).2 h1
    simp; omega
  · intro x hx
    obtain ⟨i, h1, h2, rfl⟩ := mem_take_at hx
    have := mt (rank_iff h r h2).1 (by omega)
    simp; omega
theorem hi_drop {xs : List En} (h : Srt xs) (r : Int) : hi xs r = xs.drop (cutAt xs r) := by
  have e : hi xs r = hi (xs.take (cutAt xs r)) r ++ hi (xs.drop (cutAt xs r)) r := by rw [hi, hi, hi, ← List.filter_append, List.take_append_drop]
  have hle := rank_le xs r
  rw [e, hi, hi, filter_no, filter_all, List.nil_append]
  · intro x hx
    obtain ⟨i, h1, h2, rfl⟩ := mem_drop_at hx
    unfold cutAt at h1
    split at h1
    · rename_i hh
      simp only [hasL, decide_eq_true_eq] at hh
      have := h _ _ (show rank xs r < i by omega) h2
      simp; omega
    · rename_i hh
      have h3 := (rank_iff h r h2).2 h1
      by_cases h4 : (atL xs i).1 = r
      · exfalso
        apply hh
        simp only [hasL, decide_eq_true_eq]
        have h5 := (rank_iff h r (show rank xs r < xs.length by omega)).2 (Nat.le_refl _)
        refine ⟨by omega, ?_⟩
        rcases Nat.eq_or_lt_of_le h1 with e2 | e2
        · rw [e2]; exact h4
        · have := h _ _ e2 h2; omega
      · simp; omega
  · intro x hx
    obtain ⟨i, h1, h2, rfl⟩ := mem_take_at hx
    unfold cutAt at h1
    split at h1
    · rename_i hh
      simp only [hasL, decide_eq_true_eq] at hh
      rcases Nat.lt_or_ge i (rank xs r) with h3 | h3
      · have := mt (rank_iff h r h2).1 (by omega); simp; omega
      · have : i = rank xs r := by omega
        subst this; simp; omega
    · have := mt (rank_iff h r h2).1 (by omega); simp; omega

theorem row_take {W : World} {p : Option Addr} {xs : List En} (h : Row W p xs) (k : Nat) : Row W p (xs.take k) := fun i hi => by
  rw [List.length_take] at hi
  rw [atL_take _ _ _ (by omega)]
  exact h i (by omega)
theorem row_drop {W : World} {a : Addr} {xs : List En} (h : Row W (some a) xs) (m : Nat) : Row W (some (a.add (m * 2))) (xs.drop m) := fun i hi => by
  rw [List.length_drop] at hi
  obtain ⟨b, o, e, h1, h2⟩ := h (m + i) (by omega)
  cases e
  rw [atL_drop]
  refine ⟨b, o + m * 2, by rw [Addr.add_lit], ?_, ?_⟩
  · rw [show o + m * 2 + i * 2 = o + (m + i) * 2 by omega]; exact h1
  · rw [show o + m * 2 + i * 2 + 1 = o + (m + i) * 2 + 1 by omega]; exact h2
theorem row_end {W : World} {a : Addr} {xs : List En} {m : Nat} (h : xs.length ≤ m) : Row W (some a) (xs.drop m) := fun i hi => by
  rw [List.length_drop] at hi; omega
theorem Holding.made {w w1 w2 : World} {n : Nat} (h : Below w.heap.size w w1) (ho : w2.ownsRow w.heap.size 105 2 (.slice (some ⟨w1.heap.size, 0, none⟩) 0 n) 0 []) (hg : w1.grownBy w2 none) : Holding w 105 (.slice (some ⟨w1.heap.size, 0, none⟩) 0 n) [] w2 :=
  ⟨ho, h.grown hg h.size (fun j hj => by cases hj)⟩

set_option maxHeartbeats 3200000 in
set_option maxRecDepth 100000 in
theorem with_some (xs : List En) (r s : Int) (a : Addr) (c : Nat) (w : World) (hR : Row w (some a) xs) (hs : Srt xs) (hl : xs.length ≤ 1000) (hc : xs.length ≤ c) :
    Calls Tryz.prog 50 #[.slice (some a) xs.length c, .int .u16 r, .int .u32 s] w (Gave w (withL xs r s)) := by
  have HF := Lib.hid (find_any xs r (some a) c w hR hs (by omega))
  have HE : Hid (withL xs r s = xs.take (rank xs r) ++ mid r s ++ xs.drop (cutAt xs r)) := by rw [withL, lo_take hs, hi_drop hs]; exact rfl
  have HR : Hid (Row w (some a) xs) := hR
  have hkl := rank_le xs r
  have hcl := cutAt_le xs r
  have HC : Hid (cutAt xs r = if hasL xs r then rank xs r + 1 else rank xs r) := rfl
  clear hR hs
  obtain ⟨i0, hi, hz0, hz1, hz2⟩ := info_parts info55
  generalize withL xs r s = Z at HE ⊢
  generalize cutAt xs r = m at HE hcl HC
  generalize rank xs r = k at HF HE hkl HC
  generalize hasL xs r = b at HF HC
  go_enter Tryz.func50, Tryz.ntmps50
  go_wp2_with fail
  refine HF.out.mono ?_
  rintro e w1 ⟨rfl, hb1⟩
  have HB1 := Lib.hid hb1
  clear hb1 HF
  go_wp2_with (at_make; refine wpList_make_own _ rfl _ _ 23 rfl w.heap.size 105 i0 (.agg #[.int .u16 0, .int .u32 0]) 2 Tryz.underlying23 hi hz0 hz1 _ _ _ (xs.length + 1) rfl rfl (by omega) (by rw [hz2]; omega) (by unfold maxLen; omega) HB1.out.size ?_)
  intro w2 hown0 hgrow0
  have HO2 : Hid (Holding w 105 (.slice (some ⟨w1.heap.size, 0, none⟩) 0 (xs.length + 1)) [] w2) := Holding.made HB1.out hown0 hgrow0
  clear hown0 hgrow0
  go_wp2_with (first
    | (at_builtin; refine wpList_append_own _ rfl (.tmp 20) (.tmp 23) 23 rfl w.heap.size 105 i0 (.agg #[.int .u16 0, .int .u32 0]) 2 8 Tryz.underlying23 hi hz0 hz1 hz2 rfl (by decide) _ 0 [] rfl (show w2.ownsRow w.heap.size 105 2 _ 0 [] from HO2.out.1) a k c (cellsL (xs.take k)) rfl (by rw [cellsL_length, List.length_take, Nat.min_eq_left hkl]) (cells_of_row ((row_take HR.out k).below HO2.out.2)) (cellsL_one _) (by unfold maxLen; omega) (by omega) (by exact HO2.out.2.size) ?_))
  intro v3 w3 hown hgrow _
  have HO3 : Hid (Holding w 105 v3 (xs.take k) w3) := by
    have hlen : (xs.take k).length = k := by rw [List.length_take, Nat.min_eq_left hkl]
    exact ⟨by rw [hlen]; simpa using hown, HO2.out.2.grown hgrow HO2.out.2.size (fun j hj => (HO2.out.1.lt j hj).1)⟩
  clear hown hgrow HO2
  obtain ⟨A, hA⟩ : ∃ A, A = xs.take k ++ mid r s := ⟨_, rfl⟩
  have HA : Hid (A = xs.take k ++ mid r s) := hA
  have hkt : (xs.take k).length = k := by rw [List.length_take, Nat.min_eq_left hkl]
  have HKT : Hid ((xs.take k).length = k) := hkt
  have hAl : A.length ≤ 1001 := by rw [hA, List.length_append, hkt, mid]; split <;> simp <;> omega
  rw [← hA] at HE
  clear hA hkt
  have hmk : m = k ∨ m = k + 1 := by rw [HC.out]; split <;> simp
  by_cases hs : 0 < s
  case' pos =>
    go_wp2_with (first
      | (at_builtin; refine wpList_append_own _ rfl (.tmp 27) (.tmp 31) 23 rfl w.heap.size 105 i0 (.agg #[.int .u16 0, .int .u32 0]) 2 8 Tryz.underlying23 hi hz0 hz1 hz2 rfl (by decide) _ k _ rfl (show (w3.alloc _).ownsRow w.heap.size 105 2 _ k (cellsL (xs.take k)) from by have := (HO3.out.alloc (.cells #[.int .u16 r, .int .u32 s] 105)).1; rw [HKT.out] at this; exact this) ⟨w3.heap.size, 0, none⟩ 1 1 [.int .u16 r, .int .u32 s] rfl rfl (cells_pair 105 (by simp) (by simp)) (pair_one r s) (by unfold maxLen; omega) (by omega) (by have := HO3.out.2.size; simp; omega) ?_))
    intro v4 w4 hown hgrow _
    have HO4 : Hid (Holding w 105 v4 A w4) := by
      rw [HA.out, mid, if_pos hs]
      exact (HO3.out.alloc _).onto (by rw [HKT.out]; exact hown) hgrow
    clear hown hgrow
  case' neg =>
    have HO4 : Hid (Holding w 105 v3 A w3) := by rw [HA.out, mid, if_neg hs, List.append_nil]; exact HO3.out
  all_goals
    clear HO3
    have hdl : (xs.drop m).length = xs.length - m := List.length_drop
    have HDL : Hid ((xs.drop m).length = xs.length - m) := hdl
    clear hdl
    have hb : b = true ∧ m = k + 1 ∨ b = false ∧ m = k := by
      have := HC.out
      cases b
      · exact Or.inr ⟨rfl, by simpa using this⟩
      · exact Or.inl ⟨rfl, by simpa using this⟩
    clear HC hmk
    rcases hb with ⟨hb, hm⟩ | ⟨hb, hm⟩
    · subst hb hm
      by_cases hmc : c = k + 1
      · have hxl : xs.length ≤ k + 1 := by omega
        go_wp2_with (first
          | (at_builtin; refine wpList_append_own _ rfl (.tmp 36) (.tmp 39) 23 rfl w.heap.size 105 i0 (.agg #[.int .u16 0, .int .u32 0]) 2 8 Tryz.underlying23 hi hz0 hz1 hz2 rfl (by decide) _ _ _ rfl HO4.out.1 a _ _ (cellsL (xs.drop (k + 1))) rfl (by rw [cellsL_length, HDL.out] <;> omega) (cells_of_row (row_end hxl)) (cellsL_one _) (by unfold maxLen; omega) (by omega) (by exact HO4.out.2.size) ?_))
        intro v5 w5 hown hgrow _
        have HO5 : Hid (Holding w 105 v5 Z w5) := by rw [HE.out]; exact HO4.out.cat (by rw [HDL.out]; first | exact hown | (rw [Nat.sub_eq_zero_of_le hxl]; exact hown)) hgrow
        clear hown hgrow
        obtain ⟨p', c', rfl, hr⟩ := HO5.out.gave
        have HR' := Lib.hid hr
        clear hr
        go_wp2
        go_ret
        exact ⟨p', c', rfl, HR'.out, HO5.out.2⟩
      · go_wp2_with (first
          | (at_builtin; refine wpList_append_own _ rfl (.tmp 36) (.tmp 39) 23 rfl w.heap.size 105 i0 (.agg #[.int .u16 0, .int .u32 0]) 2 8 Tryz.underlying23 hi hz0 hz1 hz2 rfl (by decide) _ _ _ rfl HO4.out.1 (a.add ((k + 1) * 2)) _ _ (cellsL (xs.drop (k + 1))) rfl (by rw [cellsL_length, HDL.out] <;> omega) (cells_of_row ((row_drop HR.out (k + 1)).below HO4.out.2)) (cellsL_one _) (by unfold maxLen; omega) (by omega) (by exact HO4.out.2.size) ?_))
        intro v5 w5 hown hgrow _
        have HO5 : Hid (Holding w 105 v5 Z w5) := by rw [HE.out]; exact HO4.out.cat (by rw [HDL.out]; first | exact hown | (rw [Nat.sub_eq_zero_of_le hxl]; exact hown)) hgrow
        clear hown hgrow
        obtain ⟨p', c', rfl, hr⟩ := HO5.out.gave
        have HR' := Lib.hid hr
        clear hr
        go_wp2
        go_ret
        exact ⟨p', c', rfl, HR'.out, HO5.out.2⟩
    · subst hb hm
      by_cases hmc : c = m
      · have hxl : xs.length ≤ m := by omega
        go_wp2_with (first
          | (at_builtin; refine wpList_append_own _ rfl (.tmp 36) (.tmp 39) 23 rfl w.heap.size 105 i0 (.agg #[.int .u16 0, .int .u32 0]) 2 8 Tryz.underlying23 hi hz0 hz1 hz2 rfl (by decide) _ _ _ rfl HO4.out.1 a _ _ (cellsL (xs.drop m)) rfl (by rw [cellsL_length, HDL.out] <;> omega) (cells_of_row (row_end hxl)) (cellsL_one _) (by unfold maxLen; omega) (by omega) (by exact HO4.out.2.size) ?_))
        intro v5 w5 hown hgrow _
        have HO5 : Hid (Holding w 105 v5 Z w5) := by rw [HE.out]; exact HO4.out.cat (by rw [HDL.out]; first | exact hown | (rw [Nat.sub_eq_zero_of_le hxl]; exact hown)) hgrow
        clear hown hgrow
        obtain ⟨p', c', rfl, hr⟩ := HO5.out.gave
        have HR' := Lib.hid hr
        clear hr
        go_wp2
        go_ret
        exact ⟨p', c', rfl, HR'.out, HO5.out.2⟩
      · go_wp2_with (first
          | (at_builtin; refine wpList_append_own _ rfl (.tmp 36) (.tmp 39) 23 rfl w.heap.size 105 i0 (.agg #[.int .u16 0, .int .u32 0]) 2 8 Tryz.underlying23 hi hz0 hz1 hz2 rfl (by decide) _ _ _ rfl HO4.out.1 (a.add (m * 2)) _ _ (cellsL (xs.drop m)) rfl (by rw [cellsL_length, HDL.out] <;> omega) (cells_of_row ((row_drop HR.out m).below HO4.out.2)) (cellsL_one _) (by unfold maxLen; omega) (by omega) (by exact HO4.out.2.size) ?_))
        intro v5 w5 hown hgrow _
        have HO5 : Hid (Holding w 105 v5 Z w5) := by rw [HE.out]; exact HO4.out.cat (by rw [HDL.out]; first | exact hown | (rw [Nat.sub_eq_zero_of_le hxl]; exact hown)) hgrow
        clear hown hgrow
        obtain ⟨p', c', rfl, hr⟩ := HO5.out.gave
        have HR' := Lib.hid hr
        clear hr
        go_wp2
        go_ret
        exact ⟨p', c', rfl, HR'.out, HO5.out.2⟩

set_option maxHeartbeats 1600000 in
set_option maxRecDepth 100000 in
theorem with_none (r s : Int) (w : World) :
    Calls Tryz.prog 50 #[.slice none 0 0, .int .u16 r, .int .u32 s] w (Gave w (mid r s)) := by
  have HF : Hid (Calls Tryz.prog 67 #[.slice none 0 0, .int .u16 r] w fun e w' => e = .returned (.tuple #[.int .i64 0, .bool false]) ∧ Below w.heap.size w w') := find_any [] r none 0 w (fun i hi => by simp at hi) (fun i j _ hj => by simp at hj) (by simp)
  obtain ⟨i0, hi, hz0, hz1, hz2⟩ := info_parts info55
  have hm : (mid r s).length ≤ 1 := by unfold mid; split <;> simp
  go_enter Tryz.func50, Tryz.ntmps50
  go_wp2_with fail
  refine HF.out.mono ?_
  rintro e w1 ⟨rfl, hb1⟩
  have HB1 := Lib.hid hb1
  clear hb1 HF
  go_wp2_with (at_make; refine wpList_make_own _ rfl _ _ 23 rfl w.heap.size 105 i0 (.agg #[.int .u16 0, .int .u32 0]) 2 Tryz.underlying23 hi hz0 hz1 _ _ _ 1 rfl rfl (by omega) (by rw [hz2]; omega) (by unfold maxLen; omega) HB1.out.size ?_)
  intro w2 hown0 hgrow0
  have HO2 : Hid (Holding w 105 (.slice (some ⟨w1.heap.size, 0, none⟩) 0 1) [] w2) := Holding.made HB1.out hown0 hgrow0
  clear hown0 hgrow0
  by_cases hs : 0 < s
  · go_wp2_with (first
      | (at_builtin; refine wpList_append_own_none rfl (.tmp 20) (.tmp 23) 23 rfl w.heap.size 105 i0 2 Tryz.underlying23 hi _ 0 [] rfl (show w2.ownsRow w.heap.size 105 2 _ 0 [] from HO2.out.1) rfl ?_)
      | (at_builtin; refine wpList_append_own _ rfl (.tmp 27) (.tmp 31) 23 rfl w.heap.size 105 i0 (.agg #[.int .u16 0, .int .u32 0]) 2 8 Tryz.underlying23 hi hz0 hz1 hz2 rfl (by decide) _ 0 [] rfl (show (w2.alloc _).ownsRow w.heap.size 105 2 _ 0 [] from (HO2.out.alloc _).1) ⟨w2.heap.size, 0, none⟩ 1 1 [.int .u16 r, .int .u32 s] rfl rfl (cells_pair 105 (by simp) (by simp)) (pair_one r s) (by unfold maxLen; omega) (by omega) (by have := HO2.out.2.size; simp; omega) ?_))
    intro v4 w4 hown hgrow _
    have HO4 : Hid (Holding w 105 v4 (mid r s) w4) := by
      rw [mid, if_pos hs]
      exact (HO2.out.alloc _).onto (xs := []) hown hgrow
    clear hown hgrow HO2
    go_wp2_with (first
      | (at_builtin; refine wpList_append_own_none rfl (.tmp 36) (.tmp 39) 23 rfl w.heap.size 105 i0 2 Tryz.underlying23 hi _ _ _ rfl HO4.out.1 rfl ?_))
    obtain ⟨p', c', rfl, hr⟩ := HO4.out.gave
    go_ret
    exact ⟨p', c', rfl, hr, HO4.out.2⟩
  · go_wp2_with (first
      | (at_builtin; refine wpList_append_own_none rfl (.tmp 20) (.tmp 23) 23 rfl w.heap.size 105 i0 2 Tryz.underlying23 hi _ 0 [] rfl (show w2.ownsRow w.heap.size 105 2 _ 0 [] from HO2.out.1) rfl ?_)
      | (at_builtin; refine wpList_append_own_none rfl (.tmp 36) (.tmp 39) 23 rfl w.heap.size 105 i0 2 Tryz.underlying23 hi _ 0 [] rfl (show w2.ownsRow w.heap.size 105 2 _ 0 [] from HO2.out.1) rfl ?_))
    go_ret
    have e : mid r s = [] := by rw [mid, if_neg (by omega)]
    rw [e]
    exact ⟨_, _, rfl, fun i hi => by simp at hi, HO2.out.2⟩

/-- With, at whatever slice. -/
theorem with_any (xs : List En) (r s : Int) (p : Option Addr) (c : Nat) (w : World) (hR : Row w p xs) (hs : Srt xs) (hl : xs.length ≤ 1000) (hc : xs.length ≤ c) (hn : p = none → c = 0) :
    Calls Tryz.prog 50 #[.slice p xs.length c, .int .u16 r, .int .u32 s] w (Gave w (withL xs r s)) := by
  cases p with
  | some a => exact with_some xs r s a c w hR hs hl hc
  | none =>
    have e := row_none hR
    have e2 := hn rfl
    subst e e2
    have e3 : withL [] r s = mid r s := by simp [withL, lo, Vec.hi]
    rw [e3]
    exact with_none r s w

end Go.Proofs.YtceanfpcddcfoaaGreat.Vec
/-
  What the program's Fit, Ready, Past and Needs of layer 10 hand back. No conditions beyond what each theorem states.
-/
namespace Go.Proofs.YtceanfpcddcfoaaGreat
open Go.ChangeShapes Go.WideShapes Go.ChangeAt Go.RowKit Go.Lib
set_option linter.unusedVariables false
set_option linter.unusedSimpArgs false

set_option maxHeartbeats 3200000 in
set_option maxRecDepth 20000 in
theorem fitE_spec : FitESpec := by
  intro e xs p q c d w H hs hl hxl
  have H1 : Hid (∀ W, Below w.heap.size w W → Calls Tryz.prog 35 #[.slice p e.deps.length c] W fun r w' => r = .returned (.bool (Vec.rightB e.deps)) ∧ Below W.heap.size W w') := fun W hb => Vec.right_any e.deps p c W (H.row.below hb) (by omega)
  have H2 : Hid (Vec.rightB e.deps = true → ∀ W, Below w.heap.size w W → Calls Tryz.prog 36 #[.slice p e.deps.length c, .int .u16 e.txn.r] W fun r w' => r = .returned (.int .u32 (Vec.getL e.deps e.txn.r)) ∧ Below W.heap.size W w') := fun hr W hb => Vec.get_any e.deps e.txn.r p c W (H.row.below hb) (right_srt (rightB_iff.1 hr)) (by omega)
  have H3 : Hid (∀ W, Below w.heap.size w W → Calls Tryz.prog 37 #[.agg #[.int .u16 e.txn.r, .int .u32 e.txn.seq, .int .u64 e.txn.clock, .int .i64 e.txn.user, .slice q e.txn.ops.length d]] W fun r w' => r = .returned (.int .i64 (fitT e.txn)) ∧ Below W.heap.size W w') := fun W hb => fitT_spec e.txn xs q d W (H.txn.below hb) hs hxl
  have HF : Hid (fitE e = if Vec.rightB e.deps = false ∨ Vec.getL e.deps e.txn.r ≠ 0 then 11 else fitT e.txn) := rfl
  clear H hs
  obtain ⟨deps, ⟨r, seq, clock, user, ops⟩⟩ := e
  unfold ev
  simp only at *
  generalize fitE (⟨deps, ⟨r, seq, clock, user, ops⟩⟩ : Em) = F at HF ⊢
  generalize Vec.rightB deps = B at H1 H2 HF
  generalize fitT (⟨r, seq, clock, user, ops⟩ : Tm) = FT at H3 HF
  generalize Vec.getL deps r = G at H2 HF
  generalize ops.length = TL at H3 ⊢
  generalize deps.length = L at H1 H2 hl ⊢
  have HX := Lib.hid (heap_alloc_new w (.cells #[.slice p L c, .int .u16 r, .int .u32 seq, .int .u64 clock, .int .i64 user, .slice q TL d] 31))
  have HB0 : Hid (Below w.heap.size w (w.alloc (.cells #[.slice p L c, .int .u16 r, .int .u32 seq, .int .u64 clock, .int .i64 user, .slice q TL d] 31))) := below_alloc (Below.refl _ _) _
  go_enter Tryz.func12, Tryz.ntmps12
  go_wp2_with fail
  generalize (w.alloc (.cells #[.slice p L c, .int .u16 r, .int .u32 seq, .int .u64 clock, .int .i64 user, .slice q TL d] 31)) = w0 at HX HB0 ⊢
  refine (H1.out _ HB0.out).mono ?_
  rintro e w1 ⟨rfl, hb1⟩
  have HB1 : Hid (Below w.heap.size w w1) := below_step HB0.out hb1
  have HX1 := Lib.hid (kept_box HX.out hb1)
  obtain ⟨x0, x1, x2, x3, x4, x5⟩ := six_cells HX1.out
  clear hb1 HB0 H1
  cases B with
  | false =>
    have HF2 : Hid (F = 11) := by show _ = _; rw [HF.out]; rfl
    go_wp2
    go_ret
    exact ⟨by rw [HF2.out]; rfl, HB1.out⟩
  | true =>
    have H2b := Lib.hid (H2.out rfl)
    clear H2
    go_wp2_with fail
    refine (H2b.out _ HB1.out).mono ?_
    rintro e w2 ⟨rfl, hb2⟩
    have HB2 : Hid (Below w.heap.size w w2) := below_step HB1.out hb2
    have HX2 := Lib.hid (kept_box HX1.out hb2)
    clear x0 x1 x2 x3 x4 x5 hb2
    obtain ⟨x0, x1, x2, x3, x4, x5⟩ := six_cells HX2.out
    clear H2b
    by_cases hG : G = 0
    · subst hG
      have HF2 : Hid (F = FT) := by show _ = _; rw [HF.out]; rfl
      go_wp2_with fail
      refine (H3.out _ HB2.out).mono ?_
      rintro e w3 ⟨rfl, hb3⟩
      have HB3 : Hid (Below w.heap.size w w3) := below_step HB2.out hb3
      clear hb3 H3
      go_wp2
      go_ret
      exact ⟨by rw [HF2.out]; rfl, HB3.out⟩
    · have hG' : (G != 0) = true := bne_int hG
      have HF2 : Hid (F = 11) := by show _ = _; rw [HF.out, if_pos (Or.inr hG)]
      go_wp2
      go_ret
      exact ⟨by rw [HF2.out]; rfl, HB2.out⟩

set_option maxHeartbeats 3200000 in
set_option maxRecDepth 20000 in
theorem pastE_spec : PastESpec := by
  intro e xs h p q s c d f w _ _ _ hH _ _ _ hr hl _
  have H2 : Hid (∀ W, Below w.heap.size w W → Calls Tryz.prog 36 #[.slice s h.length f, .int .u16 e.txn.r] W fun r w' => r = .returned (.int .u32 (Vec.getL h e.txn.r)) ∧ Below W.heap.size W w') := fun W hb => Vec.get_any h e.txn.r s f W (hH.below hb) (right_srt hr) (by omega)
  have HF : Hid (pastE e h = decide (e.txn.seq ≤ Vec.getL h e.txn.r)) := rfl
  clear hH hr
  obtain ⟨deps, ⟨r, seq, clock, user, ops⟩⟩ := e
  unfold ev
  simp only at *
  generalize pastE (⟨deps, ⟨r, seq, clock, user, ops⟩⟩ : Em) h = F at HF ⊢
  generalize Vec.getL h r = G at H2 HF
  generalize ops.length = TL
  generalize deps.length = L
  generalize h.length = HL at H2 hl ⊢
  have HX := Lib.hid (heap_alloc_new w (.cells #[.slice p L c, .int .u16 r, .int .u32 seq, .int .u64 clock, .int .i64 user, .slice q TL d] 31))
  have HB0 : Hid (Below w.heap.size w (w.alloc (.cells #[.slice p L c, .int .u16 r, .int .u32 seq, .int .u64 clock, .int .i64 user, .slice q TL d] 31))) := below_alloc (Below.refl _ _) _
  go_enter Tryz.func23, Tryz.ntmps23
  go_wp2_with fail
  generalize hw0 : (w.alloc (.cells #[.slice p L c, .int .u16 r, .int .u32 seq, .int .u64 clock, .int .i64 user, .slice q TL d] 31)) = w0 at HX HB0 ⊢
  clear hw0
  obtain ⟨x0', x1', x2', x3', x4', x5'⟩ := six_cells HX.out
  have x1 := cell_regrown x1'
  have x2 := cell_regrown x2'
  have HG : Hid (∀ dd os, Calls Tryz.prog 36 #[.slice s HL f, .int .u16 r] (Go.Sort.grow (redrawn w0 dd) os) fun e w' => e = .returned (.int .u32 G) ∧ Below (Go.Sort.grow (redrawn w0 dd) os).heap.size (Go.Sort.grow (redrawn w0 dd) os) w') := fun dd os => H2.out _ (below_step HB0.out (below_regrown _ _ _))
  clear x0' x1' x2' x3' x4' x5'
  refine wp_region_quiet_below (by kernel_rfl) (by kernel_rfl) ?_
  repeat (first | go_big_quiet_step ((go_at_call 36; exact Calls.regrown_of (HG.out _ _))) | quiet_step ((go_at_call 36; exact Calls.regrown_of (HG.out _ _))))
  refine wpQuiet_nil ?_
  intro w3 hw'
  have HB3 : Hid (Below w.heap.size w w3) := by obtain ⟨⟨dq, osq⟩, rfl⟩ := hw'; exact below_step HB0.out (below_regrown _ _ _)
  clear hw' HG
  go_wp2
  go_ret
  exact ⟨by rw [HF.out]; rfl, HB3.out⟩

set_option maxHeartbeats 3200000 in
set_option maxRecDepth 20000 in
theorem readyE_spec : ReadyESpec := by
  intro e xs h p q s c d f w HE hSM hfit hH _ _ hfx hr hl hm
  obtain ⟨hrd, hgd, hft⟩ := fitE_ok hfit
  have hsq := (fitT_ok hft)
  have H2 : Hid (∀ W, Below w.heap.size w W → Calls Tryz.prog 36 #[.slice s h.length f, .int .u16 e.txn.r] W fun r w' => r = .returned (.int .u32 (Vec.getL h e.txn.r)) ∧ Below W.heap.size W w') := fun W hb => Vec.get_any h e.txn.r s f W (hH.below hb) (right_srt hr) (by omega)
  have H3 : Hid (∀ W, Below w.heap.size w W → Calls Tryz.prog 53 #[.slice s h.length f, .slice p e.deps.length c] W fun r w' => r = .returned (.bool (Vec.coversL h e.deps)) ∧ Below W.heap.size W w') := fun W hb => Vec.covers_any h e.deps s p f c W (hH.below hb) (HE.row.below hb) (right_srt hr) (by omega) (by omega)
  have HF : Hid (readyE e h = (decide (Vec.getL h e.txn.r + 1 = e.txn.seq) && Vec.coversL h e.deps)) := rfl
  obtain ⟨g1, g2⟩ := getL_right hr e.txn.r
  have hsq1 : 1 ≤ e.txn.seq ∧ e.txn.seq ≤ 268435456 := by omega
  clear hH hfx hr HE hSM hfit hrd hgd hft hsq
  obtain ⟨deps, ⟨r, seq, clock, user, ops⟩⟩ := e
  unfold ev
  simp only at *
  generalize readyE (⟨deps, ⟨r, seq, clock, user, ops⟩⟩ : Em) h = F at HF ⊢
  generalize Vec.getL h r = G at H2 HF g1 g2
  generalize Vec.coversL h deps = C at H3 HF
  generalize ops.length = TL
  generalize deps.length = L at H3 hm ⊢
  generalize h.length = HL at H2 H3 hl ⊢
  have HX := Lib.hid (heap_alloc_new w (.cells #[.slice p L c, .int .u16 r, .int .u32 seq, .int .u64 clock, .int .i64 user, .slice q TL d] 31))
  have HB0 : Hid (Below w.heap.size w (w.alloc (.cells #[.slice p L c, .int .u16 r, .int .u32 seq, .int .u64 clock, .int .i64 user, .slice q TL d] 31))) := below_alloc (Below.refl _ _) _
  have hwr : IntKind.u32.wrap (seq - 1) = seq - 1 := by rw [IntKind.wrap_u32]; omega
  go_enter Tryz.func21, Tryz.ntmps21
  go_wp2_with fail
  generalize hw0 : (w.alloc (.cells #[.slice p L c, .int .u16 r, .int .u32 seq, .int .u64 clock, .int .i64 user, .slice q TL d] 31)) = w0 at HX HB0 ⊢
  clear hw0
  obtain ⟨x0', x1', x2', x3', x4', x5'⟩ := six_cells HX.out
  have x0 := cell_regrown x0'
  have x1 := cell_regrown x1'
  have x2 := cell_regrown x2'
  have HG : Hid (∀ dd os, Calls Tryz.prog 36 #[.slice s HL f, .int .u16 r] (Go.Sort.grow (redrawn w0 dd) os) fun e w' => e = .returned (.int .u32 G) ∧ Below (Go.Sort.grow (redrawn w0 dd) os).heap.size (Go.Sort.grow (redrawn w0 dd) os) w') := fun dd os => H2.out _ (below_step HB0.out (below_regrown _ _ _))
  have HC : Hid (∀ dd os, Calls Tryz.prog 53 #[.slice s HL f, .slice p L c] (Go.Sort.grow (redrawn w0 dd) os) fun e w' => e = .returned (.bool C) ∧ Below (Go.Sort.grow (redrawn w0 dd) os).heap.size (Go.Sort.grow (redrawn w0 dd) os) w') := fun dd os => H3.out _ (below_step HB0.out (below_regrown _ _ _))
  clear x0' x1' x2' x3' x4' x5'
  by_cases hE : G = seq - 1
  · have hE' : (G == seq - 1) = true := by simp [hE]
    have HF2 : Hid (F = C) := by show _ = _; rw [HF.out, decide_eq_true (by omega), Bool.true_and]
    clear hE g1 g2
    refine wp_region_quiet_below (by kernel_rfl) (by kernel_rfl) ?_
    repeat (first | go_big_quiet_step (first | (go_at_call 36; exact Calls.regrown_of (HG.out _ _)) | (go_at_call 53; exact Calls.regrown_of (HC.out _ _))) | quiet_step (first | (go_at_call 36; exact Calls.regrown_of (HG.out _ _)) | (go_at_call 53; exact Calls.regrown_of (HC.out _ _))))
    refine wpQuiet_nil ?_
    intro w3 hw'
    have HB3 : Hid (Below w.heap.size w w3) := by obtain ⟨⟨dq, osq⟩, rfl⟩ := hw'; exact below_step HB0.out (below_regrown _ _ _)
    clear hw' HG HC
    go_wp2
    go_ret
    exact ⟨by rw [HF2.out]; rfl, HB3.out⟩
  · have hE' : (G == seq - 1) = false := by simp [hE]
    have HF2 : Hid (F = false) := by show _ = _; rw [HF.out, decide_eq_false (by omega), Bool.false_and]
    clear hE g1 g2
    refine wp_region_quiet_below (by kernel_rfl) (by kernel_rfl) ?_
    repeat (first | go_big_quiet_step (first | (go_at_call 36; exact Calls.regrown_of (HG.out _ _)) | (go_at_call 53; exact Calls.regrown_of (HC.out _ _))) | quiet_step (first | (go_at_call 36; exact Calls.regrown_of (HG.out _ _)) | (go_at_call 53; exact Calls.regrown_of (HC.out _ _))))
    refine wpQuiet_nil ?_
    intro w3 hw'
    have HB3 : Hid (Below w.heap.size w w3) := by obtain ⟨⟨dq, osq⟩, rfl⟩ := hw'; exact below_step HB0.out (below_regrown _ _ _)
    clear hw' HG HC
    go_wp2
    go_ret
    exact ⟨by rw [HF2.out]; rfl, HB3.out⟩

set_option maxHeartbeats 3200000 in
set_option maxRecDepth 20000 in
theorem needsE_spec : NeedsESpec := by
  intro e xs h p q s c d f w HE hSM hfit hH _ _ hfx hr hl hm
  obtain ⟨hrd, hgd, hft⟩ := fitE_ok hfit
  have hsq := (fitT_ok hft)
  have hrr : 0 ≤ e.txn.r ∧ e.txn.r ≤ 65535 := ⟨HE.txn.fit.1, HE.txn.fit.2.1⟩
  have hsq1 : 1 ≤ e.txn.seq ∧ e.txn.seq ≤ 268435456 := by omega
  have H2 : Hid (∀ W, Below w.heap.size w W → Calls Tryz.prog 50 #[.slice p e.deps.length c, .int .u16 e.txn.r, .int .u32 (e.txn.seq - 1)] W (Vec.Gave W (Vec.withL e.deps e.txn.r (e.txn.seq - 1)))) := fun W hb => Vec.with_any e.deps e.txn.r (e.txn.seq - 1) p c W (HE.row.below hb) (right_srt hrd) (by omega) HE.cap HE.nil
  have hwl := withL_len e.deps e.txn.r (e.txn.seq - 1)
  have H3 : Hid (∀ W p' c', Below w.heap.size w W → Vec.Row W p' (Vec.withL e.deps e.txn.r (e.txn.seq - 1)) → Calls Tryz.prog 49 #[.slice s h.length f, .slice p' (Vec.withL e.deps e.txn.r (e.txn.seq - 1)).length c'] W (Vec.Gave3 W (needsE e h))) := fun W p' c' hb hrw => Vec.lacks_any h _ s p' f c' W (hH.below hb) hrw (right_srt hr) hfx (withL_fits HE.fits hrr ⟨by omega, by omega⟩) (by omega) (by omega)
  clear hH hfx hr HE hSM hfit hrd hgd hft hsq hrr hwl
  obtain ⟨deps, ⟨r, seq, clock, user, ops⟩⟩ := e
  unfold ev
  unfold Vec.Gave3 at H3 ⊢
  unfold Vec.Gave at H2
  simp only at *
  generalize needsE (⟨deps, ⟨r, seq, clock, user, ops⟩⟩ : Em) h = F at H3 ⊢
  generalize Vec.withL deps r (seq - 1) = WL at H2 H3
  generalize ops.length = TL
  generalize deps.length = L at H2 hm ⊢
  generalize h.length = HL at H3 hl ⊢
  have HX := Lib.hid (heap_alloc_new w (.cells #[.slice p L c, .int .u16 r, .int .u32 seq, .int .u64 clock, .int .i64 user, .slice q TL d] 31))
  have HB0 : Hid (Below w.heap.size w (w.alloc (.cells #[.slice p L c, .int .u16 r, .int .u32 seq, .int .u64 clock, .int .i64 user, .slice q TL d] 31))) := below_alloc (Below.refl _ _) _
  have hwr : IntKind.u32.wrap (seq - 1) = seq - 1 := by rw [IntKind.wrap_u32]; omega
  obtain ⟨x0, x1, x2, x3, x4, x5⟩ := six_cells HX.out
  go_enter Tryz.func19, Tryz.ntmps19
  go_wp2_with fail
  generalize (w.alloc (.cells #[.slice p L c, .int .u16 r, .int .u32 seq, .int .u64 clock, .int .i64 user, .slice q TL d] 31)) = w0 at HX HB0 x0 x1 x2 x3 x4 x5 ⊢
  refine (H2.out _ HB0.out).mono ?_
  rintro r1 w1 ⟨p1, c1, rfl, hr1, hb1⟩
  have HB1 : Hid (Below w.heap.size w w1) := below_step HB0.out hb1
  have HR1 := Lib.hid hr1
  clear hr1 hb1 H2 x0 x1 x2 x3 x4 x5
  go_wp2_with fail
  refine (H3.out _ _ _ HB1.out HR1.out).mono ?_
  rintro r2 w2 ⟨p2, c2, rfl, hr2, hb2⟩
  have HR2 := Lib.hid hr2
  have HB2 : Hid (Below w.heap.size w w2) := below_step HB1.out hb2
  clear hr2 hb2 H3
  go_wp2
  go_ret
  exact ⟨p2, c2, rfl, HR2.out, HB2.out⟩
end Go.Proofs.YtceanfpcddcfoaaGreat
/-
  What check's Sum, Seal and Open hand back, for all bytes that lie in memory, and moved, bytes.Equal and bytes.Clone, on which they lean. No conditions beyond what each theorem states (at most a million bytes).
-/
namespace Go.Proofs.YtceanfpcddcfoaaGreat
open Go.ChangeShapes Go.WideShapes Go.ChangeAt Go.RowKit Go.Lib
set_option linter.unusedVariables false
set_option linter.unusedSimpArgs false
theorem stepT_yes {s : R32} (h : s.msb.toNat = 1) : stepT s = (s <<< 1) ^^^ poly := by
  unfold stepT
  cases hm : s.msb <;> simp_all
theorem stepT_no {s : R32} (h : s.msb.toNat = 0) : stepT s = s <<< 1 := by
  unfold stepT
  cases hm : s.msb <;> simp_all
theorem runT_succ (k : Nat) (s : R32) : runT (k + 1) s = runT k (stepT s) := rfl

set_option maxHeartbeats 1600000 in
set_option maxRecDepth 20000 in
theorem moved_any (s : R32) (w : World) :
    Calls Tryz.prog 110 #[.int .u32 (s.toNat : Int)] w fun e w' => e = .returned (.int .u32 ((runT 8 s).toNat : Int)) ∧ w' = w := by
  go_enter Tryz.func110, Tryz.ntmps110
  go_wp2_with fail
  refine wp_scope_loop 0 (fun a' w' => w' = w ∧ ∃ (S : R32) (k : Nat) (c4 c5 c6 c7 c8 c9 c10 c11 c12 c13 c14 c15 c16 c17 : Value), a' = { tmps := #[.int .u32 (S.toNat : Int), undef, .int .u32 0, .int .i64 (k : Int), c4, c5, c6, c7, c8, c9, c10, c11, c12, c13, c14, c15, c16, c17], defers := [] } ∧ 1 ≤ k ∧ k ≤ 8 ∧ runT k S = runT 8 s) (fun a' _ => natOf (a'.tmps.getD 3 undef)) rfl ?_ ?_
  · intro hpass
    have HP := Lib.hid hpass
    clear hpass
    go_wp2_with fail
    go_step3
    rename_i KK hKK
    exact hKK _ _ (HP.out _ _ ⟨rfl, s, 8, _, _, _, _, _, _, _, _, _, _, _, _, _, _, rfl, by decide, by decide, rfl⟩)
  · rintro a' w' ⟨rfl, S, k, c4, c5, c6, c7, c8, c9, c10, c11, c12, c13, c14, c15, c16, c17, rfl, h1, h2, h3⟩
    obtain ⟨k, rfl⟩ : ∃ j, k = j + 1 := ⟨k - 1, by omega⟩
    rw [runT_succ] at h3
    have hX := reg_lt S
    have ho := msb_nat S
    have hsh := shl_nat S
    have hxp := xor_poly (S <<< 1)
    have hO : S.msb.toNat = 1 ∨ S.msb.toNat = 0 := by cases S.msb <;> decide
    have HX := Lib.hid h3
    clear h3
    rcases hO with he | he
    · have HE := Lib.hid (stepT_yes he)
      rw [he] at ho
      generalize hZ : (S <<< 1) ^^^ poly = Z at hxp HE
      generalize (S <<< 1).toNat = Y at hsh hxp
      generalize S.toNat = X at hX ho hsh
      have q1 : (X : Int) / 2147483648 = 1 := by omega
      have q3 : (X : Int) * 2 % 4294967296 = (Y : Int) := by omega
      have HZ := Lib.hid hZ
      clear hsh ho hZ he
      by_cases hk : 1 < k + 1
      · have hk' : (1 : Int) < ((k + 1 : Nat) : Int) := by omega
        go_wp2_with fail
        go_step3
        exact ⟨rfl, ⟨rfl, Z, k, _, _, _, _, _, _, _, _, _, _, _, _, _, _, by go_num, by omega, by omega, by rw [← HX.out, HE.out]⟩, by show ((k : Nat) : Int).toNat < (((k + 1 : Nat) : Int)).toNat; omega⟩
      · have hk0 : k = 0 := by omega
        subst hk0
        go_wp2_with fail
        simp only [Exit.jump]
        go_ret
        exact ⟨by rw [← HX.out, HE.out]; rfl, rfl⟩
    · have HE := Lib.hid (stepT_no he)
      rw [he] at ho
      generalize hZ : S <<< 1 = Z at hsh HE
      clear hxp
      generalize hY : Z.toNat = Y at hsh
      generalize S.toNat = X at hX ho hsh
      have q1 : (X : Int) / 2147483648 = 0 := by omega
      have q3 : (X : Int) * 2 % 4294967296 = (Y : Int) := by omega
      have HQ : Hid ((Y : Int) = (X : Int) * 2) := by show (Y : Int) = (X : Int) * 2; omega
      have HZ := Lib.hid hZ
      have HY := Lib.hid hY
      clear hsh ho hZ he hY
      by_cases hk : 1 < k + 1
      · have hk' : (1 : Int) < ((k + 1 : Nat) : Int) := by omega
        go_wp2_with fail
        go_step3
        exact ⟨rfl, ⟨rfl, Z, k, _, _, _, _, _, _, _, _, _, _, _, _, _, _, by rw [HY.out, HQ.out], by omega, by omega, by rw [← HX.out, HE.out]⟩, by show ((k : Nat) : Int).toNat < (((k + 1 : Nat) : Int)).toNat; omega⟩
      · have hk0 : k = 0 := by omega
        subst hk0
        go_wp2_with fail
        simp only [Exit.jump]
        go_ret
        exact ⟨by rw [← HX.out, HE.out]; show Ending.returned (.int .u32 ((X : Int) * 2)) = .returned (.int .u32 (Z.toNat : Int)); rw [HY.out, HQ.out], rfl⟩

set_option maxRecDepth 100000 in
theorem word_byte (c : UInt8) : (wordB (bitsB c)).toNat = c.toNat * 16777216 := by
  have h : ∀ n, n < 256 → (wordB [n.testBit 7, n.testBit 6, n.testBit 5, n.testBit 4, n.testBit 3, n.testBit 2, n.testBit 1, n.testBit 0]).toNat = n * 16777216 := by decide +kernel
  exact h c.toNat c.toNat_lt
theorem feed (s : R32) (c : UInt8) : runB s (bitsB c) = runT 8 (s ^^^ wordB (bitsB c)) := runB_word _ (by show 8 ≤ 32; decide) s
theorem xor_nat (s t : R32) : bits .xor .u32 (s.toNat : Int) (t.toNat : Int) = ((s ^^^ t).toNat : Int) := by
  have h1 : ∀ s : R32, BitVec.ofInt 32 (s.toNat : Int) = s := fun s => by rw [BitVec.ofInt_natCast]; simp
  show IntKind.u32.wrap ((BitVec.ofInt 32 (s.toNat : Int) ^^^ BitVec.ofInt 32 (t.toNat : Int)).toNat : Int) = _
  rw [h1, h1, IntKind.wrap_u32]
  have := reg_lt (s ^^^ t)
  omega
theorem feed_nat (s : R32) (c : UInt8) : bits .xor .u32 (s.toNat : Int) ((c.toNat : Int) * 16777216) = ((s ^^^ wordB (bitsB c)).toNat : Int) := by
  rw [← xor_nat, word_byte]; rfl
theorem reg_more {ls : List (List UInt8)} {i : Nat} (h : i < ls.length) (s : R32) : regL s (ls.take (i + 1)).flatten = regL (regL s (ls.take i).flatten) (ls.getD i []) := by
  rw [List.take_add_one, List.flatten_append, regL_append]
  simp [h]

set_option maxHeartbeats 3200000 in
set_option maxRecDepth 20000 in
theorem sum_still (ls : List (List UInt8)) (pp : Option Addr) (cc : Nat) (w : World) (hR : LRow w pp ls) (hn : ls.length ≤ 1000000) (hl : ls.flatten.length ≤ 1000000) :
    Calls Tryz.prog 94 #[.slice pp ls.length cc] w fun e w' => e = .returned (.int .u32 ((sumL ls.flatten).toNat : Int)) ∧ w' = w := by
  have HR := Lib.hid hR
  have HL := Lib.hid hl
  clear hR hl
  go_enter Tryz.func94, Tryz.ntmps94
  go_wp2_with fail
  go_loopg [3, 10] ls.length (fun g s i wr => ∃ k : Nat, k ≤ ls.length ∧ ls.length - k ≤ g ∧ i = .int .i64 (k : Int) ∧ s = .int .u32 ((regL ones (ls.take k).flatten).toNat : Int) ∧ wr = w)
  case atStart => exact ⟨0, Nat.zero_le _, by omega, rfl, rfl, rfl⟩
  case round =>
    obtain ⟨k, hk, hg, rfl, rfl, rfl⟩ := hrel
    by_cases hlt : k < ls.length
    · obtain ⟨b, o, p, c, rfl, hcell, hrow, hlc, hpn⟩ := HR.out k hlt
      have hbl : (ls.getD k []).length ≤ 1000000 := Nat.le_trans (List.sublist_flatten_of_mem (by rw [List.getD_eq_getElem?_getD, List.getElem?_eq_getElem hlt]; exact List.getElem_mem hlt)).length_le HL.out
      have HM := Lib.hid (reg_more hlt ones)
      have HB := Lib.hid hrow
      clear hrow
      generalize ls.getD k [] = bs at hcell HB hlc HM hbl
      generalize regL ones (ls.take k).flatten = S0 at HM ⊢
      go_wp2_with fail
      go_loopg [3, 16] bs.length (fun g s i wq => ∃ j : Nat, j ≤ bs.length ∧ bs.length - j ≤ g ∧ i = .int .i64 (j : Int) ∧ s = .int .u32 ((regL S0 (bs.take j)).toNat : Int) ∧ wq = wr)
      case atStart => exact ⟨0, Nat.zero_le _, by omega, rfl, rfl, rfl⟩
      case round =>
        obtain ⟨j, hj, hgj, rfl, rfl, rfl⟩ := hrel
        by_cases hj8 : j < bs.length
        · obtain ⟨b2, o2, rfl, hc2⟩ := HB.out j hj8
          have hS := regL_snoc hj8 S0
          rw [show atB bs j = (((bs.getD j 0).toNat : Nat) : Int) from rfl] at hc2
          have hcb : (bs.getD j 0).toNat < 256 := (bs.getD j 0).toNat_lt
          generalize bs.getD j 0 = ch at hc2 hS hcb
          rw [feed] at hS
          generalize regL S0 (bs.take j) = S at hS ⊢
          have hf := feed_nat S ch
          have H := moved_any (S ^^^ wordB (bitsB ch)) wr
          rw [← hS] at H
          generalize (S ^^^ wordB (bitsB ch)).toNat = Z at hf H
          generalize S.toNat = X at hf ⊢
          generalize ch.toNat = C at hf hc2 hcb
          have H := Lib.hid H
          clear hS
          have hcb' : (C : Int) * 16777216 < 4294967296 := by omega
          go_wp2_with (first | (go_at_call 110; refine H.out.mono ?_; rintro e w1 ⟨rfl, hw⟩; obtain rfl := Eq.symm hw; clear hw))
          go_roundg (bs.length - (j + 1))
          case measure => omega
          case rel => exact ⟨j + 1, by omega, Nat.le_refl _, by go_num, rfl, rfl⟩
        · have hj8' : j = bs.length := by omega
          subst hj8'
          go_wp2_with fail
          go_roundg (ls.length - (k + 1))
          case measure => omega
          case rel => exact ⟨k + 1, by omega, Nat.le_refl _, by go_num, by rw [HM.out, List.take_length], rfl⟩
    · have : k = ls.length := by omega
      subst this
      have HX : Hid (bits .xor .u32 IntKind.u32.max ((regL ones ls.flatten).toNat : Int) = ((sumL ls.flatten).toNat : Int)) := by
        show bits .xor .u32 IntKind.u32.max ((regL ones ls.flatten).toNat : Int) = ((sumL ls.flatten).toNat : Int)
        rw [sumL, BitVec.xor_comm, ← xor_nat]; rfl
      go_wp2_with fail
      go_ret
      exact ⟨by rw [← HX.out]; rfl, rfl⟩
theorem sum_any (ls : List (List UInt8)) (pp : Option Addr) (cc : Nat) (w : World) (hR : LRow w pp ls) (hl : ls.flatten.length ≤ 1000000) (hn : ls.length ≤ 1000000 := by simp) :
    Calls Tryz.prog 94 #[.slice pp ls.length cc] w fun e w' => e = .returned (.int .u32 ((sumL ls.flatten).toNat : Int)) ∧ Below w.heap.size w w' :=
  (sum_still ls pp cc w hR hn hl).mono fun e w' h => ⟨h.1, by rw [h.2]; exact Below.refl _ _⟩

set_option maxHeartbeats 3200000 in
set_option maxRecDepth 20000 in
theorem seal_any (bs : List UInt8) (p : Option Addr) (c : Nat) (w : World) (hR : BRow w p bs) (hc : bs.length ≤ c) (hp : p = none → c = 0) (hl : bs.length ≤ 1000000) :
    Calls Tryz.prog 64 #[.slice p bs.length c] w (Told (sealL bs) w) := by
  obtain ⟨i0, hi, hz0, hz1, hz2⟩ := info_parts infoB
  have H : Calls Tryz.prog 94 #[.slice (some ⟨w.heap.size, 0, none⟩) 1 1] (w.alloc (.cells #[.slice p bs.length c] 42)) fun e w' => e = .returned (.int .u32 ((sumL bs).toNat : Int)) ∧ w' = w.alloc (.cells #[.slice p bs.length c] 42) := by
    have := sum_still [bs] (some ⟨w.heap.size, 0, none⟩) 1 (w.alloc (.cells #[.slice p bs.length c] 42)) (lrow_one hR hc hp 42) (by simp) (by simpa using hl)
    rwa [show [bs].flatten = bs by simp] at this
  have HR := Lib.hid hR
  have hb4 := be4_ints (sumL bs)
  have hv := reg_lt (sumL bs)
  have HSL : Hid (sealL bs = bs ++ be4 (sumL bs)) := rfl
  generalize sumL bs = V at H hb4 hv HSL
  generalize V.toNat = X at H hb4 hv
  have H := Lib.hid H
  have HB4 := Lib.hid hb4
  have hw1 : (X : Int) / 16777216 < 256 := by omega
  have h0 : p = none → bs.length = 0 := fun h => by
    by_cases h0 : bs.length = 0
    · exact h0
    · obtain ⟨b, o, e, _⟩ := HR.out 0 (by omega)
      rw [h] at e
      exact nomatch e
  have HPN : Hid (p = none → bs.length = 0 ∧ c = 0) := fun h => ⟨h0 h, hp h⟩
  clear hR hb4 hp h0
  go_enter Tryz.func64, Tryz.ntmps64
  go_wp2_with fail
  refine H.out.mono ?_
  rintro e w1 ⟨rfl, hw⟩
  obtain rfl := Eq.symm hw
  clear hw H
  go_wp2_with (first
    | (at_make; refine wpList_make_own _ rfl _ _ 42 rfl w.heap.size 5 i0 (.int .u8 0) 1 Tryz.underlying42 hi hz0 hz1 _ _ _ (bs.length + 4) rfl rfl (by omega) (by rw [hz2]; omega) (by unfold maxLen; omega) (by simp) ?_))
  intro w1 hown hgrow
  have HO := Lib.hid hown
  have HB1 : Hid (Below w.heap.size w w1) := (below_alloc (Below.refl _ _) _).grown hgrow (by simp) (by intro k e; cases e)
  have HR1 : Hid (BRow w1 p bs) := HR.out.below HB1.out
  clear hown hgrow HR
  go_wp2_with (first
    | (at_builtin; refine wpList_append_fits_any _ rfl (.tmp 12) (.tmp 13) 42 rfl w.heap.size 5 i0 1 Tryz.underlying42 hi hz1 _ _ _ [] rfl HO.out p bs.length c (byteCells bs) rfl (by rw [byteCells_length, Nat.mul_one]) HPN.out (fun ad e => brow_news (e ▸ HR1.out)) (byteCells_one _) (by omega) ?_))
  intro w2 hown hgrow
  have HO2 := Lib.hid hown
  have HB2 : Hid (Below w.heap.size w w2) := HB1.out.grown hgrow HB1.out.size (by intro k e; cases e; simp)
  clear hown hgrow HO
  go_wp2_with (first
    | (at_builtin; refine wpList_append_fits _ rfl (.tmp 15) (.tmp 27) 42 rfl w.heap.size 5 i0 1 Tryz.underlying42 hi hz1 _ _ _ (byteCells bs) rfl (HO2.out.alloc _) ⟨w2.heap.size, 0, none⟩ 4 4 _ rfl rfl (four_at _ _ _ _ _ _) (by intro u hu; simp at hu; rcases hu with rfl | rfl | rfl | rfl <;> rfl) (by omega) ?_))
  intro w3 hown hgrow
  rw [← HB4.out] at hown
  have HO3 : Hid (w3.ownsRow w.heap.size 5 1 (.slice (some ⟨w.heap.size + 1, 0, none⟩) (bs.length + 4) (bs.length + 4)) (sealL bs).length (byteCells (sealL bs))) := seal_owns rfl hown HSL.out
  have HB3 : Hid (Below w.heap.size w w3) := (below_alloc HB2.out _).grown hgrow (Nat.le_of_succ_le (by have := HB2.out.size; simp; omega)) (by intro k e; cases e; simp)
  clear hown hgrow
  go_wp2
  go_ret
  obtain ⟨g, c', e, hg, hlc, hrow⟩ := owns_at HO3.out (by rw [HSL.out, List.length_append, be4_len]; omega)
  exact ⟨_, _, by rw [← e]; rfl, hrow, hlc, (by intro h; cases h), HB3.out⟩

/-- What string(b) of bytes that lie in memory is. -/
theorem conv_all {w : World} {p : Option Addr} {n c : Nat} {bs : List UInt8} (h : BRow w p bs) (hn : bs.length = n) :
    (convert 42 9 (.slice p n c)).run Tryz.prog w = .ok (.string ⟨bs.toArray⟩) w := by
  cases p with
  | some a =>
    subst hn
    exact run_convert_bytes_back (P := Tryz.prog) w 42 9 5 a c bs Tryz.underlying42 Tryz.underlying5 Tryz.underlying9 (fun j hj => by
      obtain ⟨b, o', e, hc⟩ := h j hj
      cases e
      rw [Addr.add_lit, hc]
      simp [atB, hj])
  | none =>
    cases bs with
    | nil =>
      subst hn
      rw [List.length_nil, run_convert_bytes_string (P := Tryz.prog) w 42 9 5 none 0 c Tryz.underlying42 Tryz.underlying5 Tryz.underlying9]
      rfl
    | cons x xs => obtain ⟨b, o, e, _⟩ := h 0 (by simp); cases e

set_option maxHeartbeats 1600000 in
theorem equal_any (xs ys : List UInt8) (p q : Option Addr) (c d : Nat) (w : World) (hx : BRow w p xs) (hy : BRow w q ys) :
    Calls Tryz.prog 71 #[.slice p xs.length c, .slice q ys.length d] w fun e w' => e = .returned (.bool (decide (xs = ys))) ∧ w' = w := by
  have h1 := conv_all (c := c) hx rfl
  have h2 := conv_all (c := d) hy rfl
  clear hx hy
  go_enter Tryz.func71, Tryz.ntmps71
  go_wp2
  go_ret
  exact ⟨by rw [show decide (xs = ys) = (xs == ys) by rw [Bool.eq_iff_iff]; simp]; rfl, rfl⟩

theorem owns_told {w : World} {B n : Nat} {v : Value} {e : TypeId} {bs : List UInt8} (h : w.ownsRow B e 1 v n (byteCells bs)) : ∃ p c, v = .slice p bs.length c ∧ BRow w p bs ∧ bs.length ≤ c ∧ (p = none → c = 0) := by
  obtain ⟨p, c, rfl, rfl, hr, _⟩ := brow_owns h
  rcases h.2 with ⟨hv, h0⟩ | ⟨g, cap, cur, hv, hb, _, h1, _⟩
  · injection hv with e1 e2 e3
    exact ⟨p, c, rfl, hr, by omega, fun _ => e3⟩
  · cases hv
    exact ⟨_, c, rfl, hr, h1, by intro h; cases h⟩
theorem owns_empty (w : World) : (w.alloc (.cells #[] 5)).ownsRow w.heap.size 5 1 (.slice (some ⟨w.heap.size, 0, none⟩) 0 0) 0 [] :=
  ⟨rfl, .inr ⟨w.heap.size, 0, #[], rfl, Nat.le_refl _, heap_alloc_new w _, by simp, by simp, by simp, by simp⟩⟩

set_option maxHeartbeats 1600000 in
theorem bclone_any (bs : List UInt8) (p : Option Addr) (c : Nat) (w : World) (hR : BRow w p bs) (hp : p = none → c = 0) (hl : bs.length ≤ 1000000) :
    Calls Tryz.prog 72 #[.slice p bs.length c] w (Told bs w) := by
  obtain ⟨i0, hi, hz0, hz1, hz2⟩ := info_parts infoB
  have hnil : ∀ (w : World) (a : Option Addr) (n c n' c' : Nat), (binOp .eql 42 (.slice a n c) (.slice none n' c')).run Tryz.prog w = .ok (.bool a.isNone) w := fun w a n c n' c' => Lib.run_eql_slice_nil w _ _ a n c n' c' Tryz.underlying42
  have HR := Lib.hid hR
  clear hR
  cases p with
  | none =>
    have hc : c = 0 := hp rfl
    have h0 : bs = [] := by
      cases bs with
      | nil => rfl
      | cons x xs => obtain ⟨b, o, e, _⟩ := HR.out 0 (by simp); cases e
    subst hc h0
    go_enter Tryz.func72, Tryz.ntmps72
    go_wp2
    go_ret
    exact ⟨none, 0, rfl, BRow.nil _ _, by simp, fun _ => rfl, Below.refl _ _⟩
  | some a =>
    go_enter Tryz.func72, Tryz.ntmps72
    go_wp2_with (first
      | (at_builtin; refine wpList_append_own_at _ rfl (.tmp 5) (.tmp 6) 42 rfl w.heap.size 5 i0 (.int .u8 0) 1 1 Tryz.underlying42 hi hz0 hz1 hz2 rfl (by decide) _ 0 [] rfl (owns_empty w) a bs.length c (byteCells bs) rfl (by rw [byteCells_length, Nat.mul_one]) (brow_news (brow_alloc HR.out _)) (byteCells_one _) (by unfold maxLen; omega) (by omega) (by simp) ?_))
    intro v2 w2 hown hgrow _ _
    have HB2 : Hid (Below w.heap.size w w2) := (below_alloc (Below.refl _ _) _).grown hgrow (by simp) (by intro k e; cases e; simp)
    have HO := Lib.hid (owns_told hown)
    clear hown hgrow
    go_wp2
    go_ret
    obtain ⟨p', c', e, hr, hlc, hpn⟩ := HO.out
    exact ⟨p', c', by rw [← e]; rfl, hr, hlc, hpn, HB2.out⟩

set_option maxHeartbeats 3200000 in
theorem open_any (bs : List UInt8) (p : Option Addr) (c : Nat) (w : World) (hR : BRow w p bs) (hc : bs.length ≤ c) (hp : p = none → c = 0) (hl : bs.length ≤ 1000000) :
    Calls Tryz.prog 39 #[.slice p bs.length c] w (Opened bs w) := by
  by_cases h4 : bs.length < 4
  · have ho : openL bs = false := by unfold openL; rw [decide_eq_false (by omega)]; rfl
    have hb : bodyL bs = [] := by unfold bodyL; rw [ho]; rfl
    have HO := Lib.hid ho
    have HB := Lib.hid hb
    clear hR ho hb
    go_enter Tryz.func39, Tryz.ntmps39
    go_wp2
    go_ret2
    exact ⟨none, 0, by rw [HO.out, HB.out]; rfl, by rw [HB.out]; exact BRow.nil _ _, by rw [HB.out]; simp, fun _ => rfl, Below.refl _ _⟩
  · have h4' : (4 : Int) ≤ (bs.length : Int) := by omega
    have hxl : (bs.take (bs.length - 4)).length = bs.length - 4 := by rw [List.length_take]; omega
    have hrx : BRow w p (bs.take (bs.length - 4)) := fun i hi => by
      rw [hxl] at hi
      obtain ⟨b, o, e, h⟩ := hR i (by omega)
      exact ⟨b, o, e, by rw [h, atB_take (by omega)]⟩
    have HIs : Hid (openL bs = decide (sealL (bs.take (bs.length - 4)) = bs)) := by
      show openL bs = decide (sealL (bs.take (bs.length - 4)) = bs)
      by_cases h : sealL (bs.take (bs.length - 4)) = bs
      · rw [decide_eq_true h]; exact seal_open (by omega) h
      · rw [decide_eq_false h]
        cases ho : openL bs with
        | false => rfl
        | true => exact absurd (open_is ho) h
    have HBd : Hid (bodyL bs = if openL bs = true then bs.take (bs.length - 4) else []) := rfl
    have H1 := seal_any (bs.take (bs.length - 4)) p c w hrx (by omega) hp (by omega)
    have H2 := fun W hb => bclone_any (bs.take (bs.length - 4)) p c W (hrx.below (w' := W) hb) hp (by omega)
    have H3 := fun W q d hb hy => equal_any (sealL (bs.take (bs.length - 4))) bs q p d c W hy (hR.below (w' := W) hb)
    generalize bs.take (bs.length - 4) = xs at *
    rw [hxl] at H1
    rw [hxl] at H2
    have H1 := Lib.hid H1
    have H2 := Lib.hid H2
    have H3 := Lib.hid H3
    clear hR hrx hxl
    go_enter Tryz.func39, Tryz.ntmps39
    go_wp2_with fail
    refine H1.out.mono ?_
    rintro e w1 ⟨p1, c1, rfl, hr1, _, _, hb1⟩
    have HB1 := Lib.hid hb1
    have HR1 := Lib.hid hr1
    clear hr1 hb1 H1
    go_wp2_with fail
    refine (H3.out _ _ _ HB1.out HR1.out).mono ?_
    rintro e w2 ⟨rfl, hw⟩
    obtain rfl := Eq.symm hw
    clear hw H3
    by_cases hs : sealL xs = bs
    · have HT : Hid (openL bs = true) := by rw [HIs.out, decide_eq_true hs]; rfl
      have HBd2 : Hid (bodyL bs = xs) := by rw [HBd.out, if_pos HT.out]; rfl
      rw [decide_eq_true hs]
      clear hs
      go_wp2_with fail
      refine (H2.out _ HB1.out).mono ?_
      rintro e w3 ⟨p3, c3, rfl, hr3, hl3, hp3, hb3⟩
      have HT3 : Hid (Opened bs w (.returned (.tuple #[.slice p3 xs.length c3, .bool true])) w3) := ⟨p3, c3, by rw [HT.out, HBd2.out], by rw [HBd2.out]; exact hr3, by rw [HBd2.out]; exact hl3, hp3, below_step HB1.out hb3⟩
      clear hr3 hl3 hp3 hb3
      go_wp2
      go_ret2
      exact HT3.out
    · have HT : Hid (openL bs = false) := by rw [HIs.out, decide_eq_false hs]; rfl
      have HBd2 : Hid (bodyL bs = []) := by rw [HBd.out, HT.out]; rfl
      rw [decide_eq_false hs]
      clear hs
      go_wp2
      go_ret2
      exact ⟨none, 0, by rw [HT.out, HBd2.out]; rfl, by rw [HBd2.out]; exact BRow.nil _ _, by rw [HBd2.out]; simp, fun _ => rfl, HB1.out⟩

end Go.Proofs.YtceanfpcddcfoaaGreat
