/-
  Several texts of one proof, joined: each part says at its head what it proves. No conditions beyond what each theorem states.
-/
import Derived.Lib.QuietBelow
import Derived.Laws.AppendOwnNone
import Derived.Test.YtjkdcpalgfakhaaZ07
import Derived.Test.YtjkdcpalgfakhaaZ12
/-
  What Covers, Stands and Lacks hand back, for every two lists of entries by rising replicas that lie in memory. No conditions beyond what each theorem states.
-/
namespace Go.Proofs.Ytjkdcpalgfakhaa.Vec
open Go.ChangeShapes Go.WideShapes Go.ChangeAt Go.RowKit Go.Lib
open Go.Sort
set_option linter.unusedVariables false
set_option linter.unusedSimpArgs false

theorem coversL_true {xs ys : List En} (h : ∀ j, j < ys.length → ¬ getL xs (atL ys j).1 < (atL ys j).2) : coversL xs ys = true := decide_eq_true fun y hy => by
  obtain ⟨i, hi, rfl⟩ := mem_atL hy
  exact h i hi
theorem coversL_false {xs ys : List En} {k : Nat} (hk : k < ys.length) (h : getL xs (atL ys k).1 < (atL ys k).2) : coversL xs ys = false := decide_eq_false fun hh => hh _ (atL_mem hk) h

set_option maxHeartbeats 1600000 in
set_option maxRecDepth 100000 in
theorem covers_any (xs ys : List En) (p q : Option Addr) (c d : Nat) (w : World) (hR : Row w p xs) (hS : Row w q ys) (hs : Srt xs) (hl : xs.length ≤ 1000000) (hm : ys.length ≤ 1000000) :
    Calls Try.prog 51 #[.slice p xs.length c, .slice q ys.length d] w fun e w' => e = .returned (.bool (coversL xs ys)) ∧ Below w.heap.size w w' := by
  have HS : Hid (Row w q ys) := hS
  have HR : Hid (Row w p xs) := hR
  have HSrt : Hid (Srt xs) := hs
  clear hR hS hs
  go_enter Try.func51, Try.ntmps51
  go_wp2
  go_loopg [9] ys.length (fun n i wr => ∃ k : Nat, k ≤ ys.length ∧ ys.length - k ≤ n ∧ i = .int .i64 k ∧ Below w.heap.size w wr ∧ ∀ j, j < k → ¬ getL xs (atL ys j).1 < (atL ys j).2)
  case atStart => exact ⟨0, Nat.zero_le _, by omega, rfl, Below.refl _ _, fun j hj => by omega⟩
  case round =>
    obtain ⟨k, hk, hg, rfl, hb, hno⟩ := hrel
    have HB : Hid (Below w.heap.size w wr) := hb
    have HN : Hid (∀ j, j < k → ¬ getL xs (atL ys j).1 < (atL ys j).2) := hno
    clear hb hno
    by_cases hlt : k < ys.length
    · obtain ⟨b, o, rfl, c0', c1'⟩ := HS.out k hlt
      have c0 := cellU c0' HB.out
      have c1 := cellU c1' HB.out
      clear c0' c1'
      generalize hx : (atL ys k).1 = x at c0
      generalize hy : (atL ys k).2 = y at c1
      have B : Hid (atL ys k = (x, y)) := Prod.ext hx hy
      clear hx hy
      have g0 := cell_regrown (w := wr.alloc (.cells #[.int .u16 x, .int .u32 y] 78)) (a := ⟨wr.heap.size, 0, none⟩) (v := .int .u16 x) (by simp)
      have g1 := cell_regrown (w := wr.alloc (.cells #[.int .u16 x, .int .u32 y] 78)) (a := ⟨wr.heap.size, 1, none⟩) (v := .int .u32 y) (by simp)
      have HG : Hid (∀ dd os, Calls Try.prog 50 #[.slice p xs.length c, .int .u16 x] (grow (redrawn (wr.alloc (.cells #[.int .u16 x, .int .u32 y] 78)) dd) os) fun e w'' => e = .returned (.int .u32 (getL xs x)) ∧ ∃ pp : Regrown, w'' = grow (redrawn (wr.alloc (.cells #[.int .u16 x, .int .u32 y] 78)) pp.d) pp.os) :=
        fun dd os => Calls.regrown_of (get_any xs x p c _ (HR.out.below (below_step (below_alloc HB.out _) (below_regrown _ dd os))) HSrt.out hl)
      generalize hz : getL xs x = z at HG
      have HZ : Hid (getL xs x = z) := hz
      clear hz
      by_cases hlz : z < y
      · have hd : decide (z < y) = true := by simp [hlz]
        go_wp2_with fail
        refine wp_region_quiet_below (by kernel_rfl) (by kernel_rfl) ?_
        repeat (first | go_big_quiet_step ((go_at_call 50; exact HG.out _ _)) | quiet_step ((go_at_call 50; exact HG.out _ _)))
        refine wpQuiet_nil ?_
        intro w3 hw'
        have HB3 : Hid (Below w.heap.size w w3) := by obtain ⟨⟨dq, osq⟩, rfl⟩ := hw'; exact below_step (below_alloc HB.out _) (below_regrown _ _ _)
        clear hw' g0 g1 HG
        go_wp2
        go_ret
        exact ⟨ret_bool (coversL_false hlt (by rw [B.out]; simp only [HZ.out]; exact hlz)).symm, HB3.out⟩
      · have hd : decide (z < y) = false := by simp [hlz]
        go_wp2_with fail
        refine wp_region_quiet_below (by kernel_rfl) (by kernel_rfl) ?_
        repeat (first | go_big_quiet_step ((go_at_call 50; exact HG.out _ _)) | quiet_step ((go_at_call 50; exact HG.out _ _)))
        refine wpQuiet_nil ?_
        intro w3 hw'
        have HB3 : Hid (Below w.heap.size w w3) := by obtain ⟨⟨dq, osq⟩, rfl⟩ := hw'; exact below_step (below_alloc HB.out _) (below_regrown _ _ _)
        clear hw' g0 g1 HG
        go_wp2
        go_roundg (ys.length - (k + 1))
        case measure => omega
        case rel => exact ⟨k + 1, by omega, Nat.le_refl _, by go_num, HB3.out, fun j hj => by
          by_cases e : j = k
          · subst e; rw [B.out]; simp only [HZ.out]; omega
          · exact HN.out j (by omega)⟩
    · have : k = ys.length := by omega
      subst this
      go_wp2
      go_ret
      exact ⟨ret_bool (coversL_true (fun j hj => by have := HN.out j hj; omega)).symm, HB.out⟩

/-- How a vector stands to another one. -/
def standsL (a b : Bool) : Int := if a && b then 1 else if b then 2 else if a then 3 else 4

/-- Gaps in a row of the call's own, in a block of their kind. -/
def Gave3K (t : TypeId) (w : World) (xs : List Gp) (e : Ending) (w' : World) : Prop := ∃ p c, e = .returned (.slice p xs.length c) ∧ Row3 w' p xs ∧ KindAt t w' p ∧ Below w.heap.size w w'
set_option maxHeartbeats 1600000 in
set_option maxRecDepth 100000 in
theorem lacks_kind (xs ys : List En) (p q : Option Addr) (c d : Nat) (w : World) (hR : Row w p xs) (hS : Row w q ys) (hs : Srt xs) (hfx : Fits xs) (hfy : Fits ys) (hl : xs.length ≤ 1000000) (hm : ys.length ≤ 1000000) :
    Calls Try.prog 36 #[.slice p xs.length c, .slice q ys.length d] w (Gave3K 65 w (lacksL xs ys)) := by
  have HS : Hid (Row w q ys) := hS
  have HR : Hid (Row w p xs) := hR
  have HSrt : Hid (Srt xs) := hs
  clear hR hS hs
  obtain ⟨i0, hi, hz0, hz1, hz2⟩ := info_parts info52
  go_enter Try.func36, Try.ntmps36
  go_wp2
  go_loopg [5, 11] ys.length (fun g s i wr => ∃ k : Nat, k ≤ ys.length ∧ ys.length - k ≤ g ∧ i = .int .i64 k ∧ Holding3 w 65 s (lacksL xs (ys.take k)) wr)
  case atStart => exact ⟨0, Nat.zero_le _, by omega, rfl, by simpa [lacksL] using Holding3.nil w 65⟩
  case round =>
    obtain ⟨k, hk, hg, rfl, hO⟩ := hrel
    have HO : Hid (Holding3 w 65 u5 (lacksL xs (ys.take k)) wr) := hO
    clear hO
    by_cases hlt : k < ys.length
    · obtain ⟨b, o, rfl, c0', c1'⟩ := HS.out k hlt
      have c0 := cellU c0' HO.out.2
      have c1 := cellU c1' HO.out.2
      obtain ⟨-, -, y0, y1⟩ := hfy.at hlt
      clear c0' c1'
      generalize hx : (atL ys k).1 = x at c0
      generalize hy : (atL ys k).2 = y at c1 y0 y1
      have B : Hid (atL ys k = (x, y)) := Prod.ext hx hy
      clear hx hy
      have HG : Hid (Calls Try.prog 50 #[.slice p xs.length c, .int .u16 x] (wr.alloc (.cells #[.int .u16 x, .int .u32 y] 78)) fun e w' => e = .returned (.int .u32 (getL xs x)) ∧ Below (wr.alloc (.cells #[.int .u16 x, .int .u32 y] 78)).heap.size (wr.alloc (.cells #[.int .u16 x, .int .u32 y] 78)) w') := get_any xs x p c _ (HR.out.below (below_alloc HO.out.2 _)) HSrt.out hl
      have z0 := getL_nonneg hfx x
      generalize hz : getL xs x = z at HG z0
      have HZ : Hid (getL xs x = z) := hz
      clear hz
      have hll := lacksL_le xs (ys.take k)
      rw [List.length_take] at hll
      have g0 : (wr.alloc (.cells #[.int .u16 x, .int .u32 y] 78)).cell? ⟨wr.heap.size, 0, none⟩ = some (.int .u16 x) := by simp
      have g1 : (wr.alloc (.cells #[.int .u16 x, .int .u32 y] 78)).cell? ⟨wr.heap.size, 1, none⟩ = some (.int .u32 y) := by simp
      have G : Hid ((wr.alloc (.cells #[.int .u16 x, .int .u32 y] 78)).cell? ⟨wr.heap.size, 0, none⟩ = some (.int .u16 x) ∧ (wr.alloc (.cells #[.int .u16 x, .int .u32 y] 78)).cell? ⟨wr.heap.size, 1, none⟩ = some (.int .u32 y)) := ⟨g0, g1⟩
      clear g0 g1
      go_wp2_with fail
      refine HG.out.mono ?_
      rintro e w1 ⟨rfl, hb1⟩
      have g0 := cellU G.out.1 hb1
      have g1 := cellU G.out.2 hb1
      have HO1 : Hid (Holding3 w 65 u5 (lacksL xs (ys.take k)) w1) := (HO.out.alloc _).below hb1
      clear HG G hb1 HO c0 c1
      by_cases hlz : z < y
      · have hwz : IntKind.u32.wrap (z + 1) = z + 1 := by rw [IntKind.wrap_u32]; omega
        go_wp2_with (first
          | (at_builtin; refine wpList_append_own _ rfl (.tmp 23) (.tmp 31) 62 rfl w.heap.size 65 i0 (.agg #[.int .u16 0, .int .u32 0, .int .u32 0]) 3 12 Try.underlying62 hi hz0 hz1 hz2 rfl (by decide) _ _ _ rfl (HO1.out.alloc _).1 ⟨w1.heap.size, 0, none⟩ 1 1 [.int .u16 x, .int .u32 (z + 1), .int .u32 y] rfl rfl (cells_three (by simp) (by simp) (by simp)) (three_one x (z + 1) y) (by unfold maxLen; omega) (by omega) (by have := HO1.out.2.size; simp; omega) ?_))
        intro v' w2 hown' hgrow _
        have HO2 : Hid (Holding3 w 65 v' (lacksL xs (ys.take (k + 1))) w2) := by
          rw [lacksL_step hlt, B.out, lackAt, if_pos (by simp only [HZ.out]; omega)]
          simp only [HZ.out]
          exact (HO1.out.alloc _).onto hown' hgrow
        clear hown' hgrow
        go_wp2
        go_roundg (ys.length - (k + 1))
        case measure => omega
        case rel => exact ⟨k + 1, by omega, Nat.le_refl _, by go_num, HO2.out⟩
      · go_wp2
        go_roundg (ys.length - (k + 1))
        case measure => omega
        case rel => exact ⟨k + 1, by omega, Nat.le_refl _, by go_num, by rw [lacksL_step hlt, B.out, lackAt, if_neg (by simp only [HZ.out]; omega), List.append_nil]; exact HO1.out⟩
    · have : k = ys.length := by omega
      subst this
      rw [List.take_length] at HO
      obtain ⟨p', c', rfl, hr⟩ := HO.out.gave
      have HR' : Hid (Row3 wr p' (lacksL xs ys)) := hr
      clear hr
      go_wp2
      go_ret
      exact ⟨p', c', rfl, HR'.out, kind_owns HO.out.1, HO.out.2⟩
theorem lacks_any (xs ys : List En) (p q : Option Addr) (c d : Nat) (w : World) (hR : Row w p xs) (hS : Row w q ys) (hs : Srt xs) (hfx : Fits xs) (hfy : Fits ys) (hl : xs.length ≤ 1000000) (hm : ys.length ≤ 1000000) :
    Calls Try.prog 36 #[.slice p xs.length c, .slice q ys.length d] w (Gave3 w (lacksL xs ys)) := (lacks_kind xs ys p q c d w hR hS hs hfx hfy hl hm).mono fun _ _ ⟨p', c', h1, h2, _, h3⟩ => ⟨p', c', h1, h2, h3⟩

end Go.Proofs.Ytjkdcpalgfakhaa.Vec
/-
  What With hands back, for every list of entries by rising replicas that lies in memory. No conditions beyond what each theorem states.
-/
namespace Go.Proofs.Ytjkdcpalgfakhaa.Vec
open Go.ChangeShapes Go.WideShapes Go.ChangeAt Go.RowKit Go.Lib
open Go.Sort
set_option linter.unusedVariables false
set_option linter.unusedSimpArgs false

/-- Where the entries are cut. -/
def cutAt (xs : List En) (r : Int) : Nat := if hasL xs r then rank xs r + 1 else rank xs r
theorem cutAt_le (xs : List En) (r : Int) : cutAt xs r ≤ xs.length := by
  have := rank_le xs r
  unfold cutAt
  split
  · rename_i h
    simp only [hasL, decide_eq_true_eq] at h; omega
  · exact this
theorem filter_all {l : List En} {f : En → Bool} (h : ∀ x ∈ l, f x = true) : l.filter f = l := List.filter_eq_self.2 h
theorem filter_no {l : List En} {f : En → Bool} (h : ∀ x ∈ l, f x = false) : l.filter f = [] := List.filter_eq_nil_iff.2 fun x hx => by rw [h x hx]; simp
theorem mem_take_at {xs : List En} {k : Nat} {x : En} (h : x ∈ xs.take k) : ∃ i, i < k ∧ i < xs.length ∧ atL xs i = x := by
  obtain ⟨i, hi, e⟩ := mem_atL h
  rw [List.length_take] at hi
  exact ⟨i, by omega, by omega, by rw [← e, atL_take _ _ _ (by omega)]⟩
theorem mem_drop_at {xs : List En} {k : Nat} {x : En} (h : x ∈ xs.drop k) : ∃ i, k ≤ i ∧ i < xs.length ∧ atL xs i = x := by
  obtain ⟨i, hi, e⟩ := mem_atL h
  rw [List.length_drop] at hi
  exact ⟨k + i, by omega, by omega, by rw [← e, atL_drop]⟩
theorem lo_take {xs : List En} (h : Srt xs) (r : Int) : lo xs r = xs.take (rank xs r) := by
  have e : lo xs r = lo (xs.take (rank xs r)) r ++ lo (xs.drop (rank xs r)) r := by rw [lo, lo, lo, ← List.filter_append, List.take_append_drop]
  rw [e, lo, lo, filter_all, filter_no, List.append_nil]
  · intro x hx
    obtain ⟨i, h1, h2, rfl⟩ := mem_drop_at hx
    have := (rank_iff h r h2).2 h1
    simp; omega
  · intro x hx
    obtain ⟨i, h1, h2, rfl⟩ := mem_take_at hx
    have := mt (rank_iff h r h2).1 (by omega)
    simp; omega
theorem hi_drop {xs : List En} (h : Srt xs) (r : Int) : hi xs r = xs.drop (cutAt xs r) := by
  have e : hi xs r = hi (xs.take (cutAt xs r)) r ++ hi (xs.drop (cutAt xs r)) r := by rw [hi, hi, hi, ← List.filter_append, List.take_append_drop]
  have hle := rank_le xs r
  rw [e, hi, hi, filter_no, filter_all, List.nil_append]
  · intro x hx
    obtain ⟨i, h1, h2, rfl⟩ := mem_drop_at hx
    unfold cutAt at h1
    split at h1
    · rename_i hh
      simp only [hasL, decide_eq_true_eq] at hh
      have := h _ _ (show rank xs r < i by omega) h2
      simp; omega
    · rename_i hh
      have h3 := (rank_iff h r h2).2 h1
      by_cases h4 : (atL xs i).1 = r
      · exfalso
        apply hh
        simp only [hasL, decide_eq_true_eq]
        have h5 := (rank_iff h r (show rank xs r < xs.length by omega)).2 (Nat.le_refl _)
        refine ⟨by omega, ?_⟩
        rcases Nat.eq_or_lt_of_le h1 with e2 | e2
        · rw [e2]; exact h4
        · have := h _ _ e2 h2; omega
      · simp; omega
  · intro x hx
    obtain ⟨i, h1, h2, rfl⟩ := mem_take_at hx
    unfold cutAt at h1
    split at h1
    · rename_i hh
      simp only [hasL, decide_eq_true_eq] at hh
      rcases Nat.lt_or_ge i (rank xs r) with h3 | h3
      · have := mt (rank_iff h r h2).1 (by omega); simp; omega
      · have : i = rank xs r := by omega
        subst this; simp; omega
    · have := mt (rank_iff h r h2).1 (by omega); simp; omega

theorem row_take {W : World} {p : Option Addr} {xs : List En} (h : Row W p xs) (k : Nat) : Row W p (xs.take k) := fun i hi => by
  rw [List.length_take] at hi
  rw [atL_take _ _ _ (by omega)]
  exact h i (by omega)
theorem row_drop {W : World} {a : Addr} {xs : List En} (h : Row W (some a) xs) (m : Nat) : Row W (some (a.add (m * 2))) (xs.drop m) := fun i hi => by
  rw [List.length_drop] at hi
  obtain ⟨b, o, e, h1, h2⟩ := h (m + i) (by omega)
  cases e
  rw [atL_drop]
  refine ⟨b, o + m * 2, by rw [Addr.add_lit], ?_, ?_⟩
  · rw [show o + m * 2 + i * 2 = o + (m + i) * 2 by omega]; exact h1
  · rw [show o + m * 2 + i * 2 + 1 = o + (m + i) * 2 + 1 by omega]; exact h2
theorem row_end {W : World} {a : Addr} {xs : List En} {m : Nat} (h : xs.length ≤ m) : Row W (some a) (xs.drop m) := fun i hi => by
  rw [List.length_drop] at hi; omega
theorem Holding.made {w w1 w2 : World} {n : Nat} (h : Below w.heap.size w w1) (ho : w2.ownsRow w.heap.size 78 2 (.slice (some ⟨w1.heap.size, 0, none⟩) 0 n) 0 []) (hg : w1.grownBy w2 none) : Holding w 78 (.slice (some ⟨w1.heap.size, 0, none⟩) 0 n) [] w2 :=
  ⟨ho, h.grown hg h.size (fun j hj => by cases hj)⟩

set_option maxHeartbeats 3200000 in
set_option maxRecDepth 100000 in
theorem with_some (xs : List En) (r s : Int) (a : Addr) (c : Nat) (w : World) (hR : Row w (some a) xs) (hs : Srt xs) (hl : xs.length ≤ 50000) (hc : xs.length ≤ c) :
    Calls Try.prog 14 #[.slice (some a) xs.length c, .int .u16 r, .int .u32 s] w (GaveK 78 w (withL xs r s)) := by
  have HF := Lib.hid (find_any xs r (some a) c w hR hs (by omega))
  have HE : Hid (withL xs r s = xs.take (rank xs r) ++ mid r s ++ xs.drop (cutAt xs r)) := by rw [withL, lo_take hs, hi_drop hs]; exact rfl
  have HR : Hid (Row w (some a) xs) := hR
  have hkl := rank_le xs r
  have hcl := cutAt_le xs r
  have HC : Hid (cutAt xs r = if hasL xs r then rank xs r + 1 else rank xs r) := rfl
  clear hR hs
  obtain ⟨i0, hi, hz0, hz1, hz2⟩ := info_parts info55
  generalize withL xs r s = Z at HE ⊢
  generalize cutAt xs r = m at HE hcl HC
  generalize rank xs r = k at HF HE hkl HC
  generalize hasL xs r = b at HF HC
  go_enter Try.func14, Try.ntmps14
  go_wp2_with fail
  refine HF.out.mono ?_
  rintro e w1 ⟨rfl, hb1⟩
  have HB1 := Lib.hid hb1
  clear hb1 HF
  go_wp2_with (at_make; refine wpList_make_own _ rfl _ _ 24 rfl w.heap.size 78 i0 (.agg #[.int .u16 0, .int .u32 0]) 2 Try.underlying24 hi hz0 hz1 _ _ _ (xs.length + 1) rfl rfl (by omega) (by rw [hz2]; omega) (by unfold maxLen; omega) HB1.out.size ?_)
  intro w2 hown0 hgrow0
  have HO2 : Hid (Holding w 78 (.slice (some ⟨w1.heap.size, 0, none⟩) 0 (xs.length + 1)) [] w2) := Holding.made HB1.out hown0 hgrow0
  clear hown0 hgrow0
  go_wp2_with (first
    | (at_builtin; refine wpList_append_own _ rfl (.tmp 20) (.tmp 23) 24 rfl w.heap.size 78 i0 (.agg #[.int .u16 0, .int .u32 0]) 2 8 Try.underlying24 hi hz0 hz1 hz2 rfl (by decide) _ 0 [] rfl (show w2.ownsRow w.heap.size 78 2 _ 0 [] from HO2.out.1) a k c (cellsL (xs.take k)) rfl (by rw [cellsL_length, List.length_take, Nat.min_eq_left hkl]) (cells_of_row ((row_take HR.out k).below HO2.out.2)) (cellsL_one _) (by unfold maxLen; omega) (by omega) (by exact HO2.out.2.size) ?_))
  intro v3 w3 hown hgrow _
  have HO3 : Hid (Holding w 78 v3 (xs.take k) w3) := by
    have hlen : (xs.take k).length = k := by rw [List.length_take, Nat.min_eq_left hkl]
    exact ⟨by rw [hlen]; simpa using hown, HO2.out.2.grown hgrow HO2.out.2.size (fun j hj => (HO2.out.1.lt j hj).1)⟩
  clear hown hgrow HO2
  obtain ⟨A, hA⟩ : ∃ A, A = xs.take k ++ mid r s := ⟨_, rfl⟩
  have HA : Hid (A = xs.take k ++ mid r s) := hA
  have hkt : (xs.take k).length = k := by rw [List.length_take, Nat.min_eq_left hkl]
  have HKT : Hid ((xs.take k).length = k) := hkt
  have hAl : A.length ≤ 50001 := by rw [hA, List.length_append, hkt, mid]; split <;> simp <;> omega
  rw [← hA] at HE
  clear hA hkt
  have hmk : m = k ∨ m = k + 1 := by rw [HC.out]; split <;> simp
  by_cases hs : 0 < s
  case' pos =>
    go_wp2_with (first
      | (at_builtin; refine wpList_append_own _ rfl (.tmp 27) (.tmp 31) 24 rfl w.heap.size 78 i0 (.agg #[.int .u16 0, .int .u32 0]) 2 8 Try.underlying24 hi hz0 hz1 hz2 rfl (by decide) _ k _ rfl (show (w3.alloc _).ownsRow w.heap.size 78 2 _ k (cellsL (xs.take k)) from by have := (HO3.out.alloc (.cells #[.int .u16 r, .int .u32 s] 78)).1; rw [HKT.out] at this; exact this) ⟨w3.heap.size, 0, none⟩ 1 1 [.int .u16 r, .int .u32 s] rfl rfl (cells_pair 78 (by simp) (by simp)) (pair_one r s) (by unfold maxLen; omega) (by omega) (by have := HO3.out.2.size; simp; omega) ?_))
    intro v4 w4 hown hgrow _
    have HO4 : Hid (Holding w 78 v4 A w4) := by
      rw [HA.out, mid, if_pos hs]
      exact (HO3.out.alloc _).onto (by rw [HKT.out]; exact hown) hgrow
    clear hown hgrow
  case' neg =>
    have HO4 : Hid (Holding w 78 v3 A w3) := by rw [HA.out, mid, if_neg hs, List.append_nil]; exact HO3.out
  all_goals
    clear HO3
    have hdl : (xs.drop m).length = xs.length - m := List.length_drop
    have HDL : Hid ((xs.drop m).length = xs.length - m) := hdl
    clear hdl
    have hb : b = true ∧ m = k + 1 ∨ b = false ∧ m = k := by
      have := HC.out
      cases b
      · exact Or.inr ⟨rfl, by simpa using this⟩
      · exact Or.inl ⟨rfl, by simpa using this⟩
    clear HC hmk
    rcases hb with ⟨hb, hm⟩ | ⟨hb, hm⟩
    · subst hb hm
      by_cases hmc : c = k + 1
      · have hxl : xs.length ≤ k + 1 := by omega
        go_wp2_with (first
          | (at_builtin; refine wpList_append_own _ rfl (.tmp 36) (.tmp 39) 24 rfl w.heap.size 78 i0 (.agg #[.int .u16 0, .int .u32 0]) 2 8 Try.underlying24 hi hz0 hz1 hz2 rfl (by decide) _ _ _ rfl HO4.out.1 a _ _ (cellsL (xs.drop (k + 1))) rfl (by rw [cellsL_length, HDL.out] <;> omega) (cells_of_row (row_end hxl)) (cellsL_one _) (by unfold maxLen; omega) (by omega) (by exact HO4.out.2.size) ?_))
        intro v5 w5 hown hgrow _
        have HO5 : Hid (Holding w 78 v5 Z w5) := by rw [HE.out]; exact HO4.out.cat (by rw [HDL.out]; first | exact hown | (rw [Nat.sub_eq_zero_of_le hxl]; exact hown)) hgrow
        clear hown hgrow
        obtain ⟨p', c', rfl, hr⟩ := HO5.out.gaveK
        have HR' := Lib.hid hr
        clear hr
        go_wp2
        go_ret
        exact ⟨p', c', rfl, HR'.out.1, HR'.out.2.1, HR'.out.2.2.1, HR'.out.2.2.2, HO5.out.2⟩
      · go_wp2_with (first
          | (at_builtin; refine wpList_append_own _ rfl (.tmp 36) (.tmp 39) 24 rfl w.heap.size 78 i0 (.agg #[.int .u16 0, .int .u32 0]) 2 8 Try.underlying24 hi hz0 hz1 hz2 rfl (by decide) _ _ _ rfl HO4.out.1 (a.add ((k + 1) * 2)) _ _ (cellsL (xs.drop (k + 1))) rfl (by rw [cellsL_length, HDL.out] <;> omega) (cells_of_row ((row_drop HR.out (k + 1)).below HO4.out.2)) (cellsL_one _) (by unfold maxLen; omega) (by omega) (by exact HO4.out.2.size) ?_))
        intro v5 w5 hown hgrow _
        have HO5 : Hid (Holding w 78 v5 Z w5) := by rw [HE.out]; exact HO4.out.cat (by rw [HDL.out]; first | exact hown | (rw [Nat.sub_eq_zero_of_le hxl]; exact hown)) hgrow
        clear hown hgrow
        obtain ⟨p', c', rfl, hr⟩ := HO5.out.gaveK
        have HR' := Lib.hid hr
        clear hr
        go_wp2
        go_ret
        exact ⟨p', c', rfl, HR'.out.1, HR'.out.2.1, HR'.out.2.2.1, HR'.out.2.2.2, HO5.out.2⟩
    · subst hb hm
      by_cases hmc : c = m
      · have hxl : xs.length ≤ m := by omega
        go_wp2_with (first
          | (at_builtin; refine wpList_append_own _ rfl (.tmp 36) (.tmp 39) 24 rfl w.heap.size 78 i0 (.agg #[.int .u16 0, .int .u32 0]) 2 8 Try.underlying24 hi hz0 hz1 hz2 rfl (by decide) _ _ _ rfl HO4.out.1 a _ _ (cellsL (xs.drop m)) rfl (by rw [cellsL_length, HDL.out] <;> omega) (cells_of_row (row_end hxl)) (cellsL_one _) (by unfold maxLen; omega) (by omega) (by exact HO4.out.2.size) ?_))
        intro v5 w5 hown hgrow _
        have HO5 : Hid (Holding w 78 v5 Z w5) := by rw [HE.out]; exact HO4.out.cat (by rw [HDL.out]; first | exact hown | (rw [Nat.sub_eq_zero_of_le hxl]; exact hown)) hgrow
        clear hown hgrow
        obtain ⟨p', c', rfl, hr⟩ := HO5.out.gaveK
        have HR' := Lib.hid hr
        clear hr
        go_wp2
        go_ret
        exact ⟨p', c', rfl, HR'.out.1, HR'.out.2.1, HR'.out.2.2.1, HR'.out.2.2.2, HO5.out.2⟩
      · go_wp2_with (first
          | (at_builtin; refine wpList_append_own _ rfl (.tmp 36) (.tmp 39) 24 rfl w.heap.size 78 i0 (.agg #[.int .u16 0, .int .u32 0]) 2 8 Try.underlying24 hi hz0 hz1 hz2 rfl (by decide) _ _ _ rfl HO4.out.1 (a.add (m * 2)) _ _ (cellsL (xs.drop m)) rfl (by rw [cellsL_length, HDL.out] <;> omega) (cells_of_row ((row_drop HR.out m).below HO4.out.2)) (cellsL_one _) (by unfold maxLen; omega) (by omega) (by exact HO4.out.2.size) ?_))
        intro v5 w5 hown hgrow _
        have HO5 : Hid (Holding w 78 v5 Z w5) := by rw [HE.out]; exact HO4.out.cat (by rw [HDL.out]; first | exact hown | (rw [Nat.sub_eq_zero_of_le hxl]; exact hown)) hgrow
        clear hown hgrow
        obtain ⟨p', c', rfl, hr⟩ := HO5.out.gaveK
        have HR' := Lib.hid hr
        clear hr
        go_wp2
        go_ret
        exact ⟨p', c', rfl, HR'.out.1, HR'.out.2.1, HR'.out.2.2.1, HR'.out.2.2.2, HO5.out.2⟩

set_option maxHeartbeats 1600000 in
set_option maxRecDepth 100000 in
theorem with_none (r s : Int) (w : World) :
    Calls Try.prog 14 #[.slice none 0 0, .int .u16 r, .int .u32 s] w (GaveK 78 w (mid r s)) := by
  have HF : Hid (Calls Try.prog 34 #[.slice none 0 0, .int .u16 r] w fun e w' => e = .returned (.tuple #[.int .i64 0, .bool false]) ∧ Below w.heap.size w w') := find_any [] r none 0 w (fun i hi => by simp at hi) (fun i j _ hj => by simp at hj) (by simp)
  obtain ⟨i0, hi, hz0, hz1, hz2⟩ := info_parts info55
  have hm : (mid r s).length ≤ 1 := by unfold mid; split <;> simp
  go_enter Try.func14, Try.ntmps14
  go_wp2_with fail
  refine HF.out.mono ?_
  rintro e w1 ⟨rfl, hb1⟩
  have HB1 := Lib.hid hb1
  clear hb1 HF
  go_wp2_with (at_make; refine wpList_make_own _ rfl _ _ 24 rfl w.heap.size 78 i0 (.agg #[.int .u16 0, .int .u32 0]) 2 Try.underlying24 hi hz0 hz1 _ _ _ 1 rfl rfl (by omega) (by rw [hz2]; omega) (by unfold maxLen; omega) HB1.out.size ?_)
  intro w2 hown0 hgrow0
  have HO2 : Hid (Holding w 78 (.slice (some ⟨w1.heap.size, 0, none⟩) 0 1) [] w2) := Holding.made HB1.out hown0 hgrow0
  clear hown0 hgrow0
  by_cases hs : 0 < s
  · go_wp2_with (first
      | (at_builtin; refine wpList_append_own_none rfl (.tmp 20) (.tmp 23) 24 rfl w.heap.size 78 i0 2 Try.underlying24 hi _ 0 [] rfl (show w2.ownsRow w.heap.size 78 2 _ 0 [] from HO2.out.1) rfl ?_)
      | (at_builtin; refine wpList_append_own _ rfl (.tmp 27) (.tmp 31) 24 rfl w.heap.size 78 i0 (.agg #[.int .u16 0, .int .u32 0]) 2 8 Try.underlying24 hi hz0 hz1 hz2 rfl (by decide) _ 0 [] rfl (show (w2.alloc _).ownsRow w.heap.size 78 2 _ 0 [] from (HO2.out.alloc _).1) ⟨w2.heap.size, 0, none⟩ 1 1 [.int .u16 r, .int .u32 s] rfl rfl (cells_pair 78 (by simp) (by simp)) (pair_one r s) (by unfold maxLen; omega) (by omega) (by have := HO2.out.2.size; simp; omega) ?_))
    intro v4 w4 hown hgrow _
    have HO4 : Hid (Holding w 78 v4 (mid r s) w4) := by
      rw [mid, if_pos hs]
      exact (HO2.out.alloc _).onto (xs := []) hown hgrow
    clear hown hgrow HO2
    go_wp2_with (first
      | (at_builtin; refine wpList_append_own_none rfl (.tmp 36) (.tmp 39) 24 rfl w.heap.size 78 i0 2 Try.underlying24 hi _ _ _ rfl HO4.out.1 rfl ?_))
    obtain ⟨p', c', rfl, hr⟩ := HO4.out.gaveK
    go_ret
    exact ⟨p', c', rfl, hr.1, hr.2.1, hr.2.2.1, hr.2.2.2, HO4.out.2⟩
  · go_wp2_with (first
      | (at_builtin; refine wpList_append_own_none rfl (.tmp 20) (.tmp 23) 24 rfl w.heap.size 78 i0 2 Try.underlying24 hi _ 0 [] rfl (show w2.ownsRow w.heap.size 78 2 _ 0 [] from HO2.out.1) rfl ?_)
      | (at_builtin; refine wpList_append_own_none rfl (.tmp 36) (.tmp 39) 24 rfl w.heap.size 78 i0 2 Try.underlying24 hi _ 0 [] rfl (show w2.ownsRow w.heap.size 78 2 _ 0 [] from HO2.out.1) rfl ?_))
    go_ret
    have e : mid r s = [] := by rw [mid, if_neg (by omega)]
    rw [e]
    exact ⟨_, _, rfl, fun i hi => by simp at hi, Nat.zero_le _, fun e => (by cases e), kind_owns HO2.out.1, HO2.out.2⟩

/-- With, at whatever slice. -/
theorem with_kind (xs : List En) (r s : Int) (p : Option Addr) (c : Nat) (w : World) (hR : Row w p xs) (hs : Srt xs) (hl : xs.length ≤ 50000) (hc : xs.length ≤ c) (hn : p = none → c = 0) :
    Calls Try.prog 14 #[.slice p xs.length c, .int .u16 r, .int .u32 s] w (GaveK 78 w (withL xs r s)) := by
  cases p with
  | some a => exact with_some xs r s a c w hR hs hl hc
  | none =>
    have e := row_none hR
    have e2 := hn rfl
    subst e e2
    have e3 : withL [] r s = mid r s := by simp [withL, lo, Vec.hi]
    rw [e3]
    exact with_none r s w
theorem with_any (xs : List En) (r s : Int) (p : Option Addr) (c : Nat) (w : World) (hR : Row w p xs) (hs : Srt xs) (hl : xs.length ≤ 50000) (hc : xs.length ≤ c) (hn : p = none → c = 0) :
    Calls Try.prog 14 #[.slice p xs.length c, .int .u16 r, .int .u32 s] w (Gave w (withL xs r s)) := (with_kind xs r s p c w hR hs hl hc hn).mono fun _ _ h => h.gave

end Go.Proofs.Ytjkdcpalgfakhaa.Vec
/-
  A buffer and a vector beside it, from call to call. No conditions beyond what each theorem states.
-/
namespace Go.Proofs.Ytjkdcpalgfakhaa
open Go.ChangeShapes Go.WideShapes Go.ChangeAt Go.RowKit Go.Lib
set_option linter.unusedVariables false
set_option linter.unusedSimpArgs false

theorem putL_step {l : List Em} {e : Em} (h : l.length < 64) : putL l e = putStep l e := by
  unfold putL putStep putOK
  cases hh : hasM l e with
  | true => simp
  | false =>
    have : decide (64 ≤ l.length) = false := decide_eq_false (by omega)
    rw [this]; simp
/-- A vector that was known, with one replica's work known further. -/
theorem Known.with {h : List Vec.En} {s : Option Addr} {f : Nat} (k : Known h s f) {r q : Int} {s' : Option Addr} {f' : Nat} (hr : 0 ≤ r ∧ r ≤ 65535) (hq : q ≤ 268435456) (hl : h.length < 40000) (hc : (Vec.withL h r q).length ≤ f') (hn : s' = none → f' = 0) : Known (Vec.withL h r q) s' f' :=
  ⟨hc, hn, fits_with k.fits hr (by omega), right_with k.right hq, by have := Vec.withL_le h r q; omega⟩
/-- The buffer at block K holds l; the vector h lies at s; all that there was at first is as it was. -/
def Hd (Buf : (Nat → Prop) → Nat → List Em → World → Prop) (w0 : World) (K : Nat) (l : List Em) (h : List Vec.En) (s : Option Addr) (w : World) : Prop := ∃ S, Buf S K l w ∧ Firm S w (fun W => Below w0.heap.size w0 W) ∧ Firm S w (fun W => Vec.Row W s h)
section
variable {Buf : (Nat → Prop) → Nat → List Em → World → Prop} (HS : BufSpec Buf) {w0 w w' : World} {K f : Nat} {l : List Em} {h : List Vec.En} {s : Option Addr}
theorem Hd.base (H : Hd Buf w0 K l h s w) : Below w0.heap.size w0 w := by
  obtain ⟨S, h1, h2, h3⟩ := H
  exact h2.now
theorem Hd.row (H : Hd Buf w0 K l h s w) : Vec.Row w s h := by
  obtain ⟨S, h1, h2, h3⟩ := H
  exact h3.now
theorem Hd.below (HS : BufSpec Buf) (H : Hd Buf w0 K l h s w) (hb : Below w.heap.size w w') : Hd Buf w0 K l h s w' := by
  obtain ⟨S, h1, h2, h3⟩ := H
  exact ⟨S, HS.below _ _ _ _ _ h1 hb, h2.below hb, h3.below hb⟩
theorem Hd.swap (HS : BufSpec Buf) (H : Hd Buf w0 K l h s w) {h' : List Vec.En} {s' : Option Addr} (hr : Vec.Row w s' h') (hk : KindAt 78 w s') : Hd Buf w0 K l h' s' w := by
  obtain ⟨S, h1, h2, h3⟩ := H
  exact ⟨S, h1, h2, Firm.vrow (HS.others _ _ _ _ h1) (Or.inr rfl) hr hk⟩
theorem Hd.len (HS : BufSpec Buf) (H : Hd Buf w0 K l h s w) : Calls Try.prog 22 #[.pointer (some ⟨K, 0, none⟩)] w fun r w' => r = .returned (.int .i64 (l.length : Int)) ∧ Below w.heap.size w w' := by
  obtain ⟨S, h1, h2, h3⟩ := H
  exact HS.len S K l w h1
theorem Hd.put (HS : BufSpec Buf) (H : Hd Buf w0 K l h s w) {x : EV} (hx : ArgE w0 x) : Calls Try.prog 8 #[.pointer (some ⟨K, 0, none⟩), ev x.e x.p x.c x.q x.d] w fun r w' => r = .returned (.tuple #[.bool (putOK l x.e), .int .i64 (putErr l x.e)]) ∧ Hd Buf w0 K (putL l x.e) h s w' := by
  obtain ⟨S, h1, h2, h3⟩ := H
  refine (HS.put S K l w x.e x.ys x.p x.c x.q x.d h1 (h2.mono fun W hb => hx.into.below hb) hx.small hx.ops hx.deps hx.fit).mono ?_
  rintro r w' ⟨e, S', h4, hst⟩
  exact ⟨e, S', h4, h2.step hst, h3.step hst⟩
theorem Hd.take (HS : BufSpec Buf) (H : Hd Buf w0 K l h s w) (hk : Known h s f) : Calls Try.prog 10 #[.pointer (some ⟨K, 0, none⟩), .slice s h.length f] w fun r w' => (∃ i, readyM l h = some i ∧ Taken l i r w' ∧ Hd Buf w0 K (withoutM l i) h s w') ∨ (readyM l h = none ∧ TookNone r ∧ Hd Buf w0 K l h s w') := by
  obtain ⟨S, h1, h2, h3⟩ := H
  refine (HS.take S K l w h s f h1 h3 hk).mono ?_
  rintro r w' ⟨S', hst, hh⟩
  rcases hh with ⟨i, h4, h5, h6⟩ | ⟨h4, h5, h6⟩
  · exact Or.inl ⟨i, h4, h5, S', h6, h2.step hst, h3.step hst⟩
  · exact Or.inr ⟨h4, h5, S', h6, h2.step hst, h3.step hst⟩
theorem Hd.drop (HS : BufSpec Buf) (H : Hd Buf w0 K l h s w) (hk : Known h s f) : Calls Try.prog 21 #[.pointer (some ⟨K, 0, none⟩), .slice s h.length f] w fun r w' => r = .returned (.int .i64 ((l.length : Int) - ((dropM l h).length : Int))) ∧ Hd Buf w0 K (dropM l h) h s w' := by
  obtain ⟨S, h1, h2, h3⟩ := H
  refine (HS.drop S K l w h s f h1 h3 hk).mono ?_
  rintro r w' ⟨e, S', h4, hst⟩
  exact ⟨e, S', h4, h2.step hst, h3.step hst⟩
theorem Hd.names (HS : BufSpec Buf) (H : Hd Buf w0 K l h s w) : Calls Try.prog 15 #[.pointer (some ⟨K, 0, none⟩)] w (Vec.Gave w (namesM l)) := by
  obtain ⟨S, h1, h2, h3⟩ := H
  exact HS.names S K l w h1
theorem Hd.wants (HS : BufSpec Buf) (H : Hd Buf w0 K l h s w) (hk : Known h s f) : Calls Try.prog 19 #[.pointer (some ⟨K, 0, none⟩), .slice s h.length f] w (Vec.Gave3 w (wantsM l h)) := by
  obtain ⟨S, h1, h2, h3⟩ := H
  refine (HS.wants S K l w h s f h1 h3.now hk).mono ?_
  rintro r w' ⟨p, c, e, hr, hb⟩
  exact ⟨p, c, e, hr.now, hb⟩
end
/-- A buffer that was made just now. -/
theorem Hd.zero {Buf : (Nat → Prop) → Nat → List Em → World → Prop} (HS : BufSpec Buf) {w0 w : World} {h : List Vec.En} {s : Option Addr} (hb : Below w0.heap.size w0 w) (hr : Vec.Row w0 s h) : Hd Buf w0 w.heap.size [] h s (w.alloc (.cells #[.slice none 0 0] 28)) := by
  obtain ⟨S, h1, h2⟩ := HS.zero w
  have hf : Firm S (w.alloc (.cells #[.slice none 0 0] 28)) (fun W => Below w0.heap.size w0 W) := Firm.base (below_alloc hb _) (fun k hk => Nat.le_trans hb.size (h2 k hk))
  exact ⟨S, h1, hf, hf.mono fun W hW => hr.below hW⟩
end Go.Proofs.Ytjkdcpalgfakhaa
/-
  HoldWants, over a buffer's calls as premises. No conditions beyond what each theorem states.
-/
namespace Go.Proofs.Ytjkdcpalgfakhaa
open Go.ChangeShapes Go.WideShapes Go.ChangeAt Go.RowKit Go.Lib
set_option linter.unusedVariables false
set_option linter.unusedSimpArgs false

/-- Envelopes that were handed in, in a row. -/
structure ArgL (w : World) (p : Option Addr) (xs : List EV) : Prop where
  row : GRow layE w p xs
  each : ∀ x ∈ xs, InE x.e x.ys x.p x.c x.q x.d w
  ops : ∀ x ∈ xs, x.e.txn.ops.length ≤ 1954687338211
  size : ∀ x ∈ xs, ∀ y ∈ x.ys, y.1.text.length ≤ 9223372036854775807 ∧ y.1.spans.length ≤ 8796093021952
theorem arg_good {w : World} {x : EV} (h : InE x.e x.ys x.p x.c x.q x.d w) (hg : goodE x.e = true) : ArgE w x := by
  unfold goodE at hg
  rw [Bool.and_eq_true] at hg
  obtain ⟨h1, h2, h3⟩ := small_x h.txn.ops hg.1
  exact ⟨h, h2, h3, h1, of_decide_eq_true hg.2⟩
theorem right_known {h : List Vec.En} {s : Option Addr} {f : Nat} (hc : h.length ≤ f) (hn : s = none → f = 0) (hf : Vec.Fits h) (hr : Vec.rightH h = true) : Known h s f ∧ h.length ≤ 100 := by
  unfold Vec.rightH at hr
  rw [Bool.and_eq_true] at hr
  have h1 := of_decide_eq_true hr.1
  exact ⟨⟨hc, hn, hf, rightB_iff.1 hr.2, by omega⟩, h1⟩
theorem puts_next (xs : List EV) {k : Nat} (h : k < xs.length) (hl : xs.length ≤ 60) : putL (putsM ((xs.take k).map (·.e))) (xs.getD k x0E).e = putsM ((xs.take (k + 1)).map (·.e)) := by
  have h1 := (puts_ok (xs.map (·.e)) k (by rw [List.length_map]; omega)).len
  rw [← List.map_take, List.length_map, List.length_take] at h1
  rw [putL_step (by omega)]
  have := putsM_take (xs.map (·.e)) e0 (k := k) (by rw [List.length_map]; exact h)
  rw [getD_mapE xs h, ← List.map_take, ← List.map_take] at this
  exact this.symm
theorem getL_nonneg' {xs : List Vec.En} (h : Vec.Fits xs) (r : Int) : 0 ≤ Vec.getL xs r := Vec.getL_nonneg h r
set_option maxHeartbeats 12800000 in
set_option maxRecDepth 20000 in
theorem hwants_any {Buf : (Nat → Prop) → Nat → List Em → World → Prop} (HS : BufSpec Buf) (xs : List EV) (p : Option Addr) (c : Nat) (h : List Vec.En) (s : Option Addr) (f : Nat) (w : World) (hA : ArgL w p xs) (hH : Vec.Row w s h) (hc : h.length ≤ f) (hn : s = none → f = 0) (hf : Vec.Fits h) (hhl : h.length ≤ 17592186043904) (hxl : xs.length ≤ 17592186043904) :
    Calls Try.prog 4 #[.slice p xs.length c, .slice s h.length f] w fun r w' => r = .returned (.bool true) ∧ Below w.heap.size w w' := by
  have HAN := Lib.hid (anchor11_any HS w)
  have HRI : Hid (∀ W, Below w.heap.size w W → Calls Try.prog 6 #[.slice s h.length f] W fun r w' => r = .returned (.bool (Vec.rightH h)) ∧ Below W.heap.size W w') := fun W hb => sright_any h s f W (hH.below hb) hhl
  have HKN : Hid (Vec.rightH h = true → Known h s f ∧ h.length ≤ 100) := right_known hc hn hf
  have HAR := Lib.hid hA
  have HHR := Lib.hid hH
  clear hA hH hc hn hf
  generalize Vec.rightH h = RHV at HRI HKN
  go_enter Try.func4, Try.ntmps4
  go_wp2_with fail
  refine HAN.out.mono ?_
  rintro r w1 ⟨rfl, hb1⟩
  have HB1 := Lib.hid hb1
  clear hb1 HAN
  by_cases hx60 : 60 < xs.length
  · have hd : decide ((60 : Int) < (xs.length : Int)) = true := by simp; omega
    have hxi : (60 : Int) < (xs.length : Int) := by omega
    go_wp2
    go_ret
    exact ⟨rfl, HB1.out⟩
  · have hd : decide ((60 : Int) < (xs.length : Int)) = false := by simp; omega
    have hxi : ¬ (60 : Int) < (xs.length : Int) := by omega
    have HR1 := Lib.hid (HRI.out w1 HB1.out)
    go_wp2_with fail
    refine HR1.out.mono ?_
    rintro r w2 ⟨rfl, hb2⟩
    have HB2 := Lib.hid (below_step HB1.out hb2)
    clear hb2 HR1 HRI HB1
    cases RHV with
    | false =>
      go_wp2
      go_ret
      exact ⟨rfl, HB2.out⟩
    | true =>
      obtain ⟨hkn, hh100⟩ := HKN.out rfl
      have HK := Lib.hid hkn
      have HZ : Hid (Hd Buf w w2.heap.size [] h s (w2.alloc (.cells #[.slice none 0 0] 28))) := Hd.zero HS HB2.out HHR.out
      clear hkn HKN
      go_wp2_with fail
      generalize (w2.alloc (.cells #[.slice none 0 0] 28)) = w3 at HZ ⊢
      generalize w2.heap.size = K at HZ ⊢
      go_loopg [26] xs.length (fun g i wr => ∃ k : Nat, k ≤ xs.length ∧ xs.length - k ≤ g ∧ i = .int .i64 (k : Int) ∧ (∀ j, j < k → ArgE w (xs.getD j x0E)) ∧ Hd Buf w K (putsM ((xs.take k).map (·.e))) h s wr)
      case atStart => exact ⟨0, Nat.zero_le _, by omega, rfl, fun j hj => by omega, HZ.out⟩
      case round =>
        clear HZ HB2
        obtain ⟨k, hk, hg, rfl, hargs, hhd⟩ := hrel
        have HAG := Lib.hid hargs
        have HHD := Lib.hid hhd
        clear hargs hhd
        by_cases hlt : k < xs.length
        · have hkl : (k : Int) < (xs.length : Int) := by omega
          have HBW := Lib.hid (HHD.out.base)
          have HNX := Lib.hid (puts_next xs hlt (by omega))
          have hin := HAR.out.each _ (getD_mem x0E hlt)
          have HIN := Lib.hid hin
          have HGD : Hid (goodE (xs.getD k x0E).e = true → ArgE w (xs.getD k x0E)) := arg_good hin
          have HSM : Hid (∀ W, Below w.heap.size w W → Calls Try.prog 7 #[ev (xs.getD k x0E).e (xs.getD k x0E).p (xs.getD k x0E).c (xs.getD k x0E).q (xs.getD k x0E).d] W fun r w' => r = .returned (.bool (goodE (xs.getD k x0E).e)) ∧ Below W.heap.size W w') := fun W hb => ssmall_any _ (xs.getD k x0E).ys _ _ _ _ W (hin.row.below hb) (hin.txn.below hb) (HAR.out.ops _ (getD_mem x0E hlt)) (HAR.out.size _ (getD_mem x0E hlt))
          have HPT : Hid (goodE (xs.getD k x0E).e = true → ∀ W, Hd Buf w K (putsM ((xs.take k).map (·.e))) h s W → Calls Try.prog 8 #[.pointer (some ⟨K, 0, none⟩), ev (xs.getD k x0E).e (xs.getD k x0E).p (xs.getD k x0E).c (xs.getD k x0E).q (xs.getD k x0E).d] W fun r w' => r = .returned (.tuple #[.bool (putOK (putsM ((xs.take k).map (·.e))) (xs.getD k x0E).e), .int .i64 (putErr (putsM ((xs.take k).map (·.e))) (xs.getD k x0E).e)]) ∧ Hd Buf w K (putsM ((xs.take (k + 1)).map (·.e))) h s w') := fun hg W hW => by
            have := hW.put HS (arg_good hin hg)
            rw [HNX.out] at this
            exact this
          have HAN : Hid (goodE (xs.getD k x0E).e = true → ∀ j, j < k + 1 → ArgE w (xs.getD j x0E)) := fun hg j hj => by
            by_cases e : j = k
            · subst e; exact HGD.out hg
            · exact HAG.out j (by omega)
          obtain ⟨b, o, rfl, c0, c1, c2, c3, c4, c5⟩ := erow_at (HAR.out.row.below HBW.out) hlt
          clear hin HIN HGD HNX
          generalize putOK (putsM ((xs.take k).map (·.e))) (xs.getD k x0E).e = PO at HPT
          generalize putErr (putsM ((xs.take k).map (·.e))) (xs.getD k x0E).e = PE at HPT
          unfold ev at HSM HPT
          generalize goodE (xs.getD k x0E).e = GV at HSM HPT HAN
          generalize xs.getD k x0E = X1 at c0 c1 c2 c3 c4 c5 HSM HPT
          obtain ⟨⟨xd, ⟨xr, xq, xc, xu, xo⟩⟩, xys, xp, xcc, xqq, xdd⟩ := X1
          simp only at c0 c1 c2 c3 c4 c5 HSM HPT
          have HBX : Hid (Below wr.heap.size wr (wr.alloc (.cells #[.slice xp xd.length xcc, .int .u16 xr, .int .u32 xq, .int .u64 xc, .int .i64 xu, .slice xqq xo.length xdd] 36))) := below_alloc (Below.refl _ _) _
          have HZX := Lib.hid (heap_alloc_new wr (.cells #[.slice xp xd.length xcc, .int .u16 xr, .int .u32 xq, .int .u64 xc, .int .i64 xu, .slice xqq xo.length xdd] 36))
          have HSW := Lib.hid (HSM.out _ (below_step HBW.out HBX.out))
          have HH2 := Lib.hid (HHD.out.below HS HBX.out)
          clear HSM HHD HBW HAG
          go_wp2_with fail
          refine HSW.out.mono ?_
          rintro r w4 ⟨rfl, hb4⟩
          obtain ⟨y0, y1, y2, y3, y4, y5⟩ := six_cells (kept_box HZX.out hb4)
          have HH4 := Lib.hid (HH2.out.below HS hb4)
          clear hb4 HSW HH2 HZX HBX c0 c1 c2 c3 c4 c5
          cases GV with
          | false =>
            have HB4 := Lib.hid HH4.out.base
            go_wp2
            go_ret
            exact ⟨rfl, HB4.out⟩
          | true =>
            have HP4 := Lib.hid (HPT.out rfl w4 HH4.out)
            have HA4 := Lib.hid (HAN.out rfl)
            clear HPT HAN HH4
            go_wp2_with fail
            refine HP4.out.mono ?_
            rintro r w5 ⟨rfl, hh5⟩
            have HH5 := Lib.hid hh5
            clear hh5 HP4
            go_wp2
            go_roundg (xs.length - (k + 1))
            case measure => omega
            case rel => exact ⟨k + 1, by omega, Nat.le_refl _, by go_num, HA4.out, HH5.out⟩
        · have : k = xs.length := by omega
          subst this
          have hkl : ¬ (xs.length : Int) < (xs.length : Int) := by omega
          rw [List.take_length] at HHD
          have hfair : ∀ y ∈ putsM (xs.map (·.e)), FairE y ∧ y.deps.length ≤ 100 := fun y hy => by
            have h1 := (puts_ok (xs.map (·.e)) xs.length (by rw [List.length_map]; omega))
            rw [show (xs.map (·.e)).take xs.length = xs.map (·.e) from List.take_of_length_le (by rw [List.length_map]; omega)] at h1
            obtain ⟨x, hx, rfl⟩ := List.mem_map.1 (h1.sub y hy)
            obtain ⟨i, hi, rfl⟩ := mem_getD x0E hx
            have := HAG.out i hi
            exact ⟨this.fair, this.deps⟩
          have hblen : (putsM (xs.map (·.e))).length ≤ xs.length := by
            have h1 := (puts_ok (xs.map (·.e)) xs.length (by rw [List.length_map]; omega)).len
            rw [show (xs.map (·.e)).take xs.length = xs.map (·.e) from List.take_of_length_le (by rw [List.length_map]; omega), List.length_map] at h1
            exact h1
          generalize putsM (xs.map (·.e)) = B0 at HHD hfair hblen
          have HFA := Lib.hid hfair
          have HBW := Lib.hid HHD.out.base
          have HV := Lib.hid (svec_any h s f wr HHD.out.row hhl)
          clear hfair HAG
          unfold MadeD at HV
          go_wp2_with fail
          refine HV.out.mono ?_
          rintro r w4 ⟨p4, c4, rfl, hr4, -, hb4⟩
          have HR4 := Lib.hid hr4
          have HH4 := Lib.hid (HHD.out.below HS hb4)
          clear hr4 hb4 HV HHD
          have HW5 := Lib.hid (HH4.out.wants HS HK.out)
          go_wp2_with fail
          refine HW5.out.mono ?_
          rintro r w5 ⟨p5, c5, rfl, hr5, hb5⟩
          have HG5 := Lib.hid hr5
          have HR5 := Lib.hid (HR4.out.below hb5)
          have HH5 := Lib.hid (HH4.out.below HS hb5)
          clear hr5 hb5 HW5 HH4 HR4
          have hgl : (wantsM B0 h).length ≤ 101 * 60 := by
            have h1 := Vec.lacksL_le h (allM B0)
            have h2 := allM_len (fun y hy => (HFA.out y hy).2)
            unfold wantsM
            omega
          go_wp2_with fail
          go_loopg [9, 42] (wantsM B0 h).length (fun g v i wr => ∃ (k : Nat) (hn : List Vec.En) (s' : Option Addr) (f' : Nat), k ≤ (wantsM B0 h).length ∧ (wantsM B0 h).length - k ≤ g ∧ i = .int .i64 (k : Int) ∧ v = .slice s' hn.length f' ∧ hn = raised h ((wantsM B0 h).take k) ∧ hn.length ≤ 100 + k ∧ Known hn s' f' ∧ Hd Buf w K B0 hn s' wr ∧ Below w5.heap.size w5 wr)
          case atStart => exact ⟨0, h, s, f, Nat.zero_le _, by omega, rfl, rfl, rfl, by omega, HK.out, HH5.out, Below.refl _ _⟩
          case round =>
            clear HH5
            obtain ⟨k, hn, s', f', hk2, hg2, rfl, rfl, hrz, hhn, hkn, hhd, hb⟩ := hrel
            have HRZ := Lib.hid hrz
            have HKN := Lib.hid hkn
            have HHD := Lib.hid hhd
            have HB := Lib.hid hb
            clear hrz hkn hhd hb
            by_cases hlt2 : k < (wantsM B0 h).length
            · have hkl2 : (k : Int) < ((wantsM B0 h).length : Int) := by omega
              have hgm : Vec.at3 (wantsM B0 h) k ∈ Vec.lacksL h (allM B0) := by
                unfold Vec.at3
                exact getD_mem _ hlt2
              obtain ⟨hm1, hm2, hm3⟩ := mem_lacksL hgm
              have hrange := mem_allM (fun y hy => (HFA.out y hy).1) hm1
              simp only at hrange
              have HRN : Hid (raised h ((wantsM B0 h).take (k + 1)) = Vec.withL hn (Vec.at3 (wantsM B0 h) k).1 (Vec.at3 (wantsM B0 h) k).2.2) := by
                show _ = _
                have : (wantsM B0 h).take (k + 1) = (wantsM B0 h).take k ++ [Vec.at3 (wantsM B0 h) k] := by unfold Vec.at3; exact take_getD _ hlt2
                rw [this, HRZ.out]
                unfold raised
                rw [List.foldl_append]
                rfl
              have hgn := getL_nonneg' HK.out.fits (Vec.at3 (wantsM B0 h) k).1
              obtain ⟨b, o, rfl, c0, c1, c2⟩ := (HG5.out.below HB.out) k hlt2
              clear hgm hm1
              generalize hG1 : (Vec.at3 (wantsM B0 h) k).1 = g1 at c0 HRN hrange hm2 hm3 hgn
              generalize hG2 : (Vec.at3 (wantsM B0 h) k).2.1 = g2 at c1 hm2
              generalize hG3 : (Vec.at3 (wantsM B0 h) k).2.2 = g3 at c2 HRN hrange hm3
              clear hG1 hG2 hG3
              have HGE : Hid (∀ W, Below wr.heap.size wr W → Calls Try.prog 20 #[.slice p4 h.length c4, .int .u16 g1] W fun e w' => e = .returned (.int .u32 (g2 - 1)) ∧ w' = W) := fun W hb => by
                have := Vec.refget_any h g1 p4 c4 W (HR5.out.below (below_step HB.out hb)) (by omega)
                rw [show Vec.getL h g1 = g2 - 1 by omega] at this
                exact this
              have HWI : Hid (∀ W, Below wr.heap.size wr W → Calls Try.prog 14 #[.slice s' hn.length f', .int .u16 g1, .int .u32 g3] W (Vec.GaveK 78 W (Vec.withL hn g1 g3))) := fun W hb => Vec.with_kind hn g1 g3 s' f' W (HHD.out.row.below hb) (Vec.srt_of_right HKN.out.right) (by omega) HKN.out.cap HKN.out.nil
              have hwl := Vec.withL_le hn g1 g3
              have HKW : Hid (∀ s2 f2, (Vec.withL hn g1 g3).length ≤ f2 → (s2 = none → f2 = 0) → Known (Vec.withL hn g1 g3) s2 f2) := fun s2 f2 h1 h2 => HKN.out.with ⟨hrange.1, hrange.2.1⟩ hrange.2.2.2 (by omega) h1 h2
              generalize Vec.withL hn g1 g3 = HN at HWI HKW HRN hwl
              have t1 : decide (g3 < g2) = false := by simp; omega
              have t2 : IntKind.u32.wrap (g2 - 1) = g2 - 1 := by rw [IntKind.wrap_u32]; omega
              have t3 : ¬ g3 < g2 := by omega
              have HBX : Hid (Below wr.heap.size wr (wr.alloc (.cells #[.int .u16 g1, .int .u32 g2, .int .u32 g3] 65))) := below_alloc (Below.refl _ _) _
              obtain ⟨y0, y1, y2⟩ := three_cells (heap_alloc_new wr (.cells #[.int .u16 g1, .int .u32 g2, .int .u32 g3] 65))
              clear hm2 hm3 hgn hrange
              go_wp2_with fail
              go_quiet (first | (go_at_call 20; refine Calls.quiet_of_same (HGE.out _ (below_drewN HBX.out _))))
              go_wp2_with fail
              refine (HWI.out _ (below_drewN HBX.out _)).mono ?_
              rintro r w6 ⟨s2, f2, rfl, hr6, hc6, hn6, hk6, hb6⟩
              have HB6 := Lib.hid (below_step (below_drewN HBX.out _) hb6)
              have HH6 := Lib.hid ((HHD.out.below HS HB6.out).swap HS hr6 hk6)
              have HK6 := Lib.hid (HKW.out s2 f2 hc6 hn6)
              clear hr6 hc6 hn6 hk6 hb6 HWI HGE HKW HHD HKN HBX y0 y1 y2
              go_wp2
              go_roundg ((wantsM B0 h).length - (k + 1))
              case measure => omega
              case rel => exact ⟨k + 1, HN, s2, f2, by omega, Nat.le_refl _, by go_num, rfl, HRN.out.symm, by omega, HK6.out, HH6.out, below_step HB.out HB6.out⟩
            · have : k = (wantsM B0 h).length := by omega
              subst this
              have hkl2 : ¬ ((wantsM B0 h).length : Int) < ((wantsM B0 h).length : Int) := by omega
              rw [List.take_length] at HRZ
              have HCV : Hid (∀ y ∈ allM B0, y.2 ≤ Vec.getL hn y.1) := by
                show ∀ y ∈ allM B0, y.2 ≤ Vec.getL hn y.1
                rw [HRZ.out]
                exact raised_covers (allM_right fun y hy => (HFA.out y hy).1)
              have HNW := Lib.hid (HHD.out.wants HS HKN.out)
              rw [wants_nil.2 HCV.out] at HNW
              go_wp2_with fail
              refine HNW.out.mono ?_
              rintro r w6 ⟨p6, c6, rfl, -, hb6⟩
              have HH6 := Lib.hid (HHD.out.below HS hb6)
              clear hb6 HNW HHD HB
              go_wp2_with fail
              have hhn2 : hn.length ≤ 7000 := by omega
              clear HRZ hkl2 hlt2 hhn
              go_loopg [9, 74] xs.length (fun g v i wr => ∃ (k : Nat) (l : List Em) (hn : List Vec.En) (s' : Option Addr) (f' : Nat), k ≤ xs.length ∧ xs.length - k ≤ g ∧ i = .int .i64 (k : Int) ∧ v = .slice s' hn.length f' ∧ (∀ x ∈ l, x ∈ B0) ∧ l.length + k ≤ xs.length ∧ hn.length ≤ 7000 + k ∧ Known hn s' f' ∧ (∀ y ∈ allM B0, y.2 ≤ Vec.getL hn y.1) ∧ Hd Buf w K l hn s' wr)
              case atStart => exact ⟨0, B0, hn, s', f', Nat.zero_le _, by omega, rfl, rfl, fun x hx => hx, by omega, by omega, HKN.out, HCV.out, HH6.out⟩
              case round =>
                clear HH6 HKN HCV hhn2
                obtain ⟨k, l, hn, s', f', hk3, hg3, rfl, rfl, hsub, hll, hhn, hkn, hcv, hhd⟩ := hrel
                have HSB := Lib.hid hsub
                have HKN := Lib.hid hkn
                have HCV := Lib.hid hcv
                have HHD := Lib.hid hhd
                clear hsub hkn hcv hhd
                by_cases hlt3 : k < xs.length
                · have hkl3 : (k : Int) < (xs.length : Int) := by omega
                  have HT := Lib.hid (HHD.out.take HS HKN.out)
                  clear HHD
                  go_wp2_with fail
                  refine HT.out.mono ?_
                  rintro r w7 (⟨i, hi, ⟨e, ys, p7, c7, q7, d7, he, rfl, -, -, -⟩, hh7⟩ | ⟨hn0, ⟨e, p7, c7, q7, d7, he1, he2, rfl⟩, hh7⟩)
                  · obtain ⟨hil, hir⟩ := readyM_some hi
                    have hle : l[i] = e := by rw [List.getElem?_eq_getElem hil] at he; exact Option.some.inj he
                    rw [hle] at hir
                    have hfe := (HFA.out e (HSB.out e (by rw [← hle]; exact List.getElem_mem hil))).1
                    have HMO : Hid (∀ y ∈ allM B0, y.2 ≤ Vec.getL (Vec.withL hn e.txn.r e.txn.seq) y.1) := fun y hy => Int.le_trans (HCV.out y hy) (ready_more hfe hir y.1)
                    have HSB2 : Hid (∀ x ∈ withoutM l i, x ∈ B0) := fun x hx => HSB.out x (withoutM_mem hx)
                    have hwl := withoutM_len hil
                    have hsq := hfe.seq
                    have HWI : Hid (∀ W, Below w7.heap.size w7 W → Calls Try.prog 14 #[.slice s' hn.length f', .int .u16 e.txn.r, .int .u32 e.txn.seq] W (Vec.GaveK 78 W (Vec.withL hn e.txn.r e.txn.seq))) := fun W hb => Vec.with_kind hn _ _ s' f' W (hh7.row.below hb) (Vec.srt_of_right HKN.out.right) (by omega) HKN.out.cap HKN.out.nil
                    have hw2 := Vec.withL_le hn e.txn.r e.txn.seq
                    have HKW : Hid (∀ s2 f2, (Vec.withL hn e.txn.r e.txn.seq).length ≤ f2 → (s2 = none → f2 = 0) → Known (Vec.withL hn e.txn.r e.txn.seq) s2 f2) := fun s2 f2 h1 h2 => HKN.out.with ⟨hfe.r0, hfe.r1⟩ hsq.2 (by omega) h1 h2
                    have HH7 := Lib.hid hh7
                    generalize Vec.withL hn e.txn.r e.txn.seq = HN at HWI HKW HMO hw2
                    generalize withoutM l i = L2 at HSB2 hwl HH7
                    clear hi he hle hir hfe hsq hh7 HT HKN HCV HSB
                    unfold ev
                    obtain ⟨ed, ⟨er, es, ec, eu, eo⟩⟩ := e
                    simp only at HWI
                    have HBX : Hid (Below w7.heap.size w7 (w7.alloc (.cells #[.slice p7 ed.length c7, .int .u16 er, .int .u32 es, .int .u64 ec, .int .i64 eu, .slice q7 eo.length d7] 36))) := below_alloc (Below.refl _ _) _
                    obtain ⟨y0, y1, y2, y3, y4, y5⟩ := six_cells (heap_alloc_new w7 (.cells #[.slice p7 ed.length c7, .int .u16 er, .int .u32 es, .int .u64 ec, .int .i64 eu, .slice q7 eo.length d7] 36))
                    go_wp2_with fail
                    refine (HWI.out _ HBX.out).mono ?_
                    rintro r w8 ⟨s2, f2, rfl, hr8, hc8, hn8, hk8, hb8⟩
                    have HB8 := Lib.hid (below_step HBX.out hb8)
                    have HH8 := Lib.hid ((HH7.out.below HS HB8.out).swap HS hr8 hk8)
                    have HK8 := Lib.hid (HKW.out s2 f2 hc8 hn8)
                    clear hr8 hc8 hn8 hk8 hb8 HWI HKW HH7 HBX HB8 y0 y1 y2 y3 y4 y5
                    go_wp2
                    go_roundg (xs.length - (k + 1))
                    case measure => omega
                    case rel => exact ⟨k + 1, L2, HN, s2, f2, by omega, Nat.le_refl _, by go_num, rfl, HSB2.out, by omega, by omega, HK8.out, HMO.out, HH8.out⟩
                  · have HPA : Hid (∀ x ∈ l, pastE x hn = true) := fun x hx => by
                      rcases covered_each (fun y hy => (HFA.out y hy).1) HKN.out.right HCV.out x (HSB.out x hx) with h1 | h1
                      · rw [readyM_none hn0 x hx] at h1; cases h1
                      · exact h1
                    unfold ev
                    obtain ⟨ed, ⟨er, es, ec, eu, eo⟩⟩ := e
                    have HHX := Lib.hid (hh7.below HS (below_alloc (Below.refl _ _) (.cells #[.slice p7 ed.length c7, .int .u16 er, .int .u32 es, .int .u64 ec, .int .i64 eu, .slice q7 eo.length d7] 36)))
                    clear hn0 he1 he2 hh7 HT HCV HSB
                    have t9 : (0 : Int) ≤ (l.length : Int) := by omega
                    have HDR : Hid (dropM l hn = []) := drop_nil HPA.out
                    have HD9 := Lib.hid (HHX.out.drop HS HKN.out)
                    rw [HDR.out, show ((l.length : Int) - (([] : List Em).length : Int)) = (l.length : Int) by simp] at HD9
                    go_wp2_with fail
                    refine HD9.out.mono ?_
                    rintro r w9 ⟨rfl, hh9⟩
                    have HH9 := Lib.hid hh9
                    have HL9 : Hid (Calls Try.prog 22 #[.pointer (some ⟨K, 0, none⟩)] w9 fun r w' => r = .returned (.int .i64 0) ∧ Below w9.heap.size w9 w') := hh9.len HS
                    clear hh9 HD9
                    go_wp2_with fail
                    refine HL9.out.mono ?_
                    rintro r w10 ⟨rfl, hb10⟩
                    have HB10 := Lib.hid (below_step HH9.out.base hb10)
                    clear hb10 HL9
                    go_wp2
                    go_ret
                    exact ⟨rfl, HB10.out⟩
                · have : k = xs.length := by omega
                  subst this
                  have hkl3 : ¬ (xs.length : Int) < (xs.length : Int) := by omega
                  have HPA : Hid (∀ x ∈ l, pastE x hn = true) := fun x hx => by
                    have := List.length_pos_of_mem hx
                    omega
                  have HHX := Lib.hid HHD.out
                  clear HHD
                  have t9 : (0 : Int) ≤ (l.length : Int) := by omega
                  have HDR : Hid (dropM l hn = []) := drop_nil HPA.out
                  have HD9 := Lib.hid (HHX.out.drop HS HKN.out)
                  rw [HDR.out, show ((l.length : Int) - (([] : List Em).length : Int)) = (l.length : Int) by simp] at HD9
                  go_wp2_with fail
                  refine HD9.out.mono ?_
                  rintro r w9 ⟨rfl, hh9⟩
                  have HH9 := Lib.hid hh9
                  have HL9 : Hid (Calls Try.prog 22 #[.pointer (some ⟨K, 0, none⟩)] w9 fun r w' => r = .returned (.int .i64 0) ∧ Below w9.heap.size w9 w') := hh9.len HS
                  clear hh9 HD9
                  go_wp2_with fail
                  refine HL9.out.mono ?_
                  rintro r w10 ⟨rfl, hb10⟩
                  have HB10 := Lib.hid (below_step HH9.out.base hb10)
                  clear hb10 HL9
                  go_wp2
                  go_ret
                  exact ⟨rfl, HB10.out⟩
end Go.Proofs.Ytjkdcpalgfakhaa
