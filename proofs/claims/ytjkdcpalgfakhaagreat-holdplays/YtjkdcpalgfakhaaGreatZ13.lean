/-
  Several texts of one proof, joined: each part says at its head what it proves. No conditions beyond what each theorem states.
-/
import Derived.Lib.QuietBelow
import Derived.Laws.AppendOwnNone
import Derived.Test.YtjkdcpalgfakhaaGreatZ07
import Derived.Test.YtjkdcpalgfakhaaGreatZ12
/-
  What Covers, Stands and Lacks hand back, for every two lists of entries by rising replicas that lie in memory. No conditions beyond what each theorem states.
-/
namespace Go.Proofs.YtjkdcpalgfakhaaGreat.Vec
open Go.ChangeShapes Go.WideShapes Go.ChangeAt Go.RowKit Go.Lib
open Go.Sort
set_option linter.unusedVariables false
set_option linter.unusedSimpArgs false

theorem coversL_true {xs ys : List En} (h : ∀ j, j < ys.length → ¬ getL xs (atL ys j).1 < (atL ys j).2) : coversL xs ys = true := decide_eq_true fun y hy => by
  obtain ⟨i, hi, rfl⟩ := mem_atL hy
  exact h i hi
theorem coversL_false {xs ys : List En} {k : Nat} (hk : k < ys.length) (h : getL xs (atL ys k).1 < (atL ys k).2) : coversL xs ys = false := decide_eq_false fun hh => hh _ (atL_mem hk) h

set_option maxHeartbeats 1600000 in
set_option maxRecDepth 100000 in
theorem covers_any (xs ys : List En) (p q : Option Addr) (c d : Nat) (w : World) (hR : Row w p xs) (hS : Row w q ys) (hs : Srt xs) (hl : xs.length ≤ 1000000) (hm : ys.length ≤ 1000000) :
    Calls Tryz.prog 58 #[.slice p xs.length c, .slice q ys.length d] w fun e w' => e = .returned (.bool (coversL xs ys)) ∧ Below w.heap.size w w' := by
  have HS : Hid (Row w q ys) := hS
  have HR : Hid (Row w p xs) := hR
  have HSrt : Hid (Srt xs) := hs
  clear hR hS hs
  go_enter Tryz.func58, Tryz.ntmps58
  go_wp2
  go_loopg [9] ys.length (fun n i wr => ∃ k : Nat, k ≤ ys.length ∧ ys.length - k ≤ n ∧ i = .int .i64 k ∧ Below w.heap.size w wr ∧ ∀ j, j < k → ¬ getL xs (atL ys j).1 < (atL ys j).2)
  case atStart => exact ⟨0, Nat.zero_le _, by omega, rfl, Below.refl _ _, fun j hj => by omega⟩
  case round =>
    obtain ⟨k, hk, hg, rfl, hb, hno⟩ := hrel
    have HB : Hid (Below w.heap.size w wr) := hb
    have HN : Hid (∀ j, j < k → ¬ getL xs (atL ys j).1 < (atL ys j).2) := hno
    clear hb hno
    by_cases hlt : k < ys.length
    · obtain ⟨b, o, rfl, c0', c1'⟩ := HS.out k hlt
      have c0 := cellU c0' HB.out
      have c1 := cellU c1' HB.out
      clear c0' c1'
      generalize hx : (atL ys k).1 = x at c0
      generalize hy : (atL ys k).2 = y at c1
      have B : Hid (atL ys k = (x, y)) := Prod.ext hx hy
      clear hx hy
      have g0 := cell_regrown (w := wr.alloc (.cells #[.int .u16 x, .int .u32 y] 74)) (a := ⟨wr.heap.size, 0, none⟩) (v := .int .u16 x) (by simp)
      have g1 := cell_regrown (w := wr.alloc (.cells #[.int .u16 x, .int .u32 y] 74)) (a := ⟨wr.heap.size, 1, none⟩) (v := .int .u32 y) (by simp)
      have HG : Hid (∀ dd os, Calls Tryz.prog 57 #[.slice p xs.length c, .int .u16 x] (grow (redrawn (wr.alloc (.cells #[.int .u16 x, .int .u32 y] 74)) dd) os) fun e w'' => e = .returned (.int .u32 (getL xs x)) ∧ ∃ pp : Regrown, w'' = grow (redrawn (wr.alloc (.cells #[.int .u16 x, .int .u32 y] 74)) pp.d) pp.os) :=
        fun dd os => Calls.regrown_of (get_any xs x p c _ (HR.out.below (below_step (below_alloc HB.out _) (below_regrown _ dd os))) HSrt.out hl)
      generalize hz : getL xs x = z at HG
      have HZ : Hid (getL xs x = z) := hz
      clear hz
      by_cases hlz : z < y
      · have hd : decide (z < y) = true := by simp [hlz]
        go_wp2_with fail
        refine wp_region_quiet_below (by kernel_rfl) (by kernel_rfl) ?_
        repeat (first | go_big_quiet_step ((go_at_call 57; exact HG.out _ _)) | quiet_step ((go_at_call 57; exact HG.out _ _)))
        refine wpQuiet_nil ?_
        intro w3 hw'
        have HB3 : Hid (Below w.heap.size w w3) := by obtain ⟨⟨dq, osq⟩, rfl⟩ := hw'; exact below_step (below_alloc HB.out _) (below_regrown _ _ _)
        clear hw' g0 g1 HG
        go_wp2
        go_ret
        exact ⟨ret_bool (coversL_false hlt (by rw [B.out]; simp only [HZ.out]; exact hlz)).symm, HB3.out⟩
      · have hd : decide (z < y) = false := by simp [hlz]
        go_wp2_with fail
        refine wp_region_quiet_below (by kernel_rfl) (by kernel_rfl) ?_
        repeat (first | go_big_quiet_step ((go_at_call 57; exact HG.out _ _)) | quiet_step ((go_at_call 57; exact HG.out _ _)))
        refine wpQuiet_nil ?_
        intro w3 hw'
        have HB3 : Hid (Below w.heap.size w w3) := by obtain ⟨⟨dq, osq⟩, rfl⟩ := hw'; exact below_step (below_alloc HB.out _) (below_regrown _ _ _)
        clear hw' g0 g1 HG
        go_wp2
        go_roundg (ys.length - (k + 1))
        case measure => omega
        case rel => exact ⟨k + 1, by omega, Nat.le_refl _, by go_num, HB3.out, fun j hj => by
          by_cases e : j = k
          · subst e; rw [B.out]; simp only [HZ.out]; omega
          · exact HN.out j (by omega)⟩
    · have : k = ys.length := by omega
      subst this
      go_wp2
      go_ret
      exact ⟨ret_bool (coversL_true (fun j hj => by have := HN.out j hj; omega)).symm, HB.out⟩

/-- How a vector stands to another one. -/
def standsL (a b : Bool) : Int := if a && b then 1 else if b then 2 else if a then 3 else 4

/-- Gaps in a row of the call's own, in a block of their kind. -/
def Gave3K (t : TypeId) (w : World) (xs : List Gp) (e : Ending) (w' : World) : Prop := ∃ p c, e = .returned (.slice p xs.length c) ∧ Row3 w' p xs ∧ KindAt t w' p ∧ Below w.heap.size w w'
set_option maxHeartbeats 1600000 in
set_option maxRecDepth 100000 in
theorem lacks_kind (xs ys : List En) (p q : Option Addr) (c d : Nat) (w : World) (hR : Row w p xs) (hS : Row w q ys) (hs : Srt xs) (hfx : Fits xs) (hfy : Fits ys) (hl : xs.length ≤ 1000000) (hm : ys.length ≤ 1000000) :
    Calls Tryz.prog 44 #[.slice p xs.length c, .slice q ys.length d] w (Gave3K 69 w (lacksL xs ys)) := by
  have HS : Hid (Row w q ys) := hS
  have HR : Hid (Row w p xs) := hR
  have HSrt : Hid (Srt xs) := hs
  clear hR hS hs
  obtain ⟨i0, hi, hz0, hz1, hz2⟩ := info_parts info52
  go_enter Tryz.func44, Tryz.ntmps44
  go_wp2
  go_loopg [5, 11] ys.length (fun g s i wr => ∃ k : Nat, k ≤ ys.length ∧ ys.length - k ≤ g ∧ i = .int .i64 k ∧ Holding3 w 69 s (lacksL xs (ys.take k)) wr)
  case atStart => exact ⟨0, Nat.zero_le _, by omega, rfl, by simpa [lacksL] using Holding3.nil w 69⟩
  case round =>
    obtain ⟨k, hk, hg, rfl, hO⟩ := hrel
    have HO : Hid (Holding3 w 69 u5 (lacksL xs (ys.take k)) wr) := hO
    clear hO
    by_cases hlt : k < ys.length
    · obtain ⟨b, o, rfl, c0', c1'⟩ := HS.out k hlt
      have c0 := cellU c0' HO.out.2
      have c1 := cellU c1' HO.out.2
      obtain ⟨-, -, y0, y1⟩ := hfy.at hlt
      clear c0' c1'
      generalize hx : (atL ys k).1 = x at c0
      generalize hy : (atL ys k).2 = y at c1 y0 y1
      have B : Hid (atL ys k = (x, y)) := Prod.ext hx hy
      clear hx hy
      have HG : Hid (Calls Tryz.prog 57 #[.slice p xs.length c, .int .u16 x] (wr.alloc (.cells #[.int .u16 x, .int .u32 y] 74)) fun e w' => e = .returned (.int .u32 (getL xs x)) ∧ Below (wr.alloc (.cells #[.int .u16 x, .int .u32 y] 74)).heap.size (wr.alloc (.cells #[.int .u16 x, .int .u32 y] 74)) w') := get_any xs x p c _ (HR.out.below (below_alloc HO.out.2 _)) HSrt.out hl
      have z0 := getL_nonneg hfx x
      generalize hz : getL xs x = z at HG z0
      have HZ : Hid (getL xs x = z) := hz
      clear hz
      have hll := lacksL_le xs (ys.take k)
      rw [List.length_take] at hll
      have g0 : (wr.alloc (.cells #[.int .u16 x, .int .u32 y] 74)).cell? ⟨wr.heap.size, 0, none⟩ = some (.int .u16 x) := by simp
      have g1 : (wr.alloc (.cells #[.int .u16 x, .int .u32 y] 74)).cell? ⟨wr.heap.size, 1, none⟩ = some (.int .u32 y) := by simp
      have G : Hid ((wr.alloc (.cells #[.int .u16 x, .int .u32 y] 74)).cell? ⟨wr.heap.size, 0, none⟩ = some (.int .u16 x) ∧ (wr.alloc (.cells #[.int .u16 x, .int .u32 y] 74)).cell? ⟨wr.heap.size, 1, none⟩ = some (.int .u32 y)) := ⟨g0, g1⟩
      clear g0 g1
      go_wp2_with fail
      refine HG.out.mono ?_
      rintro e w1 ⟨rfl, hb1⟩
      have g0 := cellU G.out.1 hb1
      have g1 := cellU G.out.2 hb1
      have HO1 : Hid (Holding3 w 69 u5 (lacksL xs (ys.take k)) w1) := (HO.out.alloc _).below hb1
      clear HG G hb1 HO c0 c1
      by_cases hlz : z < y
      · have hwz : IntKind.u32.wrap (z + 1) = z + 1 := by rw [IntKind.wrap_u32]; omega
        go_wp2_with (first
          | (at_builtin; refine wpList_append_own _ rfl (.tmp 23) (.tmp 31) 66 rfl w.heap.size 69 i0 (.agg #[.int .u16 0, .int .u32 0, .int .u32 0]) 3 12 Tryz.underlying66 hi hz0 hz1 hz2 rfl (by decide) _ _ _ rfl (HO1.out.alloc _).1 ⟨w1.heap.size, 0, none⟩ 1 1 [.int .u16 x, .int .u32 (z + 1), .int .u32 y] rfl rfl (cells_three (by simp) (by simp) (by simp)) (three_one x (z + 1) y) (by unfold maxLen; omega) (by omega) (by have := HO1.out.2.size; simp; omega) ?_))
        intro v' w2 hown' hgrow _
        have HO2 : Hid (Holding3 w 69 v' (lacksL xs (ys.take (k + 1))) w2) := by
          rw [lacksL_step hlt, B.out, lackAt, if_pos (by simp only [HZ.out]; omega)]
          simp only [HZ.out]
          exact (HO1.out.alloc _).onto hown' hgrow
        clear hown' hgrow
        go_wp2
        go_roundg (ys.length - (k + 1))
        case measure => omega
        case rel => exact ⟨k + 1, by omega, Nat.le_refl _, by go_num, HO2.out⟩
      · go_wp2
        go_roundg (ys.length - (k + 1))
        case measure => omega
        case rel => exact ⟨k + 1, by omega, Nat.le_refl _, by go_num, by rw [lacksL_step hlt, B.out, lackAt, if_neg (by simp only [HZ.out]; omega), List.append_nil]; exact HO1.out⟩
    · have : k = ys.length := by omega
      subst this
      rw [List.take_length] at HO
      obtain ⟨p', c', rfl, hr⟩ := HO.out.gave
      have HR' : Hid (Row3 wr p' (lacksL xs ys)) := hr
      clear hr
      go_wp2
      go_ret
      exact ⟨p', c', rfl, HR'.out, kind_owns HO.out.1, HO.out.2⟩
theorem lacks_any (xs ys : List En) (p q : Option Addr) (c d : Nat) (w : World) (hR : Row w p xs) (hS : Row w q ys) (hs : Srt xs) (hfx : Fits xs) (hfy : Fits ys) (hl : xs.length ≤ 1000000) (hm : ys.length ≤ 1000000) :
    Calls Tryz.prog 44 #[.slice p xs.length c, .slice q ys.length d] w (Gave3 w (lacksL xs ys)) := (lacks_kind xs ys p q c d w hR hS hs hfx hfy hl hm).mono fun _ _ ⟨p', c', h1, h2, _, h3⟩ => ⟨p', c', h1, h2, h3⟩

end Go.Proofs.YtjkdcpalgfakhaaGreat.Vec
/-
  What With hands back, for every list of entries by rising replicas that lies in memory. No conditions beyond what each theorem states.
-/
namespace Go.Proofs.YtjkdcpalgfakhaaGreat.Vec
open Go.ChangeShapes Go.WideShapes Go.ChangeAt Go.RowKit Go.Lib
open Go.Sort
set_option linter.unusedVariables false
set_option linter.unusedSimpArgs false

/-- Where the entries are cut. -/
def cutAt (xs : List En) (r : Int) : Nat := if hasL xs r then rank xs r + 1 else rank xs r
theorem cutAt_le (xs : List En) (r : Int) : cutAt xs r ≤ xs.length := by
  have := rank_le xs r
  unfold cutAt
  split
  · rename_i h
    simp only [hasL, decide_eq_true_eq] at h; omega
  · exact this
theorem filter_all {l : List En} {f : En → Bool} (h : ∀ x ∈ l, f x = true) : l.filter f = l := List.filter_eq_self.2 h
theorem filter_no {l : List En} {f : En → Bool} (h : ∀ x ∈ l, f x = false) : l.filter f = [] := List.filter_eq_nil_iff.2 fun x hx => by rw [h x hx]; simp
theorem mem_take_at {xs : List En} {k : Nat} {x : En} (h : x ∈ xs.take k) : ∃ i, i < k ∧ i < xs.length ∧ atL xs i = x := by
  obtain ⟨i, hi, e⟩ := mem_atL h
  rw [List.length_take] at hi
  exact ⟨i, by omega, by omega, by rw [← e, atL_take _ _ _ (by omega)]⟩
theorem mem_drop_at {xs : List En} {k : Nat} {x : En} (h : x ∈ xs.drop k) : ∃ i, k ≤ i ∧ i < xs.length ∧ atL xs i = x := by
  obtain ⟨i, hi, e⟩ := mem_atL h
  rw [List.length_drop] at hi
  exact ⟨k + i, by omega, by omega, by rw [← e, atL_drop]⟩
theorem lo_take {xs : List En} (h : Srt xs) (r : Int) : lo xs r = xs.take (rank xs r) := by
  have e : lo xs r = lo (xs.take (rank xs r)) r ++ lo (xs.drop (rank xs r)) r := by rw [lo, lo, lo, ← List.filter_append, List.take_append_drop]
  rw [e, lo, lo, filter_all, filter_no, List.append_nil]
  · intro x hx
    obtain ⟨i, h1, h2, rfl⟩ := mem_drop_at hx
    have := (rank_iff h r h2).2 h1
    simp; omega
  · intro x hx
    obtain ⟨i, h1, h2, rfl⟩ := mem_take_at hx
    have := mt (rank_iff h r h2).1 (by omega)
    simp; omega
theorem hi_drop {xs : List En} (h : Srt xs) (r : Int) : hi xs r = xs.drop (cutAt xs r) := by
  have e : hi xs r = hi (xs.take (cutAt xs r)) r ++ hi (xs.drop (cutAt xs r)) r := by rw [hi, hi, hi, ← List.filter_append, List.take_append_drop]
  have hle := rank_le xs r
  rw [e, hi, hi, filter_no, filter_all, List.nil_append]
  · intro x hx
    obtain ⟨i, h1, h2, rfl⟩ := mem_drop_at hx
    unfold cutAt at h1
    split at h1
    · rename_i hh
      simp only [hasL, decide_eq_true_eq] at hh
      have := h _ _ (show rank xs r < i by omega) h2
      simp; omega
    · rename_i hh
      have h3 := (rank_iff h r h2).2 h1
      by_cases h4 : (atL xs i).1 = r
      · exfalso
        apply hh
        simp only [hasL, decide_eq_true_eq]
        have h5 := (rank_iff h r (show rank xs r < xs.length by omega)).2 (Nat.le_refl _)
        refine ⟨by omega, ?_⟩
        rcases Nat.eq_or_lt_of_le h1 with e2 | e2
        · rw [e2]; exact h4
        · have := h _ _ e2 h2; omega
      · simp; omega
  · intro x hx
    obtain ⟨i, h1, h2, rfl⟩ := mem_take_at hx
    unfold cutAt at h1
    split at h1
    · rename_i hh
      simp only [hasL, decide_eq_true_eq] at hh
      rcases Nat.lt_or_ge i (rank xs r) with h3 | h3
      · have := mt (rank_iff h r h2).1 (by omega); simp; omega
      · have : i = rank xs r := by omega
        subst this; simp; omega
    · have := mt (rank_iff h r h2).1 (by omega); simp; omega

theorem row_take {W : World} {p : Option Addr} {xs : List En} (h : Row W p xs) (k : Nat) : Row W p (xs.take k) := fun i hi => by
  rw [List.length_take] at hi
  rw [atL_take _ _ _ (by omega)]
  exact h i (by omega)
theorem row_drop {W : World} {a : Addr} {xs : List En} (h : Row W (some a) xs) (m : Nat) : Row W (some (a.add (m * 2))) (xs.drop m) := fun i hi => by
  rw [List.length_drop] at hi
  obtain ⟨b, o, e, h1, h2⟩ := h (m + i) (by omega)
  cases e
  rw [atL_drop]
  refine ⟨b, o + m * 2, by rw [Addr.add_lit], ?_, ?_⟩
  · rw [show o + m * 2 + i * 2 = o + (m + i) * 2 by omega]; exact h1
  · rw [show o + m * 2 + i * 2 + 1 = o + (m + i) * 2 + 1 by omega]; exact h2
theorem row_end {W : World} {a : Addr} {xs : List En} {m : Nat} (h : xs.length ≤ m) : Row W (some a) (xs.drop m) := fun i hi => by
  rw [List.length_drop] at hi; omega
theorem Holding.made {w w1 w2 : World} {n : Nat} (h : Below w.heap.size w w1) (ho : w2.ownsRow w.heap.size 74 2 (.slice (some ⟨w1.heap.size, 0, none⟩) 0 n) 0 []) (hg : w1.grownBy w2 none) : Holding w 74 (.slice (some ⟨w1.heap.size, 0, none⟩) 0 n) [] w2 :=
  ⟨ho, h.grown hg h.size (fun j hj => by cases hj)⟩

set_option maxHeartbeats 3200000 in
set_option maxRecDepth 100000 in
theorem with_some (xs : List En) (r s : Int) (a : Addr) (c : Nat) (w : World) (hR : Row w (some a) xs) (hs : Srt xs) (hl : xs.length ≤ 50000) (hc : xs.length ≤ c) :
    Calls Tryz.prog 43 #[.slice (some a) xs.length c, .int .u16 r, .int .u32 s] w (GaveK 74 w (withL xs r s)) := by
  have HF := Lib.hid (find_any xs r (some a) c w hR hs (by omega))
  have HE : Hid (withL xs r s = xs.take (rank xs r) ++ mid r s ++ xs.drop (cutAt xs r)) := by rw [withL, lo_take hs, hi_drop hs]; exact rfl
  have HR : Hid (Row w (some a) xs) := hR
  have hkl := rank_le xs r
  have hcl := cutAt_le xs r
  have HC : Hid (cutAt xs r = if hasL xs r then rank xs r + 1 else rank xs r) := rfl
  clear hR hs
  obtain ⟨i0, hi, hz0, hz1, hz2⟩ := info_parts info55
  generalize withL xs r s = Z at HE ⊢
  generalize cutAt xs r = m at HE hcl HC
  generalize rank xs r = k at HF HE hkl HC
  generalize hasL xs r = b at HF HC
  go_enter Tryz.func43, Tryz.ntmps43
  go_wp2_with fail
  refine HF.out.mono ?_
  rintro e w1 ⟨rfl, hb1⟩
  have HB1 := Lib.hid hb1
  clear hb1 HF
  go_wp2_with (at_make; refine wpList_make_own _ rfl _ _ 24 rfl w.heap.size 74 i0 (.agg #[.int .u16 0, .int .u32 0]) 2 Tryz.underlying24 hi hz0 hz1 _ _ _ (xs.length + 1) rfl rfl (by omega) (by rw [hz2]; omega) (by unfold maxLen; omega) HB1.out.size ?_)
  intro w2 hown0 hgrow0
  have HO2 : Hid (Holding w 74 (.slice (some ⟨w1.heap.size, 0, none⟩) 0 (xs.length + 1)) [] w2) := Holding.made HB1.out hown0 hgrow0
  clear hown0 hgrow0
  go_wp2_with (first
    | (at_builtin; refine wpList_append_own _ rfl (.tmp 20) (.tmp 23) 24 rfl w.heap.size 74 i0 (.agg #[.int .u16 0, .int .u32 0]) 2 8 Tryz.underlying24 hi hz0 hz1 hz2 rfl (by decide) _ 0 [] rfl (show w2.ownsRow w.heap.size 74 2 _ 0 [] from HO2.out.1) a k c (cellsL (xs.take k)) rfl (by rw [cellsL_length, List.length_take, Nat.min_eq_left hkl]) (cells_of_row ((row_take HR.out k).below HO2.out.2)) (cellsL_one _) (by unfold maxLen; omega) (by omega) (by exact HO2.out.2.size) ?_))
  intro v3 w3 hown hgrow _
  have HO3 : Hid (Holding w 74 v3 (xs.take k) w3) := by
    have hlen : (xs.take k).length = k := by rw [List.length_take, Nat.min_eq_left hkl]
    exact ⟨by rw [hlen]; simpa using hown, HO2.out.2.grown hgrow HO2.out.2.size (fun j hj => (HO2.out.1.lt j hj).1)⟩
  clear hown hgrow HO2
  obtain ⟨A, hA⟩ : ∃ A, A = xs.take k ++ mid r s := ⟨_, rfl⟩
  have HA : Hid (A = xs.take k ++ mid r s) := hA
  have hkt : (xs.take k).length = k := by rw [List.length_take, Nat.min_eq_left hkl]
  have HKT : Hid ((xs.take k).length = k) := hkt
  have hAl : A.length ≤ 50001 := by rw [hA, List.length_append, hkt, mid]; split <;> simp <;> omega
  rw [← hA] at HE
  clear hA hkt
  have hmk : m = k ∨ m = k + 1 := by rw [HC.out]; split <;> simp
  by_cases hs : 0 < s
  case' pos =>
    go_wp2_with (first
      | (at_builtin; refine wpList_append_own _ rfl (.tmp 27) (.tmp 31) 24 rfl w.heap.size 74 i0 (.agg #[.int .u16 0, .int .u32 0]) 2 8 Tryz.underlying24 hi hz0 hz1 hz2 rfl (by decide) _ k _ rfl (show (w3.alloc _).ownsRow w.heap.size 74 2 _ k (cellsL (xs.take k)) from by have := (HO3.out.alloc (.cells #[.int .u16 r, .int .u32 s] 74)).1; rw [HKT.out] at this; exact this) ⟨w3.heap.size, 0, none⟩ 1 1 [.int .u16 r, .int .u32 s] rfl rfl (cells_pair 74 (by simp) (by simp)) (pair_one r s) (by unfold maxLen; omega) (by omega) (by have := HO3.out.2.size; simp; omega) ?_))
    intro v4 w4 hown hgrow _
    have HO4 : Hid (Holding w 74 v4 A w4) := by
      rw [HA.out, mid, if_pos hs]
      exact (HO3.out.alloc _).onto (by rw [HKT.out]; exact hown) hgrow
    clear hown hgrow
  case' neg =>
    have HO4 : Hid (Holding w 74 v3 A w3) := by rw [HA.out, mid, if_neg hs, List.append_nil]; exact HO3.out
  all_goals
    clear HO3
    have hdl : (xs.drop m).length = xs.length - m := List.length_drop
    have HDL : Hid ((xs.drop m).length = xs.length - m) := hdl
    clear hdl
    have hb : b = true ∧ m = k + 1 ∨ b = false ∧ m = k := by
      have := HC.out
      cases b
      · exact Or.inr ⟨rfl, by simpa using this⟩
      · exact Or.inl ⟨rfl, by simpa using this⟩
    clear HC hmk
    rcases hb with ⟨hb, hm⟩ | ⟨hb, hm⟩
    · subst hb hm
      by_cases hmc : c = k + 1
      · have hxl : xs.length ≤ k + 1 := by omega
        go_wp2_with (first
          | (at_builtin; refine wpList_append_own _ rfl (.tmp 36) (.tmp 39) 24 rfl w.heap.size 74 i0 (.agg #[.int .u16 0, .int .u32 0]) 2 8 Tryz.underlying24 hi hz0 hz1 hz2 rfl (by decide) _ _ _ rfl HO4.out.1 a _ _ (cellsL (xs.drop (k + 1))) rfl (by rw [cellsL_length, HDL.out] <;> omega) (cells_of_row (row_end hxl)) (cellsL_one _) (by unfold maxLen; omega) (by omega) (by exact HO4.out.2.size) ?_))
        intro v5 w5 hown hgrow _
        have HO5 : Hid (Holding w 74 v5 Z w5) := by rw [HE.out]; exact HO4.out.cat (by rw [HDL.out]; first | exact hown | (rw [Nat.sub_eq_zero_of_le hxl]; exact hown)) hgrow
        clear hown hgrow
        obtain ⟨p', c', rfl, hr⟩ := HO5.out.gaveK
        have HR' := Lib.hid hr
        clear hr
        go_wp2
        go_ret
        exact ⟨p', c', rfl, HR'.out.1, HR'.out.2.1, HR'.out.2.2.1, HR'.out.2.2.2, HO5.out.2⟩
      · go_wp2_with (first
          | (at_builtin; refine wpList_append_own _ rfl (.tmp 36) (.tmp 39) 24 rfl w.heap.size 74 i0 (.agg #[.int .u16 0, .int .u32 0]) 2 8 Tryz.underlying24 hi hz0 hz1 hz2 rfl (by decide) _ _ _ rfl HO4.out.1 (a.add ((k + 1) * 2)) _ _ (cellsL (xs.drop (k + 1))) rfl (by rw [cellsL_length, HDL.out] <;> omega) (cells_of_row ((row_drop HR.out (k + 1)).below HO4.out.2)) (cellsL_one _) (by unfold maxLen; omega) (by omega) (by exact HO4.out.2.size) ?_))
        intro v5 w5 hown hgrow _
        have HO5 : Hid (Holding w 74 v5 Z w5) := by rw [HE.out]; exact HO4.out.cat (by rw [HDL.out]; first | exact hown | (rw [Nat.sub_eq_zero_of_le hxl]; exact hown)) hgrow
        clear hown hgrow
        obtain ⟨p', c', rfl, hr⟩ := HO5.out.gaveK
        have HR' := Lib.hid hr
        clear hr
        go_wp2
        go_ret
        exact ⟨p', c', rfl, HR'.out.1, HR'.out.2.1, HR'.out.2.2.1, HR'.out.2.2.2, HO5.out.2⟩
    · subst hb hm
      by_cases hmc : c = m
      · have hxl : xs.length ≤ m := by omega
        go_wp2_with (first
          | (at_builtin; refine wpList_append_own _ rfl (.tmp 36) (.tmp 39) 24 rfl w.heap.size 74 i0 (.agg #[.int .u16 0, .int .u32 0]) 2 8 Tryz.underlying24 hi hz0 hz1 hz2 rfl (by decide) _ _ _ rfl HO4.out.1 a _ _ (cellsL (xs.drop m)) rfl (by rw [cellsL_length, HDL.out] <;> omega) (cells_of_row (row_end hxl)) (cellsL_one _) (by unfold maxLen; omega) (by omega) (by exact HO4.out.2.size) ?_))
        intro v5 w5 hown hgrow _
        have HO5 : Hid (Holding w 74 v5 Z w5) := by rw [HE.out]; exact HO4.out.cat (by rw [HDL.out]; first | exact hown | (rw [Nat.sub_eq_zero_of_le hxl]; exact hown)) hgrow
        clear hown hgrow
        obtain ⟨p', c', rfl, hr⟩ := HO5.out.gaveK
        have HR' := Lib.hid hr
        clear hr
        go_wp2
        go_ret
        exact ⟨p', c', rfl, HR'.out.1, HR'.out.2.1, HR'.out.2.2.1, HR'.out.2.2.2, HO5.out.2⟩
      · go_wp2_with (first
          | (at_builtin; refine wpList_append_own _ rfl (.tmp 36) (.tmp 39) 24 rfl w.heap.size 74 i0 (.agg #[.int .u16 0, .int .u32 0]) 2 8 Tryz.underlying24 hi hz0 hz1 hz2 rfl (by decide) _ _ _ rfl HO4.out.1 (a.add (m * 2)) _ _ (cellsL (xs.drop m)) rfl (by rw [cellsL_length, HDL.out] <;> omega) (cells_of_row ((row_drop HR.out m).below HO4.out.2)) (cellsL_one _) (by unfold maxLen; omega) (by omega) (by exact HO4.out.2.size) ?_))
        intro v5 w5 hown hgrow _
        have HO5 : Hid (Holding w 74 v5 Z w5) := by rw [HE.out]; exact HO4.out.cat (by rw [HDL.out]; first | exact hown | (rw [Nat.sub_eq_zero_of_le hxl]; exact hown)) hgrow
        clear hown hgrow
        obtain ⟨p', c', rfl, hr⟩ := HO5.out.gaveK
        have HR' := Lib.hid hr
        clear hr
        go_wp2
        go_ret
        exact ⟨p', c', rfl, HR'.out.1, HR'.out.2.1, HR'.out.2.2.1, HR'.out.2.2.2, HO5.out.2⟩

set_option maxHeartbeats 1600000 in
set_option maxRecDepth 100000 in
theorem with_none (r s : Int) (w : World) :
    Calls Tryz.prog 43 #[.slice none 0 0, .int .u16 r, .int .u32 s] w (GaveK 74 w (mid r s)) := by
  have HF : Hid (Calls Tryz.prog 64 #[.slice none 0 0, .int .u16 r] w fun e w' => e = .returned (.tuple #[.int .i64 0, .bool false]) ∧ Below w.heap.size w w') := find_any [] r none 0 w (fun i hi => by simp at hi) (fun i j _ hj => by simp at hj) (by simp)
  obtain ⟨i0, hi, hz0, hz1, hz2⟩ := info_parts info55
  have hm : (mid r s).length ≤ 1 := by unfold mid; split <;> simp
  go_enter Tryz.func43, Tryz.ntmps43
  go_wp2_with fail
  refine HF.out.mono ?_
  rintro e w1 ⟨rfl, hb1⟩
  have HB1 := Lib.hid hb1
  clear hb1 HF
  go_wp2_with (at_make; refine wpList_make_own _ rfl _ _ 24 rfl w.heap.size 74 i0 (.agg #[.int .u16 0, .int .u32 0]) 2 Tryz.underlying24 hi hz0 hz1 _ _ _ 1 rfl rfl (by omega) (by rw [hz2]; omega) (by unfold maxLen; omega) HB1.out.size ?_)
  intro w2 hown0 hgrow0
  have HO2 : Hid (Holding w 74 (.slice (some ⟨w1.heap.size, 0, none⟩) 0 1) [] w2) := Holding.made HB1.out hown0 hgrow0
  clear hown0 hgrow0
  by_cases hs : 0 < s
  · go_wp2_with (first
      | (at_builtin; refine wpList_append_own_none rfl (.tmp 20) (.tmp 23) 24 rfl w.heap.size 74 i0 2 Tryz.underlying24 hi _ 0 [] rfl (show w2.ownsRow w.heap.size 74 2 _ 0 [] from HO2.out.1) rfl ?_)
      | (at_builtin; refine wpList_append_own _ rfl (.tmp 27) (.tmp 31) 24 rfl w.heap.size 74 i0 (.agg #[.int .u16 0, .int .u32 0]) 2 8 Tryz.underlying24 hi hz0 hz1 hz2 rfl (by decide) _ 0 [] rfl (show (w2.alloc _).ownsRow w.heap.size 74 2 _ 0 [] from (HO2.out.alloc _).1) ⟨w2.heap.size, 0, none⟩ 1 1 [.int .u16 r, .int .u32 s] rfl rfl (cells_pair 74 (by simp) (by simp)) (pair_one r s) (by unfold maxLen; omega) (by omega) (by have := HO2.out.2.size; simp; omega) ?_))
    intro v4 w4 hown hgrow _
    have HO4 : Hid (Holding w 74 v4 (mid r s) w4) := by
      rw [mid, if_pos hs]
      exact (HO2.out.alloc _).onto (xs := []) hown hgrow
    clear hown hgrow HO2
    go_wp2_with (first
      | (at_builtin; refine wpList_append_own_none rfl (.tmp 36) (.tmp 39) 24 rfl w.heap.size 74 i0 2 Tryz.underlying24 hi _ _ _ rfl HO4.out.1 rfl ?_))
    obtain ⟨p', c', rfl, hr⟩ := HO4.out.gaveK
    go_ret
    exact ⟨p', c', rfl, hr.1, hr.2.1, hr.2.2.1, hr.2.2.2, HO4.out.2⟩
  · go_wp2_with (first
      | (at_builtin; refine wpList_append_own_none rfl (.tmp 20) (.tmp 23) 24 rfl w.heap.size 74 i0 2 Tryz.underlying24 hi _ 0 [] rfl (show w2.ownsRow w.heap.size 74 2 _ 0 [] from HO2.out.1) rfl ?_)
      | (at_builtin; refine wpList_append_own_none rfl (.tmp 36) (.tmp 39) 24 rfl w.heap.size 74 i0 2 Tryz.underlying24 hi _ 0 [] rfl (show w2.ownsRow w.heap.size 74 2 _ 0 [] from HO2.out.1) rfl ?_))
    go_ret
    have e : mid r s = [] := by rw [mid, if_neg (by omega)]
    rw [e]
    exact ⟨_, _, rfl, fun i hi => by simp at hi, Nat.zero_le _, fun e => (by cases e), kind_owns HO2.out.1, HO2.out.2⟩

/-- With, at whatever slice. -/
theorem with_kind (xs : List En) (r s : Int) (p : Option Addr) (c : Nat) (w : World) (hR : Row w p xs) (hs : Srt xs) (hl : xs.length ≤ 50000) (hc : xs.length ≤ c) (hn : p = none → c = 0) :
    Calls Tryz.prog 43 #[.slice p xs.length c, .int .u16 r, .int .u32 s] w (GaveK 74 w (withL xs r s)) := by
  cases p with
  | some a => exact with_some xs r s a c w hR hs hl hc
  | none =>
    have e := row_none hR
    have e2 := hn rfl
    subst e e2
    have e3 : withL [] r s = mid r s := by simp [withL, lo, Vec.hi]
    rw [e3]
    exact with_none r s w
theorem with_any (xs : List En) (r s : Int) (p : Option Addr) (c : Nat) (w : World) (hR : Row w p xs) (hs : Srt xs) (hl : xs.length ≤ 50000) (hc : xs.length ≤ c) (hn : p = none → c = 0) :
    Calls Tryz.prog 43 #[.slice p xs.length c, .int .u16 r, .int .u32 s] w (Gave w (withL xs r s)) := (with_kind xs r s p c w hR hs hl hc hn).mono fun _ _ h => h.gave

end Go.Proofs.YtjkdcpalgfakhaaGreat.Vec
/-
  A buffer and a vector beside it, from call to call. No conditions beyond what each theorem states.
-/
namespace Go.Proofs.YtjkdcpalgfakhaaGreat
open Go.ChangeShapes Go.WideShapes Go.ChangeAt Go.RowKit Go.Lib
set_option linter.unusedVariables false
set_option linter.unusedSimpArgs false

theorem putL_step {l : List Em} {e : Em} (h : l.length < 64) : putL l e = putStep l e := by
  unfold putL putStep putOK
  cases hh : hasM l e with
  | true => simp
  | false =>
    have : decide (64 ≤ l.length) = false := decide_eq_false (by omega)
    rw [this]; simp
/-- A vector that was known, with one replica's work known further. -/
theorem Known.with {h : List Vec.En} {s : Option Addr} {f : Nat} (k : Known h s f) {r q : Int} {s' : Option Addr} {f' : Nat} (hr : 0 ≤ r ∧ r ≤ 65535) (hq : q ≤ 268435456) (hl : h.length < 40000) (hc : (Vec.withL h r q).length ≤ f') (hn : s' = none → f' = 0) : Known (Vec.withL h r q) s' f' :=
  ⟨hc, hn, fits_with k.fits hr (by omega), right_with k.right hq, by have := Vec.withL_le h r q; omega⟩
/-- The buffer at block K holds l; the vector h lies at s; all that there was at first is as it was. -/
def Hd (Buf : (Nat → Prop) → Nat → List Em → World → Prop) (w0 : World) (K : Nat) (l : List Em) (h : List Vec.En) (s : Option Addr) (w : World) : Prop := ∃ S, Buf S K l w ∧ Firm S w (fun W => Below w0.heap.size w0 W) ∧ Firm S w (fun W => Vec.Row W s h)
section
variable {Buf : (Nat → Prop) → Nat → List Em → World → Prop} (HS : BufSpec Buf) {w0 w w' : World} {K f : Nat} {l : List Em} {h : List Vec.En} {s : Option Addr}
theorem Hd.base (H : Hd Buf w0 K l h s w) : Below w0.heap.size w0 w := by
  obtain ⟨S, h1, h2, h3⟩ := H
  exact h2.now
theorem Hd.row (H : Hd Buf w0 K l h s w) : Vec.Row w s h := by
  obtain ⟨S, h1, h2, h3⟩ := H
  exact h3.now
theorem Hd.below (HS : BufSpec Buf) (H : Hd Buf w0 K l h s w) (hb : Below w.heap.size w w') : Hd Buf w0 K l h s w' := by
  obtain ⟨S, h1, h2, h3⟩ := H
  exact ⟨S, HS.below _ _ _ _ _ h1 hb, h2.below hb, h3.below hb⟩
theorem Hd.swap (HS : BufSpec Buf) (H : Hd Buf w0 K l h s w) {h' : List Vec.En} {s' : Option Addr} (hr : Vec.Row w s' h') (hk : KindAt 74 w s') : Hd Buf w0 K l h' s' w := by
  obtain ⟨S, h1, h2, h3⟩ := H
  exact ⟨S, h1, h2, Firm.vrow (HS.others _ _ _ _ h1) (Or.inr rfl) hr hk⟩
theorem Hd.len (HS : BufSpec Buf) (H : Hd Buf w0 K l h s w) : Calls Tryz.prog 40 #[.pointer (some ⟨K, 0, none⟩)] w fun r w' => r = .returned (.int .i64 (l.length : Int)) ∧ Below w.heap.size w w' := by
  obtain ⟨S, h1, h2, h3⟩ := H
  exact HS.len S K l w h1
theorem Hd.put (HS : BufSpec Buf) (H : Hd Buf w0 K l h s w) {x : EV} (hx : ArgE w0 x) : Calls Tryz.prog 9 #[.pointer (some ⟨K, 0, none⟩), ev x.e x.p x.c x.q x.d] w fun r w' => r = .returned (.tuple #[.bool (putOK l x.e), .int .i64 (putErr l x.e)]) ∧ Hd Buf w0 K (putL l x.e) h s w' := by
  obtain ⟨S, h1, h2, h3⟩ := H
  refine (HS.put S K l w x.e x.ys x.p x.c x.q x.d h1 (h2.mono fun W hb => hx.into.below hb) hx.small hx.ops hx.deps hx.fit).mono ?_
  rintro r w' ⟨e, S', h4, hst⟩
  exact ⟨e, S', h4, h2.step hst, h3.step hst⟩
theorem Hd.take (HS : BufSpec Buf) (H : Hd Buf w0 K l h s w) (hk : Known h s f) : Calls Tryz.prog 12 #[.pointer (some ⟨K, 0, none⟩), .slice s h.length f] w fun r w' => (∃ i, readyM l h = some i ∧ Taken l i r w' ∧ Hd Buf w0 K (withoutM l i) h s w') ∨ (readyM l h = none ∧ TookNone r ∧ Hd Buf w0 K l h s w') := by
  obtain ⟨S, h1, h2, h3⟩ := H
  refine (HS.take S K l w h s f h1 h3 hk).mono ?_
  rintro r w' ⟨S', hst, hh⟩
  rcases hh with ⟨i, h4, h5, h6⟩ | ⟨h4, h5, h6⟩
  · exact Or.inl ⟨i, h4, h5, S', h6, h2.step hst, h3.step hst⟩
  · exact Or.inr ⟨h4, h5, S', h6, h2.step hst, h3.step hst⟩
theorem Hd.drop (HS : BufSpec Buf) (H : Hd Buf w0 K l h s w) (hk : Known h s f) : Calls Tryz.prog 17 #[.pointer (some ⟨K, 0, none⟩), .slice s h.length f] w fun r w' => r = .returned (.int .i64 ((l.length : Int) - ((dropM l h).length : Int))) ∧ Hd Buf w0 K (dropM l h) h s w' := by
  obtain ⟨S, h1, h2, h3⟩ := H
  refine (HS.drop S K l w h s f h1 h3 hk).mono ?_
  rintro r w' ⟨e, S', h4, hst⟩
  exact ⟨e, S', h4, h2.step hst, h3.step hst⟩
theorem Hd.names (HS : BufSpec Buf) (H : Hd Buf w0 K l h s w) : Calls Tryz.prog 39 #[.pointer (some ⟨K, 0, none⟩)] w (Vec.Gave w (namesM l)) := by
  obtain ⟨S, h1, h2, h3⟩ := H
  exact HS.names S K l w h1
theorem Hd.wants (HS : BufSpec Buf) (H : Hd Buf w0 K l h s w) (hk : Known h s f) : Calls Tryz.prog 20 #[.pointer (some ⟨K, 0, none⟩), .slice s h.length f] w (Vec.Gave3 w (wantsM l h)) := by
  obtain ⟨S, h1, h2, h3⟩ := H
  refine (HS.wants S K l w h s f h1 h3.now hk).mono ?_
  rintro r w' ⟨p, c, e, hr, hb⟩
  exact ⟨p, c, e, hr.now, hb⟩
end
/-- A buffer that was made just now. -/
theorem Hd.zero {Buf : (Nat → Prop) → Nat → List Em → World → Prop} (HS : BufSpec Buf) {w0 w : World} {h : List Vec.En} {s : Option Addr} (hb : Below w0.heap.size w0 w) (hr : Vec.Row w0 s h) : Hd Buf w0 w.heap.size [] h s (w.alloc (.cells #[.slice none 0 0] 29)) := by
  obtain ⟨S, h1, h2⟩ := HS.zero w
  have hf : Firm S (w.alloc (.cells #[.slice none 0 0] 29)) (fun W => Below w0.heap.size w0 W) := Firm.base (below_alloc hb _) (fun k hk => Nat.le_trans hb.size (h2 k hk))
  exact ⟨S, h1, hf, hf.mono fun W hW => hr.below hW⟩
end Go.Proofs.YtjkdcpalgfakhaaGreat
/-
  What the document's Put, Without and Drop of layer 11 hand back. No conditions beyond what each theorem states.
-/
namespace Go.Proofs.YtjkdcpalgfakhaaGreat
open Go.ChangeShapes Go.WideShapes Go.ChangeAt Go.RowKit Go.Lib
set_option linter.unusedVariables false
set_option linter.unusedSimpArgs false

/-- What Drop leaves, with where it lies. -/
def dropX (xs : List EV) (h : List Vec.En) : List EV := xs.filter fun x => !pastE x.e h
theorem dropX_map (xs : List EV) (h : List Vec.En) : (dropX xs h).map (·.e) = dropM (xs.map (·.e)) h := by
  unfold dropX dropM
  rw [List.filter_map]
  rfl
def putX (xs : List EV) (x : EV) : List EV := xs.filter (fun y => aheadM y.e x.e) ++ [x] ++ xs.filter (fun y => aheadM x.e y.e)
theorem putX_map (xs : List EV) (x : EV) : (putX xs x).map (·.e) = putM (xs.map (·.e)) x.e := by
  unfold putX putM
  rw [List.map_append, List.map_append, List.filter_map, List.filter_map]
  rfl
def withoutX (xs : List EV) (i : Nat) : List EV := xs.take i ++ xs.drop (i + 1)
theorem withoutX_map (xs : List EV) (i : Nat) : (withoutX xs i).map (·.e) = (xs.map (·.e)).take i ++ (xs.map (·.e)).drop (i + 1) := by
  unfold withoutX
  rw [List.map_append, List.map_take, List.map_drop]
/-- Of the first k those that aren't at a place. -/
def woTo (xs : List EV) (i : Nat) : Nat → List EV
  | 0 => []
  | k + 1 => if k = i then woTo xs i k else woTo xs i k ++ [xs.getD k x0E]
theorem woTo_le (xs : List EV) (i : Nat) : ∀ k, (woTo xs i k).length ≤ k
  | 0 => by simp [woTo]
  | k + 1 => by have := woTo_le xs i k; rw [woTo]; split <;> simp <;> omega
theorem woTo_low (xs : List EV) (i : Nat) : ∀ k, k ≤ i → k ≤ xs.length → woTo xs i k = xs.take k
  | 0, _, _ => by simp [woTo]
  | k + 1, h, hl => by rw [woTo, if_neg (by omega), woTo_low xs i k (by omega) (by omega), take_getD x0E (by omega)]
theorem woTo_high (xs : List EV) (i : Nat) (hi : i < xs.length) : ∀ k, i + 1 + k ≤ xs.length → woTo xs i (i + 1 + k) = xs.take i ++ (xs.drop (i + 1)).take k
  | 0, _ => by rw [Nat.add_zero, woTo, if_pos rfl, woTo_low xs i i (Nat.le_refl _) (by omega)]; simp
  | k + 1, h => by
    have e : i + 1 + (k + 1) = (i + 1 + k) + 1 := by omega
    rw [e, woTo, if_neg (by omega), woTo_high xs i hi k (by omega), take_getD (xs := xs.drop (i + 1)) x0E (by rw [List.length_drop]; omega), List.append_assoc]
    congr 2
    simp [List.getD_eq_getElem?_getD, List.getElem?_drop]
theorem woTo_all (xs : List EV) (i : Nat) (hi : i < xs.length) : woTo xs i xs.length = withoutX xs i := by
  have := woTo_high xs i hi (xs.length - (i + 1)) (by omega)
  rw [show i + 1 + (xs.length - (i + 1)) = xs.length by omega] at this
  rw [this, show (xs.drop (i + 1)).take (xs.length - (i + 1)) = xs.drop (i + 1) from List.take_of_length_le (by rw [List.length_drop]; omega)]
  rfl
set_option maxHeartbeats 6400000 in
set_option maxRecDepth 20000 in
theorem refdrop_any (xs : List EV) (h : List Vec.En) (p : Option Addr) (c : Nat) (s : Option Addr) (f : Nat) (w : World) (hR : GRow layE w p xs) (hH : Vec.Row w s h) (hl : xs.length ≤ 1000000) (hhl : h.length ≤ 40000) :
    Calls Tryz.prog 16 #[.slice p xs.length c, .slice s h.length f] w (GaveE (dropX xs h) w) := by
  obtain ⟨i0, hi, hz0, hz1, hz2⟩ := info_parts infoE10
  have HR := Lib.hid hR
  have HPA : Hid (∀ k, k < xs.length → ∀ W, Below w.heap.size w W → Calls Tryz.prog 35 #[ev (xs.getD k x0E).e (xs.getD k x0E).p (xs.getD k x0E).c (xs.getD k x0E).q (xs.getD k x0E).d, .slice s h.length f] W fun r w' => r = .returned (.bool (pastE (xs.getD k x0E).e h)) ∧ Below W.heap.size W w') := fun k hk W hb => refpastE_any _ h _ _ s _ _ f W (hH.below hb) (by omega)
  have HFT : Hid (∀ k, k < xs.length → (xs.take (k + 1)).filter (fun x => !pastE x.e h) = (xs.take k).filter (fun x => !pastE x.e h) ++ (if (!pastE (xs.getD k x0E).e h) = true then [xs.getD k x0E] else [])) := fun k hk => filt_take x0E (fun x => !pastE x.e h) hk
  have HLE : Hid (∀ k, ((xs.take k).filter (fun x => !pastE x.e h)).length ≤ xs.length) := fun k => filt_len _ xs k
  have HDX : Hid (dropX xs h = (xs.take xs.length).filter (fun x => !pastE x.e h)) := by show _ = _; rw [List.take_length]; rfl
  clear hR hH
  generalize dropX xs h = DX at HDX ⊢
  go_enter Tryz.func16, Tryz.ntmps16
  go_wp2
  go_loopg [5, 6] xs.length (fun g v i wr => ∃ k : Nat, k ≤ xs.length ∧ xs.length - k ≤ g ∧ i = .int .i64 (k : Int) ∧ Hold layE w 48 v ((xs.take k).filter (fun x => !pastE x.e h)) wr)
  case atStart => exact ⟨0, Nat.zero_le _, by omega, rfl, Hold.nil _ _ _⟩
  case round =>
    obtain ⟨k, hk, hg, rfl, hO⟩ := hrel
    have HH := Lib.hid hO
    clear hO
    by_cases hlt : k < xs.length
    · have hkl : (k : Int) < (xs.length : Int) := by omega
      have HPK := Lib.hid (HPA.out k hlt wr HH.out.2)
      have HFK := Lib.hid (HFT.out k hlt)
      have hle := HLE.out k
      generalize hACC : (xs.take k).filter (fun x => !pastE x.e h) = ACC at HH HFK hle
      clear hACC
      obtain ⟨b, o, rfl, c0, c1, c2, c3, c4, c5⟩ := erow_at (HR.out.below HH.out.2) hlt
      unfold ev at HPK
      generalize hPV : pastE (xs.getD k x0E).e h = PV at HPK HFK
      clear hPV
      generalize hX1 : xs.getD k x0E = X1 at c0 c1 c2 c3 c4 c5 HPK HFK
      clear hX1
      obtain ⟨⟨xd, ⟨xr, xq, xc, xu, xo⟩⟩, xys, xp, xcc, xqq, xdd⟩ := X1
      simp only at c0 c1 c2 c3 c4 c5 HPK
      go_wp2_with fail
      refine HPK.out.mono ?_
      rintro r w1 ⟨rfl, hb1⟩
      have HH1 := Lib.hid (HH.out.below hb1)
      have c0 := cellU c0 hb1
      have c1 := cellU c1 hb1
      have c2 := cellU c2 hb1
      have c3 := cellU c3 hb1
      have c4 := cellU c4 hb1
      have c5 := cellU c5 hb1
      clear hb1 HPK HH
      cases PV with
      | true =>
        have HE2 : Hid ((xs.take (k + 1)).filter (fun x => !pastE x.e h) = ACC) := by show _ = _; rw [HFK.out]; simp
        go_wp2
        go_roundg (xs.length - (k + 1))
        case measure => omega
        case rel => exact ⟨k + 1, by omega, Nat.le_refl _, by go_num, by rw [HE2.out]; exact HH1.out⟩
      | false =>
        have HE2 : Hid ((xs.take (k + 1)).filter (fun x => !pastE x.e h) = ACC ++ [⟨⟨xd, ⟨xr, xq, xc, xu, xo⟩⟩, xys, xp, xcc, xqq, xdd⟩]) := by show _ = _; rw [HFK.out]; simp
        have HH2 := Lib.hid (HH1.out.alloc (.cells #[.slice xp xd.length xcc, .int .u16 xr, .int .u32 xq, .int .u64 xc, .int .i64 xu, .slice xqq xo.length xdd] 48))
        go_wp2_with (first
          | (at_builtin; refine wpList_append_own _ rfl (.tmp 20) (.tmp 25) 30 rfl w.heap.size 48 i0 (.agg #[.slice none 0 0, .int .u16 0, .int .u32 0, .int .u64 0, .int .i64 0, .slice none 0 0]) 6 72 Tryz.underlying30 hi hz0 hz1 hz2 rfl (by decide) _ ACC.length (layE.flat ACC) rfl (HH2.out).1 ⟨w1.heap.size, 0, none⟩ 1 1 [.slice xp xd.length xcc, .int .u16 xr, .int .u32 xq, .int .u64 xc, .int .i64 xu, .slice xqq xo.length xdd] rfl rfl (by have := @cells_new w1 [.slice xp xd.length xcc, .int .u16 xr, .int .u32 xq, .int .u64 xc, .int .i64 xu, .slice xqq xo.length xdd] 48; simpa using this) (by have := layE.one (⟨⟨xd, ⟨xr, xq, xc, xu, xo⟩⟩, xys, xp, xcc, xqq, xdd⟩ : EV); exact this) (by unfold maxLen; omega) (by omega) (by have := HH2.out.2.size; exact this) ?_))
        intro v' w7 hown hgrow _
        have HH7 := Lib.hid (HH2.out.onto (ys := [(⟨⟨xd, ⟨xr, xq, xc, xu, xo⟩⟩, xys, xp, xcc, xqq, xdd⟩ : EV)]) (by rw [layE.flat_one]; rfl) (by simp) hown hgrow)
        clear hown hgrow HH1 HH2 c0 c1 c2 c3 c4 c5
        go_wp2
        go_roundg (xs.length - (k + 1))
        case measure => omega
        case rel => exact ⟨k + 1, by omega, Nat.le_refl _, by go_num, by rw [HE2.out]; exact HH7.out⟩
    · have : k = xs.length := by omega
      subst this
      have hkl : ¬ (xs.length : Int) < (xs.length : Int) := by omega
      rw [← HDX.out] at HH
      obtain ⟨p', c', rfl, hG, -, -⟩ := HH.out.gave layE_pos
      have HG := Lib.hid hG
      have HK := Lib.hid (kind_owns HH.out.1)
      clear hG
      go_wp2
      go_ret
      exact ⟨p', c', rfl, HG.out, HK.out, HH.out.2⟩
set_option maxHeartbeats 6400000 in
set_option maxRecDepth 20000 in
theorem refwithout_any (xs : List EV) (i : Nat) (p : Option Addr) (c : Nat) (w : World) (hR : GRow layE w p xs) (hl : xs.length ≤ 1000000) (hiL : i < xs.length) :
    Calls Tryz.prog 15 #[.slice p xs.length c, .int .i64 (i : Int)] w (GaveE (withoutX xs i) w) := by
  obtain ⟨i0, hi, hz0, hz1, hz2⟩ := info_parts infoE10
  have HR := Lib.hid hR
  have HLE : Hid (∀ k, (woTo xs i k).length ≤ k) := woTo_le xs i
  have HDX : Hid (withoutX xs i = woTo xs i xs.length) := (woTo_all xs i hiL).symm
  have HST : Hid (∀ k, woTo xs i (k + 1) = if k = i then woTo xs i k else woTo xs i k ++ [xs.getD k x0E]) := fun k => rfl
  clear hR
  generalize withoutX xs i = DX at HDX ⊢
  go_enter Tryz.func15, Tryz.ntmps15
  go_wp2
  go_loopg [5, 6] xs.length (fun g v n wr => ∃ k : Nat, k ≤ xs.length ∧ xs.length - k ≤ g ∧ n = .int .i64 (k : Int) ∧ Hold layE w 48 v (woTo xs i k) wr)
  case atStart => exact ⟨0, Nat.zero_le _, by omega, rfl, Hold.nil _ _ _⟩
  case round =>
    obtain ⟨k, hk, hg, rfl, hO⟩ := hrel
    have HH := Lib.hid hO
    clear hO
    by_cases hlt : k < xs.length
    · have hkl : (k : Int) < (xs.length : Int) := by omega
      have HFK := Lib.hid (HST.out k)
      have hle := HLE.out k
      generalize hACC : woTo xs i k = ACC at HH HFK hle
      clear hACC
      by_cases hki : k = i
      · have t0 : (k : Int) = (i : Int) := by omega
        have t1 : ((k : Int) == (i : Int)) = true := by simp [t0]
        have t2 : ((k : Int) != (i : Int)) = false := by rw [bne, t1]; rfl
        have HE2 : Hid (woTo xs i (k + 1) = ACC) := by show _ = _; rw [HFK.out, if_pos hki]
        clear hki t0
        go_wp2
        go_roundg (xs.length - (k + 1))
        case measure => omega
        case rel => exact ⟨k + 1, by omega, Nat.le_refl _, by go_num, by rw [HE2.out]; exact HH.out⟩
      · have t0 : ¬ (k : Int) = (i : Int) := by omega
        have t1 : ((k : Int) == (i : Int)) = false := beq_no t0
        have t2 : ((k : Int) != (i : Int)) = true := bne_int t0
        obtain ⟨b, o, rfl, c0, c1, c2, c3, c4, c5⟩ := erow_at (HR.out.below HH.out.2) hlt
        rw [if_neg hki] at HFK
        generalize hX1 : xs.getD k x0E = X1 at c0 c1 c2 c3 c4 c5 HFK
        clear hX1
        obtain ⟨⟨xd, ⟨xr, xq, xc, xu, xo⟩⟩, xys, xp, xcc, xqq, xdd⟩ := X1
        simp only at c0 c1 c2 c3 c4 c5
        have HH2 := Lib.hid (HH.out.alloc (.cells #[.slice xp xd.length xcc, .int .u16 xr, .int .u32 xq, .int .u64 xc, .int .i64 xu, .slice xqq xo.length xdd] 48))
        go_wp2_with (first
          | (at_builtin; refine wpList_append_own _ rfl (.tmp 16) (.tmp 21) 30 rfl w.heap.size 48 i0 (.agg #[.slice none 0 0, .int .u16 0, .int .u32 0, .int .u64 0, .int .i64 0, .slice none 0 0]) 6 72 Tryz.underlying30 hi hz0 hz1 hz2 rfl (by decide) _ ACC.length (layE.flat ACC) rfl (HH2.out).1 ⟨wr.heap.size, 0, none⟩ 1 1 [.slice xp xd.length xcc, .int .u16 xr, .int .u32 xq, .int .u64 xc, .int .i64 xu, .slice xqq xo.length xdd] rfl rfl (by have := @cells_new wr [.slice xp xd.length xcc, .int .u16 xr, .int .u32 xq, .int .u64 xc, .int .i64 xu, .slice xqq xo.length xdd] 48; simpa using this) (by have := layE.one (⟨⟨xd, ⟨xr, xq, xc, xu, xo⟩⟩, xys, xp, xcc, xqq, xdd⟩ : EV); exact this) (by unfold maxLen; omega) (by omega) (by have := HH2.out.2.size; exact this) ?_))
        intro v' w7 hown hgrow _
        have HH7 := Lib.hid (HH2.out.onto (ys := [(⟨⟨xd, ⟨xr, xq, xc, xu, xo⟩⟩, xys, xp, xcc, xqq, xdd⟩ : EV)]) (by rw [layE.flat_one]; rfl) (by simp) hown hgrow)
        clear hown hgrow HH HH2 c0 c1 c2 c3 c4 c5
        go_wp2
        go_roundg (xs.length - (k + 1))
        case measure => omega
        case rel => exact ⟨k + 1, by omega, Nat.le_refl _, by go_num, by rw [HFK.out]; exact HH7.out⟩
    · have : k = xs.length := by omega
      subst this
      have hkl : ¬ (xs.length : Int) < (xs.length : Int) := by omega
      rw [← HDX.out] at HH
      obtain ⟨p', c', rfl, hG, -, -⟩ := HH.out.gave layE_pos
      have HG := Lib.hid hG
      have HK := Lib.hid (kind_owns HH.out.1)
      clear hG
      go_wp2
      go_ret
      exact ⟨p', c', rfl, HG.out, HK.out, HH.out.2⟩
end Go.Proofs.YtjkdcpalgfakhaaGreat
