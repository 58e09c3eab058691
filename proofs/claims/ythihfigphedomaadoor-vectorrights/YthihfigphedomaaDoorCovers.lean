/-
  What Covers, Stands and Lacks hand back, for every two lists of entries by rising replicas that lie in memory. No conditions beyond what each theorem states.
-/
import Derived.Test.YthihfigphedomaaDoorFind
namespace Go.Proofs.YthihfigphedomaaDoor
open Go.ChangeShapes Go.WideShapes Go.ChangeAt Go.RowKit Go.Lib
open Go.Sort
set_option linter.unusedVariables false
set_option linter.unusedSimpArgs false

theorem coversL_true {xs ys : List En} (h : ∀ j, j < ys.length → ¬ getL xs (atL ys j).1 < (atL ys j).2) : coversL xs ys = true := decide_eq_true fun y hy => by
  obtain ⟨i, hi, rfl⟩ := mem_atL hy
  exact h i hi
theorem coversL_false {xs ys : List En} {k : Nat} (hk : k < ys.length) (h : getL xs (atL ys k).1 < (atL ys k).2) : coversL xs ys = false := decide_eq_false fun hh => hh _ (atL_mem hk) h

set_option maxHeartbeats 1600000 in
set_option maxRecDepth 100000 in
theorem covers_any (xs ys : List En) (p q : Option Addr) (c d : Nat) (w : World) (hR : Row w p xs) (hS : Row w q ys) (hs : Srt xs) (hl : xs.length ≤ 4000) (hm : ys.length ≤ 4000) :
    Calls Tryd.prog 23 #[.slice p xs.length c, .slice q ys.length d] w fun e w' => e = .returned (.bool (coversL xs ys)) ∧ Below w.heap.size w w' := by
  have HS : Hid (Row w q ys) := hS
  have HR : Hid (Row w p xs) := hR
  have HSrt : Hid (Srt xs) := hs
  clear hR hS hs
  go_enter Tryd.func23, Tryd.ntmps23
  go_wp2
  go_loopg [9] ys.length (fun n i wr => ∃ k : Nat, k ≤ ys.length ∧ ys.length - k ≤ n ∧ i = .int .i64 k ∧ Below w.heap.size w wr ∧ ∀ j, j < k → ¬ getL xs (atL ys j).1 < (atL ys j).2)
  case atStart => exact ⟨0, Nat.zero_le _, by omega, rfl, Below.refl _ _, fun j hj => by omega⟩
  case round =>
    obtain ⟨k, hk, hg, rfl, hb, hno⟩ := hrel
    have HB : Hid (Below w.heap.size w wr) := hb
    have HN : Hid (∀ j, j < k → ¬ getL xs (atL ys j).1 < (atL ys j).2) := hno
    clear hb hno
    by_cases hlt : k < ys.length
    · obtain ⟨b, o, rfl, c0', c1'⟩ := HS.out k hlt
      have c0 := cellU c0' HB.out
      have c1 := cellU c1' HB.out
      clear c0' c1'
      generalize hx : (atL ys k).1 = x at c0
      generalize hy : (atL ys k).2 = y at c1
      have B : Hid (atL ys k = (x, y)) := Prod.ext hx hy
      clear hx hy
      have g0 := cell_regrown (w := wr.alloc (.cells #[.int .u16 x, .int .u32 y] 55)) (a := ⟨wr.heap.size, 0, none⟩) (v := .int .u16 x) (by simp)
      have g1 := cell_regrown (w := wr.alloc (.cells #[.int .u16 x, .int .u32 y] 55)) (a := ⟨wr.heap.size, 1, none⟩) (v := .int .u32 y) (by simp)
      have HG : Hid (∀ dd os, Calls Tryd.prog 12 #[.slice p xs.length c, .int .u16 x] (grow (redrawn (wr.alloc (.cells #[.int .u16 x, .int .u32 y] 55)) dd) os) fun e w'' => e = .returned (.int .u32 (getL xs x)) ∧ ∃ pp : Regrown, w'' = grow (redrawn (wr.alloc (.cells #[.int .u16 x, .int .u32 y] 55)) pp.d) pp.os) :=
        fun dd os => Calls.regrown_of (get_any xs x p c _ (HR.out.below (below_step (below_alloc HB.out _) (below_regrown _ dd os))) HSrt.out hl)
      generalize hz : getL xs x = z at HG
      have HZ : Hid (getL xs x = z) := hz
      clear hz
      by_cases hlz : z < y
      · have hd : decide (z < y) = true := by simp [hlz]
        go_wp2_with fail
        refine wp_region_quiet_below (by kernel_rfl) (by kernel_rfl) ?_
        repeat (first | go_big_quiet_step ((go_at_call 12; exact HG.out _ _)) | quiet_step ((go_at_call 12; exact HG.out _ _)))
        refine wpQuiet_nil ?_
        intro w3 hw'
        have HB3 : Hid (Below w.heap.size w w3) := by obtain ⟨⟨dq, osq⟩, rfl⟩ := hw'; exact below_step (below_alloc HB.out _) (below_regrown _ _ _)
        clear hw' g0 g1 HG
        go_wp2
        go_ret
        exact ⟨ret_bool (coversL_false hlt (by rw [B.out]; simp only [HZ.out]; exact hlz)).symm, HB3.out⟩
      · have hd : decide (z < y) = false := by simp [hlz]
        go_wp2_with fail
        refine wp_region_quiet_below (by kernel_rfl) (by kernel_rfl) ?_
        repeat (first | go_big_quiet_step ((go_at_call 12; exact HG.out _ _)) | quiet_step ((go_at_call 12; exact HG.out _ _)))
        refine wpQuiet_nil ?_
        intro w3 hw'
        have HB3 : Hid (Below w.heap.size w w3) := by obtain ⟨⟨dq, osq⟩, rfl⟩ := hw'; exact below_step (below_alloc HB.out _) (below_regrown _ _ _)
        clear hw' g0 g1 HG
        go_wp2
        go_roundg (ys.length - (k + 1))
        case measure => omega
        case rel => exact ⟨k + 1, by omega, Nat.le_refl _, by go_num, HB3.out, fun j hj => by
          by_cases e : j = k
          · subst e; rw [B.out]; simp only [HZ.out]; omega
          · exact HN.out j (by omega)⟩
    · have : k = ys.length := by omega
      subst this
      go_wp2
      go_ret
      exact ⟨ret_bool (coversL_true (fun j hj => by have := HN.out j hj; omega)).symm, HB.out⟩

/-- How a vector stands to another one. -/
def standsL (a b : Bool) : Int := if a && b then 1 else if b then 2 else if a then 3 else 4

set_option maxHeartbeats 800000 in
theorem stands_any (xs ys : List En) (p q : Option Addr) (c d : Nat) (w : World) (hR : Row w p xs) (hS : Row w q ys) (hs : Srt xs) (ht : Srt ys) (hl : xs.length ≤ 4000) (hm : ys.length ≤ 4000) :
    Calls Tryd.prog 24 #[.slice p xs.length c, .slice q ys.length d] w fun e w' => e = .returned (.int .i64 (standsL (coversL xs ys) (coversL ys xs))) ∧ Below w.heap.size w w' := by
  have H1 : Hid (∀ W, Below w.heap.size w W → Calls Tryd.prog 23 #[.slice p xs.length c, .slice q ys.length d] W fun e w' => e = .returned (.bool (coversL xs ys)) ∧ Below W.heap.size W w') := fun W hW => covers_any xs ys p q c d W (hR.below hW) (hS.below hW) hs hl hm
  have H2 : Hid (∀ W, Below w.heap.size w W → Calls Tryd.prog 23 #[.slice q ys.length d, .slice p xs.length c] W fun e w' => e = .returned (.bool (coversL ys xs)) ∧ Below W.heap.size W w') := fun W hW => covers_any ys xs q p d c W (hS.below hW) (hR.below hW) ht hm hl
  clear hR hS hs ht
  generalize coversL xs ys = a at H1 ⊢
  generalize coversL ys xs = b at H2 ⊢
  cases a <;> cases b
  all_goals
    go_enter Tryd.func24, Tryd.ntmps24
    go_wp2_with fail
    refine (H1.out _ (Below.refl _ _)).mono ?_
    rintro e w1 ⟨rfl, hb1⟩
    have HB1 := Lib.hid hb1
    clear hb1
    go_wp2_with fail
    refine (H2.out _ HB1.out).mono ?_
    rintro e w2 ⟨rfl, hb2⟩
    have HB2 : Hid (Below w.heap.size w w2) := below_step HB1.out hb2
    clear hb2 HB1
    go_wp2_with fail
    go_ret
    exact ⟨rfl, HB2.out⟩

set_option maxHeartbeats 1600000 in
set_option maxRecDepth 100000 in
theorem lacks_any (xs ys : List En) (p q : Option Addr) (c d : Nat) (w : World) (hR : Row w p xs) (hS : Row w q ys) (hs : Srt xs) (hfx : Fits xs) (hfy : Fits ys) (hl : xs.length ≤ 4000) (hm : ys.length ≤ 4000) :
    Calls Tryd.prog 25 #[.slice p xs.length c, .slice q ys.length d] w (Gave3 w (lacksL xs ys)) := by
  have HS : Hid (Row w q ys) := hS
  have HR : Hid (Row w p xs) := hR
  have HSrt : Hid (Srt xs) := hs
  clear hR hS hs
  obtain ⟨i0, hi, hz0, hz1, hz2⟩ := info_parts info52
  go_enter Tryd.func25, Tryd.ntmps25
  go_wp2
  go_loopg [5, 11] ys.length (fun g s i wr => ∃ k : Nat, k ≤ ys.length ∧ ys.length - k ≤ g ∧ i = .int .i64 k ∧ Holding3 w 52 s (lacksL xs (ys.take k)) wr)
  case atStart => exact ⟨0, Nat.zero_le _, by omega, rfl, by simpa [lacksL] using Holding3.nil w 52⟩
  case round =>
    obtain ⟨k, hk, hg, rfl, hO⟩ := hrel
    have HO : Hid (Holding3 w 52 u5 (lacksL xs (ys.take k)) wr) := hO
    clear hO
    by_cases hlt : k < ys.length
    · obtain ⟨b, o, rfl, c0', c1'⟩ := HS.out k hlt
      have c0 := cellU c0' HO.out.2
      have c1 := cellU c1' HO.out.2
      obtain ⟨-, -, y0, y1⟩ := hfy.at hlt
      clear c0' c1'
      generalize hx : (atL ys k).1 = x at c0
      generalize hy : (atL ys k).2 = y at c1 y0 y1
      have B : Hid (atL ys k = (x, y)) := Prod.ext hx hy
      clear hx hy
      have HG : Hid (Calls Tryd.prog 12 #[.slice p xs.length c, .int .u16 x] (wr.alloc (.cells #[.int .u16 x, .int .u32 y] 55)) fun e w' => e = .returned (.int .u32 (getL xs x)) ∧ Below (wr.alloc (.cells #[.int .u16 x, .int .u32 y] 55)).heap.size (wr.alloc (.cells #[.int .u16 x, .int .u32 y] 55)) w') := get_any xs x p c _ (HR.out.below (below_alloc HO.out.2 _)) HSrt.out hl
      have z0 := getL_nonneg hfx x
      generalize hz : getL xs x = z at HG z0
      have HZ : Hid (getL xs x = z) := hz
      clear hz
      have hll := lacksL_le xs (ys.take k)
      rw [List.length_take] at hll
      have g0 : (wr.alloc (.cells #[.int .u16 x, .int .u32 y] 55)).cell? ⟨wr.heap.size, 0, none⟩ = some (.int .u16 x) := by simp
      have g1 : (wr.alloc (.cells #[.int .u16 x, .int .u32 y] 55)).cell? ⟨wr.heap.size, 1, none⟩ = some (.int .u32 y) := by simp
      have G : Hid ((wr.alloc (.cells #[.int .u16 x, .int .u32 y] 55)).cell? ⟨wr.heap.size, 0, none⟩ = some (.int .u16 x) ∧ (wr.alloc (.cells #[.int .u16 x, .int .u32 y] 55)).cell? ⟨wr.heap.size, 1, none⟩ = some (.int .u32 y)) := ⟨g0, g1⟩
      clear g0 g1
      go_wp2_with fail
      refine HG.out.mono ?_
      rintro e w1 ⟨rfl, hb1⟩
      have g0 := cellU G.out.1 hb1
      have g1 := cellU G.out.2 hb1
      have HO1 : Hid (Holding3 w 52 u5 (lacksL xs (ys.take k)) w1) := (HO.out.alloc _).below hb1
      clear HG G hb1 HO c0 c1
      by_cases hlz : z < y
      · have hwz : IntKind.u32.wrap (z + 1) = z + 1 := by rw [IntKind.wrap_u32]; omega
        go_wp2_with (first
          | (at_builtin; refine wpList_append_own _ rfl (.tmp 23) (.tmp 31) 46 rfl w.heap.size 52 i0 (.agg #[.int .u16 0, .int .u32 0, .int .u32 0]) 3 12 Tryd.underlying46 hi hz0 hz1 hz2 rfl (by decide) _ _ _ rfl (HO1.out.alloc _).1 ⟨w1.heap.size, 0, none⟩ 1 1 [.int .u16 x, .int .u32 (z + 1), .int .u32 y] rfl rfl (cells_three (by simp) (by simp) (by simp)) (three_one x (z + 1) y) (by unfold maxLen; omega) (by omega) (by have := HO1.out.2.size; simp; omega) ?_))
        intro v' w2 hown' hgrow _
        have HO2 : Hid (Holding3 w 52 v' (lacksL xs (ys.take (k + 1))) w2) := by
          rw [lacksL_step hlt, B.out, lackAt, if_pos (by simp only [HZ.out]; omega)]
          simp only [HZ.out]
          exact (HO1.out.alloc _).onto hown' hgrow
        clear hown' hgrow
        go_wp2
        go_roundg (ys.length - (k + 1))
        case measure => omega
        case rel => exact ⟨k + 1, by omega, Nat.le_refl _, by go_num, HO2.out⟩
      · go_wp2
        go_roundg (ys.length - (k + 1))
        case measure => omega
        case rel => exact ⟨k + 1, by omega, Nat.le_refl _, by go_num, by rw [lacksL_step hlt, B.out, lackAt, if_neg (by simp only [HZ.out]; omega), List.append_nil]; exact HO1.out⟩
    · have : k = ys.length := by omega
      subst this
      rw [List.take_length] at HO
      obtain ⟨p', c', rfl, hr⟩ := HO.out.gave
      have HR' : Hid (Row3 wr p' (lacksL xs ys)) := hr
      clear hr
      go_wp2
      go_ret
      exact ⟨p', c', rfl, HR'.out, HO.out.2⟩

end Go.Proofs.YthihfigphedomaaDoor
