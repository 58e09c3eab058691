/-
  Several texts of one proof, joined: each part says at its head what it proves. No conditions beyond what each theorem states.
-/
import Derived.Lib.QuietBelow
import Derived.Test.YtedlmngfkkpmgaaZ04
import Derived.Test.YtedlmngfkkpmgaaZ13
import Derived.Test.YtedlmngfkkpmgaaZ10
import Derived.Test.YtedlmngfkkpmgaaZ11
import Derived.Test.YtedlmngfkkpmgaaZ12
/-
  What the program's comparison of names, and its spans by rising first names, hand back. No conditions beyond what each theorem states.
-/
namespace Go.Proofs.Ytedlmngfkkpmgaa
open Go.ChangeShapes Go.WideShapes Go.ChangeAt Go.RowKit Go.Lib
open Go.Sort
set_option linter.unusedVariables false
set_option linter.unusedSimpArgs false

def cmp3 (a b : Int) : Int := if a < b then -1 else if b < a then 1 else 0
theorem cmp3_lt {a b : Int} (h : a < b) : cmp3 a b = -1 := by simp [cmp3, h]
theorem cmp3_gt {a b : Int} (h : b < a) : cmp3 a b = 1 := by unfold cmp3; rw [if_neg (by omega), if_pos h]
theorem cmp3_eq {a b : Int} (h1 : ¬ a < b) (h2 : ¬ b < a) : cmp3 a b = 0 := by simp [cmp3, h1, h2]

set_option maxHeartbeats 400000 in
theorem compare16 (a b : Int) (w : World) :
    Calls Try.prog 92 #[.int .u16 a, .int .u16 b] w fun e w' => e = .returned (.int .i64 (cmp3 a b)) ∧ w' = w := by
  by_cases h1 : a < b
  · rw [cmp3_lt h1]
    go_enter Try.func92, Try.ntmps92
    go_wp2
    go_ret
    exact ⟨rfl, rfl⟩
  · by_cases h2 : b < a
    · rw [cmp3_gt h2]
      go_enter Try.func92, Try.ntmps92
      go_wp2
      go_ret
      exact ⟨rfl, rfl⟩
    · rw [cmp3_eq h1 h2]
      go_enter Try.func92, Try.ntmps92
      go_wp2
      go_ret
      exact ⟨rfl, rfl⟩
set_option maxHeartbeats 400000 in
theorem compare32 (a b : Int) (w : World) :
    Calls Try.prog 93 #[.int .u32 a, .int .u32 b] w fun e w' => e = .returned (.int .i64 (cmp3 a b)) ∧ w' = w := by
  by_cases h1 : a < b
  · rw [cmp3_lt h1]
    go_enter Try.func93, Try.ntmps93
    go_wp2
    go_ret
    exact ⟨rfl, rfl⟩
  · by_cases h2 : b < a
    · rw [cmp3_gt h2]
      go_enter Try.func93, Try.ntmps93
      go_wp2
      go_ret
      exact ⟨rfl, rfl⟩
    · rw [cmp3_eq h1 h2]
      go_enter Try.func93, Try.ntmps93
      go_wp2
      go_ret
      exact ⟨rfl, rfl⟩

/-- The order of names. -/
def cmpN (x y : Nm) : Int := if cmp3 x.1 y.1 = 0 then cmp3 x.2 y.2 else cmp3 x.1 y.1
set_option maxHeartbeats 400000 in
theorem idcompare_any (x y : Nm) (w : World) :
    Calls Try.prog 89 #[nv x, nv y] w fun e w' => e = .returned (.int .i64 (cmpN x y)) ∧ ∃ q os', w' = grow (w.drewN q) os' := by
  obtain ⟨r, n⟩ := x
  obtain ⟨s, m⟩ := y
  unfold cmpN nv
  simp only
  by_cases h : cmp3 r s = 0
  · rw [if_pos h]
    have h' : (cmp3 r s == 0) = true := by simp [h]
    go_enter Try.func89, Try.ntmps89
    go_wp2_with (first | (go_at_call 92; refine (compare16 _ _ _).mono ?_; rintro e w' ⟨rfl, rfl⟩) | (go_at_call 93; refine (compare32 _ _ _).mono ?_; rintro e w' ⟨rfl, rfl⟩))
    go_ret
    exact ⟨rfl, 0, _, by rw [alloc_eq_grow, alloc_eq_grow, grow_grow]; rfl⟩
  · rw [if_neg h]
    have h' : (cmp3 r s == 0) = false := by simp [h]
    go_enter Try.func89, Try.ntmps89
    go_wp2_with (first | (go_at_call 92; refine (compare16 _ _ _).mono ?_; rintro e w' ⟨rfl, rfl⟩) | (go_at_call 93; refine (compare32 _ _ _).mono ?_; rintro e w' ⟨rfl, rfl⟩))
    go_ret
    exact ⟨rfl, 0, _, by rw [alloc_eq_grow, alloc_eq_grow, grow_grow]; rfl⟩
def firstOf (s : Sp) : Nm := (s.1, s.2.1)
def cmpS (s t : Sp) : Int := cmpN (firstOf s) (firstOf t)
set_option maxHeartbeats 400000 in
theorem cmps_any (s t : Sp) (w : World) :
    Calls Try.prog 88 #[sv s, sv t] w fun e w' => e = .returned (.int .i64 (cmpS s t)) ∧ ∃ q os', w' = grow (w.drewN q) os' := by
  obtain ⟨r, n, l⟩ := s
  obtain ⟨q, m, k⟩ := t
  have H := Lib.hid (fun W => idcompare_any (r, n) (q, m) W)
  have HE : Hid (cmpS (r, n, l) (q, m, k) = cmpN (r, n) (q, m)) := rfl
  rw [HE.out]
  unfold nv at H
  unfold sv
  simp only at H ⊢
  generalize cmpN (r, n) (q, m) = z at H ⊢
  go_enter Try.func88, Try.ntmps88
  go_wp2_with (go_at_call 89; refine (H.out _).mono ?_; rintro e w' ⟨rfl, qq, os, rfl⟩)
  go_ret
  exact ⟨rfl, qq, _, by rw [alloc_eq_grow, alloc_eq_grow, grow_grow]; exact grow_grow (w.drewN qq) _ os⟩

theorem lt_cmpN (x y : Nm) : decide (cmpN x y < 0) = decide (x.1 < y.1 ∨ x.1 = y.1 ∧ x.2 < y.2) := by
  unfold cmpN
  apply decide_eq_decide.2
  by_cases h1 : x.1 < y.1
  · rw [cmp3_lt h1, if_neg (by omega)]; omega
  · by_cases h2 : y.1 < x.1
    · rw [cmp3_gt h2, if_neg (by omega)]; omega
    · rw [cmp3_eq h1 h2, if_pos rfl]
      by_cases h3 : x.2 < y.2
      · rw [cmp3_lt h3]; omega
      · by_cases h4 : y.2 < x.2
        · rw [cmp3_gt h4]; omega
        · rw [cmp3_eq h3 h4]; omega
theorem lt_cmpS (s t : Sp) : ltOf cmpS s t = decide (s.1 < t.1 ∨ s.1 = t.1 ∧ s.2.1 < t.2.1) := lt_cmpN (firstOf s) (firstOf t)
theorem swo_cmpS : SWO (ltOf cmpS) where
  irrefl x := by rw [lt_cmpS]; simp
  trans x y z h1 h2 := by rw [lt_cmpS] at *; simp at *; omega
  ntrans x y z h1 h2 := by rw [lt_cmpS] at *; simp at *; omega

theorem enc_at (x : Sp) {i : Nat} (h : i < 3) : (layS.enc x)[i]? = some (layS.enc x)[i]! := by
  match i, h with
  | 0, _ => rfl
  | 1, _ => rfl
  | 2, _ => rfl
theorem toArray_at (xs : List Sp) (i : Nat) : xs.toArray[i]! = xs.getD i s0 := by
  simp only [List.getD_eq_getElem?_getD, List.getElem!_toArray, List.getElem!_eq_getElem?_getD]
  rfl
theorem flat_get (xs : List Sp) {j : Nat} (h : j < xs.length * 3) : (layS.flat xs)[j]? = some ((layS.enc (xs.getD (j / 3) s0))[j % 3]!) := by
  have := layS.flat_at s0 xs (j / 3) (j % 3) (by omega) (Nat.mod_lt _ (by decide))
  rw [show j / 3 * layS.k + j % 3 = j by show j / 3 * 3 + j % 3 = j; omega] at this
  rw [this]; exact enc_at _ (Nat.mod_lt _ (by decide))
/-- A row of the call's own, as the sort takes it. -/
theorem holdsK_of_own {w : World} {B g cap : Nat} {xs : List Sp} (hx : 0 < xs.length) (h : w.ownsRow B 114 3 (.slice (some ⟨g, 0, none⟩) xs.length cap) xs.length (layS.flat xs)) : HoldsK layS.enc 3 w g 0 xs.toArray := by
  intro j hj
  rw [size_flatK, List.size_toArray] at hj
  obtain ⟨g', cap', e, _, hf⟩ := owns_head h hx
  cases e
  rw [get_flatK _ _ _ _ (by rw [List.size_toArray]; exact hj), toArray_at]
  refine ⟨?_, hf _⟩
  have := h.cells (g := g) rfl j _ (flat_get xs hj)
  rw [Addr.add_lit] at this
  exact this
theorem grow_of_holdsK {w : World} {g : Nat} {d : Array Sp} (h : HoldsK layS.enc 3 w g 0 d) : GRow layS w (some ⟨g, 0, none⟩) d.toList := by
  intro m u hm
  have hlt := (List.getElem?_eq_some_iff.1 hm).1
  rw [layS.flat_length] at hlt
  have hlt' : m < d.toList.length * 3 := hlt
  rw [flat_get _ hlt'] at hm
  have := h m (by rw [size_flatK]; simpa using hlt')
  rw [get_flatK _ _ _ _ (by simpa using hlt')] at this
  refine ⟨g, 0, rfl, ?_⟩
  rw [show d[m / 3]! = d.toList.getD (m / 3) s0 by rw [← toArray_at]] at this
  cases hm
  exact this.1
theorem below_sortWorldK {B g o m : Nat} {w : World} {d : Array Sp} {os : Array Obj} (hB : B ≤ g) (hg : g < w.heap.size) : Below B w (sortWorldK layS.enc 3 w g o m d os) := by
  refine ⟨rfl, rfl, rfl, ?_, fun k hk => ?_⟩
  · simp [sortWorldK, putRowK, putRow, Sort.mapBlock, grow, Sort.ahead]
  · simp only [sortWorldK, putRowK, putRow, Sort.mapBlock, grow, Sort.ahead]
    rw [Array.getElem?_append_left (by simp; omega), Array.getElem?_modify, if_neg (by omega)]

/-- By rising first names. -/
def Rising (ys : List Sp) : Prop := ∀ i j, i < j → j < ys.length → ltOf cmpS (ys.getD j s0) (ys.getD i s0) = false
def Rose (xs : List Sp) (w : World) (e : Ending) (w' : World) : Prop := ∃ ys p c, e = .returned (.slice p ys.length c) ∧ ys.Perm xs ∧ Rising ys ∧ GRow layS w' p ys ∧ Below w.heap.size w w'

set_option maxHeartbeats 800000 in
theorem sort_any (B g cap : Nat) (xs : List Sp) (w : World) (hx : 0 < xs.length) (hl : xs.length ≤ 3000) (hO : w.ownsRow B 114 3 (.slice (some ⟨g, 0, none⟩) xs.length cap) xs.length (layS.flat xs)) :
    Calls Try.prog 87 #[.slice (some ⟨g, 0, none⟩) xs.length cap, .func (.func 88) #[] #[]] w fun e w' => e = .returned (.tuple #[]) ∧ ∃ ys, ys.Perm xs ∧ Rising ys ∧ GRow layS w' (some ⟨g, 0, none⟩) ys ∧ Below B w w' := by
  have hK := holdsK_of_own hx hO
  have hg := (hO.lt g rfl).2
  have hB := (hO.lt g rfl).1
  have eg : ∀ args w, (callFunc 88 args).run Try.prog w = .ok (.enter 88 args) w := enters_of Try.func88 (by kernel_rfl) rfl
  have hcmp : CmpLays Try.prog 88 #[] layS.enc 3 cmpS g 0 xs.toArray.size w := fun _ _ _ _ x y => cmps_any x y _
  have hcon := AnyQ.slices_SortFunc Try.laysSort 3 Try.isAgg114 Try.sizeOf114 layS.enc layS.len layS.one cmpS swo_cmpS 88 #[] g 0 cap xs.toArray w eg hcmp hK hg (by simp; omega)
  change Calls Try.prog 87 _ _ _ at hcon
  rw [List.size_toArray] at hcon
  refine hcon.mono ?_
  rintro e w' ⟨rfl, d', n, os, hp, hs, rfl⟩
  obtain ⟨hs1, hs2, hs3⟩ := hp
  have hsz : d'.size = xs.length := by simpa using hs1
  refine ⟨rfl, d'.toList, ?_, ?_, ?_, below_sortWorldK hB hg⟩
  · have e1 : d'.extract 0 xs.length = d' := by rw [← hsz]; simp
    have e2 : xs.toArray.extract 0 xs.length = xs.toArray := by simp
    rw [e1, e2] at hs3; simpa using hs3
  · intro i j hij hj
    have := hs i j (Nat.zero_le _) hij (by rw [← hsz]; simpa using hj)
    have e : ∀ i, d'[i]! = d'.toList.getD i s0 := fun i => by rw [← toArray_at]
    rwa [e, e] at this
  · exact grow_of_holdsK (holdsK_sortWorldK layS.enc 3 w g 0 n xs.toArray d' os hg hK (by simpa using hs1))

set_option maxHeartbeats 400000 in
theorem ins_none (p : Option Addr) (cap : Nat) (fv : Value) (w : World) :
    Calls Try.prog 94 #[.slice p 0 cap, .int .i64 0, .int .i64 0, fv] w fun e w' => e = .returned (.tuple #[]) ∧ w' = w := by
  go_enter Try.func94, Try.ntmps94
  go_wp2
  refine wp_loop_rounds 1 ?_
  rw [rounds_succ]
  go_wp2
  go_end0
  exact ⟨rfl, rfl⟩
set_option maxHeartbeats 800000 in
theorem pdq_none (p : Option Addr) (cap : Nat) (lim : Int) (fv : Value) (w : World) :
    Calls Try.prog 90 #[.slice p 0 cap, .int .i64 0, .int .i64 0, .int .i64 lim, fv] w fun e w' => e = .returned (.tuple #[]) ∧ w' = w := by
  go_enter Try.func90, Try.ntmps90
  go_wp2
  refine wp_loop_rounds 1 ?_
  rw [rounds_succ]
  go_wp2_with (go_at_call 94; refine (ins_none p cap fv _).mono ?_; rintro e w' ⟨rfl, rfl⟩)
  (try simp only [Exit.inBlock, Exit.then])
  refine bodyPost_ret (results_none rfl _ _ _) rfl ?_
  exact ⟨rfl, rfl⟩
set_option maxHeartbeats 400000 in
/-- The sort of no span. -/
theorem sort_none (p : Option Addr) (cap : Nat) (fv : Value) (w : World) :
    Calls Try.prog 87 #[.slice p 0 cap, fv] w fun e w' => e = .returned (.tuple #[]) ∧ w' = w := by
  have hlb : ∀ W, Calls Try.prog 91 #[.int .u64 0] W fun e w' => e = .returned (.int .i64 (Lib.bitLen 0 : Nat)) ∧ w' = W := fun W => Any.bits_Len (SlLaysF0.n15.bits (P := Try.prog) (ρ := Try.laysSort_ren) { Try.laysSort with }) 0 W (by omega) (by omega)
  go_enter Try.func87, Try.ntmps87
  go_wp2_with (first | (go_at_call 91; refine (hlb _).mono ?_; rintro e w' ⟨rfl, rfl⟩) | (go_at_call 90; refine (pdq_none _ _ _ _ _).mono ?_; rintro e w' ⟨rfl, rfl⟩))
  go_end0
  exact ⟨rfl, rfl⟩

set_option maxHeartbeats 800000 in
theorem clone_any (xs : List Sp) (p : Option Addr) (c : Nat) (w : World) (hR : GRow layS w p xs) (hl : xs.length ≤ 3000) :
    Calls Try.prog 86 #[.slice p xs.length c] w (Made layS 114 w xs) := by
  have q23 : ∀ (w : World) (a : Option Addr) (n c n' c' : Nat), (binOp .eql 67 (.slice a n c) (.slice none n' c')).run Try.prog w = .ok (.bool a.isNone) w := fun w a n c n' c' => Lib.run_eql_slice_nil w _ _ a n c n' c' Try.underlying67
  cases p with
  | none =>
    have e := hR.none_nil layS_pos rfl
    subst e
    clear hR
    go_enter Try.func86, Try.ntmps86
    go_wp2
    go_ret
    exact ⟨_, rfl, Hold.nil _ _ _⟩
  | some a =>
    obtain ⟨i0, hi, hz0, hz1, hz2⟩ := info_parts infoSp
    have HC : Hid (∀ j u, (layS.flat xs)[j]? = some u → w.cell? (a.add j) = some u) := hR.news
    clear hR
    go_enter Try.func86, Try.ntmps86
    go_wp2_with (first
      | (at_builtin; refine wpList_append_own _ rfl (.tmp 5) (.tmp 6) 67 rfl w.heap.size 114 i0 (.agg #[.int .u16 0, .int .u32 0, .int .i64 0]) 3 16 Try.underlying67 hi hz0 hz1 hz2 rfl (by decide) _ _ _ rfl (World.ownsRow_made w #[] 0 (Nat.le_refl _) (Nat.zero_le _) (by simp)) a xs.length c (layS.flat xs) rfl (layS.flat_length xs) (fun j u hj => cellU (HC.out j u hj) (below_alloc (Below.refl _ _) _)) (layS.flat_one' xs) (by unfold maxLen; omega) (by omega) (by simp) ?_))
    intro v' w1 hown hgrow _
    have HO : Hid (Hold layS w 114 v' xs w1) := ⟨by show w1.ownsRow _ _ 3 _ _ _; simpa using hown, (below_alloc (Below.refl _ _) _).grown hgrow (by simp) (by intro k hk; simp [Value.ownBlock] at hk; omega)⟩
    clear hown hgrow
    go_wp2
    go_ret
    exact ⟨_, rfl, HO.out⟩
set_option maxHeartbeats 800000 in
theorem rising_any (xs : List Sp) (p : Option Addr) (c : Nat) (w : World) (hR : GRow layS w p xs) (hl : xs.length ≤ 3000) :
    Calls Try.prog 83 #[.slice p xs.length c] w (Rose xs w) := by
  have HC := Lib.hid (clone_any xs p c w hR hl)
  clear hR
  go_enter Try.func83, Try.ntmps83
  go_wp2_with fail
  refine HC.out.mono ?_
  rintro e w1 ⟨v1, rfl, hH⟩
  clear HC
  by_cases hx : 0 < xs.length
  · obtain ⟨g, cap, rfl, hgg, hfr⟩ := owns_head hH.1 hx
    have HS := Lib.hid (sort_any w.heap.size g cap xs w1 hx hl hH.1)
    have HB := Lib.hid hH.2
    clear hH hfr
    go_wp2_with fail
    refine HS.out.mono ?_
    rintro e w2 ⟨rfl, ys, hp, hr, hG, hB⟩
    have HE : Hid (Rose xs w (.returned (.slice (some ⟨g, 0, none⟩) xs.length cap)) w2) := ⟨ys, _, cap, by rw [hp.length_eq], hp, hr, hG, HB.out.trans hB⟩
    clear hp hr hG hB HS
    go_wp2
    go_ret
    exact HE.out
  · have h0 : xs = [] := List.eq_nil_of_length_eq_zero (by omega)
    subst h0
    obtain ⟨p1, c1, rfl, -, -, -⟩ := hH.gave layS_pos
    have HB := Lib.hid hH.2
    have HS := Lib.hid (fun fv => sort_none p1 c1 fv w1)
    clear hH hx
    simp only [List.length_nil]
    go_wp2_with fail
    refine (HS.out _).mono ?_
    rintro e w2 ⟨rfl, he⟩
    obtain rfl := Eq.symm he
    clear he HS
    go_wp2
    go_ret
    exact ⟨[], p1, c1, rfl, List.Perm.refl _, fun i j _ h => by simp at h, GRow.nil _ _ _, HB.out⟩
end Go.Proofs.Ytedlmngfkkpmgaa
/-
  What the program's Apart and Fit of layer 7 hand back. No conditions beyond what each theorem states.
-/
namespace Go.Proofs.Ytedlmngfkkpmgaa
open Go.ChangeShapes Go.WideShapes Go.ChangeAt Go.RowKit Go.Lib
open Go.Sort
set_option linter.unusedVariables false
set_option linter.unusedSimpArgs false

/-- All of one's names come ahead of another's first. -/
def Ahead (a b : Sp) : Prop := a.1 < b.1 ∨ a.1 = b.1 ∧ a.2.1 + a.2.2 ≤ b.2.1
theorem Ahead.trans {a b c : Sp} (hb : 1 ≤ b.2.2) (h1 : Ahead a b) (h2 : Ahead b c) : Ahead a c := by unfold Ahead at *; omega
theorem Ahead.meets {a b : Sp} (h : Ahead a b) : meetS b a = false := by
  unfold Ahead at h
  unfold meetS
  exact decide_eq_false (by omega)
theorem ahead_next {a b : Sp} (ha : rightS a = true) (hr : ltOf cmpS b a = false) (hn : firstOf b ∉ idsS a) : Ahead a b := by
  rw [lt_cmpS] at hr
  have hr := of_decide_eq_false hr
  have ha := rightS_iff.1 ha
  rw [mem_idsS] at hn
  unfold firstOf at hn
  simp only at hn
  unfold Ahead
  omega
theorem ahead_all {ys : List Sp} (hr : RightS ys) (hs : Rising ys) (hn : ∀ j, j + 1 < ys.length → firstOf (ys.getD (j + 1) s0) ∉ idsS (ys.getD j s0)) : ∀ d i, i + d + 1 < ys.length → Ahead (ys.getD i s0) (ys.getD (i + d + 1) s0) := by
  intro d
  induction d with
  | zero => intro i hi; exact ahead_next (hr.at (by omega)) (hs i (i + 1) (by omega) hi) (hn i hi)
  | succ d ih =>
    intro i hi
    have h1 := ih i (by omega)
    have h2 := ahead_next (hr.at (i := i + d + 1) (by omega)) (hs (i + d + 1) (i + (d + 1) + 1) (by omega) hi) (hn (i + d + 1) hi)
    have h3 := rightS_iff.1 (hr.at (i := i + d + 1) (by omega))
    exact Ahead.trans h3.2.1 h1 h2
theorem apart_adj {ys : List Sp} (hr : RightS ys) (hs : Rising ys) (hn : ∀ j, j + 1 < ys.length → firstOf (ys.getD (j + 1) s0) ∉ idsS (ys.getD j s0)) : apartB ys = true := by
  apply apartB_iff.2
  intro i hi k hk
  have := ahead_all hr hs hn (i - k - 1) k (by omega)
  rw [show k + (i - k - 1) + 1 = i by omega] at this
  exact this.meets
theorem apart_not {ys : List Sp} (hr : RightS ys) {j : Nat} (hj : j + 1 < ys.length) (h : firstOf (ys.getD (j + 1) s0) ∈ idsS (ys.getD j s0)) : apartB ys = false :=
  apartB_no (i := j + 1) (k := j) hj (by omega) ((meet_iff (hr.at hj) (hr.at (by omega))).2 ⟨_, first_mem (rightS_iff.1 (hr.at hj)).2.1, h⟩)
theorem perm_right {xs ys : List Sp} (hp : ys.Perm xs) (h : RightS xs) : RightS ys := fun x hx => h x (hp.mem_iff.1 hx)
theorem perm_fit {xs ys : List Sp} (hp : ys.Perm xs) (h : FitSs xs) : FitSs ys := fun x hx => h x (hp.mem_iff.1 hx)
theorem perm_ids {xs ys : List Sp} (hp : ys.Perm xs) : (idsL ys).Perm (idsL xs) := hp.flatMap_right idsS
theorem perm_apart {xs ys : List Sp} (hp : ys.Perm xs) (h : RightS xs) : apartB ys = apartB xs := by
  have h1 := apart_nodup (perm_right hp h)
  have h2 := apart_nodup h
  have h3 := (perm_ids hp).nodup_iff
  rw [Bool.eq_iff_iff, h1, h2, h3]

set_option maxHeartbeats 3200000 in
set_option maxRecDepth 20000 in
theorem apart_spec : ApartSpec := by
  intro l p c w hR hr hf hl ht hc hp
  have H0 := Lib.hid (rising_any l p c w hR hl)
  have HRT := Lib.hid hr
  have HF := Lib.hid hf
  clear hR hr hf hp hc ht
  go_enter Try.func81, Try.ntmps81
  go_wp2_with fail
  refine H0.out.mono ?_
  rintro e w1 ⟨ys, p1, c1, rfl, hpm, hrs, hG, hb1⟩
  have HAP : Hid (apartB l = apartB ys) := (perm_apart hpm HRT.out).symm
  have HRY := Lib.hid (perm_right hpm HRT.out)
  have HFY := Lib.hid (perm_fit hpm HF.out)
  have HRS := Lib.hid hrs
  have HG := Lib.hid hG
  have HB1 := Lib.hid hb1
  have hyl : ys.length ≤ 3000 := by rw [hpm.length_eq]; exact hl
  clear hpm hrs hG hb1 H0 HRT HF hl
  go_wp2
  go_loopg [4] ys.length (fun g i wr => ∃ k : Nat, k ≤ ys.length ∧ ys.length - k ≤ g ∧ i = .int .i64 ((k : Int) + 1) ∧ (∀ j, j < k → j + 1 < ys.length → firstOf (ys.getD (j + 1) s0) ∉ idsS (ys.getD j s0)) ∧ Below w.heap.size w wr ∧ GRow layS wr p1 ys)
  case atStart => exact ⟨0, Nat.zero_le _, by omega, rfl, fun j hj => absurd hj (by omega), HB1.out, HG.out⟩
  case round =>
    clear HB1 HG
    obtain ⟨k, hk, hg, rfl, hN, hB, hG⟩ := hrel
    have HN := Lib.hid hN
    have HB := Lib.hid hB
    have HG := Lib.hid hG
    clear hN hB hG
    by_cases hlt : k + 1 < ys.length
    · have hlt' : (k : Int) + 1 < (ys.length : Int) := by omega
      obtain ⟨b, o, rfl, c0, c1, c2⟩ := srow_at HG.out (i := k) (by omega)
      obtain ⟨b', o', eb, d0, d1, d2⟩ := srow_at HG.out (i := k + 1) hlt
      cases eb
      have hin : (k : Int) + 1 - 1 = (k : Int) := by omega
      have hi0 : (0 : Int) ≤ (k : Int) := by omega
      have hi1 : (k : Int) < (ys.length : Int) := by omega
      have hi2 : (0 : Int) ≤ (k : Int) + 1 := by omega
      have HH := Lib.hid (fun W => has_any (ys.getD k s0) (firstOf (ys.getD (k + 1) s0)) W (HFY.out.at (by omega)) (by have := HFY.out.at hlt; unfold FitS at this; unfold FitN firstOf; simp only; omega))
      have HY : Hid (firstOf (ys.getD (k + 1) s0) ∈ idsS (ys.getD k s0) → apartB ys = false) := fun h => apart_not HRY.out hlt h
      have HNX : Hid (firstOf (ys.getD (k + 1) s0) ∉ idsS (ys.getD k s0) → ∀ j, j < k + 1 → j + 1 < ys.length → firstOf (ys.getD (j + 1) s0) ∉ idsS (ys.getD j s0)) := fun h j hj hj1 => by
        by_cases e : j = k
        · subst e; exact h
        · exact HN.out j (by omega) hj1
      generalize ys.getD k s0 = s at c0 c1 c2 HH HY HNX
      generalize ys.getD (k + 1) s0 = t at d0 d1 d2 HH HY HNX
      obtain ⟨r, n, m⟩ := s
      obtain ⟨r', n', m'⟩ := t
      unfold firstOf at HH HY HNX
      unfold sv nv at HH
      simp only at c0 c1 c2 d0 d1 d2 HH HY HNX
      have q0 := cell_regrown c0
      have q1 := cell_regrown c1
      have q2 := cell_regrown c2
      have q3 := cell_regrown d0
      have q4 := cell_regrown d1
      have q5 := cell_regrown d2
      clear c0 c1 c2 d0 d1 d2
      by_cases hm : (r', n') ∈ idsS (r, n, m)
      · rw [decide_eq_true hm] at HH
        have HE : Hid (apartB l = false) := by show _ = _; rw [HAP.out]; exact HY.out hm
        clear HY HNX hm HAP HRY HFY HRS
        go_wp2_with fail
        refine wp_region_quiet_below (by kernel_rfl) (by kernel_rfl) ?_
        repeat (go_big_quiet_step ((go_at_call 84; exact Calls.regrown_of (HH.out _))))
        refine wpQuiet_nil ?_
        intro _ hw'
        obtain ⟨⟨dq, osq⟩, hw''⟩ := hw'
        subst hw''
        have HBQ : Hid (Below w.heap.size w (Go.Sort.grow (redrawn wr dq) osq)) := below_step HB.out (below_regrown _ _ _)
        have HGQ : Hid (GRow layS (Go.Sort.grow (redrawn wr dq) osq) (some ⟨b, o, none⟩) ys) := HG.out.below (below_regrown _ _ _)
        clear q0 q1 q2 q3 q4 q5 HH HB HG
        generalize Go.Sort.grow (redrawn wr dq) osq = W at HBQ HGQ ⊢
        go_wp2
        go_ret
        exact ⟨by rw [HE.out]; rfl, HBQ.out⟩
      · rw [decide_eq_false hm] at HH
        have HN2 := Lib.hid (HNX.out hm)
        clear HY HNX hm HN
        go_wp2_with fail
        refine wp_region_quiet_below (by kernel_rfl) (by kernel_rfl) ?_
        repeat (go_big_quiet_step ((go_at_call 84; exact Calls.regrown_of (HH.out _))))
        refine wpQuiet_nil ?_
        intro _ hw'
        obtain ⟨⟨dq, osq⟩, hw''⟩ := hw'
        subst hw''
        have HBQ : Hid (Below w.heap.size w (Go.Sort.grow (redrawn wr dq) osq)) := below_step HB.out (below_regrown _ _ _)
        have HGQ : Hid (GRow layS (Go.Sort.grow (redrawn wr dq) osq) (some ⟨b, o, none⟩) ys) := HG.out.below (below_regrown _ _ _)
        clear q0 q1 q2 q3 q4 q5 HH HB HG
        generalize Go.Sort.grow (redrawn wr dq) osq = W at HBQ HGQ ⊢
        go_wp2
        go_roundg (ys.length - (k + 1))
        case measure => omega
        case rel => exact ⟨k + 1, by omega, Nat.le_refl _, by go_num, HN2.out, HBQ.out, HGQ.out⟩
    · have hlt' : ¬ (k : Int) + 1 < (ys.length : Int) := by omega
      have HE : Hid (apartB l = true) := by
        show _ = _
        rw [HAP.out]
        exact apart_adj HRY.out HRS.out (fun j hj => HN.out j (by omega) hj)
      clear HAP HRY HFY HRS HN HG
      go_wp2
      go_ret
      exact ⟨by rw [HE.out]; rfl, HB.out⟩
set_option maxHeartbeats 3200000 in
theorem fit_spec : FitSpec := by
  intro l p c w hR hf hl hc hp
  have HR := Lib.hid hR
  have HFT := Lib.hid hf
  clear hR hf
  have HFL : Hid (fitL l = if l.length = 0 then 11 else if l.length > 1024 then 13 else if fitA 0 l ≠ 0 then fitA 0 l else if apartB l = true then 0 else 16) := rfl
  go_enter Try.func76, Try.ntmps76
  by_cases h0 : l.length = 0
  · have HF : Hid (fitL l = 11) := by rw [HFL.out, if_pos h0]; rfl
    go_wp2
    go_ret
    exact ⟨by rw [HF.out]; rfl, Below.refl _ _⟩
  have h0' : ((l.length : Int) == 0) = false := by rw [beq_eq_false_iff_ne]; omega
  by_cases h1 : l.length > 1024
  · have HF : Hid (fitL l = 13) := by rw [HFL.out, if_neg h0, if_pos h1]; rfl
    have h1' : (1024 : Int) < (l.length : Int) := by omega
    go_wp2
    go_ret
    exact ⟨by rw [HF.out]; rfl, Below.refl _ _⟩
  have h1' : (l.length : Int) ≤ 1024 := by omega
  have HFL2 : Hid (fitL l = if fitA 0 l ≠ 0 then fitA 0 l else if apartB l = true then 0 else 16) := by rw [HFL.out, if_neg h0, if_neg h1]; rfl
  clear HFL h0
  go_wp2
  go_loopg [3, 14] l.length (fun g n i wr => ∃ (k : Nat) (N : Int), k ≤ l.length ∧ l.length - k ≤ g ∧ i = .int .i64 (k : Int) ∧ n = .int .i64 N ∧ 0 ≤ N ∧ N ≤ 1024 ∧ fitA 0 l = fitA N (l.drop k) ∧ N = (totalL (l.take k) : Int) ∧ RightS (l.take k) ∧ Below w.heap.size w wr)
  case atStart => exact ⟨0, 0, Nat.zero_le _, by omega, rfl, rfl, by omega, by omega, rfl, rfl, (by intro x hx; simp at hx), Below.refl _ _⟩
  case round =>
    obtain ⟨k, N, hk, hg, rfl, rfl, hN0, hN1, hfa, hto, hrt, hb⟩ := hrel
    have HB := Lib.hid hb
    have HFA := Lib.hid hfa
    have HRT := Lib.hid hrt
    have HTO := Lib.hid hto
    clear hb hfa hrt hto
    by_cases hlt : k < l.length
    · obtain ⟨b, o, rfl, c0', c1', c2'⟩ := srow_at HR.out hlt
      have c0 := cellU c0' HB.out
      have c1 := cellU c1' HB.out
      have c2 := cellU c2' HB.out
      have HST : Hid (fitA 0 l = fitA N (l.getD k s0 :: l.drop (k + 1))) := by rw [HFA.out, drop_getD s0 hlt]; rfl
      have HTK : Hid (rightS (l.getD k s0) = true → RightS (l.take (k + 1))) := fun h x hx => by
        rw [take_getD s0 hlt, List.mem_append] at hx
        rcases hx with hx | hx
        · exact HRT.out x hx
        · rw [List.mem_singleton] at hx; rw [hx]; exact h
      have hfs := HFT.out.at hlt
      have HC := fun W => right_spec (l.getD k s0) W hfs
      unfold sv at HC
      have hTK : totalL (l.take (k + 1)) = totalL (l.take k) + (l.getD k s0).2.2.toNat := totalL_take hlt
      generalize l.getD k s0 = s at HST HTK hfs HC c0' c1' c2' c0 c1 c2 hTK
      obtain ⟨r, n, m⟩ := s
      simp only at c0 c1 c2 HC hTK
      have HC := Lib.hid HC
      clear c0' c1' c2' HFA
      unfold FitS at hfs
      simp only at hfs
      cases hrs : rightS (r, n, m) with
      | false =>
        have HF : Hid (fitL l = 11) := by rw [HFL2.out, HST.out, fitA, if_pos hrs]; rfl
        rw [hrs] at HC
        go_wp2_with (first | (go_at_call 79; refine (HC.out _).mono ?_; rintro e w1 ⟨rfl, hb1⟩))
        go_ret
        exact ⟨by rw [HF.out]; rfl, below_step (below_alloc HB.out _) hb1⟩
      | true =>
        have hri := rightS_iff.1 hrs
        simp only at hri
        have HST2 : Hid (fitA 0 l = if N + m > 1024 then 15 else fitA (N + m) (l.drop (k + 1))) := by rw [HST.out, fitA, if_neg (by rw [hrs]; simp)]; rfl
        have HRT2 : Hid (RightS (l.take (k + 1))) := HTK.out hrs
        rw [hrs] at HC
        clear HTK hrs
        by_cases hbig : N + m > 1024
        · have HF : Hid (fitL l = 15) := by rw [HFL2.out, HST2.out, if_pos hbig]; rfl
          have hbig' : 1024 < N + m := hbig
          go_wp2_with (first | (go_at_call 79; refine (HC.out _).mono ?_; rintro e w1 ⟨rfl, hb1⟩; obtain ⟨x0, x1, d2⟩ := three_cells (kept_box (heap_alloc_new wr _) hb1); clear x0 x1))
          go_ret
          exact ⟨by rw [HF.out]; rfl, below_step (below_alloc HB.out _) hb1⟩
        · have hbig' : N + m ≤ 1024 := by omega
          have HF : Hid (fitA 0 l = fitA (N + m) (l.drop (k + 1))) := by rw [HST2.out, if_neg hbig]; rfl
          go_wp2_with (first | (go_at_call 79; refine (HC.out _).mono ?_; rintro e w1 ⟨rfl, hb1⟩; obtain ⟨x0, x1, d2⟩ := three_cells (kept_box (heap_alloc_new wr _) hb1); clear x0 x1))
          go_roundg (l.length - (k + 1))
          case measure => omega
          case rel => exact ⟨k + 1, N + m, by omega, Nat.le_refl _, by go_num, rfl, by omega, by omega, HF.out, by have := HTO.out; omega, HRT2.out, below_step (below_alloc HB.out _) hb1⟩
    · have : k = l.length := by omega
      subst this
      rw [List.take_length] at HRT
      have HFZ : Hid (fitA 0 l = 0) := by rw [HFA.out, List.drop_length]; rfl
      have HC := Lib.hid (apart_spec l p c wr (HR.out.below HB.out) HRT.out HFT.out (by omega) (by have hto := HTO.out; rw [List.take_length] at hto; omega) hc hp)
      cases hap : apartB l with
      | false =>
        have HF : Hid (fitL l = 16) := by rw [HFL2.out, HFZ.out, hap]; rfl
        rw [hap] at HC
        go_wp2_with (first | (go_at_call 81; refine HC.out.mono ?_; rintro e w1 ⟨rfl, hb1⟩))
        go_ret
        exact ⟨by rw [HF.out]; rfl, below_step HB.out hb1⟩
      | true =>
        have HF : Hid (fitL l = 0) := by rw [HFL2.out, HFZ.out, hap]; rfl
        rw [hap] at HC
        go_wp2_with (first | (go_at_call 81; refine HC.out.mono ?_; rintro e w1 ⟨rfl, hb1⟩))
        go_ret
        exact ⟨by rw [HF.out]; rfl, below_step HB.out hb1⟩

end Go.Proofs.Ytedlmngfkkpmgaa
/-
  What the program's Fit of layer 8 hands back, with layer 7's Fit. No conditions beyond what each theorem states.
-/
namespace Go.Proofs.Ytedlmngfkkpmgaa
theorem fitO_spec : FitOSpec := fitO_of fit_spec
end Go.Proofs.Ytedlmngfkkpmgaa
/-
  What txn's functions hand back and leave, each by its contract. No conditions beyond what each theorem states.
-/
namespace Go.Proofs.Ytedlmngfkkpmgaa
open Go.ChangeShapes Go.WideShapes Go.ChangeAt Go.RowKit Go.Lib

theorem fitT_spec : FitTSpec := fun t xs p c w H hs _ => fitT_of fitO_spec t xs p c w H hs
end Go.Proofs.Ytedlmngfkkpmgaa
