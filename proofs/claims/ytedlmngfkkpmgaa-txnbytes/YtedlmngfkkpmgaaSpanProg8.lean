
/-
  What the program's comparison of names, and its spans by rising first names, hand back. No conditions beyond what each theorem states.
-/
import Derived.Test.YtedlmngfkkpmgaaSpanProg1
import Derived.Test.YtedlmngfkkpmgaaSpanLaid
namespace Go.Proofs.Ytedlmngfkkpmgaa
open Go.ChangeShapes Go.WideShapes Go.ChangeAt Go.RowKit Go.Lib
open Go.Sort
set_option linter.unusedVariables false
set_option linter.unusedSimpArgs false

def cmp3 (a b : Int) : Int := if a < b then -1 else if b < a then 1 else 0
theorem cmp3_lt {a b : Int} (h : a < b) : cmp3 a b = -1 := by simp [cmp3, h]
theorem cmp3_gt {a b : Int} (h : b < a) : cmp3 a b = 1 := by unfold cmp3; rw [if_neg (by omega), if_pos h]
theorem cmp3_eq {a b : Int} (h1 : ¬ a < b) (h2 : ¬ b < a) : cmp3 a b = 0 := by simp [cmp3, h1, h2]

set_option maxHeartbeats 400000 in
theorem compare16 (a b : Int) (w : World) :
    Calls Try.prog 92 #[.int .u16 a, .int .u16 b] w fun e w' => e = .returned (.int .i64 (cmp3 a b)) ∧ w' = w := by
  by_cases h1 : a < b
  · rw [cmp3_lt h1]
    go_enter Try.func92, Try.ntmps92
    go_wp2
    go_ret
    exact ⟨rfl, rfl⟩
  · by_cases h2 : b < a
    · rw [cmp3_gt h2]
      go_enter Try.func92, Try.ntmps92
      go_wp2
      go_ret
      exact ⟨rfl, rfl⟩
    · rw [cmp3_eq h1 h2]
      go_enter Try.func92, Try.ntmps92
      go_wp2
      go_ret
      exact ⟨rfl, rfl⟩
set_option maxHeartbeats 400000 in
theorem compare32 (a b : Int) (w : World) :
    Calls Try.prog 93 #[.int .u32 a, .int .u32 b] w fun e w' => e = .returned (.int .i64 (cmp3 a b)) ∧ w' = w := by
  by_cases h1 : a < b
  · rw [cmp3_lt h1]
    go_enter Try.func93, Try.ntmps93
    go_wp2
    go_ret
    exact ⟨rfl, rfl⟩
  · by_cases h2 : b < a
    · rw [cmp3_gt h2]
      go_enter Try.func93, Try.ntmps93
      go_wp2
      go_ret
      exact ⟨rfl, rfl⟩
    · rw [cmp3_eq h1 h2]
      go_enter Try.func93, Try.ntmps93
      go_wp2
      go_ret
      exact ⟨rfl, rfl⟩

/-- The order of names. -/
def cmpN (x y : Nm) : Int := if cmp3 x.1 y.1 = 0 then cmp3 x.2 y.2 else cmp3 x.1 y.1
set_option maxHeartbeats 400000 in
theorem idcompare_any (x y : Nm) (w : World) :
    Calls Try.prog 89 #[nv x, nv y] w fun e w' => e = .returned (.int .i64 (cmpN x y)) ∧ ∃ q os', w' = grow (w.drewN q) os' := by
  obtain ⟨r, n⟩ := x
  obtain ⟨s, m⟩ := y
  unfold cmpN nv
  simp only
  by_cases h : cmp3 r s = 0
  · rw [if_pos h]
    have h' : (cmp3 r s == 0) = true := by simp [h]
    go_enter Try.func89, Try.ntmps89
    go_wp2_with (first | (go_at_call 92; refine (compare16 _ _ _).mono ?_; rintro e w' ⟨rfl, rfl⟩) | (go_at_call 93; refine (compare32 _ _ _).mono ?_; rintro e w' ⟨rfl, rfl⟩))
    go_ret
    exact ⟨rfl, 0, _, by rw [alloc_eq_grow, alloc_eq_grow, grow_grow]; rfl⟩
  · rw [if_neg h]
    have h' : (cmp3 r s == 0) = false := by simp [h]
    go_enter Try.func89, Try.ntmps89
    go_wp2_with (first | (go_at_call 92; refine (compare16 _ _ _).mono ?_; rintro e w' ⟨rfl, rfl⟩) | (go_at_call 93; refine (compare32 _ _ _).mono ?_; rintro e w' ⟨rfl, rfl⟩))
    go_ret
    exact ⟨rfl, 0, _, by rw [alloc_eq_grow, alloc_eq_grow, grow_grow]; rfl⟩
def firstOf (s : Sp) : Nm := (s.1, s.2.1)
def cmpS (s t : Sp) : Int := cmpN (firstOf s) (firstOf t)
set_option maxHeartbeats 400000 in
theorem cmps_any (s t : Sp) (w : World) :
    Calls Try.prog 88 #[sv s, sv t] w fun e w' => e = .returned (.int .i64 (cmpS s t)) ∧ ∃ q os', w' = grow (w.drewN q) os' := by
  obtain ⟨r, n, l⟩ := s
  obtain ⟨q, m, k⟩ := t
  have H := Lib.hid (fun W => idcompare_any (r, n) (q, m) W)
  have HE : Hid (cmpS (r, n, l) (q, m, k) = cmpN (r, n) (q, m)) := rfl
  rw [HE.out]
  unfold nv at H
  unfold sv
  simp only at H ⊢
  generalize cmpN (r, n) (q, m) = z at H ⊢
  go_enter Try.func88, Try.ntmps88
  go_wp2_with (go_at_call 89; refine (H.out _).mono ?_; rintro e w' ⟨rfl, qq, os, rfl⟩)
  go_ret
  exact ⟨rfl, qq, _, by rw [alloc_eq_grow, alloc_eq_grow, grow_grow]; exact grow_grow (w.drewN qq) _ os⟩

theorem lt_cmpN (x y : Nm) : decide (cmpN x y < 0) = decide (x.1 < y.1 ∨ x.1 = y.1 ∧ x.2 < y.2) := by
  unfold cmpN
  apply decide_eq_decide.2
  by_cases h1 : x.1 < y.1
  · rw [cmp3_lt h1, if_neg (by omega)]; omega
  · by_cases h2 : y.1 < x.1
    · rw [cmp3_gt h2, if_neg (by omega)]; omega
    · rw [cmp3_eq h1 h2, if_pos rfl]
      by_cases h3 : x.2 < y.2
      · rw [cmp3_lt h3]; omega
      · by_cases h4 : y.2 < x.2
        · rw [cmp3_gt h4]; omega
        · rw [cmp3_eq h3 h4]; omega
theorem lt_cmpS (s t : Sp) : ltOf cmpS s t = decide (s.1 < t.1 ∨ s.1 = t.1 ∧ s.2.1 < t.2.1) := lt_cmpN (firstOf s) (firstOf t)
theorem swo_cmpS : SWO (ltOf cmpS) where
  irrefl x := by rw [lt_cmpS]; simp
  trans x y z h1 h2 := by rw [lt_cmpS] at *; simp at *; omega
  ntrans x y z h1 h2 := by rw [lt_cmpS] at *; simp at *; omega

theorem enc_at (x : Sp) {i : Nat} (h : i < 3) : (layS.enc x)[i]? = some (layS.enc x)[i]! := by
  match i, h with
  | 0, _ => rfl
  | 1, _ => rfl
  | 2, _ => rfl
theorem toArray_at (xs : List Sp) (i : Nat) : xs.toArray[i]! = xs.getD i s0 := by
  simp only [List.getD_eq_getElem?_getD, List.getElem!_toArray, List.getElem!_eq_getElem?_getD]
  rfl
theorem flat_get (xs : List Sp) {j : Nat} (h : j < xs.length * 3) : (layS.flat xs)[j]? = some ((layS.enc (xs.getD (j / 3) s0))[j % 3]!) := by
  have := layS.flat_at s0 xs (j / 3) (j % 3) (by omega) (Nat.mod_lt _ (by decide))
  rw [show j / 3 * layS.k + j % 3 = j by show j / 3 * 3 + j % 3 = j; omega] at this
  rw [this]; exact enc_at _ (Nat.mod_lt _ (by decide))
/-- A row of the call's own, as the sort takes it. -/
theorem holdsK_of_own {w : World} {B g cap : Nat} {xs : List Sp} (hx : 0 < xs.length) (h : w.ownsRow B 114 3 (.slice (some ⟨g, 0, none⟩) xs.length cap) xs.length (layS.flat xs)) : HoldsK layS.enc 3 w g 0 xs.toArray := by
  intro j hj
  rw [size_flatK, List.size_toArray] at hj
  obtain ⟨g', cap', e, _, hf⟩ := owns_head h hx
  cases e
  rw [get_flatK _ _ _ _ (by rw [List.size_toArray]; exact hj), toArray_at]
  refine ⟨?_, hf _⟩
  have := h.cells (g := g) rfl j _ (flat_get xs hj)
  rw [Addr.add_lit] at this
  exact this
theorem grow_of_holdsK {w : World} {g : Nat} {d : Array Sp} (h : HoldsK layS.enc 3 w g 0 d) : GRow layS w (some ⟨g, 0, none⟩) d.toList := by
  intro m u hm
  have hlt := (List.getElem?_eq_some_iff.1 hm).1
  rw [layS.flat_length] at hlt
  have hlt' : m < d.toList.length * 3 := hlt
  rw [flat_get _ hlt'] at hm
  have := h m (by rw [size_flatK]; simpa using hlt')
  rw [get_flatK _ _ _ _ (by simpa using hlt')] at this
  refine ⟨g, 0, rfl, ?_⟩
  rw [show d[m / 3]! = d.toList.getD (m / 3) s0 by rw [← toArray_at]] at this
  cases hm
  exact this.1
theorem below_sortWorldK {B g o m : Nat} {w : World} {d : Array Sp} {os : Array Obj} (hB : B ≤ g) (hg : g < w.heap.size) : Below B w (sortWorldK layS.enc 3 w g o m d os) := by
  refine ⟨rfl, rfl, rfl, ?_, fun k hk => ?_⟩
  · simp [sortWorldK, putRowK, putRow, Sort.mapBlock, grow, Sort.ahead]
  · simp only [sortWorldK, putRowK, putRow, Sort.mapBlock, grow, Sort.ahead]
    rw [Array.getElem?_append_left (by simp; omega), Array.getElem?_modify, if_neg (by omega)]

/-- By rising first names. -/
def Rising (ys : List Sp) : Prop := ∀ i j, i < j → j < ys.length → ltOf cmpS (ys.getD j s0) (ys.getD i s0) = false
def Rose (xs : List Sp) (w : World) (e : Ending) (w' : World) : Prop := ∃ ys p c, e = .returned (.slice p ys.length c) ∧ ys.Perm xs ∧ Rising ys ∧ GRow layS w' p ys ∧ Below w.heap.size w w'

set_option maxHeartbeats 800000 in
theorem sort_any (B g cap : Nat) (xs : List Sp) (w : World) (hx : 0 < xs.length) (hl : xs.length ≤ 3000) (hO : w.ownsRow B 114 3 (.slice (some ⟨g, 0, none⟩) xs.length cap) xs.length (layS.flat xs)) :
    Calls Try.prog 87 #[.slice (some ⟨g, 0, none⟩) xs.length cap, .func (.func 88) #[] #[]] w fun e w' => e = .returned (.tuple #[]) ∧ ∃ ys, ys.Perm xs ∧ Rising ys ∧ GRow layS w' (some ⟨g, 0, none⟩) ys ∧ Below B w w' := by
  have hK := holdsK_of_own hx hO
  have hg := (hO.lt g rfl).2
  have hB := (hO.lt g rfl).1
  have eg : ∀ args w, (callFunc 88 args).run Try.prog w = .ok (.enter 88 args) w := enters_of Try.func88 (by kernel_rfl) rfl
  have hcmp : CmpLays Try.prog 88 #[] layS.enc 3 cmpS g 0 xs.toArray.size w := fun _ _ _ _ x y => cmps_any x y _
  have hcon := AnyQ.slices_SortFunc Try.laysSort 3 Try.isAgg114 Try.sizeOf114 layS.enc layS.len layS.one cmpS swo_cmpS 88 #[] g 0 cap xs.toArray w eg hcmp hK hg (by simp; omega)
  change Calls Try.prog 87 _ _ _ at hcon
  rw [List.size_toArray] at hcon
  refine hcon.mono ?_
  rintro e w' ⟨rfl, d', n, os, hp, hs, rfl⟩
  obtain ⟨hs1, hs2, hs3⟩ := hp
  have hsz : d'.size = xs.length := by simpa using hs1
  refine ⟨rfl, d'.toList, ?_, ?_, ?_, below_sortWorldK hB hg⟩
  · have e1 : d'.extract 0 xs.length = d' := by rw [← hsz]; simp
    have e2 : xs.toArray.extract 0 xs.length = xs.toArray := by simp
    rw [e1, e2] at hs3; simpa using hs3
  · intro i j hij hj
    have := hs i j (Nat.zero_le _) hij (by rw [← hsz]; simpa using hj)
    have e : ∀ i, d'[i]! = d'.toList.getD i s0 := fun i => by rw [← toArray_at]
    rwa [e, e] at this
  · exact grow_of_holdsK (holdsK_sortWorldK layS.enc 3 w g 0 n xs.toArray d' os hg hK (by simpa using hs1))

set_option maxHeartbeats 400000 in
theorem ins_none (p : Option Addr) (cap : Nat) (fv : Value) (w : World) :
    Calls Try.prog 94 #[.slice p 0 cap, .int .i64 0, .int .i64 0, fv] w fun e w' => e = .returned (.tuple #[]) ∧ w' = w := by
  go_enter Try.func94, Try.ntmps94
  go_wp2
  refine wp_loop_rounds 1 ?_
  rw [rounds_succ]
  go_wp2
  go_end0
  exact ⟨rfl, rfl⟩
set_option maxHeartbeats 800000 in
theorem pdq_none (p : Option Addr) (cap : Nat) (lim : Int) (fv : Value) (w : World) :
    Calls Try.prog 90 #[.slice p 0 cap, .int .i64 0, .int .i64 0, .int .i64 lim, fv] w fun e w' => e = .returned (.tuple #[]) ∧ w' = w := by
  go_enter Try.func90, Try.ntmps90
  go_wp2
  refine wp_loop_rounds 1 ?_
  rw [rounds_succ]
  go_wp2_with (go_at_call 94; refine (ins_none p cap fv _).mono ?_; rintro e w' ⟨rfl, rfl⟩)
  (try simp only [Exit.inBlock, Exit.then])
  refine bodyPost_ret (results_none rfl _ _ _) rfl ?_
  exact ⟨rfl, rfl⟩
set_option maxHeartbeats 400000 in
/-- The sort of no span. -/
theorem sort_none (p : Option Addr) (cap : Nat) (fv : Value) (w : World) :
    Calls Try.prog 87 #[.slice p 0 cap, fv] w fun e w' => e = .returned (.tuple #[]) ∧ w' = w := by
  have hlb : ∀ W, Calls Try.prog 91 #[.int .u64 0] W fun e w' => e = .returned (.int .i64 (Lib.bitLen 0 : Nat)) ∧ w' = W := fun W => Any.bits_Len (SlLaysF0.n15.bits (P := Try.prog) (ρ := Try.laysSort_ren) { Try.laysSort with }) 0 W (by omega) (by omega)
  go_enter Try.func87, Try.ntmps87
  go_wp2_with (first | (go_at_call 91; refine (hlb _).mono ?_; rintro e w' ⟨rfl, rfl⟩) | (go_at_call 90; refine (pdq_none _ _ _ _ _).mono ?_; rintro e w' ⟨rfl, rfl⟩))
  go_end0
  exact ⟨rfl, rfl⟩

set_option maxHeartbeats 800000 in
theorem clone_any (xs : List Sp) (p : Option Addr) (c : Nat) (w : World) (hR : GRow layS w p xs) (hl : xs.length ≤ 3000) :
    Calls Try.prog 86 #[.slice p xs.length c] w (Made layS 114 w xs) := by
  have q23 : ∀ (w : World) (a : Option Addr) (n c n' c' : Nat), (binOp .eql 67 (.slice a n c) (.slice none n' c')).run Try.prog w = .ok (.bool a.isNone) w := fun w a n c n' c' => Lib.run_eql_slice_nil w _ _ a n c n' c' Try.underlying67
  cases p with
  | none =>
    have e := hR.none_nil layS_pos rfl
    subst e
    clear hR
    go_enter Try.func86, Try.ntmps86
    go_wp2
    go_ret
    exact ⟨_, rfl, Hold.nil _ _ _⟩
  | some a =>
    obtain ⟨i0, hi, hz0, hz1, hz2⟩ := info_parts infoSp
    have HC : Hid (∀ j u, (layS.flat xs)[j]? = some u → w.cell? (a.add j) = some u) := hR.news
    clear hR
    go_enter Try.func86, Try.ntmps86
    go_wp2_with (first
      | (at_builtin; refine wpList_append_own _ rfl (.tmp 5) (.tmp 6) 67 rfl w.heap.size 114 i0 (.agg #[.int .u16 0, .int .u32 0, .int .i64 0]) 3 16 Try.underlying67 hi hz0 hz1 hz2 rfl (by decide) _ _ _ rfl (World.ownsRow_made w #[] 0 (Nat.le_refl _) (Nat.zero_le _) (by simp)) a xs.length c (layS.flat xs) rfl (layS.flat_length xs) (fun j u hj => cellU (HC.out j u hj) (below_alloc (Below.refl _ _) _)) (layS.flat_one' xs) (by unfold maxLen; omega) (by omega) (by simp) ?_))
    intro v' w1 hown hgrow _
    have HO : Hid (Hold layS w 114 v' xs w1) := ⟨by show w1.ownsRow _ _ 3 _ _ _; simpa using hown, (below_alloc (Below.refl _ _) _).grown hgrow (by simp) (by intro k hk; simp [Value.ownBlock] at hk; omega)⟩
    clear hown hgrow
    go_wp2
    go_ret
    exact ⟨_, rfl, HO.out⟩
set_option maxHeartbeats 800000 in
theorem rising_any (xs : List Sp) (p : Option Addr) (c : Nat) (w : World) (hR : GRow layS w p xs) (hl : xs.length ≤ 3000) :
    Calls Try.prog 83 #[.slice p xs.length c] w (Rose xs w) := by
  have HC := Lib.hid (clone_any xs p c w hR hl)
  clear hR
  go_enter Try.func83, Try.ntmps83
  go_wp2_with fail
  refine HC.out.mono ?_
  rintro e w1 ⟨v1, rfl, hH⟩
  clear HC
  by_cases hx : 0 < xs.length
  · obtain ⟨g, cap, rfl, hgg, hfr⟩ := owns_head hH.1 hx
    have HS := Lib.hid (sort_any w.heap.size g cap xs w1 hx hl hH.1)
    have HB := Lib.hid hH.2
    clear hH hfr
    go_wp2_with fail
    refine HS.out.mono ?_
    rintro e w2 ⟨rfl, ys, hp, hr, hG, hB⟩
    have HE : Hid (Rose xs w (.returned (.slice (some ⟨g, 0, none⟩) xs.length cap)) w2) := ⟨ys, _, cap, by rw [hp.length_eq], hp, hr, hG, HB.out.trans hB⟩
    clear hp hr hG hB HS
    go_wp2
    go_ret
    exact HE.out
  · have h0 : xs = [] := List.eq_nil_of_length_eq_zero (by omega)
    subst h0
    obtain ⟨p1, c1, rfl, -, -, -⟩ := hH.gave layS_pos
    have HB := Lib.hid hH.2
    have HS := Lib.hid (fun fv => sort_none p1 c1 fv w1)
    clear hH hx
    simp only [List.length_nil]
    go_wp2_with fail
    refine (HS.out _).mono ?_
    rintro e w2 ⟨rfl, he⟩
    obtain rfl := Eq.symm he
    clear he HS
    go_wp2
    go_ret
    exact ⟨[], p1, c1, rfl, List.Perm.refl _, fun i j _ h => by simp at h, GRow.nil _ _ _, HB.out⟩
end Go.Proofs.Ytedlmngfkkpmgaa
