/-
  Several texts of one proof, joined: each part says at its head what it proves. No conditions beyond what each theorem states.
-/
import Derived.Lib.QuietBelow
import Derived.Shelf.SlSorted.Search
import Derived.Lib.Hide
import Derived.Test.YtceanfpcddcfoaaGreatZ04
import Derived.Test.YtceanfpcddcfoaaGreatZ18
import Derived.Test.YtceanfpcddcfoaaGreatZ16
import Derived.Test.YtceanfpcddcfoaaGreatZ17
import Derived.Test.YtceanfpcddcfoaaGreatZ08
import Derived.Test.YtceanfpcddcfoaaGreatProg
/-
  What the program's comparison of names, and its spans by rising first names, hand back. No conditions beyond what each theorem states.
-/
namespace Go.Proofs.YtceanfpcddcfoaaGreat
open Go.ChangeShapes Go.WideShapes Go.ChangeAt Go.RowKit Go.Lib
open Go.Sort
set_option linter.unusedVariables false
set_option linter.unusedSimpArgs false

def cmp3 (a b : Int) : Int := if a < b then -1 else if b < a then 1 else 0
theorem cmp3_lt {a b : Int} (h : a < b) : cmp3 a b = -1 := by simp [cmp3, h]
theorem cmp3_gt {a b : Int} (h : b < a) : cmp3 a b = 1 := by unfold cmp3; rw [if_neg (by omega), if_pos h]
theorem cmp3_eq {a b : Int} (h1 : ¬ a < b) (h2 : ¬ b < a) : cmp3 a b = 0 := by simp [cmp3, h1, h2]

set_option maxHeartbeats 400000 in
theorem compare16 (a b : Int) (w : World) :
    Calls Tryz.prog 135 #[.int .u16 a, .int .u16 b] w fun e w' => e = .returned (.int .i64 (cmp3 a b)) ∧ w' = w := by
  by_cases h1 : a < b
  · rw [cmp3_lt h1]
    go_enter Tryz.func135, Tryz.ntmps135
    go_wp2
    go_ret
    exact ⟨rfl, rfl⟩
  · by_cases h2 : b < a
    · rw [cmp3_gt h2]
      go_enter Tryz.func135, Tryz.ntmps135
      go_wp2
      go_ret
      exact ⟨rfl, rfl⟩
    · rw [cmp3_eq h1 h2]
      go_enter Tryz.func135, Tryz.ntmps135
      go_wp2
      go_ret
      exact ⟨rfl, rfl⟩
set_option maxHeartbeats 400000 in
theorem compare32 (a b : Int) (w : World) :
    Calls Tryz.prog 136 #[.int .u32 a, .int .u32 b] w fun e w' => e = .returned (.int .i64 (cmp3 a b)) ∧ w' = w := by
  by_cases h1 : a < b
  · rw [cmp3_lt h1]
    go_enter Tryz.func136, Tryz.ntmps136
    go_wp2
    go_ret
    exact ⟨rfl, rfl⟩
  · by_cases h2 : b < a
    · rw [cmp3_gt h2]
      go_enter Tryz.func136, Tryz.ntmps136
      go_wp2
      go_ret
      exact ⟨rfl, rfl⟩
    · rw [cmp3_eq h1 h2]
      go_enter Tryz.func136, Tryz.ntmps136
      go_wp2
      go_ret
      exact ⟨rfl, rfl⟩

/-- The order of names. -/
def cmpN (x y : Nm) : Int := if cmp3 x.1 y.1 = 0 then cmp3 x.2 y.2 else cmp3 x.1 y.1
set_option maxHeartbeats 400000 in
theorem idcompare_any (x y : Nm) (w : World) :
    Calls Tryz.prog 132 #[nv x, nv y] w fun e w' => e = .returned (.int .i64 (cmpN x y)) ∧ ∃ q os', w' = grow (w.drewN q) os' := by
  obtain ⟨r, n⟩ := x
  obtain ⟨s, m⟩ := y
  unfold cmpN nv
  simp only
  by_cases h : cmp3 r s = 0
  · rw [if_pos h]
    have h' : (cmp3 r s == 0) = true := by simp [h]
    go_enter Tryz.func132, Tryz.ntmps132
    go_wp2_with (first | (go_at_call 135; refine (compare16 _ _ _).mono ?_; rintro e w' ⟨rfl, rfl⟩) | (go_at_call 136; refine (compare32 _ _ _).mono ?_; rintro e w' ⟨rfl, rfl⟩))
    go_ret
    exact ⟨rfl, 0, _, by rw [alloc_eq_grow, alloc_eq_grow, grow_grow]; rfl⟩
  · rw [if_neg h]
    have h' : (cmp3 r s == 0) = false := by simp [h]
    go_enter Tryz.func132, Tryz.ntmps132
    go_wp2_with (first | (go_at_call 135; refine (compare16 _ _ _).mono ?_; rintro e w' ⟨rfl, rfl⟩) | (go_at_call 136; refine (compare32 _ _ _).mono ?_; rintro e w' ⟨rfl, rfl⟩))
    go_ret
    exact ⟨rfl, 0, _, by rw [alloc_eq_grow, alloc_eq_grow, grow_grow]; rfl⟩
def firstOf (s : Sp) : Nm := (s.1, s.2.1)
def cmpS (s t : Sp) : Int := cmpN (firstOf s) (firstOf t)
set_option maxHeartbeats 400000 in
theorem cmps_any (s t : Sp) (w : World) :
    Calls Tryz.prog 131 #[sv s, sv t] w fun e w' => e = .returned (.int .i64 (cmpS s t)) ∧ ∃ q os', w' = grow (w.drewN q) os' := by
  obtain ⟨r, n, l⟩ := s
  obtain ⟨q, m, k⟩ := t
  have H := Lib.hid (fun W => idcompare_any (r, n) (q, m) W)
  have HE : Hid (cmpS (r, n, l) (q, m, k) = cmpN (r, n) (q, m)) := rfl
  rw [HE.out]
  unfold nv at H
  unfold sv
  simp only at H ⊢
  generalize cmpN (r, n) (q, m) = z at H ⊢
  go_enter Tryz.func131, Tryz.ntmps131
  go_wp2_with (go_at_call 132; refine (H.out _).mono ?_; rintro e w' ⟨rfl, qq, os, rfl⟩)
  go_ret
  exact ⟨rfl, qq, _, by rw [alloc_eq_grow, alloc_eq_grow, grow_grow]; exact grow_grow (w.drewN qq) _ os⟩

theorem lt_cmpN (x y : Nm) : decide (cmpN x y < 0) = decide (x.1 < y.1 ∨ x.1 = y.1 ∧ x.2 < y.2) := by
  unfold cmpN
  apply decide_eq_decide.2
  by_cases h1 : x.1 < y.1
  · rw [cmp3_lt h1, if_neg (by omega)]; omega
  · by_cases h2 : y.1 < x.1
    · rw [cmp3_gt h2, if_neg (by omega)]; omega
    · rw [cmp3_eq h1 h2, if_pos rfl]
      by_cases h3 : x.2 < y.2
      · rw [cmp3_lt h3]; omega
      · by_cases h4 : y.2 < x.2
        · rw [cmp3_gt h4]; omega
        · rw [cmp3_eq h3 h4]; omega
theorem lt_cmpS (s t : Sp) : ltOf cmpS s t = decide (s.1 < t.1 ∨ s.1 = t.1 ∧ s.2.1 < t.2.1) := lt_cmpN (firstOf s) (firstOf t)
theorem swo_cmpS : SWO (ltOf cmpS) where
  irrefl x := by rw [lt_cmpS]; simp
  trans x y z h1 h2 := by rw [lt_cmpS] at *; simp at *; omega
  ntrans x y z h1 h2 := by rw [lt_cmpS] at *; simp at *; omega

theorem enc_at (x : Sp) {i : Nat} (h : i < 3) : (layS.enc x)[i]? = some (layS.enc x)[i]! := by
  match i, h with
  | 0, _ => rfl
  | 1, _ => rfl
  | 2, _ => rfl
theorem toArray_at (xs : List Sp) (i : Nat) : xs.toArray[i]! = xs.getD i s0 := by
  simp only [List.getD_eq_getElem?_getD, List.getElem!_toArray, List.getElem!_eq_getElem?_getD]
  rfl
theorem flat_get (xs : List Sp) {j : Nat} (h : j < xs.length * 3) : (layS.flat xs)[j]? = some ((layS.enc (xs.getD (j / 3) s0))[j % 3]!) := by
  have := layS.flat_at s0 xs (j / 3) (j % 3) (by omega) (Nat.mod_lt _ (by decide))
  rw [show j / 3 * layS.k + j % 3 = j by show j / 3 * 3 + j % 3 = j; omega] at this
  rw [this]; exact enc_at _ (Nat.mod_lt _ (by decide))
/-- A row of the call's own, as the sort takes it. -/
theorem holdsK_of_own {w : World} {B g cap : Nat} {xs : List Sp} (hx : 0 < xs.length) (h : w.ownsRow B 160 3 (.slice (some ⟨g, 0, none⟩) xs.length cap) xs.length (layS.flat xs)) : HoldsK layS.enc 3 w g 0 xs.toArray := by
  intro j hj
  rw [size_flatK, List.size_toArray] at hj
  obtain ⟨g', cap', e, _, hf⟩ := owns_head h hx
  cases e
  rw [get_flatK _ _ _ _ (by rw [List.size_toArray]; exact hj), toArray_at]
  refine ⟨?_, hf _⟩
  have := h.cells (g := g) rfl j _ (flat_get xs hj)
  rw [Addr.add_lit] at this
  exact this
theorem grow_of_holdsK {w : World} {g : Nat} {d : Array Sp} (h : HoldsK layS.enc 3 w g 0 d) : GRow layS w (some ⟨g, 0, none⟩) d.toList := by
  intro m u hm
  have hlt := (List.getElem?_eq_some_iff.1 hm).1
  rw [layS.flat_length] at hlt
  have hlt' : m < d.toList.length * 3 := hlt
  rw [flat_get _ hlt'] at hm
  have := h m (by rw [size_flatK]; simpa using hlt')
  rw [get_flatK _ _ _ _ (by simpa using hlt')] at this
  refine ⟨g, 0, rfl, ?_⟩
  rw [show d[m / 3]! = d.toList.getD (m / 3) s0 by rw [← toArray_at]] at this
  cases hm
  exact this.1
theorem below_sortWorldK {B g o m : Nat} {w : World} {d : Array Sp} {os : Array Obj} (hB : B ≤ g) (hg : g < w.heap.size) : Below B w (sortWorldK layS.enc 3 w g o m d os) := by
  refine ⟨rfl, rfl, rfl, ?_, fun k hk => ?_⟩
  · simp [sortWorldK, putRowK, putRow, Sort.mapBlock, grow, Sort.ahead]
  · simp only [sortWorldK, putRowK, putRow, Sort.mapBlock, grow, Sort.ahead]
    rw [Array.getElem?_append_left (by simp; omega), Array.getElem?_modify, if_neg (by omega)]

/-- By rising first names. -/
def Rising (ys : List Sp) : Prop := ∀ i j, i < j → j < ys.length → ltOf cmpS (ys.getD j s0) (ys.getD i s0) = false
def Rose (xs : List Sp) (w : World) (e : Ending) (w' : World) : Prop := ∃ ys p c, e = .returned (.slice p ys.length c) ∧ ys.Perm xs ∧ Rising ys ∧ GRow layS w' p ys ∧ Below w.heap.size w w'

set_option maxHeartbeats 800000 in
theorem sort_any (B g cap : Nat) (xs : List Sp) (w : World) (hx : 0 < xs.length) (hl : xs.length ≤ 3000) (hO : w.ownsRow B 160 3 (.slice (some ⟨g, 0, none⟩) xs.length cap) xs.length (layS.flat xs)) :
    Calls Tryz.prog 130 #[.slice (some ⟨g, 0, none⟩) xs.length cap, .func (.func 131) #[] #[]] w fun e w' => e = .returned (.tuple #[]) ∧ ∃ ys, ys.Perm xs ∧ Rising ys ∧ GRow layS w' (some ⟨g, 0, none⟩) ys ∧ Below B w w' := by
  have hK := holdsK_of_own hx hO
  have hg := (hO.lt g rfl).2
  have hB := (hO.lt g rfl).1
  have eg : ∀ args w, (callFunc 131 args).run Tryz.prog w = .ok (.enter 131 args) w := enters_of Tryz.func131 (by kernel_rfl) rfl
  have hcmp : CmpLays Tryz.prog 131 #[] layS.enc 3 cmpS g 0 xs.toArray.size w := fun _ _ _ _ x y => cmps_any x y _
  have hcon := AnyQ.slices_SortFunc Tryz.laysSort 3 Tryz.isAgg160 Tryz.sizeOf160 layS.enc layS.len layS.one cmpS swo_cmpS 131 #[] g 0 cap xs.toArray w eg hcmp hK hg (by simp; omega)
  change Calls Tryz.prog 130 _ _ _ at hcon
  rw [List.size_toArray] at hcon
  refine hcon.mono ?_
  rintro e w' ⟨rfl, d', n, os, hp, hs, rfl⟩
  obtain ⟨hs1, hs2, hs3⟩ := hp
  have hsz : d'.size = xs.length := by simpa using hs1
  refine ⟨rfl, d'.toList, ?_, ?_, ?_, below_sortWorldK hB hg⟩
  · have e1 : d'.extract 0 xs.length = d' := by rw [← hsz]; simp
    have e2 : xs.toArray.extract 0 xs.length = xs.toArray := by simp
    rw [e1, e2] at hs3; simpa using hs3
  · intro i j hij hj
    have := hs i j (Nat.zero_le _) hij (by rw [← hsz]; simpa using hj)
    have e : ∀ i, d'[i]! = d'.toList.getD i s0 := fun i => by rw [← toArray_at]
    rwa [e, e] at this
  · exact grow_of_holdsK (holdsK_sortWorldK layS.enc 3 w g 0 n xs.toArray d' os hg hK (by simpa using hs1))

set_option maxHeartbeats 400000 in
theorem ins_none (p : Option Addr) (cap : Nat) (fv : Value) (w : World) :
    Calls Tryz.prog 137 #[.slice p 0 cap, .int .i64 0, .int .i64 0, fv] w fun e w' => e = .returned (.tuple #[]) ∧ w' = w := by
  go_enter Tryz.func137, Tryz.ntmps137
  go_wp2
  refine wp_loop_rounds 1 ?_
  rw [rounds_succ]
  go_wp2
  go_end0
  exact ⟨rfl, rfl⟩
set_option maxHeartbeats 800000 in
theorem pdq_none (p : Option Addr) (cap : Nat) (lim : Int) (fv : Value) (w : World) :
    Calls Tryz.prog 133 #[.slice p 0 cap, .int .i64 0, .int .i64 0, .int .i64 lim, fv] w fun e w' => e = .returned (.tuple #[]) ∧ w' = w := by
  go_enter Tryz.func133, Tryz.ntmps133
  go_wp2
  refine wp_loop_rounds 1 ?_
  rw [rounds_succ]
  go_wp2_with (go_at_call 137; refine (ins_none p cap fv _).mono ?_; rintro e w' ⟨rfl, rfl⟩)
  (try simp only [Exit.inBlock, Exit.then])
  refine bodyPost_ret (results_none rfl _ _ _) rfl ?_
  exact ⟨rfl, rfl⟩
set_option maxHeartbeats 400000 in
/-- The sort of no span. -/
theorem sort_none (p : Option Addr) (cap : Nat) (fv : Value) (w : World) :
    Calls Tryz.prog 130 #[.slice p 0 cap, fv] w fun e w' => e = .returned (.tuple #[]) ∧ w' = w := by
  have hlb : ∀ W, Calls Tryz.prog 134 #[.int .u64 0] W fun e w' => e = .returned (.int .i64 (Lib.bitLen 0 : Nat)) ∧ w' = W := fun W => Any.bits_Len (SlLaysF0.n15.bits (P := Tryz.prog) (ρ := Tryz.laysSort_ren) { Tryz.laysSort with }) 0 W (by omega) (by omega)
  go_enter Tryz.func130, Tryz.ntmps130
  go_wp2_with (first | (go_at_call 134; refine (hlb _).mono ?_; rintro e w' ⟨rfl, rfl⟩) | (go_at_call 133; refine (pdq_none _ _ _ _ _).mono ?_; rintro e w' ⟨rfl, rfl⟩))
  go_end0
  exact ⟨rfl, rfl⟩

set_option maxHeartbeats 800000 in
theorem clone_any (xs : List Sp) (p : Option Addr) (c : Nat) (w : World) (hR : GRow layS w p xs) (hl : xs.length ≤ 3000) :
    Calls Tryz.prog 129 #[.slice p xs.length c] w (Made layS 160 w xs) := by
  have q23 : ∀ (w : World) (a : Option Addr) (n c n' c' : Nat), (binOp .eql 77 (.slice a n c) (.slice none n' c')).run Tryz.prog w = .ok (.bool a.isNone) w := fun w a n c n' c' => Lib.run_eql_slice_nil w _ _ a n c n' c' Tryz.underlying77
  cases p with
  | none =>
    have e := hR.none_nil layS_pos rfl
    subst e
    clear hR
    go_enter Tryz.func129, Tryz.ntmps129
    go_wp2
    go_ret
    exact ⟨_, rfl, Hold.nil _ _ _⟩
  | some a =>
    obtain ⟨i0, hi, hz0, hz1, hz2⟩ := info_parts infoSp
    have HC : Hid (∀ j u, (layS.flat xs)[j]? = some u → w.cell? (a.add j) = some u) := hR.news
    clear hR
    go_enter Tryz.func129, Tryz.ntmps129
    go_wp2_with (first
      | (at_builtin; refine wpList_append_own _ rfl (.tmp 5) (.tmp 6) 77 rfl w.heap.size 160 i0 (.agg #[.int .u16 0, .int .u32 0, .int .i64 0]) 3 16 Tryz.underlying77 hi hz0 hz1 hz2 rfl (by decide) _ _ _ rfl (World.ownsRow_made w #[] 0 (Nat.le_refl _) (Nat.zero_le _) (by simp)) a xs.length c (layS.flat xs) rfl (layS.flat_length xs) (fun j u hj => cellU (HC.out j u hj) (below_alloc (Below.refl _ _) _)) (layS.flat_one' xs) (by unfold maxLen; omega) (by omega) (by simp) ?_))
    intro v' w1 hown hgrow _
    have HO : Hid (Hold layS w 160 v' xs w1) := ⟨by show w1.ownsRow _ _ 3 _ _ _; simpa using hown, (below_alloc (Below.refl _ _) _).grown hgrow (by simp) (by intro k hk; simp [Value.ownBlock] at hk; omega)⟩
    clear hown hgrow
    go_wp2
    go_ret
    exact ⟨_, rfl, HO.out⟩
set_option maxHeartbeats 800000 in
theorem rising_any (xs : List Sp) (p : Option Addr) (c : Nat) (w : World) (hR : GRow layS w p xs) (hl : xs.length ≤ 3000) :
    Calls Tryz.prog 127 #[.slice p xs.length c] w (Rose xs w) := by
  have HC := Lib.hid (clone_any xs p c w hR hl)
  clear hR
  go_enter Tryz.func127, Tryz.ntmps127
  go_wp2_with fail
  refine HC.out.mono ?_
  rintro e w1 ⟨v1, rfl, hH⟩
  clear HC
  by_cases hx : 0 < xs.length
  · obtain ⟨g, cap, rfl, hgg, hfr⟩ := owns_head hH.1 hx
    have HS := Lib.hid (sort_any w.heap.size g cap xs w1 hx hl hH.1)
    have HB := Lib.hid hH.2
    clear hH hfr
    go_wp2_with fail
    refine HS.out.mono ?_
    rintro e w2 ⟨rfl, ys, hp, hr, hG, hB⟩
    have HE : Hid (Rose xs w (.returned (.slice (some ⟨g, 0, none⟩) xs.length cap)) w2) := ⟨ys, _, cap, by rw [hp.length_eq], hp, hr, hG, HB.out.trans hB⟩
    clear hp hr hG hB HS
    go_wp2
    go_ret
    exact HE.out
  · have h0 : xs = [] := List.eq_nil_of_length_eq_zero (by omega)
    subst h0
    obtain ⟨p1, c1, rfl, -, -, -⟩ := hH.gave layS_pos
    have HB := Lib.hid hH.2
    have HS := Lib.hid (fun fv => sort_none p1 c1 fv w1)
    clear hH hx
    simp only [List.length_nil]
    go_wp2_with fail
    refine (HS.out _).mono ?_
    rintro e w2 ⟨rfl, he⟩
    obtain rfl := Eq.symm he
    clear he HS
    go_wp2
    go_ret
    exact ⟨[], p1, c1, rfl, List.Perm.refl _, fun i j _ h => by simp at h, GRow.nil _ _ _, HB.out⟩
end Go.Proofs.YtceanfpcddcfoaaGreat
/-
  What the program's Apart and Fit of layer 7 hand back. No conditions beyond what each theorem states.
-/
namespace Go.Proofs.YtceanfpcddcfoaaGreat
open Go.ChangeShapes Go.WideShapes Go.ChangeAt Go.RowKit Go.Lib
open Go.Sort
set_option linter.unusedVariables false
set_option linter.unusedSimpArgs false

/-- All of one's names come ahead of another's first. -/
def Ahead (a b : Sp) : Prop := a.1 < b.1 ∨ a.1 = b.1 ∧ a.2.1 + a.2.2 ≤ b.2.1
theorem Ahead.trans {a b c : Sp} (hb : 1 ≤ b.2.2) (h1 : Ahead a b) (h2 : Ahead b c) : Ahead a c := by unfold Ahead at *; omega
theorem Ahead.meets {a b : Sp} (h : Ahead a b) : meetS b a = false := by
  unfold Ahead at h
  unfold meetS
  exact decide_eq_false (by omega)
theorem ahead_next {a b : Sp} (ha : rightS a = true) (hr : ltOf cmpS b a = false) (hn : firstOf b ∉ idsS a) : Ahead a b := by
  rw [lt_cmpS] at hr
  have hr := of_decide_eq_false hr
  have ha := rightS_iff.1 ha
  rw [mem_idsS] at hn
  unfold firstOf at hn
  simp only at hn
  unfold Ahead
  omega
theorem ahead_all {ys : List Sp} (hr : RightS ys) (hs : Rising ys) (hn : ∀ j, j + 1 < ys.length → firstOf (ys.getD (j + 1) s0) ∉ idsS (ys.getD j s0)) : ∀ d i, i + d + 1 < ys.length → Ahead (ys.getD i s0) (ys.getD (i + d + 1) s0) := by
  intro d
  induction d with
  | zero => intro i hi; exact ahead_next (hr.at (by omega)) (hs i (i + 1) (by omega) hi) (hn i hi)
  | succ d ih =>
    intro i hi
    have h1 := ih i (by omega)
    have h2 := ahead_next (hr.at (i := i + d + 1) (by omega)) (hs (i + d + 1) (i + (d + 1) + 1) (by omega) hi) (hn (i + d + 1) hi)
    have h3 := rightS_iff.1 (hr.at (i := i + d + 1) (by omega))
    exact Ahead.trans h3.2.1 h1 h2
theorem apart_adj {ys : List Sp} (hr : RightS ys) (hs : Rising ys) (hn : ∀ j, j + 1 < ys.length → firstOf (ys.getD (j + 1) s0) ∉ idsS (ys.getD j s0)) : apartB ys = true := by
  apply apartB_iff.2
  intro i hi k hk
  have := ahead_all hr hs hn (i - k - 1) k (by omega)
  rw [show k + (i - k - 1) + 1 = i by omega] at this
  exact this.meets
theorem apart_not {ys : List Sp} (hr : RightS ys) {j : Nat} (hj : j + 1 < ys.length) (h : firstOf (ys.getD (j + 1) s0) ∈ idsS (ys.getD j s0)) : apartB ys = false :=
  apartB_no (i := j + 1) (k := j) hj (by omega) ((meet_iff (hr.at hj) (hr.at (by omega))).2 ⟨_, first_mem (rightS_iff.1 (hr.at hj)).2.1, h⟩)
theorem perm_right {xs ys : List Sp} (hp : ys.Perm xs) (h : RightS xs) : RightS ys := fun x hx => h x (hp.mem_iff.1 hx)
theorem perm_fit {xs ys : List Sp} (hp : ys.Perm xs) (h : FitSs xs) : FitSs ys := fun x hx => h x (hp.mem_iff.1 hx)
theorem perm_ids {xs ys : List Sp} (hp : ys.Perm xs) : (idsL ys).Perm (idsL xs) := hp.flatMap_right idsS
theorem perm_apart {xs ys : List Sp} (hp : ys.Perm xs) (h : RightS xs) : apartB ys = apartB xs := by
  have h1 := apart_nodup (perm_right hp h)
  have h2 := apart_nodup h
  have h3 := (perm_ids hp).nodup_iff
  rw [Bool.eq_iff_iff, h1, h2, h3]

set_option maxHeartbeats 3200000 in
set_option maxRecDepth 20000 in
theorem apart_spec : ApartSpec := by
  intro l p c w hR hr hf hl ht hc hp
  have H0 := Lib.hid (rising_any l p c w hR hl)
  have HRT := Lib.hid hr
  have HF := Lib.hid hf
  clear hR hr hf hp hc ht
  go_enter Tryz.func125, Tryz.ntmps125
  go_wp2_with fail
  refine H0.out.mono ?_
  rintro e w1 ⟨ys, p1, c1, rfl, hpm, hrs, hG, hb1⟩
  have HAP : Hid (apartB l = apartB ys) := (perm_apart hpm HRT.out).symm
  have HRY := Lib.hid (perm_right hpm HRT.out)
  have HFY := Lib.hid (perm_fit hpm HF.out)
  have HRS := Lib.hid hrs
  have HG := Lib.hid hG
  have HB1 := Lib.hid hb1
  have hyl : ys.length ≤ 3000 := by rw [hpm.length_eq]; exact hl
  clear hpm hrs hG hb1 H0 HRT HF hl
  go_wp2
  go_loopg [4] ys.length (fun g i wr => ∃ k : Nat, k ≤ ys.length ∧ ys.length - k ≤ g ∧ i = .int .i64 ((k : Int) + 1) ∧ (∀ j, j < k → j + 1 < ys.length → firstOf (ys.getD (j + 1) s0) ∉ idsS (ys.getD j s0)) ∧ Below w.heap.size w wr ∧ GRow layS wr p1 ys)
  case atStart => exact ⟨0, Nat.zero_le _, by omega, rfl, fun j hj => absurd hj (by omega), HB1.out, HG.out⟩
  case round =>
    clear HB1 HG
    obtain ⟨k, hk, hg, rfl, hN, hB, hG⟩ := hrel
    have HN := Lib.hid hN
    have HB := Lib.hid hB
    have HG := Lib.hid hG
    clear hN hB hG
    by_cases hlt : k + 1 < ys.length
    · have hlt' : (k : Int) + 1 < (ys.length : Int) := by omega
      obtain ⟨b, o, rfl, c0, c1, c2⟩ := srow_at HG.out (i := k) (by omega)
      obtain ⟨b', o', eb, d0, d1, d2⟩ := srow_at HG.out (i := k + 1) hlt
      cases eb
      have hin : (k : Int) + 1 - 1 = (k : Int) := by omega
      have hi0 : (0 : Int) ≤ (k : Int) := by omega
      have hi1 : (k : Int) < (ys.length : Int) := by omega
      have hi2 : (0 : Int) ≤ (k : Int) + 1 := by omega
      have HH := Lib.hid (fun W => has_any (ys.getD k s0) (firstOf (ys.getD (k + 1) s0)) W (HFY.out.at (by omega)) (by have := HFY.out.at hlt; unfold FitS at this; unfold FitN firstOf; simp only; omega))
      have HY : Hid (firstOf (ys.getD (k + 1) s0) ∈ idsS (ys.getD k s0) → apartB ys = false) := fun h => apart_not HRY.out hlt h
      have HNX : Hid (firstOf (ys.getD (k + 1) s0) ∉ idsS (ys.getD k s0) → ∀ j, j < k + 1 → j + 1 < ys.length → firstOf (ys.getD (j + 1) s0) ∉ idsS (ys.getD j s0)) := fun h j hj hj1 => by
        by_cases e : j = k
        · subst e; exact h
        · exact HN.out j (by omega) hj1
      generalize ys.getD k s0 = s at c0 c1 c2 HH HY HNX
      generalize ys.getD (k + 1) s0 = t at d0 d1 d2 HH HY HNX
      obtain ⟨r, n, m⟩ := s
      obtain ⟨r', n', m'⟩ := t
      unfold firstOf at HH HY HNX
      unfold sv nv at HH
      simp only at c0 c1 c2 d0 d1 d2 HH HY HNX
      have q0 := cell_regrown c0
      have q1 := cell_regrown c1
      have q2 := cell_regrown c2
      have q3 := cell_regrown d0
      have q4 := cell_regrown d1
      have q5 := cell_regrown d2
      clear c0 c1 c2 d0 d1 d2
      by_cases hm : (r', n') ∈ idsS (r, n, m)
      · rw [decide_eq_true hm] at HH
        have HE : Hid (apartB l = false) := by show _ = _; rw [HAP.out]; exact HY.out hm
        clear HY HNX hm HAP HRY HFY HRS
        go_wp2_with fail
        refine wp_region_quiet_below (by kernel_rfl) (by kernel_rfl) ?_
        repeat (go_big_quiet_step ((go_at_call 128; exact Calls.regrown_of (HH.out _))))
        refine wpQuiet_nil ?_
        intro _ hw'
        obtain ⟨⟨dq, osq⟩, hw''⟩ := hw'
        subst hw''
        have HBQ : Hid (Below w.heap.size w (Go.Sort.grow (redrawn wr dq) osq)) := below_step HB.out (below_regrown _ _ _)
        have HGQ : Hid (GRow layS (Go.Sort.grow (redrawn wr dq) osq) (some ⟨b, o, none⟩) ys) := HG.out.below (below_regrown _ _ _)
        clear q0 q1 q2 q3 q4 q5 HH HB HG
        generalize Go.Sort.grow (redrawn wr dq) osq = W at HBQ HGQ ⊢
        go_wp2
        go_ret
        exact ⟨by rw [HE.out]; rfl, HBQ.out⟩
      · rw [decide_eq_false hm] at HH
        have HN2 := Lib.hid (HNX.out hm)
        clear HY HNX hm HN
        go_wp2_with fail
        refine wp_region_quiet_below (by kernel_rfl) (by kernel_rfl) ?_
        repeat (go_big_quiet_step ((go_at_call 128; exact Calls.regrown_of (HH.out _))))
        refine wpQuiet_nil ?_
        intro _ hw'
        obtain ⟨⟨dq, osq⟩, hw''⟩ := hw'
        subst hw''
        have HBQ : Hid (Below w.heap.size w (Go.Sort.grow (redrawn wr dq) osq)) := below_step HB.out (below_regrown _ _ _)
        have HGQ : Hid (GRow layS (Go.Sort.grow (redrawn wr dq) osq) (some ⟨b, o, none⟩) ys) := HG.out.below (below_regrown _ _ _)
        clear q0 q1 q2 q3 q4 q5 HH HB HG
        generalize Go.Sort.grow (redrawn wr dq) osq = W at HBQ HGQ ⊢
        go_wp2
        go_roundg (ys.length - (k + 1))
        case measure => omega
        case rel => exact ⟨k + 1, by omega, Nat.le_refl _, by go_num, HN2.out, HBQ.out, HGQ.out⟩
    · have hlt' : ¬ (k : Int) + 1 < (ys.length : Int) := by omega
      have HE : Hid (apartB l = true) := by
        show _ = _
        rw [HAP.out]
        exact apart_adj HRY.out HRS.out (fun j hj => HN.out j (by omega) hj)
      clear HAP HRY HFY HRS HN HG
      go_wp2
      go_ret
      exact ⟨by rw [HE.out]; rfl, HB.out⟩
set_option maxHeartbeats 3200000 in
theorem fit_spec : FitSpec := by
  intro l p c w hR hf hl hc hp
  have HR := Lib.hid hR
  have HFT := Lib.hid hf
  clear hR hf
  have HFL : Hid (fitL l = if l.length = 0 then 11 else if l.length > 1024 then 13 else if fitA 0 l ≠ 0 then fitA 0 l else if apartB l = true then 0 else 16) := rfl
  go_enter Tryz.func120, Tryz.ntmps120
  by_cases h0 : l.length = 0
  · have HF : Hid (fitL l = 11) := by rw [HFL.out, if_pos h0]; rfl
    go_wp2
    go_ret
    exact ⟨by rw [HF.out]; rfl, Below.refl _ _⟩
  have h0' : ((l.length : Int) == 0) = false := by rw [beq_eq_false_iff_ne]; omega
  by_cases h1 : l.length > 1024
  · have HF : Hid (fitL l = 13) := by rw [HFL.out, if_neg h0, if_pos h1]; rfl
    have h1' : (1024 : Int) < (l.length : Int) := by omega
    go_wp2
    go_ret
    exact ⟨by rw [HF.out]; rfl, Below.refl _ _⟩
  have h1' : (l.length : Int) ≤ 1024 := by omega
  have HFL2 : Hid (fitL l = if fitA 0 l ≠ 0 then fitA 0 l else if apartB l = true then 0 else 16) := by rw [HFL.out, if_neg h0, if_neg h1]; rfl
  clear HFL h0
  go_wp2
  go_loopg [3, 14] l.length (fun g n i wr => ∃ (k : Nat) (N : Int), k ≤ l.length ∧ l.length - k ≤ g ∧ i = .int .i64 (k : Int) ∧ n = .int .i64 N ∧ 0 ≤ N ∧ N ≤ 1024 ∧ fitA 0 l = fitA N (l.drop k) ∧ N = (totalL (l.take k) : Int) ∧ RightS (l.take k) ∧ Below w.heap.size w wr)
  case atStart => exact ⟨0, 0, Nat.zero_le _, by omega, rfl, rfl, by omega, by omega, rfl, rfl, (by intro x hx; simp at hx), Below.refl _ _⟩
  case round =>
    obtain ⟨k, N, hk, hg, rfl, rfl, hN0, hN1, hfa, hto, hrt, hb⟩ := hrel
    have HB := Lib.hid hb
    have HFA := Lib.hid hfa
    have HRT := Lib.hid hrt
    have HTO := Lib.hid hto
    clear hb hfa hrt hto
    by_cases hlt : k < l.length
    · obtain ⟨b, o, rfl, c0', c1', c2'⟩ := srow_at HR.out hlt
      have c0 := cellU c0' HB.out
      have c1 := cellU c1' HB.out
      have c2 := cellU c2' HB.out
      have HST : Hid (fitA 0 l = fitA N (l.getD k s0 :: l.drop (k + 1))) := by rw [HFA.out, drop_getD s0 hlt]; rfl
      have HTK : Hid (rightS (l.getD k s0) = true → RightS (l.take (k + 1))) := fun h x hx => by
        rw [take_getD s0 hlt, List.mem_append] at hx
        rcases hx with hx | hx
        · exact HRT.out x hx
        · rw [List.mem_singleton] at hx; rw [hx]; exact h
      have hfs := HFT.out.at hlt
      have HC := fun W => right_spec (l.getD k s0) W hfs
      unfold sv at HC
      have hTK : totalL (l.take (k + 1)) = totalL (l.take k) + (l.getD k s0).2.2.toNat := totalL_take hlt
      generalize l.getD k s0 = s at HST HTK hfs HC c0' c1' c2' c0 c1 c2 hTK
      obtain ⟨r, n, m⟩ := s
      simp only at c0 c1 c2 HC hTK
      have HC := Lib.hid HC
      clear c0' c1' c2' HFA
      unfold FitS at hfs
      simp only at hfs
      cases hrs : rightS (r, n, m) with
      | false =>
        have HF : Hid (fitL l = 11) := by rw [HFL2.out, HST.out, fitA, if_pos hrs]; rfl
        rw [hrs] at HC
        go_wp2_with (first | (go_at_call 123; refine (HC.out _).mono ?_; rintro e w1 ⟨rfl, hb1⟩))
        go_ret
        exact ⟨by rw [HF.out]; rfl, below_step (below_alloc HB.out _) hb1⟩
      | true =>
        have hri := rightS_iff.1 hrs
        simp only at hri
        have HST2 : Hid (fitA 0 l = if N + m > 1024 then 15 else fitA (N + m) (l.drop (k + 1))) := by rw [HST.out, fitA, if_neg (by rw [hrs]; simp)]; rfl
        have HRT2 : Hid (RightS (l.take (k + 1))) := HTK.out hrs
        rw [hrs] at HC
        clear HTK hrs
        by_cases hbig : N + m > 1024
        · have HF : Hid (fitL l = 15) := by rw [HFL2.out, HST2.out, if_pos hbig]; rfl
          have hbig' : 1024 < N + m := hbig
          go_wp2_with (first | (go_at_call 123; refine (HC.out _).mono ?_; rintro e w1 ⟨rfl, hb1⟩; obtain ⟨x0, x1, d2⟩ := three_cells (kept_box (heap_alloc_new wr _) hb1); clear x0 x1))
          go_ret
          exact ⟨by rw [HF.out]; rfl, below_step (below_alloc HB.out _) hb1⟩
        · have hbig' : N + m ≤ 1024 := by omega
          have HF : Hid (fitA 0 l = fitA (N + m) (l.drop (k + 1))) := by rw [HST2.out, if_neg hbig]; rfl
          go_wp2_with (first | (go_at_call 123; refine (HC.out _).mono ?_; rintro e w1 ⟨rfl, hb1⟩; obtain ⟨x0, x1, d2⟩ := three_cells (kept_box (heap_alloc_new wr _) hb1); clear x0 x1))
          go_roundg (l.length - (k + 1))
          case measure => omega
          case rel => exact ⟨k + 1, N + m, by omega, Nat.le_refl _, by go_num, rfl, by omega, by omega, HF.out, by have := HTO.out; omega, HRT2.out, below_step (below_alloc HB.out _) hb1⟩
    · have : k = l.length := by omega
      subst this
      rw [List.take_length] at HRT
      have HFZ : Hid (fitA 0 l = 0) := by rw [HFA.out, List.drop_length]; rfl
      have HC := Lib.hid (apart_spec l p c wr (HR.out.below HB.out) HRT.out HFT.out (by omega) (by have hto := HTO.out; rw [List.take_length] at hto; omega) hc hp)
      cases hap : apartB l with
      | false =>
        have HF : Hid (fitL l = 16) := by rw [HFL2.out, HFZ.out, hap]; rfl
        rw [hap] at HC
        go_wp2_with (first | (go_at_call 125; refine HC.out.mono ?_; rintro e w1 ⟨rfl, hb1⟩))
        go_ret
        exact ⟨by rw [HF.out]; rfl, below_step HB.out hb1⟩
      | true =>
        have HF : Hid (fitL l = 0) := by rw [HFL2.out, HFZ.out, hap]; rfl
        rw [hap] at HC
        go_wp2_with (first | (go_at_call 125; refine HC.out.mono ?_; rintro e w1 ⟨rfl, hb1⟩))
        go_ret
        exact ⟨by rw [HF.out]; rfl, below_step HB.out hb1⟩

end Go.Proofs.YtceanfpcddcfoaaGreat
/-
  What the program's Fit of layer 8 hands back, with layer 7's Fit. No conditions beyond what each theorem states.
-/
namespace Go.Proofs.YtceanfpcddcfoaaGreat
theorem fitO_spec : FitOSpec := fitO_of fit_spec
end Go.Proofs.YtceanfpcddcfoaaGreat
/-
  What txn's functions hand back and leave, each by its contract. No conditions beyond what each theorem states.
-/
namespace Go.Proofs.YtceanfpcddcfoaaGreat
open Go.ChangeShapes Go.WideShapes Go.ChangeAt Go.RowKit Go.Lib

theorem fitT_spec : FitTSpec := fun t xs p c w H hs _ => fitT_of fitO_spec t xs p c w H hs
end Go.Proofs.YtceanfpcddcfoaaGreat
/-
  Rows of entries read and put one behind the other. No conditions beyond what each theorem states.
-/
namespace Go.Proofs.YtceanfpcddcfoaaGreat.Vec
open Go.ChangeShapes Go.WideShapes Go.ChangeAt Go.RowKit Go.Lib
set_option linter.unusedVariables false
set_option linter.unusedSimpArgs false

theorem row_none {w : World} {xs : List En} (h : Row w none xs) : xs = [] := by
  cases xs with
  | nil => rfl
  | cons x xs => obtain ⟨b, o, e, -⟩ := h 0 (by simp); cases e
theorem cells_of_row {w : World} {a : Addr} {xs : List En} (h : Row w (some a) xs) : ∀ j u, (cellsL xs)[j]? = some u → w.cell? (a.add j) = some u := by
  intro j u hj
  have hlt : j < xs.length * 2 := by rw [← cellsL_length]; exact (List.getElem?_eq_some_iff.1 hj).1
  obtain ⟨b, o, e, h1, h2⟩ := h (j / 2) (by omega)
  cases e
  have hc := cellsL_at xs (j / 2) (by omega)
  rcases Nat.mod_two_eq_zero_or_one j with e | e
  · have ej : j = j / 2 * 2 := by omega
    rw [ej, hc.1] at hj
    cases hj
    rw [Addr.add_lit, show o + j = o + j / 2 * 2 by omega]; exact h1
  · have ej : j = j / 2 * 2 + 1 := by omega
    rw [ej, hc.2] at hj
    cases hj
    rw [Addr.add_lit, show o + j = o + j / 2 * 2 + 1 by omega]; exact h2
theorem Holding.cat {w wr w1 : World} {e : TypeId} {v v' : Value} {xs ys : List En} (h : Holding w e v xs wr) (hown : w1.ownsRow w.heap.size e 2 v' (xs.length + ys.length) (cellsL xs ++ cellsL ys)) (hg : wr.grownBy w1 v.ownBlock) : Holding w e v' (xs ++ ys) w1 :=
  ⟨by rw [cellsL_append, List.length_append]; exact hown, h.2.grown hg h.2.size (fun j hj => (h.1.lt j hj).1)⟩
end Go.Proofs.YtceanfpcddcfoaaGreat.Vec
/-
  The library's own theorem of the search, laid at this program: sort.Search. Its conditions are the library's.
-/
namespace Go.Proofs
open Go.Shelf
def Tryz.laysSearch_ren : Go.Shelf.Ren := ⟨fun | 16 => 95 | n => n, fun | 3 => 3 | 35 => 142 | 4 => 4 | 38 => 54 | n => n, fun | n => n⟩
theorem Tryz.laysSearch : Go.Proofs.SlLaysO.n16 Tryz.prog Tryz.laysSearch_ren := {
  mixed := by kernel_rfl
  f16 := Tryz.func95.trans (congrArg some (by kernel_rfl))
  t3 := Tryz.underlying3
  a3 := Tryz.isAgg3
  z3 := Tryz.sizeOf3
  v3 := Tryz.zeroValue3
  t4 := Tryz.underlying4
  a4 := Tryz.isAgg4
  z4 := Tryz.sizeOf4
  v4 := Tryz.zeroValue4
  t35 := Tryz.underlying142
  a35 := Tryz.isAgg142
  z35 := Tryz.sizeOf142
  v35 := Tryz.zeroValue142
  t38 := Tryz.underlying54
  a38 := Tryz.isAgg54
  z38 := Tryz.sizeOf54
  v38 := Tryz.zeroValue54 }
end Go.Proofs
/-
  What find and Get hand back, for every list of entries by rising replicas that lies in memory. No conditions beyond what each theorem states.
-/
namespace Go.Proofs.YtceanfpcddcfoaaGreat.Vec
open Go.ChangeShapes Go.WideShapes Go.ChangeAt Go.RowKit Go.Lib
open Go.Sort
set_option linter.unusedVariables false
set_option linter.unusedSimpArgs false

/-- By rising replicas. -/
def Srt (xs : List En) : Prop := ∀ i j, i < j → j < xs.length → (atL xs i).1 < (atL xs j).1

theorem count_first (p : Nat → Bool) : ∀ n, (∀ a b, a ≤ b → b < n → p a = true → p b = true) → ∀ i, i < n → (p i = true ↔ (List.range n).countP (fun i => !p i) ≤ i)
  | 0, _, i, hi => by omega
  | n + 1, h, i, hi => by
    have ih := count_first p n (fun a b hab hb => h a b hab (by omega))
    have hle : (List.range n).countP (fun i => !p i) ≤ n := by have := List.countP_le_length (p := fun i => !p i) (l := List.range n); simpa using this
    rw [List.range_succ, List.countP_append]
    cases hp : p n with
    | true =>
      have e : List.countP (fun i => !p i) [n] = 0 := by simp [hp]
      rw [e, Nat.add_zero]
      by_cases hin : i = n
      · subst hin; simp [hp, hle]
      · exact ih i (by omega)
    | false =>
      have hall : ∀ j, j < n + 1 → p j = false := fun j hj => by
        cases hj2 : p j with
        | false => rfl
        | true => rw [h j n (by omega) (by omega) hj2] at hp; cases hp
      have e1 : (List.range n).countP (fun i => !p i) = n := by
        rw [List.countP_eq_length.2 (fun a ha => by rw [hall a (by have := List.mem_range.1 ha; omega)]; rfl)]; simp
      have e2 : List.countP (fun i => !p i) [n] = 1 := by simp [hp]
      rw [e1, e2, hall i hi]
      constructor
      · intro h; cases h
      · intro h; omega

/-- How many entries are of lesser replicas. -/
def rank (xs : List En) (r : Int) : Nat := (List.range xs.length).countP (fun i => !decide (r ≤ (atL xs i).1))
def hasL (xs : List En) (r : Int) : Bool := decide (rank xs r < xs.length ∧ (atL xs (rank xs r)).1 = r)
theorem rank_le (xs : List En) (r : Int) : rank xs r ≤ xs.length := by have := List.countP_le_length (p := fun i => !decide (r ≤ (atL xs i).1)) (l := List.range xs.length); simpa [rank] using this
theorem mono_srt {xs : List En} (h : Srt xs) (r : Int) : ∀ a b, a ≤ b → b < xs.length → decide (r ≤ (atL xs a).1) = true → decide (r ≤ (atL xs b).1) = true := by
  intro a b hab hb ha
  simp only [decide_eq_true_eq] at ha ⊢
  rcases Nat.eq_or_lt_of_le hab with e | e
  · subst e; exact ha
  · have := h a b e hb; omega
theorem rank_iff {xs : List En} (h : Srt xs) (r : Int) {i : Nat} (hi : i < xs.length) : r ≤ (atL xs i).1 ↔ rank xs r ≤ i := by
  have := count_first (fun i => decide (r ≤ (atL xs i).1)) xs.length (mono_srt h r) i hi
  simpa [rank] using this

set_option maxHeartbeats 800000 in
theorem findf_any (xs : List En) (r : Int) (p : Option Addr) (c i b1 b2 : Nat) (W : World) (h1 : W.cell? ⟨b1, 0, none⟩ = some (.slice p xs.length c)) (h2 : W.cell? ⟨b2, 0, none⟩ = some (.int .u16 r)) (hR : Row W p xs) (hi : i < xs.length) (hl : xs.length ≤ 1000000) :
    Calls Tryz.prog 96 #[.int .i64 i, .pointer (some ⟨b1, 0, none⟩), .pointer (some ⟨b2, 0, none⟩)] W fun e w' => e = .returned (.bool (decide (r ≤ (atL xs i).1))) ∧ ∃ q os', w' = grow (W.drewN q) os' := by
  obtain ⟨b, o, rfl, c0, c1⟩ := hR i hi
  clear hR c1
  generalize (atL xs i).1 = x at c0 ⊢
  go_enter Tryz.func96, Tryz.ntmps96
  go_wp2_with fail
  go_quiet (fail)
  go_wp2
  go_ret
  exact ⟨rfl, _, #[], (grow_empty _).symm⟩

theorem below_grown (w : World) (q : Nat) (os : Array Obj) : Below w.heap.size w (grow (w.drewN q) os) := ⟨rfl, rfl, rfl, by simp [grow], fun k hk => by simp [grow, Array.getElem?_append, hk]⟩

set_option maxHeartbeats 1600000 in
set_option maxRecDepth 100000 in
theorem find_any (xs : List En) (r : Int) (p : Option Addr) (c : Nat) (w : World) (hR : Row w p xs) (hs : Srt xs) (hl : xs.length ≤ 1000000) :
    Calls Tryz.prog 67 #[.slice p xs.length c, .int .u16 r] w fun e w' => e = .returned (.tuple #[.int .i64 (rank xs r : Nat), .bool (hasL xs r)]) ∧ Below w.heap.size w w' := by
  have eg : ∀ args w, (callFunc 96 args).run Tryz.prog w = .ok (.enter 96 args) w := enters_of Tryz.func96 (by kernel_rfl) rfl
  have HR : Hid (Row w p xs) := hR
  have hb2 : Below w.heap.size w ((w.alloc (.cells #[.slice p xs.length c] 23)).alloc (.cells #[.int .u16 r] 24)) := below_alloc (below_alloc (Below.refl _ _) _) _
  have g1 : ((w.alloc (.cells #[.slice p xs.length c] 23)).alloc (.cells #[.int .u16 r] 24)).cell? ⟨w.heap.size, 0, none⟩ = some (.slice p xs.length c) := cellA (by simp) _
  have g2 : ((w.alloc (.cells #[.slice p xs.length c] 23)).alloc (.cells #[.int .u16 r] 24)).cell? ⟨w.heap.size + 1, 0, none⟩ = some (.int .u16 r) := by simp
  have hsr := Any.sort_Search Tryz.laysSearch 96 #[.pointer (some ⟨w.heap.size, 0, none⟩), .pointer (some ⟨w.heap.size + 1, 0, none⟩)] xs.length (fun i => decide (r ≤ (atL xs i).1)) ((w.alloc (.cells #[.slice p xs.length c] 23)).alloc (.cells #[.int .u16 r] 24)) eg (by omega)
    (fun m os i hi => findf_any xs r p c i w.heap.size (w.heap.size + 1) _ (cellU g1 (below_grown _ m os)) (cellU g2 (below_grown _ m os)) ((hR.below hb2).below (below_grown _ m os)) hi hl) (mono_srt hs r)
  change Calls Tryz.prog 95 _ _ _ at hsr
  have HS := Lib.hid hsr
  have HRK : Hid ((List.range xs.length).countP (fun i => !decide (r ≤ (atL xs i).1)) = rank xs r) := rfl
  rw [HRK.out] at HS
  have hrl := rank_le xs r
  have G : Hid (((w.alloc (.cells #[.slice p xs.length c] 23)).alloc (.cells #[.int .u16 r] 24)).cell? ⟨w.heap.size, 0, none⟩ = some (.slice p xs.length c) ∧ ((w.alloc (.cells #[.slice p xs.length c] 23)).alloc (.cells #[.int .u16 r] 24)).cell? ⟨w.heap.size + 1, 0, none⟩ = some (.int .u16 r)) := ⟨g1, g2⟩
  have HB2 := Lib.hid hb2
  have HH : Hid (hasL xs r = decide (rank xs r < xs.length ∧ (atL xs (rank xs r)).1 = r)) := rfl
  generalize rank xs r = k at HS hrl HH ⊢
  generalize hasL xs r = b at HH ⊢
  clear hsr hR hs g1 g2 hb2 HRK
  go_enter Tryz.func67, Tryz.ntmps67
  go_wp2_with (first | (go_at_call 95; refine HS.out.mono ?_; rintro e w1 ⟨rfl, q, os, rfl⟩))
  have g1 := cellU G.out.1 (below_grown _ q os)
  have g2 := cellU G.out.2 (below_grown _ q os)
  have HB3 : Hid (Below w.heap.size w (grow (((w.alloc (.cells #[.slice p xs.length c] 23)).alloc (.cells #[.int .u16 r] 24)).drewN q) os)) := below_step HB2.out (below_grown _ q os)
  clear HS HB2 G
  generalize grow (((w.alloc (.cells #[.slice p xs.length c] 23)).alloc (.cells #[.int .u16 r] 24)).drewN q) os = W at g1 g2 HB3 ⊢
  have HRW : Hid (Row W p xs) := HR.out.below HB3.out
  clear HR
  by_cases hk : k < xs.length
  · have hk' : (k : Int) < (xs.length : Int) := by omega
    obtain ⟨b', o, rfl, c0, -⟩ := HRW.out k hk
    have HE : Hid (∀ v, v = decide ((atL xs k).1 = r) → b = v) := fun v hv => by rw [HH.out, hv]; simp [hk]
    generalize (atL xs k).1 = x at c0 HE
    clear HH
    by_cases hx : x = r
    · have hx' : (x == r) = true := by simp [hx]
      have e := HE.out true (by simp [hx])
      subst e
      go_quiet (fail)
      go_wp2
      go_ret2
      exact ⟨rfl, below_drewN HB3.out _⟩
    · have hx' : (x == r) = false := by simp [hx]
      have e := HE.out false (by simp [hx])
      subst e
      go_quiet (fail)
      go_wp2
      go_ret2
      exact ⟨rfl, below_drewN HB3.out _⟩
  · have hk' : decide ((k : Int) < (xs.length : Int)) = false := by simp; omega
    have hkn : ¬ (k : Int) < (xs.length : Int) := by omega
    have e : b = false := by rw [HH.out]; simp [hk]
    subst e
    clear HH
    go_quiet (fail)
    go_wp2
    go_ret2
    exact ⟨rfl, below_drewN HB3.out _⟩

theorem getL_has {xs : List En} (h : Srt xs) {r : Int} (hh : hasL xs r = true) : getL xs r = (atL xs (rank xs r)).2 := by
  simp only [hasL, decide_eq_true_eq] at hh
  refine getL_at hh.1 (fun i hi e => ?_) hh.2
  have := (rank_iff h r (show i < xs.length by omega)).1 (by omega)
  omega
theorem getL_hasnt {xs : List En} (h : Srt xs) {r : Int} (hh : hasL xs r = false) : getL xs r = 0 := by
  refine getL_none fun i hi e => ?_
  simp only [hasL, decide_eq_false_iff_not] at hh
  have h1 := (rank_iff h r hi).1 (by omega)
  apply hh
  have h2 := (rank_iff h r (show rank xs r < xs.length by omega)).2 (Nat.le_refl _)
  refine ⟨by omega, ?_⟩
  rcases Nat.eq_or_lt_of_le h1 with e2 | e2
  · rw [e2]; exact e
  · have := h _ _ e2 hi; omega

set_option maxHeartbeats 800000 in
theorem get_any (xs : List En) (r : Int) (p : Option Addr) (c : Nat) (w : World) (hR : Row w p xs) (hs : Srt xs) (hl : xs.length ≤ 1000000) :
    Calls Tryz.prog 36 #[.slice p xs.length c, .int .u16 r] w fun e w' => e = .returned (.int .u32 (getL xs r)) ∧ Below w.heap.size w w' := by
  have HF : Hid (Calls Tryz.prog 67 #[.slice p xs.length c, .int .u16 r] w fun e w' => e = .returned (.tuple #[.int .i64 (rank xs r : Nat), .bool (hasL xs r)]) ∧ Below w.heap.size w w') := find_any xs r p c w hR hs hl
  have HR : Hid (Row w p xs) := hR
  clear hR
  cases hh : hasL xs r with
  | true =>
    have hk : rank xs r < xs.length := by simp only [hasL, decide_eq_true_eq] at hh; exact hh.1
    rw [getL_has hs hh]
    rw [hh] at HF
    clear hh
    generalize rank xs r = k at HF hk ⊢
    obtain ⟨b', o, rfl, -, c1⟩ := HR.out k hk
    generalize (atL xs k).2 = y at c1 ⊢
    go_enter Tryz.func36, Tryz.ntmps36
    go_wp2_with (first | (go_at_call 67; refine HF.out.mono ?_; rintro e w1 ⟨rfl, hb⟩; have c2 := cellU c1 hb))
    go_ret
    exact ⟨rfl, hb⟩
  | false =>
    rw [getL_hasnt hs hh]
    rw [hh] at HF
    clear hh
    generalize rank xs r = k at HF ⊢
    go_enter Tryz.func36, Tryz.ntmps36
    go_wp2_with (first | (go_at_call 67; refine HF.out.mono ?_; rintro e w1 ⟨rfl, hb⟩))
    go_ret
    exact ⟨rfl, hb⟩

end Go.Proofs.YtceanfpcddcfoaaGreat.Vec
/-
  What Covers, Stands and Lacks hand back, for every two lists of entries by rising replicas that lie in memory. No conditions beyond what each theorem states.
-/
namespace Go.Proofs.YtceanfpcddcfoaaGreat.Vec
open Go.ChangeShapes Go.WideShapes Go.ChangeAt Go.RowKit Go.Lib
open Go.Sort
set_option linter.unusedVariables false
set_option linter.unusedSimpArgs false

theorem coversL_true {xs ys : List En} (h : ∀ j, j < ys.length → ¬ getL xs (atL ys j).1 < (atL ys j).2) : coversL xs ys = true := decide_eq_true fun y hy => by
  obtain ⟨i, hi, rfl⟩ := mem_atL hy
  exact h i hi
theorem coversL_false {xs ys : List En} {k : Nat} (hk : k < ys.length) (h : getL xs (atL ys k).1 < (atL ys k).2) : coversL xs ys = false := decide_eq_false fun hh => hh _ (atL_mem hk) h

set_option maxHeartbeats 1600000 in
set_option maxRecDepth 100000 in
theorem covers_any (xs ys : List En) (p q : Option Addr) (c d : Nat) (w : World) (hR : Row w p xs) (hS : Row w q ys) (hs : Srt xs) (hl : xs.length ≤ 1000000) (hm : ys.length ≤ 4000) :
    Calls Tryz.prog 53 #[.slice p xs.length c, .slice q ys.length d] w fun e w' => e = .returned (.bool (coversL xs ys)) ∧ Below w.heap.size w w' := by
  have HS : Hid (Row w q ys) := hS
  have HR : Hid (Row w p xs) := hR
  have HSrt : Hid (Srt xs) := hs
  clear hR hS hs
  go_enter Tryz.func53, Tryz.ntmps53
  go_wp2
  go_loopg [9] ys.length (fun n i wr => ∃ k : Nat, k ≤ ys.length ∧ ys.length - k ≤ n ∧ i = .int .i64 k ∧ Below w.heap.size w wr ∧ ∀ j, j < k → ¬ getL xs (atL ys j).1 < (atL ys j).2)
  case atStart => exact ⟨0, Nat.zero_le _, by omega, rfl, Below.refl _ _, fun j hj => by omega⟩
  case round =>
    obtain ⟨k, hk, hg, rfl, hb, hno⟩ := hrel
    have HB : Hid (Below w.heap.size w wr) := hb
    have HN : Hid (∀ j, j < k → ¬ getL xs (atL ys j).1 < (atL ys j).2) := hno
    clear hb hno
    by_cases hlt : k < ys.length
    · obtain ⟨b, o, rfl, c0', c1'⟩ := HS.out k hlt
      have c0 := cellU c0' HB.out
      have c1 := cellU c1' HB.out
      clear c0' c1'
      generalize hx : (atL ys k).1 = x at c0
      generalize hy : (atL ys k).2 = y at c1
      have B : Hid (atL ys k = (x, y)) := Prod.ext hx hy
      clear hx hy
      have g0 := cell_regrown (w := wr.alloc (.cells #[.int .u16 x, .int .u32 y] 105)) (a := ⟨wr.heap.size, 0, none⟩) (v := .int .u16 x) (by simp)
      have g1 := cell_regrown (w := wr.alloc (.cells #[.int .u16 x, .int .u32 y] 105)) (a := ⟨wr.heap.size, 1, none⟩) (v := .int .u32 y) (by simp)
      have HG : Hid (∀ dd os, Calls Tryz.prog 36 #[.slice p xs.length c, .int .u16 x] (grow (redrawn (wr.alloc (.cells #[.int .u16 x, .int .u32 y] 105)) dd) os) fun e w'' => e = .returned (.int .u32 (getL xs x)) ∧ ∃ pp : Regrown, w'' = grow (redrawn (wr.alloc (.cells #[.int .u16 x, .int .u32 y] 105)) pp.d) pp.os) :=
        fun dd os => Calls.regrown_of (get_any xs x p c _ (HR.out.below (below_step (below_alloc HB.out _) (below_regrown _ dd os))) HSrt.out hl)
      generalize hz : getL xs x = z at HG
      have HZ : Hid (getL xs x = z) := hz
      clear hz
      by_cases hlz : z < y
      · have hd : decide (z < y) = true := by simp [hlz]
        go_wp2_with fail
        refine wp_region_quiet_below (by kernel_rfl) (by kernel_rfl) ?_
        repeat (first | go_big_quiet_step ((go_at_call 36; exact HG.out _ _)) | quiet_step ((go_at_call 36; exact HG.out _ _)))
        refine wpQuiet_nil ?_
        intro w3 hw'
        have HB3 : Hid (Below w.heap.size w w3) := by obtain ⟨⟨dq, osq⟩, rfl⟩ := hw'; exact below_step (below_alloc HB.out _) (below_regrown _ _ _)
        clear hw' g0 g1 HG
        go_wp2
        go_ret
        exact ⟨ret_bool (coversL_false hlt (by rw [B.out]; simp only [HZ.out]; exact hlz)).symm, HB3.out⟩
      · have hd : decide (z < y) = false := by simp [hlz]
        go_wp2_with fail
        refine wp_region_quiet_below (by kernel_rfl) (by kernel_rfl) ?_
        repeat (first | go_big_quiet_step ((go_at_call 36; exact HG.out _ _)) | quiet_step ((go_at_call 36; exact HG.out _ _)))
        refine wpQuiet_nil ?_
        intro w3 hw'
        have HB3 : Hid (Below w.heap.size w w3) := by obtain ⟨⟨dq, osq⟩, rfl⟩ := hw'; exact below_step (below_alloc HB.out _) (below_regrown _ _ _)
        clear hw' g0 g1 HG
        go_wp2
        go_roundg (ys.length - (k + 1))
        case measure => omega
        case rel => exact ⟨k + 1, by omega, Nat.le_refl _, by go_num, HB3.out, fun j hj => by
          by_cases e : j = k
          · subst e; rw [B.out]; simp only [HZ.out]; omega
          · exact HN.out j (by omega)⟩
    · have : k = ys.length := by omega
      subst this
      go_wp2
      go_ret
      exact ⟨ret_bool (coversL_true (fun j hj => by have := HN.out j hj; omega)).symm, HB.out⟩

/-- How a vector stands to another one. -/
def standsL (a b : Bool) : Int := if a && b then 1 else if b then 2 else if a then 3 else 4

set_option maxHeartbeats 1600000 in
set_option maxRecDepth 100000 in
theorem lacks_any (xs ys : List En) (p q : Option Addr) (c d : Nat) (w : World) (hR : Row w p xs) (hS : Row w q ys) (hs : Srt xs) (hfx : Fits xs) (hfy : Fits ys) (hl : xs.length ≤ 1000000) (hm : ys.length ≤ 4000) :
    Calls Tryz.prog 49 #[.slice p xs.length c, .slice q ys.length d] w (Gave3 w (lacksL xs ys)) := by
  have HS : Hid (Row w q ys) := hS
  have HR : Hid (Row w p xs) := hR
  have HSrt : Hid (Srt xs) := hs
  clear hR hS hs
  obtain ⟨i0, hi, hz0, hz1, hz2⟩ := info_parts info52
  go_enter Tryz.func49, Tryz.ntmps49
  go_wp2
  go_loopg [5, 11] ys.length (fun g s i wr => ∃ k : Nat, k ≤ ys.length ∧ ys.length - k ≤ g ∧ i = .int .i64 k ∧ Holding3 w 66 s (lacksL xs (ys.take k)) wr)
  case atStart => exact ⟨0, Nat.zero_le _, by omega, rfl, by simpa [lacksL] using Holding3.nil w 66⟩
  case round =>
    obtain ⟨k, hk, hg, rfl, hO⟩ := hrel
    have HO : Hid (Holding3 w 66 u5 (lacksL xs (ys.take k)) wr) := hO
    clear hO
    by_cases hlt : k < ys.length
    · obtain ⟨b, o, rfl, c0', c1'⟩ := HS.out k hlt
      have c0 := cellU c0' HO.out.2
      have c1 := cellU c1' HO.out.2
      obtain ⟨-, -, y0, y1⟩ := hfy.at hlt
      clear c0' c1'
      generalize hx : (atL ys k).1 = x at c0
      generalize hy : (atL ys k).2 = y at c1 y0 y1
      have B : Hid (atL ys k = (x, y)) := Prod.ext hx hy
      clear hx hy
      have HG : Hid (Calls Tryz.prog 36 #[.slice p xs.length c, .int .u16 x] (wr.alloc (.cells #[.int .u16 x, .int .u32 y] 105)) fun e w' => e = .returned (.int .u32 (getL xs x)) ∧ Below (wr.alloc (.cells #[.int .u16 x, .int .u32 y] 105)).heap.size (wr.alloc (.cells #[.int .u16 x, .int .u32 y] 105)) w') := get_any xs x p c _ (HR.out.below (below_alloc HO.out.2 _)) HSrt.out hl
      have z0 := getL_nonneg hfx x
      generalize hz : getL xs x = z at HG z0
      have HZ : Hid (getL xs x = z) := hz
      clear hz
      have hll := lacksL_le xs (ys.take k)
      rw [List.length_take] at hll
      have g0 : (wr.alloc (.cells #[.int .u16 x, .int .u32 y] 105)).cell? ⟨wr.heap.size, 0, none⟩ = some (.int .u16 x) := by simp
      have g1 : (wr.alloc (.cells #[.int .u16 x, .int .u32 y] 105)).cell? ⟨wr.heap.size, 1, none⟩ = some (.int .u32 y) := by simp
      have G : Hid ((wr.alloc (.cells #[.int .u16 x, .int .u32 y] 105)).cell? ⟨wr.heap.size, 0, none⟩ = some (.int .u16 x) ∧ (wr.alloc (.cells #[.int .u16 x, .int .u32 y] 105)).cell? ⟨wr.heap.size, 1, none⟩ = some (.int .u32 y)) := ⟨g0, g1⟩
      clear g0 g1
      go_wp2_with fail
      refine HG.out.mono ?_
      rintro e w1 ⟨rfl, hb1⟩
      have g0 := cellU G.out.1 hb1
      have g1 := cellU G.out.2 hb1
      have HO1 : Hid (Holding3 w 66 u5 (lacksL xs (ys.take k)) w1) := (HO.out.alloc _).below hb1
      clear HG G hb1 HO c0 c1
      by_cases hlz : z < y
      · have hwz : IntKind.u32.wrap (z + 1) = z + 1 := by rw [IntKind.wrap_u32]; omega
        go_wp2_with (first
          | (at_builtin; refine wpList_append_own _ rfl (.tmp 23) (.tmp 31) 58 rfl w.heap.size 66 i0 (.agg #[.int .u16 0, .int .u32 0, .int .u32 0]) 3 12 Tryz.underlying58 hi hz0 hz1 hz2 rfl (by decide) _ _ _ rfl (HO1.out.alloc _).1 ⟨w1.heap.size, 0, none⟩ 1 1 [.int .u16 x, .int .u32 (z + 1), .int .u32 y] rfl rfl (cells_three (by simp) (by simp) (by simp)) (three_one x (z + 1) y) (by unfold maxLen; omega) (by omega) (by have := HO1.out.2.size; simp; omega) ?_))
        intro v' w2 hown' hgrow _
        have HO2 : Hid (Holding3 w 66 v' (lacksL xs (ys.take (k + 1))) w2) := by
          rw [lacksL_step hlt, B.out, lackAt, if_pos (by simp only [HZ.out]; omega)]
          simp only [HZ.out]
          exact (HO1.out.alloc _).onto hown' hgrow
        clear hown' hgrow
        go_wp2
        go_roundg (ys.length - (k + 1))
        case measure => omega
        case rel => exact ⟨k + 1, by omega, Nat.le_refl _, by go_num, HO2.out⟩
      · go_wp2
        go_roundg (ys.length - (k + 1))
        case measure => omega
        case rel => exact ⟨k + 1, by omega, Nat.le_refl _, by go_num, by rw [lacksL_step hlt, B.out, lackAt, if_neg (by simp only [HZ.out]; omega), List.append_nil]; exact HO1.out⟩
    · have : k = ys.length := by omega
      subst this
      rw [List.take_length] at HO
      obtain ⟨p', c', rfl, hr⟩ := HO.out.gave
      have HR' : Hid (Row3 wr p' (lacksL xs ys)) := hr
      clear hr
      go_wp2
      go_ret
      exact ⟨p', c', rfl, HR'.out, HO.out.2⟩

end Go.Proofs.YtceanfpcddcfoaaGreat.Vec
