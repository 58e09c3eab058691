/-
  Several texts of one proof, joined: each part says at its head what it proves. No conditions beyond what each theorem states.
-/
import Derived.Deep.RegionLaw
import Derived.Shelf.SlSortCmp.WholeK
import Derived.Lib.QuietBelow
import Derived.Test.YtjkdcpalgfakhaaGreatZ04
import Derived.Test.YtjkdcpalgfakhaaGreatZ18
import Derived.Test.YtjkdcpalgfakhaaGreatZ17
import Derived.Test.YtjkdcpalgfakhaaGreatZ11
import Derived.Test.YtjkdcpalgfakhaaGreatProg
import Derived.Test.YtjkdcpalgfakhaaGreatZ02
import Derived.Test.YtjkdcpalgfakhaaGreatZ13
/-
  What the program's Get of layer 7 leaves. No conditions beyond what each theorem states.
-/
namespace Go.Proofs.YtjkdcpalgfakhaaGreat
open Go.ChangeShapes Go.WideShapes Go.ChangeAt Go.RowKit Go.Lib
set_option linter.unusedVariables false
set_option linter.unusedSimpArgs false

/-- So many spans, read on behind an error too. -/
def rdA (bs : List UInt8) : Nat → Nat → Nat → List Sp × Nat × Nat
  | 0, q, e => ([], q, e)
  | n + 1, q, e => ((rdA bs n q e).1 ++ [(rd3 bs (rdA bs n q e).2.1 (rdA bs n q e).2.2).1], (rd3 bs (rdA bs n q e).2.1 (rdA bs n q e).2.2).2)
theorem rdA_cons (bs : List UInt8) : ∀ n q e, rdA bs (n + 1) q e = ((rd3 bs q e).1 :: (rdA bs n (rd3 bs q e).2.1 (rd3 bs q e).2.2).1, (rdA bs n (rd3 bs q e).2.1 (rd3 bs q e).2.2).2) := by
  intro n
  induction n with
  | zero => intro q e; rfl
  | succ n ih =>
    intro q e
    rw [rdA, ih q e]
    simp only
    conv => rhs; rw [rdA]
    simp
theorem rd3_err {bs : List UInt8} {q e : Nat} (h : e ≠ 0) : rd3 bs q e = ((0, 0, 0), q, e) := by
  unfold rd3
  simp only [rdN_err h]
  rfl
theorem rdA_rdL (bs : List UInt8) : ∀ n q e, (rdL bs n q e).2.2 = (rdA bs n q e).2.2 ∧ ((rdA bs n q e).2.2 = 0 → rdL bs n q e = rdA bs n q e) := by
  intro n
  induction n with
  | zero => intro q e; exact ⟨rfl, fun _ => rfl⟩
  | succ n ih =>
    intro q e
    rw [rdA_cons]
    by_cases h : e = 0
    · subst h
      obtain ⟨h1, h2⟩ := ih (rd3 bs q 0).2.1 (rd3 bs q 0).2.2
      rw [rdL, if_pos rfl]
      refine ⟨h1, fun h0 => ?_⟩
      rw [h2 h0]
    · obtain ⟨h1, h2⟩ := ih q e
      rw [rdL, if_neg h, rd3_err h]
      rw [rdL_err bs n q e h] at h1
      simp only at h1 ⊢
      exact ⟨h1, fun h0 => absurd (h1.trans h0) h⟩
theorem rdA_len (bs : List UInt8) : ∀ n q e, (rdA bs n q e).1.length = n := by
  intro n
  induction n with
  | zero => intro q e; rfl
  | succ n ih => intro q e; rw [rdA]; simp [ih]

/-- A row of the call's own, and all else but one block as it was. -/
structure HoldK (w : World) (K : Nat) (v : Value) (xs : List Sp) (wr : World) : Prop where
  row : wr.ownsRow w.heap.size 119 3 v xs.length (layS.flat xs)
  only : Only K w wr
  lt : K < w.heap.size
theorem HoldK.on {w wr w1 : World} {K : Nat} {v : Value} {xs : List Sp} (h : HoldK w K v xs wr) (ho : Only K wr w1) : HoldK w K v xs w1 :=
  ⟨h.row.kept (row := some K) ⟨ho.os, ho.tape, ho.output, ho.size, fun k hk hn => ho.block k hk (fun e => hn (by rw [e]))⟩ (Or.inr fun e => by have := (h.row.lt _ e).1; have := h.lt; omega), Kept.trans h.only ho (fun _ _ e => e), h.lt⟩
theorem HoldK.below {w wr w1 : World} {K : Nat} {v : Value} {xs : List Sp} (h : HoldK w K v xs wr) (hb : Below wr.heap.size wr w1) : HoldK w K v xs w1 := h.on (Kept.ofBelow hb)
theorem HoldK.onto {w wr w1 : World} {K : Nat} {v v' : Value} {xs : List Sp} {x : Sp} (h : HoldK w K v xs wr) (hown : w1.ownsRow w.heap.size 119 3 v' (xs.length + 1) (layS.flat xs ++ layS.enc x)) (hg : wr.grownBy w1 v.ownBlock) : HoldK w K v' (xs ++ [x]) w1 :=
  ⟨by rw [layS.flat_append, layS.flat_one, List.length_append]; exact hown, Kept.trans h.only (T := fun i => v.ownBlock = some i) ⟨hg.os, hg.tape, hg.output, hg.size, fun k hk hn => hg.block k hk (fun e => hn e.symm)⟩ (fun i hi e => by have := (h.row.lt _ e).1; omega), h.lt⟩
theorem only_box {K X : Nat} {w w' : World} {o : Obj} (h : w.heap[X]? = some o) (hK : X ≠ K) (hk : Only K w w') : w'.heap[X]? = some o := hk.stays h hK

end Go.Proofs.YtjkdcpalgfakhaaGreat
/-
  What the program's Get of layer 8 leaves. No conditions beyond what each theorem states.
-/
namespace Go.Proofs.YtjkdcpalgfakhaaGreat
open Go.ChangeShapes Go.WideShapes Go.ChangeAt Go.RowKit Go.Lib
set_option linter.unusedVariables false
set_option linter.unusedSimpArgs false

theorem szO : (Tryz.prog.info? 99).map (·.size) = some 7 := by kernel_rfl
theorem only_far {K V o : Nat} {w W : World} (h : Only K w W) (hV : w.heap.size ≤ V) (u : Value) : Only K w (W.setCell ⟨V, o, none⟩ u) :=
  Kept.trans h (only_set W V o u) (fun i hi e => by omega)
/-- A row of spans is no variable of an operation's kind. -/
theorem srow_apart {W : World} {B : Nat} {p : Option Addr} {l : List Sp} {k a b c sq : Int} {s : ByteArray} {v : Value} {t : TypeId} (hG : GRow layS W p l) (h0 : 0 < l.length) (h : W.heap[B]? = some (.cells #[.int .i64 k, .int .u16 a, .int .u32 b, .int .u32 c, .string s, v, .int .u32 sq] t (0, 0))) (hv : ∀ x y, v ≠ .int x y) : ∀ q, p = some q → ¬ q.block = B := by
  intro q e ee
  obtain ⟨b', o, rfl, c0, c1, c2⟩ := srow_at hG h0
  injection e with e
  subst e
  have ee : b' = B := ee
  subst ee
  rw [cell_of_block h] at c0 c1 c2
  simp only [Nat.zero_mul, Nat.add_zero] at c0 c1 c2
  match o, c0, c1, c2 with
  | 0, c0, c1, c2 => simp at c0
  | 1, c0, c1, c2 => simp at c2
  | 2, c0, c1, c2 => simp at c0
  | 3, c0, c1, c2 => simp at c0
  | 4, c0, c1, c2 => simp at c0
  | 5, c0, c1, c2 => simp at c0; exact hv _ _ c0
  | 6, c0, c1, c2 => simp at c0
  | n + 7, c0, c1, c2 => simp at c0
theorem GRow.away {W W' : World} {B : Nat} {p : Option Addr} {l : List Sp} {k a b c sq : Int} {s : ByteArray} {v : Value} {t : TypeId} (hG : GRow layS W p l) (h : W.heap[B]? = some (.cells #[.int .i64 k, .int .u16 a, .int .u32 b, .int .u32 c, .string s, v, .int .u32 sq] t (0, 0))) (hv : ∀ x y, v ≠ .int x y) (ho : Only B W W') : GRow layS W' p l := by
  rcases Nat.eq_zero_or_pos l.length with e | e
  · rw [List.eq_nil_of_length_eq_zero e]; exact GRow.nil _ _ _
  · exact hG.kept ho (srow_apart hG e h hv)

end Go.Proofs.YtjkdcpalgfakhaaGreat
/-
  What the program's Get of layer 9 leaves. No conditions beyond what each theorem states.
-/
namespace Go.Proofs.YtjkdcpalgfakhaaGreat
open Go.ChangeShapes Go.WideShapes Go.ChangeAt Go.RowKit Go.Lib
set_option linter.unusedVariables false
set_option linter.unusedSimpArgs false

theorem szT9 : (Tryz.prog.info? 36).map (·.size) = some 5 := by kernel_rfl
theorem infoO9 : (Tryz.prog.info? 99).map (fun i => (i.zero, i.size, i.bytes)) = some (some (.agg #[.int .i64 0, .int .u16 0, .int .u32 0, .int .u32 0, .string ⟨#[]⟩, .slice none 0 0, .int .u32 0]), 7, 72) := by kernel_rfl
/-- Behind an error nothing is read. -/
theorem readO_err {bs : List UInt8} {q e : Nat} (h : e ≠ 0) : readO bs q e = (o0, q, e) := by
  unfold readO
  rw [rdN_err h]
  simp only
  rw [if_neg (by decide)]
  unfold readB
  rw [if_neg (by decide), if_neg (by decide), rdN_err h]
  simp only
  rw [if_neg h]
/-- Operations that are read on behind an error too: what is read so far. -/
def Sofar (bs : List UInt8) (n q0 e0 k : Nat) (l : List Om) (q e : Nat) : Prop := (e = 0 ∧ rdOs bs n q0 e0 = (l ++ (rdOs bs (n - k) q 0).1, (rdOs bs (n - k) q 0).2)) ∨ (e ≠ 0 ∧ (rdOs bs n q0 e0).2.2 = e)
theorem Sofar.start (bs : List UInt8) (n q e : Nat) : Sofar bs n q e 0 [] q e := by
  by_cases h : e = 0
  · subst h; exact Or.inl ⟨rfl, rfl⟩
  · exact Or.inr ⟨h, by rw [rdOs_err bs n q e h]⟩
theorem Sofar.next {bs : List UInt8} {n q0 e0 k q e q' : Nat} {l : List Om} (h : Sofar bs n q0 e0 k l q e) (hk : k < n) (hq : (readO bs q e).2.2 = 0 → q' = (readO bs q e).2.1) : Sofar bs n q0 e0 (k + 1) (l ++ [(readO bs q e).1]) q' (readO bs q e).2.2 := by
  rcases h with ⟨rfl, h⟩ | ⟨h1, h⟩
  · rw [rdOs_step hk] at h
    by_cases hz : (readO bs q 0).2.2 = 0
    · refine Or.inl ⟨hz, ?_⟩
      rw [h, hq hz, hz]
      simp
    · refine Or.inr ⟨hz, ?_⟩
      rw [h, rdOs_err _ _ _ _ hz]
  · have he : (readO bs q e).2.2 = e := by rw [readO_err h1]
    exact Or.inr ⟨by rw [he]; exact h1, by rw [he]; exact h⟩
theorem Sofar.done {bs : List UInt8} {n q0 e0 q e : Nat} {l : List Om} (h : Sofar bs n q0 e0 n l q e) : (e = 0 ∧ rdOs bs n q0 e0 = (l, q, 0)) ∨ (e ≠ 0 ∧ (rdOs bs n q0 e0).2.2 = e) := by
  rcases h with ⟨h1, h⟩ | h
  · refine Or.inl ⟨h1, ?_⟩
    rw [h, Nat.sub_self]
    simp [rdOs]
  · exact Or.inr h
end Go.Proofs.YtjkdcpalgfakhaaGreat
/-
  The library's own theorem of the sort, laid at this program: slices.SortFunc. Its conditions are the library's.
-/
namespace Go.Proofs
open Go.Shelf
end Go.Proofs
/-
  What the program's comparison of names, and its spans by rising first names, hand back. No conditions beyond what each theorem states.
-/
namespace Go.Proofs.YtjkdcpalgfakhaaGreat
open Go.ChangeShapes Go.WideShapes Go.ChangeAt Go.RowKit Go.Lib
open Go.Sort
set_option linter.unusedVariables false
set_option linter.unusedSimpArgs false

def cmp3 (a b : Int) : Int := if a < b then -1 else if b < a then 1 else 0
theorem cmp3_lt {a b : Int} (h : a < b) : cmp3 a b = -1 := by simp [cmp3, h]
theorem cmp3_gt {a b : Int} (h : b < a) : cmp3 a b = 1 := by unfold cmp3; rw [if_neg (by omega), if_pos h]
theorem cmp3_eq {a b : Int} (h1 : ¬ a < b) (h2 : ¬ b < a) : cmp3 a b = 0 := by simp [cmp3, h1, h2]

set_option maxHeartbeats 400000 in
theorem compare16 (a b : Int) (w : World) :
    Calls Tryz.prog 77 #[.int .u16 a, .int .u16 b] w fun e w' => e = .returned (.int .i64 (cmp3 a b)) ∧ w' = w := by
  by_cases h1 : a < b
  · rw [cmp3_lt h1]
    go_enter Tryz.func77, Tryz.ntmps77
    go_wp2
    go_ret
    exact ⟨rfl, rfl⟩
  · by_cases h2 : b < a
    · rw [cmp3_gt h2]
      go_enter Tryz.func77, Tryz.ntmps77
      go_wp2
      go_ret
      exact ⟨rfl, rfl⟩
    · rw [cmp3_eq h1 h2]
      go_enter Tryz.func77, Tryz.ntmps77
      go_wp2
      go_ret
      exact ⟨rfl, rfl⟩
set_option maxHeartbeats 400000 in
theorem compare32 (a b : Int) (w : World) :
    Calls Tryz.prog 78 #[.int .u32 a, .int .u32 b] w fun e w' => e = .returned (.int .i64 (cmp3 a b)) ∧ w' = w := by
  by_cases h1 : a < b
  · rw [cmp3_lt h1]
    go_enter Tryz.func78, Tryz.ntmps78
    go_wp2
    go_ret
    exact ⟨rfl, rfl⟩
  · by_cases h2 : b < a
    · rw [cmp3_gt h2]
      go_enter Tryz.func78, Tryz.ntmps78
      go_wp2
      go_ret
      exact ⟨rfl, rfl⟩
    · rw [cmp3_eq h1 h2]
      go_enter Tryz.func78, Tryz.ntmps78
      go_wp2
      go_ret
      exact ⟨rfl, rfl⟩

/-- The order of names. -/
def cmpN (x y : Nm) : Int := if cmp3 x.1 y.1 = 0 then cmp3 x.2 y.2 else cmp3 x.1 y.1
def firstOf (s : Sp) : Nm := (s.1, s.2.1)
def cmpS (s t : Sp) : Int := cmpN (firstOf s) (firstOf t)
theorem lt_cmpN (x y : Nm) : decide (cmpN x y < 0) = decide (x.1 < y.1 ∨ x.1 = y.1 ∧ x.2 < y.2) := by
  unfold cmpN
  apply decide_eq_decide.2
  by_cases h1 : x.1 < y.1
  · rw [cmp3_lt h1, if_neg (by omega)]; omega
  · by_cases h2 : y.1 < x.1
    · rw [cmp3_gt h2, if_neg (by omega)]; omega
    · rw [cmp3_eq h1 h2, if_pos rfl]
      by_cases h3 : x.2 < y.2
      · rw [cmp3_lt h3]; omega
      · by_cases h4 : y.2 < x.2
        · rw [cmp3_gt h4]; omega
        · rw [cmp3_eq h3 h4]; omega
theorem lt_cmpS (s t : Sp) : ltOf cmpS s t = decide (s.1 < t.1 ∨ s.1 = t.1 ∧ s.2.1 < t.2.1) := lt_cmpN (firstOf s) (firstOf t)
theorem swo_cmpS : SWO (ltOf cmpS) where
  irrefl x := by rw [lt_cmpS]; simp
  trans x y z h1 h2 := by rw [lt_cmpS] at *; simp at *; omega
  ntrans x y z h1 h2 := by rw [lt_cmpS] at *; simp at *; omega

theorem enc_at (x : Sp) {i : Nat} (h : i < 3) : (layS.enc x)[i]? = some (layS.enc x)[i]! := by
  match i, h with
  | 0, _ => rfl
  | 1, _ => rfl
  | 2, _ => rfl
theorem toArray_at (xs : List Sp) (i : Nat) : xs.toArray[i]! = xs.getD i s0 := by
  simp only [List.getD_eq_getElem?_getD, List.getElem!_toArray, List.getElem!_eq_getElem?_getD]
  rfl
theorem flat_get (xs : List Sp) {j : Nat} (h : j < xs.length * 3) : (layS.flat xs)[j]? = some ((layS.enc (xs.getD (j / 3) s0))[j % 3]!) := by
  have := layS.flat_at s0 xs (j / 3) (j % 3) (by omega) (Nat.mod_lt _ (by decide))
  rw [show j / 3 * layS.k + j % 3 = j by show j / 3 * 3 + j % 3 = j; omega] at this
  rw [this]; exact enc_at _ (Nat.mod_lt _ (by decide))
/-- A row of the call's own, as the sort takes it. -/
theorem holdsK_of_own {w : World} {B g cap : Nat} {xs : List Sp} (hx : 0 < xs.length) (h : w.ownsRow B 119 3 (.slice (some ⟨g, 0, none⟩) xs.length cap) xs.length (layS.flat xs)) : HoldsK layS.enc 3 w g 0 xs.toArray := by
  intro j hj
  rw [size_flatK, List.size_toArray] at hj
  obtain ⟨g', cap', e, _, hf⟩ := owns_head h hx
  cases e
  rw [get_flatK _ _ _ _ (by rw [List.size_toArray]; exact hj), toArray_at]
  refine ⟨?_, hf _⟩
  have := h.cells (g := g) rfl j _ (flat_get xs hj)
  rw [Addr.add_lit] at this
  exact this
theorem grow_of_holdsK {w : World} {g : Nat} {d : Array Sp} (h : HoldsK layS.enc 3 w g 0 d) : GRow layS w (some ⟨g, 0, none⟩) d.toList := by
  intro m u hm
  have hlt := (List.getElem?_eq_some_iff.1 hm).1
  rw [layS.flat_length] at hlt
  have hlt' : m < d.toList.length * 3 := hlt
  rw [flat_get _ hlt'] at hm
  have := h m (by rw [size_flatK]; simpa using hlt')
  rw [get_flatK _ _ _ _ (by simpa using hlt')] at this
  refine ⟨g, 0, rfl, ?_⟩
  rw [show d[m / 3]! = d.toList.getD (m / 3) s0 by rw [← toArray_at]] at this
  cases hm
  exact this.1
theorem below_sortWorldK {B g o m : Nat} {w : World} {d : Array Sp} {os : Array Obj} (hB : B ≤ g) (hg : g < w.heap.size) : Below B w (sortWorldK layS.enc 3 w g o m d os) := by
  refine ⟨rfl, rfl, rfl, ?_, fun k hk => ?_⟩
  · simp [sortWorldK, putRowK, putRow, Sort.mapBlock, grow, Sort.ahead]
  · simp only [sortWorldK, putRowK, putRow, Sort.mapBlock, grow, Sort.ahead]
    rw [Array.getElem?_append_left (by simp; omega), Array.getElem?_modify, if_neg (by omega)]

/-- By rising first names. -/
def Rising (ys : List Sp) : Prop := ∀ i j, i < j → j < ys.length → ltOf cmpS (ys.getD j s0) (ys.getD i s0) = false
def Rose (xs : List Sp) (w : World) (e : Ending) (w' : World) : Prop := ∃ ys p c, e = .returned (.slice p ys.length c) ∧ ys.Perm xs ∧ Rising ys ∧ GRow layS w' p ys ∧ Below w.heap.size w w'

set_option maxHeartbeats 800000 in
theorem clone_any (xs : List Sp) (p : Option Addr) (c : Nat) (w : World) (hR : GRow layS w p xs) (hl : xs.length ≤ 3000) :
    Calls Tryz.prog 56 #[.slice p xs.length c] w (Made layS 119 w xs) := by
  have q23 : ∀ (w : World) (a : Option Addr) (n c n' c' : Nat), (binOp .eql 97 (.slice a n c) (.slice none n' c')).run Tryz.prog w = .ok (.bool a.isNone) w := fun w a n c n' c' => Lib.run_eql_slice_nil w _ _ a n c n' c' Tryz.underlying97
  cases p with
  | none =>
    have e := hR.none_nil layS_pos rfl
    subst e
    clear hR
    go_enter Tryz.func56, Tryz.ntmps56
    go_wp2
    go_ret
    exact ⟨_, rfl, Hold.nil _ _ _⟩
  | some a =>
    obtain ⟨i0, hi, hz0, hz1, hz2⟩ := info_parts infoSp
    have HC : Hid (∀ j u, (layS.flat xs)[j]? = some u → w.cell? (a.add j) = some u) := hR.news
    clear hR
    go_enter Tryz.func56, Tryz.ntmps56
    go_wp2_with (first
      | (at_builtin; refine wpList_append_own _ rfl (.tmp 5) (.tmp 6) 97 rfl w.heap.size 119 i0 (.agg #[.int .u16 0, .int .u32 0, .int .i64 0]) 3 16 Tryz.underlying97 hi hz0 hz1 hz2 rfl (by decide) _ _ _ rfl (World.ownsRow_made w #[] 0 (Nat.le_refl _) (Nat.zero_le _) (by simp)) a xs.length c (layS.flat xs) rfl (layS.flat_length xs) (fun j u hj => cellU (HC.out j u hj) (below_alloc (Below.refl _ _) _)) (layS.flat_one' xs) (by unfold maxLen; omega) (by omega) (by simp) ?_))
    intro v' w1 hown hgrow _
    have HO : Hid (Hold layS w 119 v' xs w1) := ⟨by show w1.ownsRow _ _ 3 _ _ _; simpa using hown, (below_alloc (Below.refl _ _) _).grown hgrow (by simp) (by intro k hk; simp [Value.ownBlock] at hk; omega)⟩
    clear hown hgrow
    go_wp2
    go_ret
    exact ⟨_, rfl, HO.out⟩
end Go.Proofs.YtjkdcpalgfakhaaGreat
/-
  What the program's Apart and Fit of layer 7 hand back. No conditions beyond what each theorem states.
-/
namespace Go.Proofs.YtjkdcpalgfakhaaGreat
open Go.ChangeShapes Go.WideShapes Go.ChangeAt Go.RowKit Go.Lib
open Go.Sort
set_option linter.unusedVariables false
set_option linter.unusedSimpArgs false

/-- All of one's names come ahead of another's first. -/
def Ahead (a b : Sp) : Prop := a.1 < b.1 ∨ a.1 = b.1 ∧ a.2.1 + a.2.2 ≤ b.2.1
theorem Ahead.trans {a b c : Sp} (hb : 1 ≤ b.2.2) (h1 : Ahead a b) (h2 : Ahead b c) : Ahead a c := by unfold Ahead at *; omega
theorem Ahead.meets {a b : Sp} (h : Ahead a b) : meetS b a = false := by
  unfold Ahead at h
  unfold meetS
  exact decide_eq_false (by omega)
theorem ahead_next {a b : Sp} (ha : rightS a = true) (hr : ltOf cmpS b a = false) (hn : firstOf b ∉ idsS a) : Ahead a b := by
  rw [lt_cmpS] at hr
  have hr := of_decide_eq_false hr
  have ha := rightS_iff.1 ha
  rw [mem_idsS] at hn
  unfold firstOf at hn
  simp only at hn
  unfold Ahead
  omega
theorem ahead_all {ys : List Sp} (hr : RightS ys) (hs : Rising ys) (hn : ∀ j, j + 1 < ys.length → firstOf (ys.getD (j + 1) s0) ∉ idsS (ys.getD j s0)) : ∀ d i, i + d + 1 < ys.length → Ahead (ys.getD i s0) (ys.getD (i + d + 1) s0) := by
  intro d
  induction d with
  | zero => intro i hi; exact ahead_next (hr.at (by omega)) (hs i (i + 1) (by omega) hi) (hn i hi)
  | succ d ih =>
    intro i hi
    have h1 := ih i (by omega)
    have h2 := ahead_next (hr.at (i := i + d + 1) (by omega)) (hs (i + d + 1) (i + (d + 1) + 1) (by omega) hi) (hn (i + d + 1) hi)
    have h3 := rightS_iff.1 (hr.at (i := i + d + 1) (by omega))
    exact Ahead.trans h3.2.1 h1 h2
theorem apart_adj {ys : List Sp} (hr : RightS ys) (hs : Rising ys) (hn : ∀ j, j + 1 < ys.length → firstOf (ys.getD (j + 1) s0) ∉ idsS (ys.getD j s0)) : apartB ys = true := by
  apply apartB_iff.2
  intro i hi k hk
  have := ahead_all hr hs hn (i - k - 1) k (by omega)
  rw [show k + (i - k - 1) + 1 = i by omega] at this
  exact this.meets
theorem apart_not {ys : List Sp} (hr : RightS ys) {j : Nat} (hj : j + 1 < ys.length) (h : firstOf (ys.getD (j + 1) s0) ∈ idsS (ys.getD j s0)) : apartB ys = false :=
  apartB_no (i := j + 1) (k := j) hj (by omega) ((meet_iff (hr.at hj) (hr.at (by omega))).2 ⟨_, first_mem (rightS_iff.1 (hr.at hj)).2.1, h⟩)
theorem perm_right {xs ys : List Sp} (hp : ys.Perm xs) (h : RightS xs) : RightS ys := fun x hx => h x (hp.mem_iff.1 hx)
theorem perm_fit {xs ys : List Sp} (hp : ys.Perm xs) (h : FitSs xs) : FitSs ys := fun x hx => h x (hp.mem_iff.1 hx)
theorem perm_ids {xs ys : List Sp} (hp : ys.Perm xs) : (idsL ys).Perm (idsL xs) := hp.flatMap_right idsS
theorem perm_apart {xs ys : List Sp} (hp : ys.Perm xs) (h : RightS xs) : apartB ys = apartB xs := by
  have h1 := apart_nodup (perm_right hp h)
  have h2 := apart_nodup h
  have h3 := (perm_ids hp).nodup_iff
  rw [Bool.eq_iff_iff, h1, h2, h3]

end Go.Proofs.YtjkdcpalgfakhaaGreat
/-
  What the program's Fit of layer 8 hands back, with layer 7's Fit. No conditions beyond what each theorem states.
-/
namespace Go.Proofs.YtjkdcpalgfakhaaGreat
end Go.Proofs.YtjkdcpalgfakhaaGreat
/-
  What txn's functions hand back and leave, each by its contract. No conditions beyond what each theorem states.
-/
namespace Go.Proofs.YtjkdcpalgfakhaaGreat
open Go.ChangeShapes Go.WideShapes Go.ChangeAt Go.RowKit Go.Lib

end Go.Proofs.YtjkdcpalgfakhaaGreat
/-
  What the program's Fit, Ready, Past and Needs of layer 10 hand back. No conditions beyond what each theorem states.
-/
namespace Go.Proofs.YtjkdcpalgfakhaaGreat
open Go.ChangeShapes Go.WideShapes Go.ChangeAt Go.RowKit Go.Lib
set_option linter.unusedVariables false
set_option linter.unusedSimpArgs false

set_option maxHeartbeats 3200000 in
set_option maxRecDepth 20000 in
theorem pastE_spec : PastESpec := by
  intro e xs h p q s c d f w _ _ _ hH _ _ _ hr hl _
  have H2 : Hid (∀ W, Below w.heap.size w W → Calls Tryz.prog 57 #[.slice s h.length f, .int .u16 e.txn.r] W fun r w' => r = .returned (.int .u32 (Vec.getL h e.txn.r)) ∧ Below W.heap.size W w') := fun W hb => Vec.get_any h e.txn.r s f W (hH.below hb) (right_srt hr) (by omega)
  have HF : Hid (pastE e h = decide (e.txn.seq ≤ Vec.getL h e.txn.r)) := rfl
  clear hH hr
  obtain ⟨deps, ⟨r, seq, clock, user, ops⟩⟩ := e
  unfold ev
  simp only at *
  generalize pastE (⟨deps, ⟨r, seq, clock, user, ops⟩⟩ : Em) h = F at HF ⊢
  generalize Vec.getL h r = G at H2 HF
  generalize ops.length = TL
  generalize deps.length = L
  generalize h.length = HL at H2 hl ⊢
  have HX := Lib.hid (heap_alloc_new w (.cells #[.slice p L c, .int .u16 r, .int .u32 seq, .int .u64 clock, .int .i64 user, .slice q TL d] 38))
  have HB0 : Hid (Below w.heap.size w (w.alloc (.cells #[.slice p L c, .int .u16 r, .int .u32 seq, .int .u64 clock, .int .i64 user, .slice q TL d] 38))) := below_alloc (Below.refl _ _) _
  go_enter Tryz.func38, Tryz.ntmps38
  go_wp2_with fail
  generalize hw0 : (w.alloc (.cells #[.slice p L c, .int .u16 r, .int .u32 seq, .int .u64 clock, .int .i64 user, .slice q TL d] 38)) = w0 at HX HB0 ⊢
  clear hw0
  obtain ⟨x0', x1', x2', x3', x4', x5'⟩ := six_cells HX.out
  have x1 := cell_regrown x1'
  have x2 := cell_regrown x2'
  have HG : Hid (∀ dd os, Calls Tryz.prog 57 #[.slice s HL f, .int .u16 r] (Go.Sort.grow (redrawn w0 dd) os) fun e w' => e = .returned (.int .u32 G) ∧ Below (Go.Sort.grow (redrawn w0 dd) os).heap.size (Go.Sort.grow (redrawn w0 dd) os) w') := fun dd os => H2.out _ (below_step HB0.out (below_regrown _ _ _))
  clear x0' x1' x2' x3' x4' x5'
  refine wp_region_quiet_below (by kernel_rfl) (by kernel_rfl) ?_
  repeat (first | go_big_quiet_step ((go_at_call 57; exact Calls.regrown_of (HG.out _ _))) | quiet_step ((go_at_call 57; exact Calls.regrown_of (HG.out _ _))))
  refine wpQuiet_nil ?_
  intro w3 hw'
  have HB3 : Hid (Below w.heap.size w w3) := by obtain ⟨⟨dq, osq⟩, rfl⟩ := hw'; exact below_step HB0.out (below_regrown _ _ _)
  clear hw' HG
  go_wp2
  go_ret
  exact ⟨by rw [HF.out]; rfl, HB3.out⟩

set_option maxHeartbeats 3200000 in
set_option maxRecDepth 20000 in
theorem readyE_spec : ReadyESpec := by
  intro e xs h p q s c d f w HE hSM hfit hH _ _ hfx hr hl hm
  obtain ⟨hrd, hgd, hft⟩ := fitE_ok hfit
  have hsq := (fitT_ok hft)
  have H2 : Hid (∀ W, Below w.heap.size w W → Calls Tryz.prog 57 #[.slice s h.length f, .int .u16 e.txn.r] W fun r w' => r = .returned (.int .u32 (Vec.getL h e.txn.r)) ∧ Below W.heap.size W w') := fun W hb => Vec.get_any h e.txn.r s f W (hH.below hb) (right_srt hr) (by omega)
  have H3 : Hid (∀ W, Below w.heap.size w W → Calls Tryz.prog 58 #[.slice s h.length f, .slice p e.deps.length c] W fun r w' => r = .returned (.bool (Vec.coversL h e.deps)) ∧ Below W.heap.size W w') := fun W hb => Vec.covers_any h e.deps s p f c W (hH.below hb) (HE.row.below hb) (right_srt hr) (by omega) (by omega)
  have HF : Hid (readyE e h = (decide (Vec.getL h e.txn.r + 1 = e.txn.seq) && Vec.coversL h e.deps)) := rfl
  obtain ⟨g1, g2⟩ := getL_right hr e.txn.r
  have hsq1 : 1 ≤ e.txn.seq ∧ e.txn.seq ≤ 268435456 := by omega
  clear hH hfx hr HE hSM hfit hrd hgd hft hsq
  obtain ⟨deps, ⟨r, seq, clock, user, ops⟩⟩ := e
  unfold ev
  simp only at *
  generalize readyE (⟨deps, ⟨r, seq, clock, user, ops⟩⟩ : Em) h = F at HF ⊢
  generalize Vec.getL h r = G at H2 HF g1 g2
  generalize Vec.coversL h deps = C at H3 HF
  generalize ops.length = TL
  generalize deps.length = L at H3 hm ⊢
  generalize h.length = HL at H2 H3 hl ⊢
  have HX := Lib.hid (heap_alloc_new w (.cells #[.slice p L c, .int .u16 r, .int .u32 seq, .int .u64 clock, .int .i64 user, .slice q TL d] 38))
  have HB0 : Hid (Below w.heap.size w (w.alloc (.cells #[.slice p L c, .int .u16 r, .int .u32 seq, .int .u64 clock, .int .i64 user, .slice q TL d] 38))) := below_alloc (Below.refl _ _) _
  have hwr : IntKind.u32.wrap (seq - 1) = seq - 1 := by rw [IntKind.wrap_u32]; omega
  go_enter Tryz.func30, Tryz.ntmps30
  go_wp2_with fail
  generalize hw0 : (w.alloc (.cells #[.slice p L c, .int .u16 r, .int .u32 seq, .int .u64 clock, .int .i64 user, .slice q TL d] 38)) = w0 at HX HB0 ⊢
  clear hw0
  obtain ⟨x0', x1', x2', x3', x4', x5'⟩ := six_cells HX.out
  have x0 := cell_regrown x0'
  have x1 := cell_regrown x1'
  have x2 := cell_regrown x2'
  have HG : Hid (∀ dd os, Calls Tryz.prog 57 #[.slice s HL f, .int .u16 r] (Go.Sort.grow (redrawn w0 dd) os) fun e w' => e = .returned (.int .u32 G) ∧ Below (Go.Sort.grow (redrawn w0 dd) os).heap.size (Go.Sort.grow (redrawn w0 dd) os) w') := fun dd os => H2.out _ (below_step HB0.out (below_regrown _ _ _))
  have HC : Hid (∀ dd os, Calls Tryz.prog 58 #[.slice s HL f, .slice p L c] (Go.Sort.grow (redrawn w0 dd) os) fun e w' => e = .returned (.bool C) ∧ Below (Go.Sort.grow (redrawn w0 dd) os).heap.size (Go.Sort.grow (redrawn w0 dd) os) w') := fun dd os => H3.out _ (below_step HB0.out (below_regrown _ _ _))
  clear x0' x1' x2' x3' x4' x5'
  by_cases hE : G = seq - 1
  · have hE' : (G == seq - 1) = true := by simp [hE]
    have HF2 : Hid (F = C) := by show _ = _; rw [HF.out, decide_eq_true (by omega), Bool.true_and]
    clear hE g1 g2
    refine wp_region_quiet_below (by kernel_rfl) (by kernel_rfl) ?_
    repeat (first | go_big_quiet_step (first | (go_at_call 57; exact Calls.regrown_of (HG.out _ _)) | (go_at_call 58; exact Calls.regrown_of (HC.out _ _))) | quiet_step (first | (go_at_call 57; exact Calls.regrown_of (HG.out _ _)) | (go_at_call 58; exact Calls.regrown_of (HC.out _ _))))
    refine wpQuiet_nil ?_
    intro w3 hw'
    have HB3 : Hid (Below w.heap.size w w3) := by obtain ⟨⟨dq, osq⟩, rfl⟩ := hw'; exact below_step HB0.out (below_regrown _ _ _)
    clear hw' HG HC
    go_wp2
    go_ret
    exact ⟨by rw [HF2.out]; rfl, HB3.out⟩
  · have hE' : (G == seq - 1) = false := by simp [hE]
    have HF2 : Hid (F = false) := by show _ = _; rw [HF.out, decide_eq_false (by omega), Bool.false_and]
    clear hE g1 g2
    refine wp_region_quiet_below (by kernel_rfl) (by kernel_rfl) ?_
    repeat (first | go_big_quiet_step (first | (go_at_call 57; exact Calls.regrown_of (HG.out _ _)) | (go_at_call 58; exact Calls.regrown_of (HC.out _ _))) | quiet_step (first | (go_at_call 57; exact Calls.regrown_of (HG.out _ _)) | (go_at_call 58; exact Calls.regrown_of (HC.out _ _))))
    refine wpQuiet_nil ?_
    intro w3 hw'
    have HB3 : Hid (Below w.heap.size w w3) := by obtain ⟨⟨dq, osq⟩, rfl⟩ := hw'; exact below_step HB0.out (below_regrown _ _ _)
    clear hw' HG HC
    go_wp2
    go_ret
    exact ⟨by rw [HF2.out]; rfl, HB3.out⟩

end Go.Proofs.YtjkdcpalgfakhaaGreat
/-
  What a buffer's Drop hands back and leaves. No conditions beyond what each theorem states.
-/
namespace Go.Proofs.YtjkdcpalgfakhaaGreat
open Go.ChangeShapes Go.WideShapes Go.ChangeAt Go.RowKit Go.Lib
set_option linter.unusedVariables false
set_option linter.unusedSimpArgs false

/-- In order, as pairs. -/
def PwE (es : List EV) : Prop := es.Pairwise fun a b => aheadM a.e b.e = true
theorem srt_pw {es : List EV} : SrtE es ↔ PwE es := by
  unfold SrtE PwE
  rw [List.pairwise_iff_getElem]
  constructor
  · intro h i j hi hj hij
    have := h i j hij hj
    rw [List.getD_eq_getElem?_getD, List.getD_eq_getElem?_getD, List.getElem?_eq_getElem hi, List.getElem?_eq_getElem hj] at this
    exact this
  · intro h i j hij hj
    have := h i j (by omega) hj hij
    rw [List.getD_eq_getElem?_getD, List.getD_eq_getElem?_getD, List.getElem?_eq_getElem (show i < es.length by omega), List.getElem?_eq_getElem hj]
    exact this
theorem drop_map (es : List EV) (h : List Vec.En) : (es.filter fun x => !pastE x.e h).map (·.e) = dropM (es.map (·.e)) h := by
  unfold dropM
  rw [List.filter_map]
  rfl
theorem vrow_firm {S : Nat → Prop} {w w' : World} {s : Option Addr} {h : List Vec.En} (hf : Firm S w (fun W => Vec.Row W s h)) {T : Nat → Prop} (hk : Kept T w w') (hT : ∀ k, T k → S k) : Vec.Row w' s h := hf w' (hk.mono fun k _ => hT k)
set_option maxHeartbeats 1600000 in
set_option maxRecDepth 20000 in
/-- The test that Drop hands to the library. -/
theorem dropc_any (e : Em) (xs : List OV) (p q : Option Addr) (c d : Nat) (h : List Vec.En) (s : Option Addr) (f b : Nat) (W : World) (hI : InE e xs p c q d W) (hS : SmallP xs) (hd : e.deps.length ≤ 100) (hf : fitE e = 0) (hH : Vec.Row W s h) (hk : Known h s f) (hb : W.cell? ⟨b, 0, none⟩ = some (.slice s h.length f)) :
    Calls Tryz.prog 37 #[ev e p c q d, .pointer (some ⟨b, 0, none⟩)] W fun r w' => r = .returned (.bool (pastE e h)) ∧ Below W.heap.size W w' := by
  have HP : Hid (∀ W', Below W.heap.size W W' → Calls Tryz.prog 38 #[ev e p c q d, .slice s h.length f] W' fun r w' => r = .returned (.bool (pastE e h)) ∧ Below W'.heap.size W' w') := fun W' hb' => pastE_spec e xs h p q s c d f W' (hI.below hb') hS hf (hH.below hb') hk.cap hk.nil hk.fits hk.right hk.len hd
  generalize pastE e h = PV at HP ⊢
  unfold ev at HP ⊢
  have HB0 : Hid (Below W.heap.size W (W.alloc (.cells #[.slice p e.deps.length c, .int .u16 e.txn.r, .int .u32 e.txn.seq, .int .u64 e.txn.clock, .int .i64 e.txn.user, .slice q e.txn.ops.length d] 38))) := below_alloc (Below.refl _ _) _
  have c0 := cellU hb HB0.out
  clear hI hH hk hb hS hf
  go_enter Tryz.func37, Tryz.ntmps37
  go_wp2_with fail
  refine (HP.out _ HB0.out).mono ?_
  rintro r w2 ⟨rfl, hb2⟩
  have HB2 := Lib.hid (below_step HB0.out hb2)
  clear hb2 HP HB0
  go_wp2
  go_ret
  exact ⟨rfl, HB2.out⟩
set_option maxHeartbeats 3200000 in
set_option maxRecDepth 20000 in
theorem drop_any {S : Nat → Prop} {K : Nat} {l : List Em} {w : World} (h : List Vec.En) (s : Option Addr) (f : Nat) (hB : Bufr S K l w) (hH : Firm S w (fun W => Vec.Row W s h)) (hk : Known h s f) : Calls Tryz.prog 17 #[.pointer (some ⟨K, 0, none⟩), .slice s h.length f] w fun r w' => r = .returned (.int .i64 ((l.length : Int) - ((dropM l h).length : Int))) ∧ ∃ S', Bufr S' K (dropM l h) w' ∧ Step S S' w w' := by
  obtain ⟨es, p, c, rfl, hJ⟩ := hB
  have eg : ∀ args w, (callFunc 37 args).run Tryz.prog w = .ok (.enter 37 args) w := enters_of Tryz.func37 (by kernel_rfl) rfl
  have hl := hJ.len
  have hlf : (es.filter fun x => !pastE x.e h).length ≤ es.length := List.length_filter_le _ _
  obtain ⟨W0, hW0⟩ : ∃ W0, W0 = w.alloc (.cells #[.slice s h.length f] 24) := ⟨_, rfl⟩
  have hb0 : Below w.heap.size w W0 := by rw [hW0]; exact below_alloc (Below.refl _ _) _
  have hbox : W0.heap[w.heap.size]? = some (.cells #[.slice s h.length f] 24 (0, 0)) := by rw [hW0]; exact heap_alloc_new w _
  have hJ0 := hJ.below hb0
  have hF0 := hH.below hb0
  have HDF := Lib.hid (deleteFunc_any 37 ⟨w.heap.size, 0, none⟩ (fun x => pastE x.e h) es p c W0 eg hJ0.room (by omega) (fun x hx B hpB W hkW => by
    have hT : ∀ k, k = B → (∃ a, p = some a ∧ k = a.block) ∨ p = none := fun k hk => by
      cases p with
      | none => exact Or.inr rfl
      | some a => exact Or.inl ⟨a, rfl, by rw [hk, hpB a rfl]⟩
    cases p with
    | none =>
      have hes := (hJ0.room.row layE_pos).none_nil layE_pos rfl
      rw [hes] at hx; cases hx
    | some a =>
      have hSB : ∀ k, k = B → S k := fun k hk => (hJ0.own k).2 (Or.inr ⟨a, rfl, by rw [hk, hpB a rfl]⟩)
      have hkS : Kept S W0 W := hkW.mono fun k _ => hSB k
      obtain ⟨h1, h2⟩ := hJ0.each x hx
      have hbW := hkW.stays hbox (fun hb => by
        have := hJ.lt _ (hSB _ hb)
        omega)
      exact dropc_any x.e x.ys x.p x.q x.c x.d h s f w.heap.size W (h1.into.keptX h2 hJ0.othersX hkS) h1.small h1.deps h1.fit (hF0 W hkS) hk (by rw [cell_of_block hbW]; rfl)))
  have HJ0 := Lib.hid hJ0
  have HF : Hid (∀ w2 w3, RoomE layE w2 p c (es.filter fun x => !pastE x.e h) → Kept (fun k => ∃ a, p = some a ∧ k = a.block) W0 w2 → w3 = w2.setCell ⟨K, 0, none⟩ (.slice p (es.filter fun x => !pastE x.e h).length c) → ∃ S', Bufr S' K (dropM (es.map (·.e)) h) w3 ∧ Step S S' w w3) := fun w2 w3 hr hk2 hw3 => by
    have hh2 := hk2.stays hJ0.head (fun ⟨a, e, he⟩ => hJ0.apart a e he.symm)
    have hh3 : w3.heap[K]? = some (.cells #[.slice p (es.filter fun x => !pastE x.e h).length c] 29 (0, 0)) := by
      rw [hw3]; exact setCell_block (o := 0) hh2 _
    have hkS : Kept S W0 w3 := by
      rw [hw3]
      exact Kept.set (hk2.mono fun k _ ⟨a, e, he⟩ => (hJ0.own k).2 (Or.inr ⟨a, e, he⟩)) ((hJ0.own K).2 (Or.inl rfl)) _
    refine ⟨S, ⟨_, p, c, (drop_map es h).symm, ⟨hh3, ?_, hJ0.own, srt_pw.2 ((srt_pw.1 hJ0.srt).filter _), by omega, fun x hx => ?_⟩⟩, ⟨(Kept.ofBelow hb0).trans hkS (fun _ _ h => h), fun k _ h => h⟩⟩
    · rcases hr.block with ⟨e1, e2, e3⟩ | ⟨B, rest, e1, h1, h2, h3, h4⟩
      · rw [e3, e1, e2]; exact RoomE.zero _ _
      · rw [e1]
        refine RoomE.of ?_ h2 h3 h4
        rw [hw3]
        exact (Below.heap_setCell w2 _ _ _ (fun he => hJ0.apart _ e1 he)).trans h1
    · obtain ⟨h1, h2⟩ := hJ0.each x (List.mem_filter.1 hx |>.1)
      exact ⟨⟨h1.into.keptX h2 hJ0.othersX hkS, h1.small, h1.ops, h1.deps, h1.fit⟩, h2.kept hJ0.othersX hkS⟩
  have c0 := hJ0.cell
  have HCK : Hid (∀ w2, Kept (fun k => ∃ a, p = some a ∧ k = a.block) W0 w2 → w2.heap[K]? = some (.cells #[.slice p es.length c] 29 (0, 0))) := fun w2 hk2 => hk2.stays hJ0.head (fun ⟨a, e, he⟩ => hJ0.apart a e he.symm)
  rw [← drop_map, List.length_map, List.length_map]
  have HLF := Lib.hid hlf
  generalize hfl : (es.filter fun x => !pastE x.e h).length = FL at HDF hlf HF ⊢
  clear hfl hJ hJ0 hF0 hH hk hbox eg
  subst hW0
  go_enter Tryz.func17, Tryz.ntmps17
  go_wp2_with fail
  refine HDF.out.mono ?_
  rintro r w2 ⟨rfl, hr2, hk2⟩
  have hh2 := HCK.out w2 hk2
  have d0 : w2.cell? ⟨K, 0, none⟩ = some (.slice p es.length c) := by rw [cell_of_block hh2]; rfl
  have f0 : w2.frozen? ⟨K, 0, none⟩ = false := frozen_of_block hh2
  have HF2 := Lib.hid (fun w3 he => HF.out w2 w3 hr2 hk2 he)
  have e0 : (w2.setCell ⟨K, 0, none⟩ (.slice p FL c)).cell? ⟨K, 0, none⟩ = some (.slice p FL c) := by rw [cell_of_block (setCell_block (o := 0) (cs := [.slice p es.length c]) hh2 _)]; rfl
  clear hr2 hk2 hh2 HF HDF HCK HJ0
  go_wp2
  go_ret
  rw [drop_map]
  exact ⟨rfl, HF2.out _ rfl⟩
end Go.Proofs.YtjkdcpalgfakhaaGreat
/-
  What a buffer's Take hands back and leaves. No conditions beyond what each theorem states.
-/
namespace Go.Proofs.YtjkdcpalgfakhaaGreat
open Go.ChangeShapes Go.WideShapes Go.ChangeAt Go.RowKit Go.Lib
set_option linter.unusedVariables false
set_option linter.unusedSimpArgs false

theorem loadEnv {w : World} {B : Nat} {cs : Array Value} {t : TypeId} (h : w.heap[B]? = some (.cells cs t (0, 0))) (hs : cs.size = 6) : (loadVar 38 ⟨B, 0, none⟩).run Tryz.prog w = .ok (.agg cs) w :=
  run_loadVar_row w B t 38 _ (0, 0) _ h Tryz.underlying38 rfl (by rw [hs]; exact szEnv)
theorem ready_at {l : List Em} {h : List Vec.En} {i : Nat} (hi : i < l.length) (hno : ∀ j, j < i → readyE (l.getD j e0) h = false) (hy : readyE (l.getD i e0) h = true) : readyM l h = some i := by
  induction l generalizing i with
  | nil => simp at hi
  | cons x l ih =>
    cases i with
    | zero =>
      have hy : readyE x h = true := by simpa using hy
      rw [readyM, if_pos hy]
    | succ i =>
      have h0 : readyE x h = false := by simpa using hno 0 (by omega)
      rw [readyM, if_neg (by rw [h0]; exact Bool.false_ne_true), ih (i := i) (by simpa using hi) (fun j hj => by have := hno (j + 1) (by omega); simpa using this) (by simpa using hy)]
      rfl
theorem ready_no {l : List Em} {h : List Vec.En} (hno : ∀ j, j < l.length → readyE (l.getD j e0) h = false) : readyM l h = none := by
  induction l with
  | nil => rfl
  | cons x l ih =>
    have h0 : readyE x h = false := by simpa using hno 0 (by simp)
    rw [readyM, if_neg (by rw [h0]; exact Bool.false_ne_true), ih (fun j hj => by have := hno (j + 1) (by simpa using hj); simpa using this)]
    rfl
theorem getD_em (es : List EV) {i : Nat} (h : i < es.length) : (es.map (·.e)).getD i e0 = (es.getD i x0E).e := by simp [List.getD_eq_getElem?_getD, h]
/-- A buffer whose row has been written anew. -/
theorem BufJ.next {S : Nat → Prop} {K : Nat} {es es' : List EV} {p p' : Option Addr} {c c' : Nat} {w w2 : World} (h : BufJ S K es p c w) (hr : RoomE layE w2 p' c' es') (hk : Kept (fun k => ∃ a, p = some a ∧ k = a.block) w w2) (hp : ∀ a, p' = some a → w.heap.size ≤ a.block ∨ ∃ b, p = some b ∧ a.block = b.block) (hs : SrtE es') (hl : es'.length ≤ 64) (he : ∀ x ∈ es', ArgE w x ∧ KindX w x.ys x.p x.q) :
    ∃ S', BufJ S' K es' p' c' (w2.setCell ⟨K, 0, none⟩ (.slice p' es'.length c')) ∧ Step S S' w (w2.setCell ⟨K, 0, none⟩ (.slice p' es'.length c')) := by
  have hh2 := hk.stays h.head (fun ⟨a, e, he⟩ => h.apart a e he.symm)
  have hKw := lt_of_block h.head
  have hkS : Kept S w (w2.setCell ⟨K, 0, none⟩ (.slice p' es'.length c')) := Kept.set (hk.mono fun k _ ⟨a, e, he⟩ => (h.own k).2 (Or.inr ⟨a, e, he⟩)) ((h.own K).2 (Or.inl rfl)) _
  have hne : ∀ a, p' = some a → a.block ≠ K := fun a e => by
    rcases hp a e with h1 | ⟨b, e1, e2⟩
    · omega
    · rw [e2]; exact h.apart b e1
  refine ⟨fun k => k = K ∨ ∃ a, p' = some a ∧ k = a.block, ⟨setCell_block (o := 0) hh2 _, ?_, fun k => Iff.rfl, hs, hl, fun x hx => ?_⟩, ⟨hkS, fun k hkw hk2 => ?_⟩⟩
  · rcases hr.block with ⟨e1, e2, e3⟩ | ⟨B, rest, e1, h1, h2, h3, h4⟩
    · rw [e3, e1, e2]; exact RoomE.zero _ _
    · rw [e1]
      refine RoomE.of ?_ h2 h3 h4
      exact (Below.heap_setCell w2 _ _ _ (hne _ e1)).trans h1
  · obtain ⟨h1, h2⟩ := he x hx
    exact ⟨⟨h1.into.keptX h2 h.othersX hkS, h1.small, h1.ops, h1.deps, h1.fit⟩, h2.kept h.othersX hkS⟩
  · rcases hk2 with e | ⟨a, e1, e2⟩
    · exact (h.own k).2 (Or.inl e)
    · rcases hp a e1 with h1 | ⟨b, e3, e4⟩
      · omega
      · exact (h.own k).2 (Or.inr ⟨b, e3, by rw [e2, e4]⟩)
theorem BufJ.keptT {S T : Nat → Prop} {K : Nat} {es : List EV} {p : Option Addr} {c : Nat} {w w' : World} (h : BufJ S K es p c w) (hk : Kept T w w') (hT : ∀ k, T k → ¬ S k) (hX : OthersX T w) : BufJ S K es p c w' :=
  ⟨hk.stays h.head (fun ht => hT _ ht ((h.own K).2 (Or.inl rfl))), by
    rcases h.room.block with ⟨e1, e2, e3⟩ | ⟨B, rest, e1, h1, h2, h3, h4⟩
    · rw [e3, e1, e2]; exact RoomE.zero _ _
    · rw [e1]
      exact RoomE.of (hk.stays h1 (fun ht => hT _ ht ((h.own B).2 (Or.inr ⟨_, e1, rfl⟩)))) h2 h3 h4, h.own, h.srt, h.len, fun x hx => by
    obtain ⟨h1, h2⟩ := h.each x hx
    exact ⟨⟨h1.into.keptX h2 hX hk, h1.small, h1.ops, h1.deps, h1.fit⟩, h2.kept hX hk⟩⟩
theorem without_map (es : List EV) (i : Nat) : (es.take i ++ es.drop (i + 1)).map (·.e) = withoutM (es.map (·.e)) i := by
  unfold withoutM
  rw [List.map_append, List.map_take, List.map_drop]
theorem srt_without {es : List EV} (h : SrtE es) (i : Nat) : SrtE (es.take i ++ es.drop (i + 1)) := srt_pw.2 (by
  have := (srt_pw.1 h).sublist (List.eraseIdx_sublist es i)
  rw [List.eraseIdx_eq_take_drop_succ] at this
  exact this)
set_option maxHeartbeats 6400000 in
set_option maxRecDepth 20000 in
theorem btake_any {S : Nat → Prop} {K : Nat} {l : List Em} {w : World} (h : List Vec.En) (s : Option Addr) (f : Nat) (hB : Bufr S K l w) (hH : Firm S w (fun W => Vec.Row W s h)) (hk : Known h s f) : Calls Tryz.prog 12 #[.pointer (some ⟨K, 0, none⟩), .slice s h.length f] w fun r w' => ∃ S', Step S S' w w' ∧ ((∃ i, readyM l h = some i ∧ Taken l i r w' ∧ Bufr S' K (withoutM l i) w') ∨ (readyM l h = none ∧ TookNone r ∧ Bufr S' K l w')) := by
  obtain ⟨es, p, c, rfl, hJ⟩ := hB
  have hl := hJ.len
  obtain ⟨W0, hW0⟩ : ∃ W0, W0 = w.alloc (.cells #[.slice none 0 0, .int .u16 0, .int .u32 0, .int .u64 0, .int .i64 0, .slice none 0 0] 38) := ⟨_, rfl⟩
  have hb0 : Below w.heap.size w W0 := by rw [hW0]; exact below_alloc (Below.refl _ _) _
  have HR0 : Hid (W0.heap[w.heap.size]? = some (.cells #[.slice none 0 0, .int .u16 0, .int .u32 0, .int .u64 0, .int .i64 0, .slice none 0 0] 38 (0, 0))) := by show _ = _; rw [hW0]; exact heap_alloc_new w _
  have HJ := Lib.hid (hJ.below hb0)
  have HB0 := Lib.hid hb0
  have HH0 := Lib.hid (hH.below hb0)
  have HLT : Hid (¬ S w.heap.size) := fun hs => by have := hJ.lt _ hs; omega
  have HK := Lib.hid hk
  have HRD : Hid (∀ k, k < es.length → ∀ W, Below W0.heap.size W0 W → Calls Tryz.prog 30 #[ev (es.getD k x0E).e (es.getD k x0E).p (es.getD k x0E).c (es.getD k x0E).q (es.getD k x0E).d, .slice s h.length f] W fun r w' => r = .returned (.bool (readyE (es.getD k x0E).e h)) ∧ Below W.heap.size W w') := fun k hlt W hb => by
    obtain ⟨h1, -⟩ := HJ.out.each _ (getD_mem x0E hlt)
    exact readyE_spec _ _ h _ _ s _ _ f W (h1.into.below hb) h1.small h1.fit (HH0.out.below hb).now hk.cap hk.nil hk.fits hk.right hk.len h1.deps
  have HYES : Hid (∀ i, i < es.length → (∀ j, j < i → readyE (es.getD j x0E).e h = false) → readyE (es.getD i x0E).e h = true → readyM (es.map (·.e)) h = some i) := fun i hi h1 h2 => ready_at (by rw [List.length_map]; exact hi) (fun j hj => by rw [getD_em es (by omega)]; exact h1 j hj) (by rw [getD_em es hi]; exact h2)
  have HNO : Hid ((∀ j, j < es.length → readyE (es.getD j x0E).e h = false) → readyM (es.map (·.e)) h = none) := fun h1 => ready_no (fun j hj => by rw [List.length_map] at hj; rw [getD_em es hj]; exact h1 j hj)
  unfold ev at HRD
  clear hJ hH hk hb0
  generalize hRb : w.heap.size = R at HR0 HLT
  have HRB := Lib.hid hRb
  go_enter Tryz.func12, Tryz.ntmps12
  go_wp2_with fail
  rw [← hW0]
  clear hW0 hRb
  refine wp_scope_loop 0 (fun a' w' => ∃ (k : Nat) (c7 c8 c9 c10 c11 c12 c13 c14 c15 c16 c17 c18 c19 c20 c21 c22 c23 c24 c25 c26 c27 c28 c29 c30 c31 c32 c33 c34 c35 c36 c37 c38 c39 c40 : Value), a' = { tmps := #[.pointer (some ⟨K, 0, none⟩), .slice s h.length f, undef, undef, .pointer (some ⟨R, 0, none⟩), .bool false, .int .i64 (k : Int), c7, c8, c9, c10, c11, c12, c13, c14, c15, c16, c17, c18, c19, c20, c21, c22, c23, c24, c25, c26, c27, c28, c29, c30, c31, c32, c33, c34, c35, c36, c37, c38, c39, c40], defers := [] } ∧ k ≤ es.length ∧ (∀ j, j < k → readyE (es.getD j x0E).e h = false) ∧ Below W0.heap.size W0 w') (fun a' _ => es.length - natOf (a'.tmps.getD 6 undef)) rfl ?_ ?_
  · intro hpass
    have HP := Lib.hid hpass
    clear hpass
    go_wp2_with fail
    go_step3
    rename_i KK hKK
    exact hKK _ _ (HP.out _ _ ⟨0, _, _, _, _, _, _, _, _, _, _, _, _, _, _, _, _, _, _, _, _, _, _, _, _, _, _, _, _, _, _, _, _, _, _, rfl, Nat.zero_le _, fun j hj => absurd hj (Nat.not_lt_zero _), Below.refl _ _⟩)
  · rintro a' wr ⟨k, c7, c8, c9, c10, c11, c12, c13, c14, c15, c16, c17, c18, c19, c20, c21, c22, c23, c24, c25, c26, c27, c28, c29, c30, c31, c32, c33, c34, c35, c36, c37, c38, c39, c40, rfl, hk, hno, hB⟩
    have HB := Lib.hid hB
    have HN := Lib.hid hno
    clear hB hno
    have c0 := (HJ.out.below HB.out).cell
    by_cases hlt : k < es.length
    · have hkl : (k : Int) < (es.length : Int) := by omega
      have hke : ((k : Int) == (es.length : Int)) = false := beq_no (by omega)
      have hki : ¬ (k : Int) = (es.length : Int) := by omega
      obtain ⟨o1, o2, e0', d0, d1, d2, d3, d4, d5⟩ := erow_at (HJ.out.below HB.out).row hlt
      have HRK := Lib.hid (HRD.out k hlt)
      have HJR := Lib.hid (HJ.out.below HB.out)
      have HNK : Hid (readyE (es.getD k x0E).e h = false → ∀ j, j < k + 1 → readyE (es.getD j x0E).e h = false) := fun hh j hj => by
        by_cases e : j = k
        · subst e; exact hh
        · exact HN.out j (by omega)
      have HYK : Hid (readyE (es.getD k x0E).e h = true → readyM (es.map (·.e)) h = some k) := HYES.out k hlt HN.out
      have HTK : Hid (∀ W, Kept S wr W → InE (es.getD k x0E).e (es.getD k x0E).ys (es.getD k x0E).p (es.getD k x0E).c (es.getD k x0E).q (es.getD k x0E).d W ∧ KindX W (es.getD k x0E).ys (es.getD k x0E).p (es.getD k x0E).q ∧ SmallP (es.getD k x0E).ys ∧ (es.getD k x0E).ys.length ≤ 40) := fun W hW => by
        obtain ⟨h1, h2⟩ := HJR.out.each _ (getD_mem x0E hlt)
        exact ⟨h1.into.keptX h2 HJR.out.othersX hW, h2.kept HJR.out.othersX hW, h1.small, h1.ops⟩
      have HLK : Hid ((es.map (·.e))[k]? = some (es.getD k x0E).e) := by
        show _ = _
        rw [List.getElem?_map, List.getElem?_eq_getElem hlt, List.getD_eq_getElem?_getD, List.getElem?_eq_getElem hlt]
        rfl
      have HDL : Hid (∀ W, Below wr.heap.size wr W → Calls Tryz.prog 31 #[.slice p es.length c, .int .i64 (k : Int), .int .i64 ((k : Int) + 1)] W fun e w' => e = .returned (.slice p (es.length - 1) c) ∧ RoomE layE w' p c (es.take k ++ es.drop (k + 1)) ∧ Kept (fun j => ∃ a, p = some a ∧ j = a.block) W w') := fun W hb => delete_any layE rfl es k p c W (by omega) hlt (HJR.out.below hb).room
      have HNX : Hid (∀ Wa w2, Below wr.heap.size wr Wa → RoomE layE w2 p c (es.take k ++ es.drop (k + 1)) → Kept (fun j => ∃ a, p = some a ∧ j = a.block) Wa w2 → w2.heap[K]? = some (.cells #[.slice p es.length c] 29 (0, 0)) ∧ ∃ S', BufJ S' K (es.take k ++ es.drop (k + 1)) p c (w2.setCell ⟨K, 0, none⟩ (.slice p (es.length - 1) c)) ∧ Step S S' Wa (w2.setCell ⟨K, 0, none⟩ (.slice p (es.length - 1) c))) := fun Wa w2 hb hr hk2 => by
        have hJa := HJR.out.below hb
        have hln : (es.take k ++ es.drop (k + 1)).length = es.length - 1 := by simp; omega
        have := hJa.next (w2 := w2) (es' := es.take k ++ es.drop (k + 1)) (p' := p) (c' := c) hr hk2 (fun a e => Or.inr ⟨a, e, rfl⟩) (srt_without hJa.srt k) (by rw [hln]; omega) (fun x hx => hJa.each x (by
          rcases List.mem_append.1 hx with hx | hx
          · exact List.mem_of_mem_take hx
          · exact List.mem_of_mem_drop hx))
        rw [hln] at this
        exact ⟨hk2.stays hJa.head (fun ⟨a, e, he⟩ => hJa.apart a e he.symm), this⟩
      generalize readyE (es.getD k x0E).e h = F at HRK HNK HYK
      generalize xdef : es.getD k x0E = X1 at d0 d1 d2 d3 d4 d5 HRK HTK HLK
      clear xdef
      obtain ⟨⟨xd, ⟨xr, xq, xc, xu, xo⟩⟩, xys, xp, xcc, xqq, xdd⟩ := X1
      simp only at d0 d1 d2 d3 d4 d5 HRK HTK HLK
      subst e0'
      have HBX : Hid (Below wr.heap.size wr (wr.alloc (.cells #[.slice xp xd.length xcc, .int .u16 xr, .int .u32 xq, .int .u64 xc, .int .i64 xu, .slice xqq xo.length xdd] 38))) := below_alloc (Below.refl _ _) _
      have HZX := Lib.hid (heap_alloc_new wr (.cells #[.slice xp xd.length xcc, .int .u16 xr, .int .u32 xq, .int .u64 xc, .int .i64 xu, .slice xqq xo.length xdd] 38))
      have HR1 := Lib.hid (kept_box HR0.out HB.out)
      go_wp2_with fail
      refine (HRK.out _ (below_step HB.out HBX.out)).mono ?_
      rintro r w5 ⟨rfl, hb5⟩
      have HB5 := Lib.hid (below_step HBX.out hb5)
      have HZ5 := Lib.hid (kept_box HZX.out hb5)
      have c1 := (HJR.out.below HB5.out).cell
      clear hb5 HRK HBX HZX d0 d1 d2 d3 d4 d5 c0 HRD HYES
      cases F with
      | false =>
        have HNN2 := Lib.hid (HNK.out rfl)
        have HBF := Lib.hid (below_step HB.out HB5.out)
        clear HTK HLK HDL HNX HYK
        go_wp2_with fail
        go_step3
        exact ⟨rfl, ⟨k + 1, _, _, _, _, _, _, _, _, _, _, _, _, _, _, _, _, _, _, _, _, _, _, _, _, _, _, _, _, _, _, _, _, _, _, by first | rfl | go_num | (simp only [Act.put, List.setIfInBounds_toArray, List.set_cons_succ, List.set_cons_zero]; go_num), by omega, HNN2.out, HBF.out⟩, by show es.length - (((k + 1 : Nat) : Int)).toNat < es.length - ((k : Nat) : Int).toNat; omega⟩
      | true =>
        have HYY := Lib.hid (HYK.out rfl)
        have HD5 := Lib.hid (HDL.out w5 HB5.out)
        have HN5 := Lib.hid (fun w2 => HNX.out w5 w2 HB5.out)
        have hRlt : R < w5.heap.size := lt_of_block (kept_box HR1.out HB5.out)
        clear HDL HNX HNK
        go_wp2_with fail
        refine HD5.out.mono ?_
        rintro r w6 ⟨rfl, hr6, hk6⟩
        obtain ⟨hh6, S', hJ7, hst⟩ := HN5.out w6 hr6 hk6
        have hSo : S o1 := (HJR.out.own o1).2 (Or.inr ⟨_, rfl, rfl⟩)
        have hSK : S K := (HJR.out.own K).2 (Or.inl rfl)
        have ho1 := HJR.out.lt _ hSo
        have hKl := HJR.out.lt _ hSK
        have hRK : R ≠ K := fun e => HLT.out (by rw [e]; exact hSK)
        have hRo : R ≠ o1 := fun e => HLT.out (by rw [e]; exact hSo)
        have hZ7 : (w6.setCell ⟨K, 0, none⟩ (.slice (some ⟨o1, o2, none⟩) (es.length - 1) c)).heap[wr.heap.size]? = some (.cells #[.slice xp xd.length xcc, .int .u16 xr, .int .u32 xq, .int .u64 xc, .int .i64 xu, .slice xqq xo.length xdd] 38 (0, 0)) :=
          (Below.heap_setCell w6 _ _ _ (show wr.heap.size ≠ K by omega)).trans (hk6.stays HZ5.out (fun ⟨a, e, he⟩ => by cases e; simp only at he; omega))
        have hR7 : (w6.setCell ⟨K, 0, none⟩ (.slice (some ⟨o1, o2, none⟩) (es.length - 1) c)).heap[R]? = some (.cells #[.slice none 0 0, .int .u16 0, .int .u32 0, .int .u64 0, .int .i64 0, .slice none 0 0] 38 (0, 0)) :=
          (Below.heap_setCell w6 _ _ _ (show R ≠ K by omega)).trans (hk6.stays (kept_box HR1.out HB5.out) (fun ⟨a, e, he⟩ => by cases e; exact hRo he))
        have d0 : w6.cell? ⟨K, 0, none⟩ = some (.slice (some ⟨o1, o2, none⟩) es.length c) := by rw [cell_of_block hh6]; rfl
        have f0 : w6.frozen? ⟨K, 0, none⟩ = false := frozen_of_block hh6
        have HF : Hid (∀ W8, Kept (fun j => j = R) (w6.setCell ⟨K, 0, none⟩ (.slice (some ⟨o1, o2, none⟩) (es.length - 1) c)) W8 → Step S S' w W8 ∧ BufJ S' K (es.take k ++ es.drop (k + 1)) (some ⟨o1, o2, none⟩) c W8 ∧ InE ⟨xd, ⟨xr, xq, xc, xu, xo⟩⟩ xys xp xcc xqq xdd W8 ∧ SmallP xys ∧ xys.length ≤ 40) := fun W8 hk8 => by
          have hX : OthersX (fun j => j = R) (w6.setCell ⟨K, 0, none⟩ (.slice (some ⟨o1, o2, none⟩) (es.length - 1) c)) := fun j hj cs t f hh => by
            rw [hj] at hh
            have h9 := hR7.symm.trans hh
            simp only [Option.some.injEq, Obj.cells.injEq] at h9
            rw [← h9.2.1]
            exact ⟨by decide, by decide, by decide⟩
          have hb5 : Below w.heap.size w w5 := below_step HB0.out (below_step HB.out HB5.out)
          obtain ⟨t1, t2, t3, t4⟩ := HTK.out _ ((Kept.ofBelow HB5.out).trans hst.kept (fun _ _ h => h))
          exact ⟨⟨((Kept.ofBelow hb5).trans hst.kept (fun _ _ h => h)).trans hk8 (fun i hi e => by rw [e, ← HRB.out] at hi; omega), fun j hj hS' => hst.new j (by have := hb5.size; omega) hS'⟩, hJ7.keptT hk8 (fun j e hS' => HLT.out (by rw [e] at hS'; exact hst.new R hRlt hS')) hX, t1.keptX t2 hX hk8, t3, t4⟩
        have HR7 := Lib.hid hR7
        obtain ⟨y0, y1, y2, y3, y4, y5⟩ := six_cells hZ7
        obtain ⟨z0, z1, z2, z3, z4, z5⟩ := six_cells hR7
        have g : ∀ o, (w6.setCell ⟨K, 0, none⟩ (.slice (some ⟨o1, o2, none⟩) (es.length - 1) c)).frozen? ⟨R, o, none⟩ = false := fun o => frozen_of_block hR7
        have g0 := g 0
        have g1 := g 1
        have g2 := g 2
        have g3 := g 3
        have g4 := g 4
        have g5 := g 5
        clear g hZ7 hR7 hJ7 hst hr6 hk6 hh6 HD5 HN5 HTK HZ5 HR1 HJR hSo hSK HH0 HJ HNO c1
        go_wp2_with fail
        simp only [Exit.jump]
        refine bodyPost_ret (results_ct (p := 4) (t := 5) (ty := 38) rfl _ _ ⟨R, 0, none⟩ (.agg #[.slice xp xd.length xcc, .int .u16 xr, .int .u32 xq, .int .u64 xc, .int .i64 xu, .slice xqq xo.length xdd]) rfl (loadEnv (box_six HR7.out) rfl)) rfl ?_
        obtain ⟨h1, h2, h3, h4, h5⟩ := HF.out _ (Kept.cells (S := fun j => j = R) rfl [.slice xp xd.length xcc, .int .u16 xr, .int .u32 xq, .int .u64 xc, .int .i64 xu, .slice xqq xo.length xdd] 0 _ _ (Kept.refl _ _))
        exact ⟨S', h1, Or.inl ⟨k, HYY.out, ⟨_, xys, xp, xcc, xqq, xdd, HLK.out, rfl, h3, h4, h5⟩, _, _, _, (without_map es k).symm, h2⟩⟩
    · have hke : k = es.length := by omega
      subst hke
      have HNN := Lib.hid (HNO.out HN.out)
      have hkn : ((es.length : Int) == (es.length : Int)) = true := by simp
      have hR1 := kept_box HR0.out HB.out
      have HF : Hid (∀ W8, Kept (fun j => j = R) wr W8 → Step S S w W8 ∧ BufJ S K es p c W8) := fun W8 hk8 => by
        have hX : OthersX (fun j => j = R) wr := fun j hj cs t f hh => by
          rw [hj] at hh
          have h9 := hR1.symm.trans hh
          simp only [Option.some.injEq, Obj.cells.injEq] at h9
          rw [← h9.2.1]
          exact ⟨by decide, by decide, by decide⟩
        exact ⟨⟨(Kept.ofBelow (below_step HB0.out HB.out)).trans hk8 (fun i hi e => by rw [e, ← HRB.out] at hi; omega), fun j _ h => h⟩, (HJ.out.below HB.out).keptT hk8 (fun j e hS' => HLT.out (by rw [e] at hS'; exact hS')) hX⟩
      have HR1 := Lib.hid hR1
      obtain ⟨z0, z1, z2, z3, z4, z5⟩ := six_cells hR1
      have g : ∀ o, wr.frozen? ⟨R, o, none⟩ = false := fun o => frozen_of_block hR1
      have g0 := g 0
      have g1 := g 1
      have g2 := g 2
      have g3 := g 3
      have g4 := g 4
      have g5 := g 5
      clear g hR1 HRD HYES HNO HJ HH0
      go_wp2_with fail
      simp only [Exit.jump]
      refine bodyPost_ret (results_ct (p := 4) (t := 5) (ty := 38) rfl _ _ ⟨R, 0, none⟩ (.agg #[.slice none 0 0, .int .u16 0, .int .u32 0, .int .u64 0, .int .i64 0, .slice none 0 0]) rfl (loadEnv (box_six HR1.out) rfl)) rfl ?_
      obtain ⟨h1, h2⟩ := HF.out _ (Kept.cells (S := fun j => j = R) rfl [.slice none 0 0, .int .u16 0, .int .u32 0, .int .u64 0, .int .i64 0, .slice none 0 0] 0 _ _ (Kept.refl _ _))
      exact ⟨S, h1, Or.inr ⟨HNN.out, ⟨⟨[], ⟨0, 0, 0, 0, []⟩⟩, none, 0, none, 0, rfl, rfl, rfl⟩, _, _, _, rfl, h2⟩⟩
end Go.Proofs.YtjkdcpalgfakhaaGreat
