/-
  Several texts of one proof, joined: each part says at its head what it proves. No conditions beyond what each theorem states.
-/
import Derived.Deep.RegionLaw
import Derived.Test.YtjkdcpalgfakhaaGreatZ04
import Derived.Test.YtjkdcpalgfakhaaGreatRows
/-
  Rows of entries that a call has made, and what refs, right and same hand back. No conditions beyond what each theorem states.
-/
namespace Go.Proofs.YtjkdcpalgfakhaaGreat.Vec
open Go.ChangeShapes Go.WideShapes Go.ChangeAt Go.RowKit
set_option linter.unusedVariables false
set_option linter.unusedSimpArgs false

theorem info39 : (Tryz.prog.info? 75).map (fun i => (i.zero, i.size, i.bytes)) = some (some (.agg #[.int .u16 0, .int .u32 0]), 2, 8) := by kernel_rfl
theorem info55 : (Tryz.prog.info? 74).map (fun i => (i.zero, i.size, i.bytes)) = some (some (.agg #[.int .u16 0, .int .u32 0]), 2, 8) := by kernel_rfl
theorem info52 : (Tryz.prog.info? 69).map (fun i => (i.zero, i.size, i.bytes)) = some (some (.agg #[.int .u16 0, .int .u32 0, .int .u32 0]), 3, 12) := by kernel_rfl
theorem info51 : (Tryz.prog.info? 124).map (fun i => (i.zero, i.size, i.bytes)) = some (some (.agg #[.int .u16 0, .int .u32 0, .int .u32 0]), 3, 12) := by kernel_rfl

/-- The cells of entries, one behind the other. -/
def cellsL : List En → List Value
  | [] => []
  | x :: xs => .int .u16 x.1 :: .int .u32 x.2 :: cellsL xs
theorem cellsL_length (xs : List En) : (cellsL xs).length = xs.length * 2 := by
  induction xs with
  | nil => rfl
  | cons x xs ih => simp [cellsL, ih]; omega
theorem cellsL_append (xs ys : List En) : cellsL (xs ++ ys) = cellsL xs ++ cellsL ys := by
  induction xs with
  | nil => rfl
  | cons x xs ih => simp [cellsL, ih]
theorem cellsL_at (xs : List En) (i : Nat) (h : i < xs.length) : (cellsL xs)[i * 2]? = some (.int .u16 (atL xs i).1) ∧ (cellsL xs)[i * 2 + 1]? = some (.int .u32 (atL xs i).2) := by
  induction xs generalizing i with
  | nil => simp at h
  | cons x xs ih =>
    cases i with
    | zero => simp [cellsL, atL]
    | succ i =>
      have := ih i (by simpa using h)
      rw [show (i + 1) * 2 = i * 2 + 1 + 1 by omega]
      simpa [cellsL, atL] using this
theorem cellsL_one (xs : List En) : ∀ u ∈ cellsL xs, u.oneCell' = true := by
  induction xs with
  | nil => intro u hu; cases hu
  | cons x xs ih => intro u hu; simp only [cellsL, List.mem_cons] at hu; rcases hu with rfl | rfl | hu; rfl; rfl; exact ih u hu
theorem atL_append_left {xs ys : List En} {i : Nat} (h : i < xs.length) : atL (xs ++ ys) i = atL xs i := by simp [atL, List.getElem?_append_left h]
theorem atL_drop (xs : List En) (k i : Nat) : atL (xs.drop k) i = atL xs (k + i) := by simp [atL, List.getElem?_drop]
theorem atL_take (xs : List En) (k i : Nat) (h : i < k) : atL (xs.take k) i = atL xs i := by simp [atL, List.getElem?_take, h]
theorem take_atL (xs : List En) (k : Nat) (h : k < xs.length) : xs.take (k + 1) = xs.take k ++ [atL xs k] := by
  rw [List.take_add_one]; simp [atL, h]
theorem atL_mem {xs : List En} {i : Nat} (h : i < xs.length) : atL xs i ∈ xs := by simp [atL, h]
theorem mem_atL {xs : List En} {x : En} (h : x ∈ xs) : ∃ i, i < xs.length ∧ atL xs i = x := by
  obtain ⟨i, hi, e⟩ := List.getElem_of_mem h
  exact ⟨i, hi, by simp [atL, hi, e]⟩

/-- What a call's own row holds, read. -/
theorem row_of_owns {w : World} {base n : Nat} {e : TypeId} {v : Value} {xs : List En} (h : w.ownsRow base e 2 v n (cellsL xs)) : ∃ p c, v = .slice p xs.length c ∧ n = xs.length ∧ Row w p xs := by
  have hn : n = xs.length := by have := h.1; rw [cellsL_length] at this; omega
  subst hn
  rcases h.2 with ⟨hv, h0⟩ | ⟨g, cap, cur, rfl, hb, hh, h1, h2, h3, h4⟩
  · exact ⟨none, 0, by rw [hv, h0], rfl, fun i hi => by omega⟩
  · refine ⟨_, cap, rfl, rfl, fun i hi => ⟨g, 0, rfl, ?_, ?_⟩⟩
    · rw [h.cellAt (0 + i * 2) (by omega), Nat.zero_add]; exact (cellsL_at xs i hi).1
    · rw [h.cellAt (0 + i * 2 + 1) (by omega), Nat.zero_add]; exact (cellsL_at xs i hi).2

theorem cells_pair {W : World} {b : Nat} {x y : Value} (t : TypeId) (hx : W.cell? ⟨b, 0, none⟩ = some x) (hy : W.cell? ⟨b, 1, none⟩ = some y) : ∀ j u, [x, y][j]? = some u → W.cell? ((⟨b, 0, none⟩ : Addr).add j) = some u := by
  intro j u hj
  match j, hj with
  | 0, hj => simp at hj; subst hj; simpa [Addr.add] using hx
  | 1, hj => simp at hj; subst hj; simpa [Addr.add] using hy
theorem pair_one (x y : Int) : ∀ u ∈ [Value.int .u16 x, Value.int .u32 y], u.oneCell' = true := by intro u hu; simp at hu; rcases hu with rfl | rfl <;> rfl

/-- A slice that the call has made, holding these entries. -/
def Gave (w : World) (xs : List En) (e : Ending) (w' : World) : Prop := ∃ p c, e = .returned (.slice p xs.length c) ∧ Row w' p xs ∧ Below w.heap.size w w'

/-- right: at most 60 entries that are a vector. -/
def rightS (xs : List En) : Bool := decide (xs.length ≤ 60) && rightB xs
theorem rightS_big {xs : List En} (h : ¬ xs.length ≤ 60) : rightS xs = false := by simp [rightS, h]
theorem rightS_small {xs : List En} (h : xs.length ≤ 60) : rightS xs = rightB xs := by simp [rightS, h]

theorem list_ext_at {xs ys : List En} (h : xs.length = ys.length) (ha : ∀ i, i < xs.length → atL xs i = atL ys i) : xs = ys := by
  apply List.ext_getElem h
  intro i h1 h2
  have := ha i h1
  simpa [atL, h1, h2] using this

end Go.Proofs.YtjkdcpalgfakhaaGreat.Vec
/-
  What the document's With, Join, Lacks and Covers hand back, for every list of entries that lies in memory. No conditions beyond what each theorem states.
-/
namespace Go.Proofs.YtjkdcpalgfakhaaGreat.Vec
open Go.ChangeShapes Go.WideShapes Go.ChangeAt Go.RowKit
set_option linter.unusedVariables false
set_option linter.unusedSimpArgs false

def lo (xs : List En) (r : Int) : List En := xs.filter fun x => decide (x.1 < r)
def hi (xs : List En) (r : Int) : List En := xs.filter fun x => decide (r < x.1)
def mid (r s : Int) : List En := if 0 < s then [(r, s)] else []
/-- A vector by which so much of a replica is known. -/
def withL (xs : List En) (r s : Int) : List En := lo xs r ++ mid r s ++ hi xs r

theorem lo_step {xs : List En} {k : Nat} {r x y : Int} (h : k < xs.length) (e : atL xs k = (x, y)) (hx : x < r) : lo (xs.take (k + 1)) r = lo (xs.take k) r ++ [(x, y)] := by
  rw [take_atL xs k h, e]; simp [lo, hx]
theorem lo_skip {xs : List En} {k : Nat} {r x y : Int} (h : k < xs.length) (e : atL xs k = (x, y)) (hx : ¬ x < r) : lo (xs.take (k + 1)) r = lo (xs.take k) r := by
  rw [take_atL xs k h, e]; simp [lo, hx]
theorem hi_step {xs : List En} {k : Nat} {r x y : Int} (h : k < xs.length) (e : atL xs k = (x, y)) (hx : r < x) : hi (xs.take (k + 1)) r = hi (xs.take k) r ++ [(x, y)] := by
  rw [take_atL xs k h, e]; simp [hi, hx]
theorem hi_skip {xs : List En} {k : Nat} {r x y : Int} (h : k < xs.length) (e : atL xs k = (x, y)) (hx : ¬ r < x) : hi (xs.take (k + 1)) r = hi (xs.take k) r := by
  rw [take_atL xs k h, e]; simp [hi, hx]
theorem lo_le (xs : List En) (r : Int) : (lo xs r).length ≤ xs.length := List.length_filter_le _ _
theorem hi_le (xs : List En) (r : Int) : (hi xs r).length ≤ xs.length := List.length_filter_le _ _
theorem lo_take_le (xs : List En) (r : Int) (k : Nat) : (lo (xs.take k) r).length ≤ k := Nat.le_trans (lo_le _ _) (by simp; omega)
theorem hi_take_le (xs : List En) (r : Int) (k : Nat) : (hi (xs.take k) r).length ≤ k := Nat.le_trans (hi_le _ _) (by simp; omega)

/-- What the call holds so far: its own row, and all below as it was. -/
def Holding (w : World) (e : TypeId) (v : Value) (xs : List En) (wr : World) : Prop := wr.ownsRow w.heap.size e 2 v xs.length (cellsL xs) ∧ Below w.heap.size w wr
theorem Holding.nil (w : World) (e : TypeId) : Holding w e (.slice none 0 0) [] w := ⟨World.ownsRow_nil w w.heap.size e 2, Below.refl _ _⟩
theorem Holding.alloc {w wr : World} {e : TypeId} {v : Value} {xs : List En} (h : Holding w e v xs wr) (o : Obj) : Holding w e v xs (wr.alloc o) := ⟨h.1.alloc o, below_alloc h.2 o⟩
theorem Holding.onto {w wr w1 : World} {e : TypeId} {v v' : Value} {xs : List En} {x y : Int} (h : Holding w e v xs wr) (hown : w1.ownsRow w.heap.size e 2 v' (xs.length + 1) (cellsL xs ++ [.int .u16 x, .int .u32 y])) (hg : wr.grownBy w1 v.ownBlock) : Holding w e v' (xs ++ [(x, y)]) w1 :=
  ⟨by rw [cellsL_append, List.length_append]; exact hown, h.2.grown hg h.2.size (fun j hj => (h.1.lt j hj).1)⟩
theorem Holding.gave {w wr : World} {e : TypeId} {v : Value} {xs : List En} (h : Holding w e v xs wr) : ∃ p c, v = .slice p xs.length c ∧ Row wr p xs := by
  obtain ⟨p, c, h1, -, h2⟩ := row_of_owns h.1
  exact ⟨p, c, h1, h2⟩
/-- A slice that the call has made, in a block of this kind. -/
def GaveK (t : TypeId) (w : World) (xs : List En) (e : Ending) (w' : World) : Prop := ∃ p c, e = .returned (.slice p xs.length c) ∧ Row w' p xs ∧ xs.length ≤ c ∧ (p = none → c = 0) ∧ KindAt t w' p ∧ Below w.heap.size w w'
theorem GaveK.gave {t : TypeId} {w w' : World} {xs : List En} {e : Ending} (h : GaveK t w xs e w') : Gave w xs e w' := by
  obtain ⟨p, c, h1, h2, -, -, -, h3⟩ := h
  exact ⟨p, c, h1, h2, h3⟩
theorem Holding.gaveK {w wr : World} {e : TypeId} {v : Value} {xs : List En} (h : Holding w e v xs wr) : ∃ p c, v = .slice p xs.length c ∧ Row wr p xs ∧ xs.length ≤ c ∧ (p = none → c = 0) ∧ KindAt e wr p := by
  obtain ⟨p, c, rfl, hr⟩ := h.gave
  refine ⟨p, c, rfl, hr, ?_, ?_, kind_owns h.1⟩
  · rcases h.1.2 with ⟨hv, h0⟩ | ⟨g, cap, cur, hv, hb, hh, h1, h2, h3, h4⟩
    · omega
    · simp only [Value.slice.injEq] at hv; omega
  · intro e0
    rcases h.1.2 with ⟨hv, h0⟩ | ⟨g, cap, cur, hv, hb, hh, h1, h2, h3, h4⟩
    · simp only [Value.slice.injEq] at hv; exact hv.2.2
    · simp only [Value.slice.injEq] at hv; rw [hv.1] at e0; cases e0


set_option maxHeartbeats 3200000 in
theorem refwith_kind (xs : List En) (r s : Int) (p : Option Addr) (c : Nat) (w : World) (hR : Row w p xs) (hl : xs.length ≤ 50000) :
    Calls Tryz.prog 73 #[.slice p xs.length c, .int .u16 r, .int .u32 s] w (GaveK 75 w (withL xs r s)) := by
  have HR : Hid (Row w p xs) := hR
  clear hR
  obtain ⟨i0, hi, hz0, hz1, hz2⟩ := info_parts info39
  go_enter Tryz.func73, Tryz.ntmps73
  go_wp2
  go_loopg [7, 8] xs.length (fun g v i wr => ∃ k : Nat, k ≤ xs.length ∧ xs.length - k ≤ g ∧ i = .int .i64 k ∧ Holding w 75 v (lo (xs.take k) r) wr)
  case atStart => exact ⟨0, Nat.zero_le _, by omega, rfl, by simpa [lo] using Holding.nil w 75⟩
  case round =>
    obtain ⟨k, hk, hg, rfl, hO⟩ := hrel
    have HO : Hid (Holding w 75 u7 (lo (xs.take k) r) wr) := hO
    clear hO
    by_cases hlt : k < xs.length
    · obtain ⟨b, o, rfl, c0', c1'⟩ := HR.out k hlt
      have c0 := cellU c0' HO.out.2
      have c1 := cellU c1' HO.out.2
      clear c0' c1'
      generalize hx : (atL xs k).1 = x at c0
      generalize hy : (atL xs k).2 = y at c1
      have B : Hid (atL xs k = (x, y)) := Prod.ext hx hy
      clear hx hy
      by_cases hxr : x < r
      · have hle := lo_take_le xs r k
        go_wp2_with (first
          | (at_builtin; refine wpList_append_own _ rfl (.tmp 23) (.tmp 28) 42 rfl w.heap.size 75 i0 (.agg #[.int .u16 0, .int .u32 0]) 2 8 Tryz.underlying42 hi hz0 hz1 hz2 rfl (by decide) _ _ _ rfl (HO.out.alloc _).1 ⟨wr.heap.size, 0, none⟩ 1 1 [.int .u16 x, .int .u32 y] rfl rfl (cells_pair 75 (by simp) (by simp)) (pair_one x y) (by unfold maxLen; omega) (by omega) (by have := HO.out.2.size; simp; omega) ?_))
        intro v' w1 hown' hgrow _
        have HO2 : Hid (Holding w 75 v' (lo (xs.take (k + 1)) r) w1) := by rw [lo_step hlt B.out hxr]; exact (HO.out.alloc _).onto (by first | exact hown' | (rw [List.length_append]; exact hown')) hgrow
        clear hown' hgrow
        go_wp2
        go_roundg (xs.length - (k + 1))
        case measure => omega
        case rel => exact ⟨k + 1, by omega, Nat.le_refl _, by go_num, HO2.out⟩
      · go_wp2
        go_roundg (xs.length - (k + 1))
        case measure => omega
        case rel => exact ⟨k + 1, by omega, Nat.le_refl _, by go_num, by rw [lo_skip hlt B.out (by omega)]; exact HO.out⟩
    · have : k = xs.length := by omega
      subst this
      rw [List.take_length] at HO
      have hle := lo_le xs r
      obtain ⟨A, hA⟩ : ∃ A, A = lo xs r ++ mid r s := ⟨_, rfl⟩
      have HA : Hid (A = lo xs r ++ mid r s) := hA
      have hAl : A.length ≤ 50001 := by rw [hA, List.length_append, mid]; split <;> simp <;> omega
      clear hA
      by_cases hs : 0 < s
      case' pos =>
        go_wp2_with (first | (at_builtin; refine wpList_append_own _ rfl (.tmp 32) (.tmp 36) 42 rfl w.heap.size 75 i0 (.agg #[.int .u16 0, .int .u32 0]) 2 8 Tryz.underlying42 hi hz0 hz1 hz2 rfl (by decide) _ _ _ rfl (HO.out.alloc _).1 ⟨wr.heap.size, 0, none⟩ 1 1 [.int .u16 r, .int .u32 s] rfl rfl (cells_pair 75 (by simp) (by simp)) (pair_one r s) (by unfold maxLen; omega) (by omega) (by have := HO.out.2.size; simp; omega) ?_))
        intro v' w1 hown' hgrow _
        have HO2 : Hid (Holding w 75 v' A w1) := by rw [HA.out, mid, if_pos hs]; exact (HO.out.alloc _).onto (by first | exact hown' | (rw [List.length_append]; exact hown')) hgrow
        clear hown' hgrow
      case' neg =>
        have HO2 : Hid (Holding w 75 u7 A wr) := by rw [HA.out, mid, if_neg hs, List.append_nil]; exact HO.out
      all_goals
        clear HO
        go_wp2
        go_loopg [7, 9] xs.length (fun g v i wr => ∃ k : Nat, k ≤ xs.length ∧ xs.length - k ≤ g ∧ i = .int .i64 k ∧ Holding w 75 v (A ++ Vec.hi (xs.take k) r) wr)
        case atStart => exact ⟨0, Nat.zero_le _, by omega, rfl, by simpa [Vec.hi] using HO2.out⟩
        case round =>
          clear HO2
          obtain ⟨k, hk, hg, rfl, hO⟩ := hrel
          have HO : Hid (Holding w 75 u7 (A ++ Vec.hi (xs.take k) r) wr) := hO
          clear hO
          by_cases hlt : k < xs.length
          · obtain ⟨b, o, rfl, c0', c1'⟩ := HR.out k hlt
            have c0 := cellU c0' HO.out.2
            have c1 := cellU c1' HO.out.2
            clear c0' c1'
            generalize hx : (atL xs k).1 = x at c0
            generalize hy : (atL xs k).2 = y at c1
            have B : Hid (atL xs k = (x, y)) := Prod.ext hx hy
            clear hx hy
            by_cases hxr : r < x
            · have hle2 := hi_take_le xs r k
              have hle3 : (A ++ Vec.hi (xs.take k) r).length ≤ 100001 := by rw [List.length_append]; omega
              go_wp2_with (first
                | (at_builtin; refine wpList_append_own _ rfl (.tmp 51) (.tmp 56) 42 rfl w.heap.size 75 i0 (.agg #[.int .u16 0, .int .u32 0]) 2 8 Tryz.underlying42 hi hz0 hz1 hz2 rfl (by decide) _ _ _ rfl (HO.out.alloc _).1 ⟨wr.heap.size, 0, none⟩ 1 1 [.int .u16 x, .int .u32 y] rfl rfl (cells_pair 75 (by simp) (by simp)) (pair_one x y) (by unfold maxLen; omega) (by omega) (by have := HO.out.2.size; simp; omega) ?_))
              intro v2 w2 hown' hgrow _
              have HO2 : Hid (Holding w 75 v2 (A ++ Vec.hi (xs.take (k + 1)) r) w2) := by rw [hi_step hlt B.out hxr, ← List.append_assoc]; exact (HO.out.alloc _).onto (by first | exact hown' | (rw [List.length_append]; exact hown')) hgrow
              clear hown' hgrow
              go_wp2
              go_roundg (xs.length - (k + 1))
              case measure => omega
              case rel => exact ⟨k + 1, by omega, Nat.le_refl _, by go_num, HO2.out⟩
            · go_wp2
              go_roundg (xs.length - (k + 1))
              case measure => omega
              case rel => exact ⟨k + 1, by omega, Nat.le_refl _, by go_num, by rw [hi_skip hlt B.out (by omega)]; exact HO.out⟩
          · have : k = xs.length := by omega
            subst this
            rw [List.take_length] at HO
            obtain ⟨p', c', rfl, hr⟩ := HO.out.gaveK
            have HR' := Lib.hid hr
            clear hr
            go_wp2
            go_ret
            rw [HA.out] at HR' HO
            exact ⟨p', c', by rw [HA.out]; rfl, HR'.out.1, HR'.out.2.1, HR'.out.2.2.1, HR'.out.2.2.2, HO.out.2⟩
theorem refwith_any (xs : List En) (r s : Int) (p : Option Addr) (c : Nat) (w : World) (hR : Row w p xs) (hl : xs.length ≤ 50000) :
    Calls Tryz.prog 73 #[.slice p xs.length c, .int .u16 r, .int .u32 s] w (Gave w (withL xs r s)) := (refwith_kind xs r s p c w hR hl).mono fun _ _ h => h.gave

end Go.Proofs.YtjkdcpalgfakhaaGreat.Vec
/-
  What the document's Lacks and Covers hand back, for every two lists of entries that lie in memory. No conditions beyond what each theorem states.
-/
namespace Go.Proofs.YtjkdcpalgfakhaaGreat.Vec
open Go.ChangeShapes Go.WideShapes Go.ChangeAt Go.RowKit
set_option linter.unusedVariables false
set_option linter.unusedSimpArgs false

/-- append onto a row of the call's own, as one step of a region that draws. -/
theorem step_append_own {P : Program} {ops : Array Oper} {o : Oper} {a : Act} {w : World} {K : Act → World → Prop} {Q : Exit → Act → World → Prop} {E : Prop}
    (hg : o.guard = none) (s x : Operand) (t : TypeId) (hop : o.op = Op.call { callee := Callee.builtin Builtin.append, args := #[s, x], argTypes := #[t, t] })
    (base : Nat) (e : TypeId) (i : TypeInfo) (z : Value) (size bytes : Nat) (h1 : P.underlying t = some (.slice e)) (h2 : P.info? e = some i) (h3 : i.zero = some z) (h4 : i.size = size) (h5 : i.bytes = bytes) (h6 : z.cells.size = size) (h7 : 0 < size)
    (v : Value) (n : Nat) (xs : List Value) (hs : a.eval s = v) (hown : w.ownsRow base e size v n xs)
    (ad : Addr) (m c : Nat) (news : List Value) (hx : a.eval x = .slice (some ad) m c) (hn : news.length = m * size) (hc : ∀ j u, news[j]? = some u → w.cell? (ad.add j) = some u) (h1c : ∀ u ∈ news, u.oneCell' = true)
    (b1 : n + m ≤ maxLen) (b2 : (n + m) * bytes ≤ 140737488355328) (hbase : base ≤ w.heap.size)
    (hK : ∀ v' w', w'.ownsRow base e size v' (n + m) (xs ++ news) → w.grownBy w' v.ownBlock → K (a.put o.dst v') w') :
    if Region.wanted o (yielded ops a.tmps) = true then Oper.wp P o a w K Q else E := by
  have hw : Region.wanted o (yielded ops a.tmps) = true := by simp [Region.wanted, hg]
  rw [if_pos hw]
  obtain ⟨v', w', hrun, r1, r2, _⟩ := run_append_own (P := P) w base t o.type e i z size bytes h1 h2 h3 h4 h5 h6 h7 v n xs hown ad m c news hn hc h1c b1 b2 hbase
  unfold Oper.wp
  simp [execOp, hop, resolve, invoke, builtin, hs, hx, hrun, Result.andThen]
  exact hK v' w' r1 r2

abbrev Gp := Int × Int × Int
def at3 (gs : List Gp) (i : Nat) : Gp := gs.getD i (0, 0, 0)
def cells3 : List Gp → List Value
  | [] => []
  | x :: xs => .int .u16 x.1 :: .int .u32 x.2.1 :: .int .u32 x.2.2 :: cells3 xs
theorem cells3_length (xs : List Gp) : (cells3 xs).length = xs.length * 3 := by
  induction xs with
  | nil => rfl
  | cons x xs ih => simp [cells3, ih]; omega
theorem cells3_append (xs ys : List Gp) : cells3 (xs ++ ys) = cells3 xs ++ cells3 ys := by
  induction xs with
  | nil => rfl
  | cons x xs ih => simp [cells3, ih]
theorem cells3_at (xs : List Gp) (i : Nat) (h : i < xs.length) : (cells3 xs)[i * 3]? = some (.int .u16 (at3 xs i).1) ∧ (cells3 xs)[i * 3 + 1]? = some (.int .u32 (at3 xs i).2.1) ∧ (cells3 xs)[i * 3 + 2]? = some (.int .u32 (at3 xs i).2.2) := by
  induction xs generalizing i with
  | nil => simp at h
  | cons x xs ih =>
    cases i with
    | zero => simp [cells3, at3]
    | succ i =>
      have := ih i (by simpa using h)
      rw [show (i + 1) * 3 = i * 3 + 1 + 1 + 1 by omega]
      simpa [cells3, at3] using this
/-- A slice's address, at which the gaps lie, three cells each. -/
def Row3 (w : World) (p : Option Addr) (xs : List Gp) : Prop :=
  ∀ i, i < xs.length → ∃ b o, p = some ⟨b, o, none⟩ ∧ w.cell? ⟨b, o + i * 3, none⟩ = some (.int .u16 (at3 xs i).1) ∧ w.cell? ⟨b, o + i * 3 + 1, none⟩ = some (.int .u32 (at3 xs i).2.1) ∧ w.cell? ⟨b, o + i * 3 + 2, none⟩ = some (.int .u32 (at3 xs i).2.2)
theorem Row3.below {w w' : World} {p : Option Addr} {xs : List Gp} (h : Row3 w p xs) (hb : Below w.heap.size w w') : Row3 w' p xs := fun i hi => by
  obtain ⟨b, o, e, h1, h2, h3⟩ := h i hi
  exact ⟨b, o, e, cellU h1 hb, cellU h2 hb, cellU h3 hb⟩
theorem row3_of_owns {w : World} {base n : Nat} {e : TypeId} {v : Value} {xs : List Gp} (h : w.ownsRow base e 3 v n (cells3 xs)) : ∃ p c, v = .slice p xs.length c ∧ n = xs.length ∧ Row3 w p xs := by
  have hn : n = xs.length := by have := h.1; rw [cells3_length] at this; omega
  subst hn
  rcases h.2 with ⟨hv, h0⟩ | ⟨g, cap, cur, rfl, hb, hh, h1, h2, h3, h4⟩
  · exact ⟨none, 0, by rw [hv, h0], rfl, fun i hi => by omega⟩
  · refine ⟨_, cap, rfl, rfl, fun i hi => ⟨g, 0, rfl, ?_, ?_, ?_⟩⟩
    · rw [h.cellAt (0 + i * 3) (by omega), Nat.zero_add]; exact (cells3_at xs i hi).1
    · rw [h.cellAt (0 + i * 3 + 1) (by omega), Nat.zero_add]; exact (cells3_at xs i hi).2.1
    · rw [h.cellAt (0 + i * 3 + 2) (by omega), Nat.zero_add]; exact (cells3_at xs i hi).2.2
def Holding3 (w : World) (e : TypeId) (v : Value) (xs : List Gp) (wr : World) : Prop := wr.ownsRow w.heap.size e 3 v xs.length (cells3 xs) ∧ Below w.heap.size w wr
theorem Holding3.nil (w : World) (e : TypeId) : Holding3 w e (.slice none 0 0) [] w := ⟨World.ownsRow_nil w w.heap.size e 3, Below.refl _ _⟩
theorem Holding3.alloc {w wr : World} {e : TypeId} {v : Value} {xs : List Gp} (h : Holding3 w e v xs wr) (o : Obj) : Holding3 w e v xs (wr.alloc o) := ⟨h.1.alloc o, below_alloc h.2 o⟩
theorem Holding3.drewN {w wr : World} {e : TypeId} {v : Value} {xs : List Gp} (h : Holding3 w e v xs wr) (n : Nat) : Holding3 w e v xs (wr.drewN n) := ⟨h.1, below_drewN h.2 n⟩
theorem Holding3.below {w wr w1 : World} {e : TypeId} {v : Value} {xs : List Gp} (h : Holding3 w e v xs wr) (hb : Below wr.heap.size wr w1) : Holding3 w e v xs w1 :=
  ⟨h.1.kept (row := none) ⟨hb.os, hb.tape, hb.output, hb.size, fun k hk _ => hb.block k hk⟩ (by cases v.ownBlock <;> simp), below_step h.2 hb⟩
theorem Holding3.onto {w wr w1 : World} {e : TypeId} {v v' : Value} {xs : List Gp} {x y z : Int} (h : Holding3 w e v xs wr) (hown : w1.ownsRow w.heap.size e 3 v' (xs.length + 1) (cells3 xs ++ [.int .u16 x, .int .u32 y, .int .u32 z])) (hg : wr.grownBy w1 v.ownBlock) : Holding3 w e v' (xs ++ [(x, y, z)]) w1 :=
  ⟨by rw [cells3_append, List.length_append]; exact hown, h.2.grown hg h.2.size (fun j hj => (h.1.lt j hj).1)⟩
theorem Holding3.gave {w wr : World} {e : TypeId} {v : Value} {xs : List Gp} (h : Holding3 w e v xs wr) : ∃ p c, v = .slice p xs.length c ∧ Row3 wr p xs := by
  obtain ⟨p, c, h1, -, h2⟩ := row3_of_owns h.1
  exact ⟨p, c, h1, h2⟩
theorem cells_three {W : World} {b : Nat} {x y z : Value} (hx : W.cell? ⟨b, 0, none⟩ = some x) (hy : W.cell? ⟨b, 1, none⟩ = some y) (hz : W.cell? ⟨b, 2, none⟩ = some z) : ∀ j u, [x, y, z][j]? = some u → W.cell? ((⟨b, 0, none⟩ : Addr).add j) = some u := by
  intro j u hj
  match j, hj with
  | 0, hj => simp at hj; subst hj; simpa [Addr.add] using hx
  | 1, hj => simp at hj; subst hj; simpa [Addr.add] using hy
  | 2, hj => simp at hj; subst hj; simpa [Addr.add] using hz
theorem three_one (x y z : Int) : ∀ u ∈ [Value.int .u16 x, Value.int .u32 y, Value.int .u32 z], u.oneCell' = true := by intro u hu; simp at hu; rcases hu with rfl | rfl | rfl <;> rfl

/-- What another one knows beyond. -/
def lackAt (xs : List En) (y : En) : List Gp := if getL xs y.1 < y.2 then [(y.1, getL xs y.1 + 1, y.2)] else []
def lacksL (xs ys : List En) : List Gp := ys.flatMap (lackAt xs)
theorem lacksL_step {xs ys : List En} {k : Nat} (h : k < ys.length) : lacksL xs (ys.take (k + 1)) = lacksL xs (ys.take k) ++ lackAt xs (atL ys k) := by
  rw [take_atL ys k h]; simp [lacksL]
theorem lackAt_le (xs : List En) (y : En) : (lackAt xs y).length ≤ 1 := by unfold lackAt; split <;> simp
theorem lacksL_le (xs ys : List En) : (lacksL xs ys).length ≤ ys.length := by
  induction ys with
  | nil => simp [lacksL]
  | cons y ys ih => have := lackAt_le xs y; simp only [lacksL, List.flatMap_cons, List.length_append, List.length_cons] at ih ⊢; omega
def Gave3 (w : World) (xs : List Gp) (e : Ending) (w' : World) : Prop := ∃ p c, e = .returned (.slice p xs.length c) ∧ Row3 w' p xs ∧ Below w.heap.size w w'

/-- Values that the kinds hold. -/
def Fits (xs : List En) : Prop := ∀ x ∈ xs, 0 ≤ x.1 ∧ x.1 ≤ 65535 ∧ 0 ≤ x.2 ∧ x.2 ≤ 4294967295
theorem Fits.at {xs : List En} (h : Fits xs) {i : Nat} (hi : i < xs.length) : 0 ≤ (atL xs i).1 ∧ (atL xs i).1 ≤ 65535 ∧ 0 ≤ (atL xs i).2 ∧ (atL xs i).2 ≤ 4294967295 := h _ (atL_mem hi)
theorem getL_nonneg {xs : List En} (h : Fits xs) (r : Int) : 0 ≤ getL xs r := by
  induction xs with
  | nil => exact Int.le_refl _
  | cons x xs ih =>
    rw [getL]; split
    · exact (h x (by simp)).2.2.1
    · exact ih fun y hy => h y (by simp [hy])

set_option maxHeartbeats 3200000 in
set_option maxRecDepth 100000 in
theorem reflacks_any (xs ys : List En) (p q : Option Addr) (c d : Nat) (w : World) (hR : Row w p xs) (hS : Row w q ys) (hfx : Fits xs) (hfy : Fits ys) (hl : xs.length ≤ 50000) (hm : ys.length ≤ 50000) :
    Calls Tryz.prog 63 #[.slice p xs.length c, .slice q ys.length d] w (Gave3 w (lacksL xs ys)) := by
  have HS : Hid (Row w q ys) := hS
  have HR : Hid (Row w p xs) := hR
  clear hR hS
  obtain ⟨i0, hi, hz0, hz1, hz2⟩ := info_parts info51
  go_enter Tryz.func63, Tryz.ntmps63
  go_wp2
  go_loopg [5, 6] ys.length (fun g s i wr => ∃ k : Nat, k ≤ ys.length ∧ ys.length - k ≤ g ∧ i = .int .i64 k ∧ Holding3 w 124 s (lacksL xs (ys.take k)) wr)
  case atStart => exact ⟨0, Nat.zero_le _, by omega, rfl, by simpa [lacksL] using Holding3.nil w 124⟩
  case round =>
    obtain ⟨k, hk, hg, rfl, hO⟩ := hrel
    have HO : Hid (Holding3 w 124 u5 (lacksL xs (ys.take k)) wr) := hO
    clear hO
    by_cases hlt : k < ys.length
    · obtain ⟨b, o, rfl, c0', c1'⟩ := HS.out k hlt
      have c0 := cellU c0' HO.out.2
      have c1 := cellU c1' HO.out.2
      obtain ⟨-, -, y0, y1⟩ := hfy.at hlt
      clear c0' c1'
      generalize hx : (atL ys k).1 = x at c0
      generalize hy : (atL ys k).2 = y at c1 y0 y1
      have B : Hid (atL ys k = (x, y)) := Prod.ext hx hy
      clear hx hy
      have HG : Hid (Calls Tryz.prog 46 #[.slice p xs.length c, .int .u16 x] wr fun e w' => e = .returned (.int .u32 (getL xs x)) ∧ w' = wr) := refget_any xs x p c wr (HR.out.below HO.out.2) (by omega)
      have z0 := getL_nonneg hfx x
      generalize hz : getL xs x = z at HG z0
      have HZ : Hid (getL xs x = z) := hz
      clear hz
      have hll := lacksL_le xs (ys.take k)
      rw [List.length_take] at hll
      by_cases hlz : z < y
      · have hwz : IntKind.u32.wrap (z + 1) = z + 1 := by rw [IntKind.wrap_u32]; omega
        go_wp2_with (first | (go_at_call 46; refine HG.out.mono ?_; rintro e w' ⟨rfl, he⟩; obtain rfl := Eq.symm he))
        clear HG
        go_region_law (refine step_append_own rfl (.tmp 28) (.tmp 42) 93 rfl w.heap.size 124 i0 (.agg #[.int .u16 0, .int .u32 0, .int .u32 0]) 3 12 Tryz.underlying93 hi hz0 hz1 hz2 rfl (by decide) u5 (lacksL xs (ys.take k)).length (cells3 (lacksL xs (ys.take k))) (by simp [Act.eval, Act.put]) (by first | exact (HO.out.alloc _).1 | exact ((HO.out.drewN 1).alloc _).1) ⟨wr.heap.size, 0, none⟩ 1 1 [.int .u16 x, .int .u32 (z + 1), .int .u32 y] (by simp [Act.eval, Act.put]) rfl (cells_three (by simp) (by simp) (by simp)) (three_one x (z + 1) y) (by unfold maxLen; omega) (by omega) (by have := HO.out.2.size; simp; omega) ?_; intro v' w1 hown' hgrow)
        all_goals
          have HO2 : Hid (Holding3 w 124 v' (lacksL xs (ys.take (k + 1))) w1) := by
            rw [lacksL_step hlt, B.out, lackAt, if_pos (by simp only [HZ.out]; omega)]
            simp only [HZ.out]
            first | exact (HO.out.alloc _).onto hown' hgrow | exact ((HO.out.drewN 1).alloc _).onto hown' hgrow
          clear hown' hgrow
          go_wp2
          go_roundg (ys.length - (k + 1))
          case measure => omega
          case rel => exact ⟨k + 1, by omega, Nat.le_refl _, by go_num, HO2.out⟩
      · go_wp2_with (first | (go_at_call 46; refine HG.out.mono ?_; rintro e w' ⟨rfl, he⟩; obtain rfl := Eq.symm he))
        go_roundg (ys.length - (k + 1))
        case measure => omega
        case rel => exact ⟨k + 1, by omega, Nat.le_refl _, by go_num, by rw [lacksL_step hlt, B.out, lackAt, if_neg (by simp only [HZ.out]; omega), List.append_nil]; exact HO.out⟩
    · have : k = ys.length := by omega
      subst this
      rw [List.take_length] at HO
      obtain ⟨p', c', rfl, hr⟩ := HO.out.gave
      have HR' : Hid (Row3 wr p' (lacksL xs ys)) := hr
      clear hr
      go_wp2
      go_ret
      exact ⟨p', c', rfl, HR'.out, HO.out.2⟩

theorem lacksL_nil_iff (xs ys : List En) : lacksL xs ys = [] ↔ ∀ y ∈ ys, ¬ getL xs y.1 < y.2 := by
  simp only [lacksL, List.flatMap_eq_nil_iff, lackAt]
  constructor
  · intro h y hy hlt; have := h y hy; rw [if_pos hlt] at this; cases this
  · intro h y hy; rw [if_neg (h y hy)]
/-- It knows all that another one knows. -/
def coversL (xs ys : List En) : Bool := decide (∀ y ∈ ys, ¬ getL xs y.1 < y.2)

set_option maxHeartbeats 800000 in
theorem refcovers_any (xs ys : List En) (p q : Option Addr) (c d : Nat) (w : World) (hR : Row w p xs) (hS : Row w q ys) (hfx : Fits xs) (hfy : Fits ys) (hl : xs.length ≤ 50000) (hm : ys.length ≤ 50000) :
    Calls Tryz.prog 59 #[.slice p xs.length c, .slice q ys.length d] w fun e w' => e = .returned (.bool (coversL xs ys)) ∧ Below w.heap.size w w' := by
  have HL : Hid (Calls Tryz.prog 63 #[.slice p xs.length c, .slice q ys.length d] w (Gave3 w (lacksL xs ys))) := reflacks_any xs ys p q c d w hR hS hfx hfy hl hm
  have HE : Hid (coversL xs ys = decide (lacksL xs ys = [])) := by unfold coversL; exact decide_eq_decide.2 (lacksL_nil_iff xs ys).symm
  clear hR hS hfx hfy hl hm
  generalize lacksL xs ys = gs at HL HE
  generalize coversL xs ys = b at HE ⊢
  by_cases h0 : gs = []
  · subst h0
    have hb : b = true := by rw [HE.out]; rfl
    subst hb
    clear HE
    go_enter Tryz.func59, Tryz.ntmps59
    go_wp2_with (first | (go_at_call 63; refine HL.out.mono ?_; rintro e w1 ⟨p1, c1, rfl, hr1, hb1⟩))
    go_ret
    exact ⟨rfl, hb1⟩
  · have hb : b = false := by rw [HE.out]; exact decide_eq_false h0
    subst hb
    have hne : ((gs.length : Int) == 0) = false := by
      have : gs.length ≠ 0 := fun h => h0 (List.eq_nil_of_length_eq_zero h)
      simp; omega
    clear HE
    go_enter Tryz.func59, Tryz.ntmps59
    go_wp2_with (first | (go_at_call 63; refine HL.out.mono ?_; rintro e w1 ⟨p1, c1, rfl, hr1, hb1⟩))
    go_ret
    exact ⟨rfl, hb1⟩

end Go.Proofs.YtjkdcpalgfakhaaGreat.Vec
/-
  The cyclic sum as a register of 32 bits: it is linear, a step can be taken back, and so turned bits within 32 are found. Of no program; no conditions beyond what each theorem states.
-/
namespace Go.Proofs.YtjkdcpalgfakhaaGreat
set_option linter.unusedVariables false
set_option linter.unusedSimpArgs false

abbrev R32 := BitVec 32
def poly : R32 := 0x1edc6f41#32
def topR : R32 := 0x80000000#32
/-- A step with a bit of 0. -/
def stepT (s : R32) : R32 := (s <<< 1) ^^^ (if s.msb then poly else 0#32)
/-- A step with any bit. -/
def stepB (s : R32) (b : Bool) : R32 := (s <<< 1) ^^^ (if s.msb != b then poly else 0#32)
def topB (b : Bool) : R32 := if b then topR else 0#32

theorem xor_four (a b c d : R32) : (a ^^^ b) ^^^ (c ^^^ d) = (a ^^^ c) ^^^ (b ^^^ d) := by
  rw [BitVec.xor_assoc, BitVec.xor_assoc, ← BitVec.xor_assoc b c d, BitVec.xor_comm b c, BitVec.xor_assoc c b d]
theorem ite_xor (x y : Bool) : (if (x ^^ y) then poly else 0#32) = (if x then poly else 0#32) ^^^ (if y then poly else 0#32) := by
  cases x <;> cases y <;> simp
theorem stepT_xor (a b : R32) : stepT (a ^^^ b) = stepT a ^^^ stepT b := by
  unfold stepT
  rw [BitVec.shiftLeft_xor_distrib, BitVec.msb_xor, ite_xor, xor_four]
theorem stepT_zero : stepT 0#32 = 0#32 := by decide
theorem stepB_eq (s : R32) (b : Bool) : stepB s b = stepT (s ^^^ topB b) := by
  cases b with
  | false =>
    unfold stepB stepT topB
    simp
  | true =>
    rw [stepT_xor]
    have h : stepT (topB true) = poly := by decide
    rw [h]
    unfold stepB stepT
    cases s.msb <;> simp [BitVec.xor_assoc]
theorem stepB_xor (s d : R32) (b : Bool) : stepB (s ^^^ d) b = stepB s b ^^^ stepT d := by
  rw [stepB_eq, stepB_eq, BitVec.xor_assoc, BitVec.xor_comm d, ← BitVec.xor_assoc, stepT_xor]
theorem stepB_not (s : R32) (b : Bool) : stepB s (!b) = stepB s b ^^^ stepT topR := by
  have h : topB (!b) = topB b ^^^ topR := by cases b <;> decide
  rw [stepB_eq, stepB_eq, h, ← BitVec.xor_assoc, stepT_xor]
/-- A step loses nothing. -/
theorem stepT_none {a : R32} (h : stepT a = 0#32) : a = 0#32 := by
  unfold stepT at h
  cases hm : a.msb with
  | true =>
    rw [hm, if_pos rfl] at h
    have := congrArg (fun x : R32 => x.getLsbD 0) h
    simp [poly] at this
  | false =>
    rw [hm, if_neg (by simp), BitVec.xor_zero] at h
    apply BitVec.eq_of_getLsbD_eq
    intro i hi
    by_cases h31 : i = 31
    · subst h31
      rw [BitVec.msb_eq_getLsbD_last] at hm
      simpa using hm
    · have := congrArg (fun x : R32 => x.getLsbD (i + 1)) h
      simp at this
      rw [this (by omega)]
      simp
def runT : Nat → R32 → R32
  | 0, s => s
  | n + 1, s => runT n (stepT s)
theorem runT_xor (n : Nat) : ∀ a b, runT n (a ^^^ b) = runT n a ^^^ runT n b := by
  induction n with
  | zero => intro a b; rfl
  | succ n ih => intro a b; rw [runT, stepT_xor, ih]; rfl
theorem runT_none (n : Nat) : ∀ a, runT n a = 0#32 → a = 0#32 := by
  induction n with
  | zero => intro a h; exact h
  | succ n ih => intro a h; exact stepT_none (ih _ h)
theorem runT_add (n m : Nat) : ∀ a, runT (n + m) a = runT m (runT n a) := by
  induction n with
  | zero => intro a; rw [Nat.zero_add]; rfl
  | succ n ih => intro a; rw [Nat.succ_add, runT, ih]; rfl
theorem runT_inj {n : Nat} {a b : R32} (h : runT n a = runT n b) : a = b := by
  have : runT n (a ^^^ b) = 0#32 := by rw [runT_xor, h, BitVec.xor_self]
  have h2 := runT_none n _ this
  have h3 : a ^^^ b ^^^ b = 0#32 ^^^ b := by rw [h2]
  rwa [BitVec.xor_assoc, BitVec.xor_self, BitVec.xor_zero, BitVec.zero_xor] at h3

/-- All bits, one by one. -/
def runB (s : R32) (l : List Bool) : R32 := l.foldl stepB s
theorem runB_cons (s : R32) (b : Bool) (l : List Bool) : runB s (b :: l) = runB (stepB s b) l := rfl
theorem runB_append (s : R32) (l m : List Bool) : runB s (l ++ m) = runB (runB s l) m := by simp [runB]
theorem runB_xor (l : List Bool) : ∀ s d, runB (s ^^^ d) l = runB s l ^^^ runT l.length d := by
  induction l with
  | nil => intro s d; rfl
  | cons b l ih => intro s d; rw [runB_cons, stepB_xor, ih]; rfl
/-- A turned bit. -/
theorem runB_turn (l m : List Bool) (b : Bool) (s : R32) : runB s (l ++ (!b) :: m) = runB s (l ++ b :: m) ^^^ runT (m.length + 1) topR := by
  rw [runB_append, runB_append, runB_cons, runB_cons, stepB_not, runB_xor]
  rfl

/-- Bits as a word, the first one the highest. -/
def wordB : List Bool → R32
  | [] => 0#32
  | b :: l => topB b ^^^ (wordB l >>> 1)
theorem topB_bit (b : Bool) (j : Nat) : (topB b).getLsbD j = (b && decide (j = 31)) := by
  cases b with
  | false => simp [topB]
  | true =>
    by_cases hj : j < 32
    · have : ∀ j, j < 32 → (topB true).getLsbD j = (true && decide (j = 31)) := by decide
      exact this j hj
    · rw [BitVec.getLsbD_of_ge _ _ (by omega)]
      simp; omega
theorem wordB_bit (l : List Bool) : ∀ j, j < 32 → (wordB l).getLsbD j = l.getD (31 - j) false := by
  induction l with
  | nil => intro j hj; simp [wordB]
  | cons b l ih =>
    intro j hj
    rw [wordB, BitVec.getLsbD_xor, topB_bit, BitVec.getLsbD_ushiftRight]
    by_cases h : j = 31
    · subst h
      rw [BitVec.getLsbD_of_ge _ _ (by omega)]
      simp
    · rw [Nat.add_comm 1 j, ih (j + 1) (by omega)]
      rw [show 31 - j = (31 - (j + 1)) + 1 by omega, List.getD_cons_succ]
      simp [h]
theorem stepT_back {x : R32} (h : x.getLsbD 0 = false) : stepT (x >>> 1) = x := by
  unfold stepT
  have hm : (x >>> 1).msb = false := by rw [BitVec.msb_eq_getLsbD_last]; simp
  rw [hm, if_neg (by simp), BitVec.xor_zero]
  apply BitVec.eq_of_getLsbD_eq
  intro i hi
  cases i with
  | zero => rw [h]; simp
  | succ i =>
    rw [BitVec.getLsbD_shiftLeft]
    simp [hi, Nat.add_comm 1 i]
/-- Up to 32 bits at once. -/
theorem runB_word (l : List Bool) : l.length ≤ 32 → ∀ s, runB s l = runT l.length (s ^^^ wordB l) := by
  induction l with
  | nil => intro _ s; show s = s ^^^ 0#32; rw [BitVec.xor_zero]
  | cons b l ih =>
    intro hl s
    have hl' : l.length + 1 ≤ 32 := by simpa using hl
    rw [runB_cons, ih (by omega), List.length_cons, runT, wordB]
    congr 1
    rw [stepB_eq, ← BitVec.xor_assoc, stepT_xor (s ^^^ topB b), stepT_back]
    rw [wordB_bit _ 0 (by omega), List.getD_eq_getElem?_getD, List.getElem?_eq_none (by omega)]
    rfl
/-- A turned bit, seen from 32 bits ahead. -/
theorem top_back {j : Nat} (h : j < 31) : stepT (topR >>> (j + 1)) = topR >>> j := by
  have : ∀ j, j < 31 → stepT (topR >>> (j + 1)) = topR >>> j := by decide
  exact this j h
theorem runT_top : ∀ j, j ≤ 31 → ∀ m, j ≤ m → runT (m - j) topR = runT m (topR >>> j) := by
  intro j
  induction j with
  | zero => intro _ m _; simp
  | succ j ih =>
    intro h1 m h2
    obtain ⟨n, rfl⟩ : ∃ n, m = n + 1 := ⟨m - 1, by omega⟩
    rw [runT, top_back (by omega), ← ih (by omega) n (by omega), show n + 1 - (j + 1) = n - j by omega]

/-- The turned bits of a number, the lowest first. -/
def turnW (f : Nat) : Nat → R32
  | 0 => 0#32
  | i + 1 => turnW f i ^^^ (if f.testBit i then topR >>> i else 0#32)
theorem top_bit {i j : Nat} (hi : i < 32) (hj : j < 32) : (topR >>> i).getLsbD j = decide (i + j = 31) := by
  have : ∀ i, i < 32 → ∀ j, j < 32 → (topR >>> i).getLsbD j = decide (i + j = 31) := by decide
  exact this i hi j hj
theorem turnW_bit (f : Nat) : ∀ n, n ≤ 32 → ∀ j, j < 32 → (turnW f n).getLsbD j = (decide (31 - j < n) && f.testBit (31 - j)) := by
  intro n
  induction n with
  | zero => intro _ j hj; simp [turnW]
  | succ n ih =>
    intro hn j hj
    rw [turnW, BitVec.getLsbD_xor, ih (by omega) j hj]
    by_cases hf : f.testBit n = true
    · rw [if_pos hf, top_bit (by omega) hj]
      by_cases e : n + j = 31
      · have : 31 - j = n := by omega
        rw [this]; simp [e, hf]
      · have h2 : decide (31 - j < n + 1) = decide (31 - j < n) := by apply decide_eq_decide.2; omega
        rw [h2]; simp [e]
    · rw [if_neg hf]
      by_cases e : 31 - j = n
      · rw [e]; simp [hf]
      · have h2 : decide (31 - j < n + 1) = decide (31 - j < n) := by apply decide_eq_decide.2; omega
        rw [h2]; simp
/-- Some bits are turned, if the number isn't 0. -/
theorem turnW_some {f : Nat} (hf : f < 4294967296) (h : turnW f 32 = 0#32) : f = 0 := by
  apply Nat.eq_of_testBit_eq
  intro i
  rw [Nat.zero_testBit]
  by_cases hi : i < 32
  · have := turnW_bit f 32 (Nat.le_refl _) (31 - i) (by omega)
    rw [h, show 31 - (31 - i) = i by omega] at this
    simpa [hi] using this.symm
  · exact Nat.testBit_lt_two_pow (Nat.lt_of_lt_of_le hf (show 4294967296 ≤ 2 ^ i from Nat.le_trans (by decide : 4294967296 ≤ 2 ^ 32) (Nat.pow_le_pow_right (by omega) (by omega))))

end Go.Proofs.YtjkdcpalgfakhaaGreat
/-
  Sums and seals of bytes, and what turned bits make of them. Of no program; no conditions beyond what each theorem states.
-/
namespace Go.Proofs.YtjkdcpalgfakhaaGreat
set_option linter.unusedVariables false
set_option linter.unusedSimpArgs false

/-- A byte's bits, the highest first. -/
def bitsB (c : UInt8) : List Bool := [c.toNat.testBit 7, c.toNat.testBit 6, c.toNat.testBit 5, c.toNat.testBit 4, c.toNat.testBit 3, c.toNat.testBit 2, c.toNat.testBit 1, c.toNat.testBit 0]
def bitsL (bs : List UInt8) : List Bool := bs.flatMap bitsB
theorem bitsL_append (a b : List UInt8) : bitsL (a ++ b) = bitsL a ++ bitsL b := by simp [bitsL]
theorem bitsL_cons (a : UInt8) (b : List UInt8) : bitsL (a :: b) = bitsB a ++ bitsL b := by simp [bitsL]
theorem bitsL_len (bs : List UInt8) : (bitsL bs).length = bs.length * 8 := by
  induction bs with
  | nil => rfl
  | cons c bs ih => rw [bitsL_cons, List.length_append, ih, List.length_cons]; simp [bitsB]; omega
def ones : R32 := 0xffffffff#32
/-- The register behind bytes, and their sum. -/
def regL (s : R32) (bs : List UInt8) : R32 := runB s (bitsL bs)
def sumL (bs : List UInt8) : R32 := regL ones bs ^^^ ones
theorem regL_append (s : R32) (a b : List UInt8) : regL s (a ++ b) = regL (regL s a) b := by rw [regL, bitsL_append, runB_append]; rfl
theorem regL_cons (s : R32) (c : UInt8) (b : List UInt8) : regL s (c :: b) = regL (runB s (bitsB c)) b := by rw [regL, bitsL_cons, runB_append]; rfl
theorem regL_nil (s : R32) : regL s [] = s := rfl
/-- A number's four bytes, the highest first. -/
def be4 (s : R32) : List UInt8 := [UInt8.ofNat (s.toNat / 16777216), UInt8.ofNat (s.toNat / 65536 % 256), UInt8.ofNat (s.toNat / 256 % 256), UInt8.ofNat (s.toNat % 256)]
def sealL (bs : List UInt8) : List UInt8 := bs ++ be4 (sumL bs)
/-- Are bytes sealed ones? -/
def openL (c : List UInt8) : Bool := decide (4 ≤ c.length) && decide (be4 (sumL (c.take (c.length - 4))) = c.drop (c.length - 4))

theorem bit_div (n k j : Nat) : (n / 2 ^ k).testBit j = n.testBit (k + j) := by rw [Nat.testBit_div_two_pow, Nat.add_comm]
theorem be4_bits (s : R32) : ∀ j, j < 32 → (bitsL (be4 s)).getD (31 - j) false = s.getLsbD j := by
  have hs : s.toNat < 4294967296 := s.isLt
  intro j hj
  have e0 : (UInt8.ofNat (s.toNat / 16777216)).toNat = s.toNat / 2 ^ 24 := by rw [UInt8.toNat_ofNat']; omega
  have e1 : (UInt8.ofNat (s.toNat / 65536 % 256)).toNat = s.toNat / 2 ^ 16 % 2 ^ 8 := by rw [UInt8.toNat_ofNat']; omega
  have e2 : (UInt8.ofNat (s.toNat / 256 % 256)).toNat = s.toNat / 2 ^ 8 % 2 ^ 8 := by rw [UInt8.toNat_ofNat']; omega
  have e3 : (UInt8.ofNat (s.toNat % 256)).toNat = s.toNat % 2 ^ 8 := by rw [UInt8.toNat_ofNat']; omega
  unfold BitVec.getLsbD
  unfold be4 bitsL bitsB
  simp only [List.flatMap_cons, List.flatMap_nil, List.append_nil, List.cons_append, List.nil_append, e0, e1, e2, e3, Nat.testBit_mod_two_pow, bit_div]
  have : j = 0 ∨ j = 1 ∨ j = 2 ∨ j = 3 ∨ j = 4 ∨ j = 5 ∨ j = 6 ∨ j = 7 ∨ j = 8 ∨ j = 9 ∨ j = 10 ∨ j = 11 ∨ j = 12 ∨ j = 13 ∨ j = 14 ∨ j = 15 ∨ j = 16 ∨ j = 17 ∨ j = 18 ∨ j = 19 ∨ j = 20 ∨ j = 21 ∨ j = 22 ∨ j = 23 ∨ j = 24 ∨ j = 25 ∨ j = 26 ∨ j = 27 ∨ j = 28 ∨ j = 29 ∨ j = 30 ∨ j = 31 := by omega
  rcases this with h | h | h | h | h | h | h | h | h | h | h | h | h | h | h | h | h | h | h | h | h | h | h | h | h | h | h | h | h | h | h | h <;> subst h <;> rfl
theorem word_be4 (s : R32) : wordB (bitsL (be4 s)) = s := by
  apply BitVec.eq_of_getLsbD_eq
  intro j hj
  rw [wordB_bit _ j hj, be4_bits s j hj]
theorem be4_len (s : R32) : (be4 s).length = 4 := rfl
theorem be4_inj {s t : R32} (h : be4 s = be4 t) : s = t := by rw [← word_be4 s, ← word_be4 t, h]
/-- Any four bytes are a number's. -/
theorem be4_of {c : List UInt8} (h : c.length = 4) : ∃ s, c = be4 s := by
  match c, h with
  | [a, b, d, e], _ =>
    have ha := a.toNat_lt
    have hb := b.toNat_lt
    have hd := d.toNat_lt
    have he := e.toNat_lt
    refine ⟨BitVec.ofNat 32 (a.toNat * 16777216 + b.toNat * 65536 + d.toNat * 256 + e.toNat), ?_⟩
    have ht : (BitVec.ofNat 32 (a.toNat * 16777216 + b.toNat * 65536 + d.toNat * 256 + e.toNat)).toNat = a.toNat * 16777216 + b.toNat * 65536 + d.toNat * 256 + e.toNat := by
      rw [BitVec.toNat_ofNat]; omega
    unfold be4
    rw [ht]
    have q1 : (a.toNat * 16777216 + b.toNat * 65536 + d.toNat * 256 + e.toNat) / 16777216 = a.toNat := by omega
    have q2 : (a.toNat * 16777216 + b.toNat * 65536 + d.toNat * 256 + e.toNat) / 65536 % 256 = b.toNat := by omega
    have q3 : (a.toNat * 16777216 + b.toNat * 65536 + d.toNat * 256 + e.toNat) / 256 % 256 = d.toNat := by omega
    have q4 : (a.toNat * 16777216 + b.toNat * 65536 + d.toNat * 256 + e.toNat) % 256 = e.toNat := by omega
    rw [q1, q2, q3, q4]
    simp

/-- Bytes are sealed ones just if the register behind all of them is the one that stands for that. -/
def good : R32 := runT 32 ones
theorem reg_sealed (bs : List UInt8) (v : R32) : regL ones (bs ++ be4 v) = good ↔ v = sumL bs := by
  rw [regL_append]
  have hlen : (bitsL (be4 v)).length = 32 := by rw [bitsL_len]; rfl
  have e : regL (regL ones bs) (be4 v) = runT 32 (regL ones bs ^^^ v) := by
    rw [regL, runB_word _ (by omega), hlen, word_be4]
  rw [e, good]
  constructor
  · intro h
    have h2 := runT_inj h
    have h3 : regL ones bs ^^^ (regL ones bs ^^^ v) = regL ones bs ^^^ ones := by rw [h2]
    rw [← BitVec.xor_assoc, BitVec.xor_self, BitVec.zero_xor] at h3
    exact h3
  · intro h
    rw [h, sumL, ← BitVec.xor_assoc, BitVec.xor_self, BitVec.zero_xor]
theorem open_iff {c : List UInt8} (h : 4 ≤ c.length) : openL c = true ↔ regL ones c = good := by
  obtain ⟨v, hv⟩ := be4_of (c := c.drop (c.length - 4)) (by rw [List.length_drop]; omega)
  have e := reg_sealed (c.take (c.length - 4)) v
  rw [← hv, List.take_append_drop] at e
  rw [e]
  unfold openL
  rw [decide_eq_true h, Bool.true_and, decide_eq_true_iff, hv]
  exact ⟨fun k => (be4_inj k).symm, fun k => by rw [k]⟩
theorem open_seal (bs : List UInt8) : openL (sealL bs) = true := by
  rw [open_iff (by unfold sealL; rw [List.length_append, be4_len]; omega)]
  exact (reg_sealed bs (sumL bs)).2 rfl
theorem open_is {c : List UInt8} (h : openL c = true) : sealL (c.take (c.length - 4)) = c := by
  unfold openL at h
  simp only [Bool.and_eq_true, decide_eq_true_eq] at h
  unfold sealL
  rw [h.2, List.take_append_drop]
theorem seal_open {c : List UInt8} (h4 : 4 ≤ c.length) (h : sealL (c.take (c.length - 4)) = c) : openL c = true := by
  rw [← h]; exact open_seal _

/-- A byte with one of its bits turned (the highest is number 0). -/
theorem bits_turn {c d : UInt8} {r : Nat} (hr : r < 8) (hd : d.toNat = c.toNat ^^^ (128 / 2 ^ r)) : bitsB d = (bitsB c).modify r (fun b => !b) := by
  unfold bitsB
  rw [hd]
  simp only [Nat.testBit_xor]
  generalize c.toNat.testBit 7 = x7
  generalize c.toNat.testBit 6 = x6
  generalize c.toNat.testBit 5 = x5
  generalize c.toNat.testBit 4 = x4
  generalize c.toNat.testBit 3 = x3
  generalize c.toNat.testBit 2 = x2
  generalize c.toNat.testBit 1 = x1
  generalize c.toNat.testBit 0 = x0
  have : r = 0 ∨ r = 1 ∨ r = 2 ∨ r = 3 ∨ r = 4 ∨ r = 5 ∨ r = 6 ∨ r = 7 := by omega
  clear hd hr
  rcases this with h | h | h | h | h | h | h | h <;> subst h <;> clear c d <;> revert x7 x6 x5 x4 x3 x2 x1 x0 <;> decide
theorem modify_parts (l : List Bool) : ∀ r, r < l.length → ∃ a x m, l = a ++ x :: m ∧ a.length = r ∧ l.modify r (fun b => !b) = a ++ (!x) :: m := by
  induction l with
  | nil => intro r h; simp at h
  | cons y l ih =>
    intro r h
    cases r with
    | zero => exact ⟨[], y, l, rfl, rfl, by simp⟩
    | succ r =>
      obtain ⟨a, x, m, e1, e2, e3⟩ := ih r (by simpa using h)
      exact ⟨y :: a, x, m, by rw [e1]; rfl, by rw [List.length_cons, e2], by rw [List.modify_succ_cons, e3]; rfl⟩
theorem set_parts (s : List UInt8) : ∀ i, i < s.length → ∃ a c b, s = a ++ c :: b ∧ a.length = i ∧ s.getD i 0 = c ∧ ∀ d, s.set i d = a ++ d :: b := by
  induction s with
  | nil => intro i h; simp at h
  | cons y s ih =>
    intro i h
    cases i with
    | zero => exact ⟨[], y, s, rfl, rfl, rfl, fun d => rfl⟩
    | succ i =>
      obtain ⟨a, c, b, e1, e2, e3, e4⟩ := ih i (by simpa using h)
      exact ⟨y :: a, c, b, by rw [e1]; rfl, by rw [List.length_cons, e2], by rw [List.getD_cons_succ]; exact e3, fun d => by rw [List.set_cons_succ, e4]; rfl⟩
/-- Bytes with one of their bits turned. -/
theorem reg_turn (g : R32) {s : List UInt8} {k : Nat} (hk : k < 8 * s.length) {d : UInt8} (hd : d.toNat = (s.getD (k / 8) 0).toNat ^^^ (128 / 2 ^ (k % 8))) : regL g (s.set (k / 8) d) = regL g s ^^^ runT (8 * s.length - k) topR := by
  obtain ⟨a, c, b, e1, e2, e3, e4⟩ := set_parts s (k / 8) (by omega)
  rw [e3] at hd
  have hb := bits_turn (by omega) hd
  obtain ⟨l, x, m, q1, q2, q3⟩ := modify_parts (bitsB c) (k % 8) (by simp [bitsB]; omega)
  have hm : m.length + (k % 8) + 1 = 8 := by
    have := congrArg List.length q1
    rw [List.length_append, List.length_cons, q2] at this
    simp [bitsB] at this
    omega
  have hs : s.length = k / 8 + 1 + b.length := by
    have := congrArg List.length e1
    rw [List.length_append, List.length_cons, e2] at this
    omega
  have h1 : bitsL s = (bitsL a ++ l) ++ x :: (m ++ bitsL b) := by
    conv => lhs; rw [e1]
    rw [bitsL_append, bitsL_cons, q1]; simp
  have h2 : bitsL (s.set (k / 8) d) = (bitsL a ++ l) ++ (!x) :: (m ++ bitsL b) := by
    rw [e4 d, bitsL_append, bitsL_cons, hb, q3]; simp
  unfold regL
  rw [h1, h2, runB_turn]
  congr 2
  rw [List.length_append, bitsL_len]
  omega
/-- .. and the next one of those that are turned. -/
theorem reg_next {s0 s : List UInt8} {at0 i f D : Nat} (hD : D + at0 = 8 * s.length) (h32 : 32 ≤ D) (hi : i < 32) (h : regL ones s = regL ones s0 ^^^ runT D (turnW f i)) (hf : f.testBit i = true) {d : UInt8}
    (hd : d.toNat = (s.getD ((at0 + i) / 8) 0).toNat ^^^ (128 / 2 ^ ((at0 + i) % 8))) : regL ones (s.set ((at0 + i) / 8) d) = regL ones s0 ^^^ runT D (turnW f (i + 1)) := by
  rw [reg_turn ones (by omega) hd, h, BitVec.xor_assoc, show 8 * s.length - (at0 + i) = D - i by omega, runT_top i (by omega) D (by omega), ← runT_xor, turnW, if_pos hf]
theorem reg_stay {f i : Nat} (hf : ¬ f.testBit i = true) : turnW f (i + 1) = turnW f i := by rw [turnW, if_neg hf, BitVec.xor_zero]
/-- Sealed bytes with some bits turned within 32 are none. -/
theorem burst_found {bs s : List UInt8} {f D : Nat} (hlen : s.length = (sealL bs).length) (hf : f < 4294967296) (h0 : f ≠ 0) (h : regL ones s = regL ones (sealL bs) ^^^ runT D (turnW f 32)) : openL s = false := by
  have h4 : 4 ≤ (sealL bs).length := by unfold sealL; rw [List.length_append, be4_len]; omega
  have hg := (open_iff h4).1 (open_seal bs)
  by_cases ho : openL s = true
  · have h1 := (open_iff (by omega)).1 ho
    rw [h, hg] at h1
    have h2 : good ^^^ (good ^^^ runT D (turnW f 32)) = good ^^^ good := by rw [h1]
    rw [← BitVec.xor_assoc, BitVec.xor_self, BitVec.zero_xor] at h2
    exact absurd (turnW_some hf (runT_none D _ h2)) h0
  · simpa using ho

end Go.Proofs.YtjkdcpalgfakhaaGreat
