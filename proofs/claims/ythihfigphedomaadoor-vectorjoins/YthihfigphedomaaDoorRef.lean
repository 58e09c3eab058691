/-
  What the document's With, Join, Lacks and Covers hand back, for every list of entries that lies in memory. No conditions beyond what each theorem states.
-/
import Derived.Test.YthihfigphedomaaDoorOwn
namespace Go.Proofs.YthihfigphedomaaDoor
open Go.ChangeShapes Go.WideShapes Go.ChangeAt Go.RowKit
set_option linter.unusedVariables false
set_option linter.unusedSimpArgs false

def lo (xs : List En) (r : Int) : List En := xs.filter fun x => decide (x.1 < r)
def hi (xs : List En) (r : Int) : List En := xs.filter fun x => decide (r < x.1)
def mid (r s : Int) : List En := if 0 < s then [(r, s)] else []
/-- A vector by which so much of a replica is known. -/
def withL (xs : List En) (r s : Int) : List En := lo xs r ++ mid r s ++ hi xs r

theorem lo_step {xs : List En} {k : Nat} {r x y : Int} (h : k < xs.length) (e : atL xs k = (x, y)) (hx : x < r) : lo (xs.take (k + 1)) r = lo (xs.take k) r ++ [(x, y)] := by
  rw [take_atL xs k h, e]; simp [lo, hx]
theorem lo_skip {xs : List En} {k : Nat} {r x y : Int} (h : k < xs.length) (e : atL xs k = (x, y)) (hx : ¬ x < r) : lo (xs.take (k + 1)) r = lo (xs.take k) r := by
  rw [take_atL xs k h, e]; simp [lo, hx]
theorem hi_step {xs : List En} {k : Nat} {r x y : Int} (h : k < xs.length) (e : atL xs k = (x, y)) (hx : r < x) : hi (xs.take (k + 1)) r = hi (xs.take k) r ++ [(x, y)] := by
  rw [take_atL xs k h, e]; simp [hi, hx]
theorem hi_skip {xs : List En} {k : Nat} {r x y : Int} (h : k < xs.length) (e : atL xs k = (x, y)) (hx : ¬ r < x) : hi (xs.take (k + 1)) r = hi (xs.take k) r := by
  rw [take_atL xs k h, e]; simp [hi, hx]
theorem lo_le (xs : List En) (r : Int) : (lo xs r).length ≤ xs.length := List.length_filter_le _ _
theorem hi_le (xs : List En) (r : Int) : (hi xs r).length ≤ xs.length := List.length_filter_le _ _
theorem lo_take_le (xs : List En) (r : Int) (k : Nat) : (lo (xs.take k) r).length ≤ k := Nat.le_trans (lo_le _ _) (by simp; omega)
theorem hi_take_le (xs : List En) (r : Int) (k : Nat) : (hi (xs.take k) r).length ≤ k := Nat.le_trans (hi_le _ _) (by simp; omega)

/-- What the call holds so far: its own row, and all below as it was. -/
def Holding (w : World) (e : TypeId) (v : Value) (xs : List En) (wr : World) : Prop := wr.ownsRow w.heap.size e 2 v xs.length (cellsL xs) ∧ Below w.heap.size w wr
theorem Holding.nil (w : World) (e : TypeId) : Holding w e (.slice none 0 0) [] w := ⟨World.ownsRow_nil w w.heap.size e 2, Below.refl _ _⟩
theorem Holding.alloc {w wr : World} {e : TypeId} {v : Value} {xs : List En} (h : Holding w e v xs wr) (o : Obj) : Holding w e v xs (wr.alloc o) := ⟨h.1.alloc o, below_alloc h.2 o⟩
theorem Holding.onto {w wr w1 : World} {e : TypeId} {v v' : Value} {xs : List En} {x y : Int} (h : Holding w e v xs wr) (hown : w1.ownsRow w.heap.size e 2 v' (xs.length + 1) (cellsL xs ++ [.int .u16 x, .int .u32 y])) (hg : wr.grownBy w1 v.ownBlock) : Holding w e v' (xs ++ [(x, y)]) w1 :=
  ⟨by rw [cellsL_append, List.length_append]; exact hown, h.2.grown hg h.2.size (fun j hj => (h.1.lt j hj).1)⟩
theorem Holding.gave {w wr : World} {e : TypeId} {v : Value} {xs : List En} (h : Holding w e v xs wr) : ∃ p c, v = .slice p xs.length c ∧ Row wr p xs := by
  obtain ⟨p, c, h1, -, h2⟩ := row_of_owns h.1
  exact ⟨p, c, h1, h2⟩

set_option maxHeartbeats 3200000 in
theorem refwith_any (xs : List En) (r s : Int) (p : Option Addr) (c : Nat) (w : World) (hR : Row w p xs) (hl : xs.length ≤ 1000) :
    Calls Tryd.prog 16 #[.slice p xs.length c, .int .u16 r, .int .u32 s] w (Gave w (withL xs r s)) := by
  have HR : Hid (Row w p xs) := hR
  clear hR
  obtain ⟨i0, hi, hz0, hz1, hz2⟩ := info_parts info39
  go_enter Tryd.func16, Tryd.ntmps16
  go_wp2
  go_loopg [7, 8] xs.length (fun g v i wr => ∃ k : Nat, k ≤ xs.length ∧ xs.length - k ≤ g ∧ i = .int .i64 k ∧ Holding w 39 v (lo (xs.take k) r) wr)
  case atStart => exact ⟨0, Nat.zero_le _, by omega, rfl, by simpa [lo] using Holding.nil w 39⟩
  case round =>
    obtain ⟨k, hk, hg, rfl, hO⟩ := hrel
    have HO : Hid (Holding w 39 u7 (lo (xs.take k) r) wr) := hO
    clear hO
    by_cases hlt : k < xs.length
    · obtain ⟨b, o, rfl, c0', c1'⟩ := HR.out k hlt
      have c0 := cellU c0' HO.out.2
      have c1 := cellU c1' HO.out.2
      clear c0' c1'
      generalize hx : (atL xs k).1 = x at c0
      generalize hy : (atL xs k).2 = y at c1
      have B : Hid (atL xs k = (x, y)) := Prod.ext hx hy
      clear hx hy
      by_cases hxr : x < r
      · have hle := lo_take_le xs r k
        go_wp2_with (first
          | (at_builtin; refine wpList_append_own _ rfl (.tmp 23) (.tmp 28) 26 rfl w.heap.size 39 i0 (.agg #[.int .u16 0, .int .u32 0]) 2 8 Tryd.underlying26 hi hz0 hz1 hz2 rfl (by decide) _ _ _ rfl (HO.out.alloc _).1 ⟨wr.heap.size, 0, none⟩ 1 1 [.int .u16 x, .int .u32 y] rfl rfl (cells_pair 39 (by simp) (by simp)) (pair_one x y) (by unfold maxLen; omega) (by omega) (by have := HO.out.2.size; simp; omega) ?_))
        intro v' w1 hown' hgrow _
        have HO2 : Hid (Holding w 39 v' (lo (xs.take (k + 1)) r) w1) := by rw [lo_step hlt B.out hxr]; exact (HO.out.alloc _).onto (by first | exact hown' | (rw [List.length_append]; exact hown')) hgrow
        clear hown' hgrow
        go_wp2
        go_roundg (xs.length - (k + 1))
        case measure => omega
        case rel => exact ⟨k + 1, by omega, Nat.le_refl _, by go_num, HO2.out⟩
      · go_wp2
        go_roundg (xs.length - (k + 1))
        case measure => omega
        case rel => exact ⟨k + 1, by omega, Nat.le_refl _, by go_num, by rw [lo_skip hlt B.out (by omega)]; exact HO.out⟩
    · have : k = xs.length := by omega
      subst this
      rw [List.take_length] at HO
      have hle := lo_le xs r
      obtain ⟨A, hA⟩ : ∃ A, A = lo xs r ++ mid r s := ⟨_, rfl⟩
      have HA : Hid (A = lo xs r ++ mid r s) := hA
      have hAl : A.length ≤ 1001 := by rw [hA, List.length_append, mid]; split <;> simp <;> omega
      clear hA
      by_cases hs : 0 < s
      case' pos =>
        go_wp2_with (first | (at_builtin; refine wpList_append_own _ rfl (.tmp 32) (.tmp 36) 26 rfl w.heap.size 39 i0 (.agg #[.int .u16 0, .int .u32 0]) 2 8 Tryd.underlying26 hi hz0 hz1 hz2 rfl (by decide) _ _ _ rfl (HO.out.alloc _).1 ⟨wr.heap.size, 0, none⟩ 1 1 [.int .u16 r, .int .u32 s] rfl rfl (cells_pair 39 (by simp) (by simp)) (pair_one r s) (by unfold maxLen; omega) (by omega) (by have := HO.out.2.size; simp; omega) ?_))
        intro v' w1 hown' hgrow _
        have HO2 : Hid (Holding w 39 v' A w1) := by rw [HA.out, mid, if_pos hs]; exact (HO.out.alloc _).onto (by first | exact hown' | (rw [List.length_append]; exact hown')) hgrow
        clear hown' hgrow
      case' neg =>
        have HO2 : Hid (Holding w 39 u7 A wr) := by rw [HA.out, mid, if_neg hs, List.append_nil]; exact HO.out
      all_goals
        clear HO
        go_wp2
        go_loopg [7, 9] xs.length (fun g v i wr => ∃ k : Nat, k ≤ xs.length ∧ xs.length - k ≤ g ∧ i = .int .i64 k ∧ Holding w 39 v (A ++ YthihfigphedomaaDoor.hi (xs.take k) r) wr)
        case atStart => exact ⟨0, Nat.zero_le _, by omega, rfl, by simpa [YthihfigphedomaaDoor.hi] using HO2.out⟩
        case round =>
          clear HO2
          obtain ⟨k, hk, hg, rfl, hO⟩ := hrel
          have HO : Hid (Holding w 39 u7 (A ++ YthihfigphedomaaDoor.hi (xs.take k) r) wr) := hO
          clear hO
          by_cases hlt : k < xs.length
          · obtain ⟨b, o, rfl, c0', c1'⟩ := HR.out k hlt
            have c0 := cellU c0' HO.out.2
            have c1 := cellU c1' HO.out.2
            clear c0' c1'
            generalize hx : (atL xs k).1 = x at c0
            generalize hy : (atL xs k).2 = y at c1
            have B : Hid (atL xs k = (x, y)) := Prod.ext hx hy
            clear hx hy
            by_cases hxr : r < x
            · have hle2 := hi_take_le xs r k
              have hle3 : (A ++ YthihfigphedomaaDoor.hi (xs.take k) r).length ≤ 2001 := by rw [List.length_append]; omega
              go_wp2_with (first
                | (at_builtin; refine wpList_append_own _ rfl (.tmp 51) (.tmp 56) 26 rfl w.heap.size 39 i0 (.agg #[.int .u16 0, .int .u32 0]) 2 8 Tryd.underlying26 hi hz0 hz1 hz2 rfl (by decide) _ _ _ rfl (HO.out.alloc _).1 ⟨wr.heap.size, 0, none⟩ 1 1 [.int .u16 x, .int .u32 y] rfl rfl (cells_pair 39 (by simp) (by simp)) (pair_one x y) (by unfold maxLen; omega) (by omega) (by have := HO.out.2.size; simp; omega) ?_))
              intro v2 w2 hown' hgrow _
              have HO2 : Hid (Holding w 39 v2 (A ++ YthihfigphedomaaDoor.hi (xs.take (k + 1)) r) w2) := by rw [hi_step hlt B.out hxr, ← List.append_assoc]; exact (HO.out.alloc _).onto (by first | exact hown' | (rw [List.length_append]; exact hown')) hgrow
              clear hown' hgrow
              go_wp2
              go_roundg (xs.length - (k + 1))
              case measure => omega
              case rel => exact ⟨k + 1, by omega, Nat.le_refl _, by go_num, HO2.out⟩
            · go_wp2
              go_roundg (xs.length - (k + 1))
              case measure => omega
              case rel => exact ⟨k + 1, by omega, Nat.le_refl _, by go_num, by rw [hi_skip hlt B.out (by omega)]; exact HO.out⟩
          · have : k = xs.length := by omega
            subst this
            rw [List.take_length] at HO
            obtain ⟨p', c', rfl, hr⟩ := HO.out.gave
            have HR' : Hid (Row wr p' (A ++ YthihfigphedomaaDoor.hi xs r)) := hr
            clear hr
            go_wp2
            go_ret
            rw [HA.out] at HR' HO
            exact ⟨p', c', by rw [HA.out]; rfl, HR'.out, HO.out.2⟩

end Go.Proofs.YthihfigphedomaaDoor
