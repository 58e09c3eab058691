/-
  What the document's Lacks and Covers hand back, for every two lists of entries that lie in memory. No conditions beyond what each theorem states.
-/
import Derived.Test.YthihfigphedomaaDoorRefJoin
import Derived.Deep.RegionLaw
namespace Go.Proofs.YthihfigphedomaaDoor
open Go.ChangeShapes Go.WideShapes Go.ChangeAt Go.RowKit
set_option linter.unusedVariables false
set_option linter.unusedSimpArgs false

/-- append onto a row of the call's own, as one step of a region that draws. -/
theorem step_append_own {P : Program} {ops : Array Oper} {o : Oper} {a : Act} {w : World} {K : Act → World → Prop} {Q : Exit → Act → World → Prop} {E : Prop}
    (hg : o.guard = none) (s x : Operand) (t : TypeId) (hop : o.op = Op.call { callee := Callee.builtin Builtin.append, args := #[s, x], argTypes := #[t, t] })
    (base : Nat) (e : TypeId) (i : TypeInfo) (z : Value) (size bytes : Nat) (h1 : P.underlying t = some (.slice e)) (h2 : P.info? e = some i) (h3 : i.zero = some z) (h4 : i.size = size) (h5 : i.bytes = bytes) (h6 : z.cells.size = size) (h7 : 0 < size)
    (v : Value) (n : Nat) (xs : List Value) (hs : a.eval s = v) (hown : w.ownsRow base e size v n xs)
    (ad : Addr) (m c : Nat) (news : List Value) (hx : a.eval x = .slice (some ad) m c) (hn : news.length = m * size) (hc : ∀ j u, news[j]? = some u → w.cell? (ad.add j) = some u) (h1c : ∀ u ∈ news, u.oneCell' = true)
    (b1 : n + m ≤ maxLen) (b2 : (n + m) * bytes ≤ 140737488355328) (hbase : base ≤ w.heap.size)
    (hK : ∀ v' w', w'.ownsRow base e size v' (n + m) (xs ++ news) → w.grownBy w' v.ownBlock → K (a.put o.dst v') w') :
    if Region.wanted o (yielded ops a.tmps) = true then Oper.wp P o a w K Q else E := by
  have hw : Region.wanted o (yielded ops a.tmps) = true := by simp [Region.wanted, hg]
  rw [if_pos hw]
  obtain ⟨v', w', hrun, r1, r2, _⟩ := run_append_own (P := P) w base t o.type e i z size bytes h1 h2 h3 h4 h5 h6 h7 v n xs hown ad m c news hn hc h1c b1 b2 hbase
  unfold Oper.wp
  simp [execOp, hop, resolve, invoke, builtin, hs, hx, hrun, Result.andThen]
  exact hK v' w' r1 r2

abbrev Gp := Int × Int × Int
def at3 (gs : List Gp) (i : Nat) : Gp := gs.getD i (0, 0, 0)
def cells3 : List Gp → List Value
  | [] => []
  | x :: xs => .int .u16 x.1 :: .int .u32 x.2.1 :: .int .u32 x.2.2 :: cells3 xs
theorem cells3_length (xs : List Gp) : (cells3 xs).length = xs.length * 3 := by
  induction xs with
  | nil => rfl
  | cons x xs ih => simp [cells3, ih]; omega
theorem cells3_append (xs ys : List Gp) : cells3 (xs ++ ys) = cells3 xs ++ cells3 ys := by
  induction xs with
  | nil => rfl
  | cons x xs ih => simp [cells3, ih]
theorem cells3_at (xs : List Gp) (i : Nat) (h : i < xs.length) : (cells3 xs)[i * 3]? = some (.int .u16 (at3 xs i).1) ∧ (cells3 xs)[i * 3 + 1]? = some (.int .u32 (at3 xs i).2.1) ∧ (cells3 xs)[i * 3 + 2]? = some (.int .u32 (at3 xs i).2.2) := by
  induction xs generalizing i with
  | nil => simp at h
  | cons x xs ih =>
    cases i with
    | zero => simp [cells3, at3]
    | succ i =>
      have := ih i (by simpa using h)
      rw [show (i + 1) * 3 = i * 3 + 1 + 1 + 1 by omega]
      simpa [cells3, at3] using this
/-- A slice's address, at which the gaps lie, three cells each. -/
def Row3 (w : World) (p : Option Addr) (xs : List Gp) : Prop :=
  ∀ i, i < xs.length → ∃ b o, p = some ⟨b, o, none⟩ ∧ w.cell? ⟨b, o + i * 3, none⟩ = some (.int .u16 (at3 xs i).1) ∧ w.cell? ⟨b, o + i * 3 + 1, none⟩ = some (.int .u32 (at3 xs i).2.1) ∧ w.cell? ⟨b, o + i * 3 + 2, none⟩ = some (.int .u32 (at3 xs i).2.2)
theorem Row3.below {w w' : World} {p : Option Addr} {xs : List Gp} (h : Row3 w p xs) (hb : Below w.heap.size w w') : Row3 w' p xs := fun i hi => by
  obtain ⟨b, o, e, h1, h2, h3⟩ := h i hi
  exact ⟨b, o, e, cellU h1 hb, cellU h2 hb, cellU h3 hb⟩
theorem row3_of_owns {w : World} {base n : Nat} {e : TypeId} {v : Value} {xs : List Gp} (h : w.ownsRow base e 3 v n (cells3 xs)) : ∃ p c, v = .slice p xs.length c ∧ n = xs.length ∧ Row3 w p xs := by
  have hn : n = xs.length := by have := h.1; rw [cells3_length] at this; omega
  subst hn
  rcases h.2 with ⟨hv, h0⟩ | ⟨g, cap, cur, rfl, hb, hh, h1, h2, h3, h4⟩
  · exact ⟨none, 0, by rw [hv, h0], rfl, fun i hi => by omega⟩
  · refine ⟨_, cap, rfl, rfl, fun i hi => ⟨g, 0, rfl, ?_, ?_, ?_⟩⟩
    · rw [h.cellAt (0 + i * 3) (by omega), Nat.zero_add]; exact (cells3_at xs i hi).1
    · rw [h.cellAt (0 + i * 3 + 1) (by omega), Nat.zero_add]; exact (cells3_at xs i hi).2.1
    · rw [h.cellAt (0 + i * 3 + 2) (by omega), Nat.zero_add]; exact (cells3_at xs i hi).2.2
def Holding3 (w : World) (e : TypeId) (v : Value) (xs : List Gp) (wr : World) : Prop := wr.ownsRow w.heap.size e 3 v xs.length (cells3 xs) ∧ Below w.heap.size w wr
theorem Holding3.nil (w : World) (e : TypeId) : Holding3 w e (.slice none 0 0) [] w := ⟨World.ownsRow_nil w w.heap.size e 3, Below.refl _ _⟩
theorem Holding3.alloc {w wr : World} {e : TypeId} {v : Value} {xs : List Gp} (h : Holding3 w e v xs wr) (o : Obj) : Holding3 w e v xs (wr.alloc o) := ⟨h.1.alloc o, below_alloc h.2 o⟩
theorem Holding3.drewN {w wr : World} {e : TypeId} {v : Value} {xs : List Gp} (h : Holding3 w e v xs wr) (n : Nat) : Holding3 w e v xs (wr.drewN n) := ⟨h.1, below_drewN h.2 n⟩
theorem Holding3.below {w wr w1 : World} {e : TypeId} {v : Value} {xs : List Gp} (h : Holding3 w e v xs wr) (hb : Below wr.heap.size wr w1) : Holding3 w e v xs w1 :=
  ⟨h.1.kept (row := none) ⟨hb.os, hb.tape, hb.output, hb.size, fun k hk _ => hb.block k hk⟩ (by cases v.ownBlock <;> simp), below_step h.2 hb⟩
theorem Holding3.onto {w wr w1 : World} {e : TypeId} {v v' : Value} {xs : List Gp} {x y z : Int} (h : Holding3 w e v xs wr) (hown : w1.ownsRow w.heap.size e 3 v' (xs.length + 1) (cells3 xs ++ [.int .u16 x, .int .u32 y, .int .u32 z])) (hg : wr.grownBy w1 v.ownBlock) : Holding3 w e v' (xs ++ [(x, y, z)]) w1 :=
  ⟨by rw [cells3_append, List.length_append]; exact hown, h.2.grown hg h.2.size (fun j hj => (h.1.lt j hj).1)⟩
theorem Holding3.gave {w wr : World} {e : TypeId} {v : Value} {xs : List Gp} (h : Holding3 w e v xs wr) : ∃ p c, v = .slice p xs.length c ∧ Row3 wr p xs := by
  obtain ⟨p, c, h1, -, h2⟩ := row3_of_owns h.1
  exact ⟨p, c, h1, h2⟩
theorem cells_three {W : World} {b : Nat} {x y z : Value} (hx : W.cell? ⟨b, 0, none⟩ = some x) (hy : W.cell? ⟨b, 1, none⟩ = some y) (hz : W.cell? ⟨b, 2, none⟩ = some z) : ∀ j u, [x, y, z][j]? = some u → W.cell? ((⟨b, 0, none⟩ : Addr).add j) = some u := by
  intro j u hj
  match j, hj with
  | 0, hj => simp at hj; subst hj; simpa [Addr.add] using hx
  | 1, hj => simp at hj; subst hj; simpa [Addr.add] using hy
  | 2, hj => simp at hj; subst hj; simpa [Addr.add] using hz
theorem three_one (x y z : Int) : ∀ u ∈ [Value.int .u16 x, Value.int .u32 y, Value.int .u32 z], u.oneCell' = true := by intro u hu; simp at hu; rcases hu with rfl | rfl | rfl <;> rfl

/-- What another one knows beyond. -/
def lackAt (xs : List En) (y : En) : List Gp := if getL xs y.1 < y.2 then [(y.1, getL xs y.1 + 1, y.2)] else []
def lacksL (xs ys : List En) : List Gp := ys.flatMap (lackAt xs)
theorem lacksL_step {xs ys : List En} {k : Nat} (h : k < ys.length) : lacksL xs (ys.take (k + 1)) = lacksL xs (ys.take k) ++ lackAt xs (atL ys k) := by
  rw [take_atL ys k h]; simp [lacksL]
theorem lackAt_le (xs : List En) (y : En) : (lackAt xs y).length ≤ 1 := by unfold lackAt; split <;> simp
theorem lacksL_le (xs ys : List En) : (lacksL xs ys).length ≤ ys.length := by
  induction ys with
  | nil => simp [lacksL]
  | cons y ys ih => have := lackAt_le xs y; simp only [lacksL, List.flatMap_cons, List.length_append, List.length_cons] at ih ⊢; omega
def Gave3 (w : World) (xs : List Gp) (e : Ending) (w' : World) : Prop := ∃ p c, e = .returned (.slice p xs.length c) ∧ Row3 w' p xs ∧ Below w.heap.size w w'

/-- Values that the kinds hold. -/
def Fits (xs : List En) : Prop := ∀ x ∈ xs, 0 ≤ x.1 ∧ x.1 ≤ 65535 ∧ 0 ≤ x.2 ∧ x.2 ≤ 4294967295
theorem Fits.at {xs : List En} (h : Fits xs) {i : Nat} (hi : i < xs.length) : 0 ≤ (atL xs i).1 ∧ (atL xs i).1 ≤ 65535 ∧ 0 ≤ (atL xs i).2 ∧ (atL xs i).2 ≤ 4294967295 := h _ (atL_mem hi)
theorem getL_nonneg {xs : List En} (h : Fits xs) (r : Int) : 0 ≤ getL xs r := by
  induction xs with
  | nil => exact Int.le_refl _
  | cons x xs ih =>
    rw [getL]; split
    · exact (h x (by simp)).2.2.1
    · exact ih fun y hy => h y (by simp [hy])

set_option maxHeartbeats 3200000 in
set_option maxRecDepth 100000 in
theorem reflacks_any (xs ys : List En) (p q : Option Addr) (c d : Nat) (w : World) (hR : Row w p xs) (hS : Row w q ys) (hfx : Fits xs) (hfy : Fits ys) (hl : xs.length ≤ 1000) (hm : ys.length ≤ 1000) :
    Calls Tryd.prog 26 #[.slice p xs.length c, .slice q ys.length d] w (Gave3 w (lacksL xs ys)) := by
  have HS : Hid (Row w q ys) := hS
  have HR : Hid (Row w p xs) := hR
  clear hR hS
  obtain ⟨i0, hi, hz0, hz1, hz2⟩ := info_parts info51
  go_enter Tryd.func26, Tryd.ntmps26
  go_wp2
  go_loopg [5, 6] ys.length (fun g s i wr => ∃ k : Nat, k ≤ ys.length ∧ ys.length - k ≤ g ∧ i = .int .i64 k ∧ Holding3 w 51 s (lacksL xs (ys.take k)) wr)
  case atStart => exact ⟨0, Nat.zero_le _, by omega, rfl, by simpa [lacksL] using Holding3.nil w 51⟩
  case round =>
    obtain ⟨k, hk, hg, rfl, hO⟩ := hrel
    have HO : Hid (Holding3 w 51 u5 (lacksL xs (ys.take k)) wr) := hO
    clear hO
    by_cases hlt : k < ys.length
    · obtain ⟨b, o, rfl, c0', c1'⟩ := HS.out k hlt
      have c0 := cellU c0' HO.out.2
      have c1 := cellU c1' HO.out.2
      obtain ⟨-, -, y0, y1⟩ := hfy.at hlt
      clear c0' c1'
      generalize hx : (atL ys k).1 = x at c0
      generalize hy : (atL ys k).2 = y at c1 y0 y1
      have B : Hid (atL ys k = (x, y)) := Prod.ext hx hy
      clear hx hy
      have HG : Hid (Calls Tryd.prog 13 #[.slice p xs.length c, .int .u16 x] wr fun e w' => e = .returned (.int .u32 (getL xs x)) ∧ w' = wr) := refget_any xs x p c wr (HR.out.below HO.out.2) (by omega)
      have z0 := getL_nonneg hfx x
      generalize hz : getL xs x = z at HG z0
      have HZ : Hid (getL xs x = z) := hz
      clear hz
      have hll := lacksL_le xs (ys.take k)
      rw [List.length_take] at hll
      by_cases hlz : z < y
      · have hwz : IntKind.u32.wrap (z + 1) = z + 1 := by rw [IntKind.wrap_u32]; omega
        go_wp2_with (first | (go_at_call 13; refine HG.out.mono ?_; rintro e w' ⟨rfl, he⟩; obtain rfl := Eq.symm he))
        clear HG
        go_region_law (refine step_append_own rfl (.tmp 28) (.tmp 42) 48 rfl w.heap.size 51 i0 (.agg #[.int .u16 0, .int .u32 0, .int .u32 0]) 3 12 Tryd.underlying48 hi hz0 hz1 hz2 rfl (by decide) u5 (lacksL xs (ys.take k)).length (cells3 (lacksL xs (ys.take k))) (by simp [Act.eval, Act.put]) (by first | exact (HO.out.alloc _).1 | exact ((HO.out.drewN 1).alloc _).1) ⟨wr.heap.size, 0, none⟩ 1 1 [.int .u16 x, .int .u32 (z + 1), .int .u32 y] (by simp [Act.eval, Act.put]) rfl (cells_three (by simp) (by simp) (by simp)) (three_one x (z + 1) y) (by unfold maxLen; omega) (by omega) (by have := HO.out.2.size; simp; omega) ?_; intro v' w1 hown' hgrow)
        all_goals
          have HO2 : Hid (Holding3 w 51 v' (lacksL xs (ys.take (k + 1))) w1) := by
            rw [lacksL_step hlt, B.out, lackAt, if_pos (by simp only [HZ.out]; omega)]
            simp only [HZ.out]
            first | exact (HO.out.alloc _).onto hown' hgrow | exact ((HO.out.drewN 1).alloc _).onto hown' hgrow
          clear hown' hgrow
          go_wp2
          go_roundg (ys.length - (k + 1))
          case measure => omega
          case rel => exact ⟨k + 1, by omega, Nat.le_refl _, by go_num, HO2.out⟩
      · go_wp2_with (first | (go_at_call 13; refine HG.out.mono ?_; rintro e w' ⟨rfl, he⟩; obtain rfl := Eq.symm he))
        go_roundg (ys.length - (k + 1))
        case measure => omega
        case rel => exact ⟨k + 1, by omega, Nat.le_refl _, by go_num, by rw [lacksL_step hlt, B.out, lackAt, if_neg (by simp only [HZ.out]; omega), List.append_nil]; exact HO.out⟩
    · have : k = ys.length := by omega
      subst this
      rw [List.take_length] at HO
      obtain ⟨p', c', rfl, hr⟩ := HO.out.gave
      have HR' : Hid (Row3 wr p' (lacksL xs ys)) := hr
      clear hr
      go_wp2
      go_ret
      exact ⟨p', c', rfl, HR'.out, HO.out.2⟩

theorem lacksL_nil_iff (xs ys : List En) : lacksL xs ys = [] ↔ ∀ y ∈ ys, ¬ getL xs y.1 < y.2 := by
  simp only [lacksL, List.flatMap_eq_nil_iff, lackAt]
  constructor
  · intro h y hy hlt; have := h y hy; rw [if_pos hlt] at this; cases this
  · intro h y hy; rw [if_neg (h y hy)]
/-- It knows all that another one knows. -/
def coversL (xs ys : List En) : Bool := decide (∀ y ∈ ys, ¬ getL xs y.1 < y.2)

set_option maxHeartbeats 800000 in
theorem refcovers_any (xs ys : List En) (p q : Option Addr) (c d : Nat) (w : World) (hR : Row w p xs) (hS : Row w q ys) (hfx : Fits xs) (hfy : Fits ys) (hl : xs.length ≤ 1000) (hm : ys.length ≤ 1000) :
    Calls Tryd.prog 22 #[.slice p xs.length c, .slice q ys.length d] w fun e w' => e = .returned (.bool (coversL xs ys)) ∧ Below w.heap.size w w' := by
  have HL : Hid (Calls Tryd.prog 26 #[.slice p xs.length c, .slice q ys.length d] w (Gave3 w (lacksL xs ys))) := reflacks_any xs ys p q c d w hR hS hfx hfy hl hm
  have HE : Hid (coversL xs ys = decide (lacksL xs ys = [])) := by unfold coversL; exact decide_eq_decide.2 (lacksL_nil_iff xs ys).symm
  clear hR hS hfx hfy hl hm
  generalize lacksL xs ys = gs at HL HE
  generalize coversL xs ys = b at HE ⊢
  by_cases h0 : gs = []
  · subst h0
    have hb : b = true := by rw [HE.out]; rfl
    subst hb
    clear HE
    go_enter Tryd.func22, Tryd.ntmps22
    go_wp2_with (first | (go_at_call 26; refine HL.out.mono ?_; rintro e w1 ⟨p1, c1, rfl, hr1, hb1⟩))
    go_ret
    exact ⟨rfl, hb1⟩
  · have hb : b = false := by rw [HE.out]; exact decide_eq_false h0
    subst hb
    have hne : ((gs.length : Int) == 0) = false := by
      have : gs.length ≠ 0 := fun h => h0 (List.eq_nil_of_length_eq_zero h)
      simp; omega
    clear HE
    go_enter Tryd.func22, Tryd.ntmps22
    go_wp2_with (first | (go_at_call 26; refine HL.out.mono ?_; rintro e w1 ⟨p1, c1, rfl, hr1, hb1⟩))
    go_ret
    exact ⟨rfl, hb1⟩

end Go.Proofs.YthihfigphedomaaDoor
