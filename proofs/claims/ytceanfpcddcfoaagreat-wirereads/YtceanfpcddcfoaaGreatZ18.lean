/-
  Several texts of one proof, joined: each part says at its head what it proves. No conditions beyond what each theorem states.
-/
import Derived.Deep.RegionLaw
import Derived.Shelf.SlSortCmp.WholeK
import Derived.Test.YtceanfpcddcfoaaGreatZ15
import Derived.Test.YtceanfpcddcfoaaGreatZ17
import Derived.Test.YtceanfpcddcfoaaGreatZ07
import Derived.Test.YtceanfpcddcfoaaGreatZ14
import Derived.Test.YtceanfpcddcfoaaGreatProg
/-
  What the program's Get of layer 8 leaves. No conditions beyond what each theorem states.
-/
namespace Go.Proofs.YtceanfpcddcfoaaGreat
open Go.ChangeShapes Go.WideShapes Go.ChangeAt Go.RowKit Go.Lib
set_option linter.unusedVariables false
set_option linter.unusedSimpArgs false

theorem szO : (Tryz.prog.info? 79).map (·.size) = some 7 := by kernel_rfl
/-- What Get holds: its result (still nothing), what it has read so far, and the reader. -/
structure RG (w : World) (K D : Nat) (bs : List UInt8) (q e Y : Nat) (k a b c : Int) (s : ByteArray) (v : Value) (sq : Int) (W : World) : Prop where
  res : W.heap[w.heap.size]? = some (.cells #[.int .i64 0, .int .u16 0, .int .u32 0, .int .u32 0, .string ⟨#[]⟩, .slice none 0 0, .int .u32 0] 79 (0, 0))
  box : W.heap[Y]? = some (.cells #[.int .i64 k, .int .u16 a, .int .u32 b, .int .u32 c, .string s, v, .int .u32 sq] 79 (0, 0))
  far : w.heap.size < Y
  only : Only K w W
  lt : K < w.heap.size
  ltD : D < w.heap.size
  rd : Rd K D bs q e W
theorem RG.new {w w1 : World} {K D : Nat} {bs : List UInt8} {q e : Nat} (k : Int) (hK : K < w.heap.size) (hD : D < w.heap.size) (hR : Rd K D bs q e w1) (ho : Only K (w.alloc (.cells #[.int .i64 0, .int .u16 0, .int .u32 0, .int .u32 0, .string ⟨#[]⟩, .slice none 0 0, .int .u32 0] 79)) w1) :
    RG w K D bs q e w1.heap.size k 0 0 0 ⟨#[]⟩ (.slice none 0 0) 0 (w1.alloc (.cells #[.int .i64 k, .int .u16 0, .int .u32 0, .int .u32 0, .string ⟨#[]⟩, .slice none 0 0, .int .u32 0] 79)) := by
  have hX : w1.heap[w.heap.size]? = some (.cells #[.int .i64 0, .int .u16 0, .int .u32 0, .int .u32 0, .string ⟨#[]⟩, .slice none 0 0, .int .u32 0] 79 (0, 0)) := only_box (heap_alloc_new w _) (by omega) ho
  have hl := lt_of_block hX
  exact ⟨kept_box hX (below_alloc (Below.refl _ _) _), heap_alloc_new w1 _, hl, (Kept.trans (Kept.ofBelow (below_alloc (Below.refl _ _) _)) ho (fun _ _ e => e)).alloc _, hK, hD, hR.below (below_alloc (Below.refl _ _) _)⟩
theorem RG.on {w W W' : World} {K D : Nat} {bs : List UInt8} {q e q' e' Y : Nat} {k a b c : Int} {s : ByteArray} {v : Value} {sq : Int} (h : RG w K D bs q e Y k a b c s v sq W) (hr : Rd K D bs q' e' W') (ho : Only K W W') : RG w K D bs q' e' Y k a b c s v sq W' :=
  ⟨only_box h.res (by have := h.lt; omega) ho, only_box h.box (by have := h.lt; have := h.far; omega) ho, h.far, Kept.trans h.only ho (fun _ _ e => e), h.lt, h.ltD, hr⟩
theorem only_far {K V o : Nat} {w W : World} (h : Only K w W) (hV : w.heap.size ≤ V) (u : Value) : Only K w (W.setCell ⟨V, o, none⟩ u) :=
  Kept.trans h (only_set W V o u) (fun i hi e => by omega)
theorem RG.set {w W : World} {K D : Nat} {bs : List UInt8} {q e Y : Nat} {k a b c : Int} {s : ByteArray} {v : Value} {sq : Int} (h : RG w K D bs q e Y k a b c s v sq W) (i : Nat) (u : Value) {k' a' b' c' sq' : Int} {s' : ByteArray} {v' : Value}
    (ee : (#[.int .i64 k, .int .u16 a, .int .u32 b, .int .u32 c, .string s, v, .int .u32 sq] : Array Value).setIfInBounds i u = #[.int .i64 k', .int .u16 a', .int .u32 b', .int .u32 c', .string s', v', .int .u32 sq']) : RG w K D bs q e Y k' a' b' c' s' v' sq' (W.setCell ⟨Y, i, none⟩ u) :=
  ⟨by rw [heap_setCell_other _ _ _ _ (by have := h.far; simp; omega)]; exact h.res, by rw [heap_setCell_same W _ i _ _ u h.box, ee], h.far, only_far h.only (Nat.le_of_lt h.far) u, h.lt, h.ltD, h.rd.kept (S := fun k => k = Y) (only_set W Y i u) (by have := h.far; have := h.lt; omega) (by have := h.far; have := h.ltD; omega)⟩
theorem RG.frozen {w W : World} {K D : Nat} {bs : List UInt8} {q e Y : Nat} {k a b c : Int} {s : ByteArray} {v : Value} {sq : Int} (h : RG w K D bs q e Y k a b c s v sq W) : (∀ o, W.frozen? ⟨w.heap.size, o, none⟩ = false) ∧ (∀ o, W.frozen? ⟨Y, o, none⟩ = false) := ⟨fun o => frozen_of_block h.res, fun o => frozen_of_block h.box⟩
/-- The result written: the reader stays. -/
theorem RG.ret {w W : World} {K D : Nat} {bs : List UInt8} {q e Y : Nat} {k a b c : Int} {s : ByteArray} {v : Value} {sq : Int} (h : RG w K D bs q e Y k a b c s v sq W) (u0 u1 u2 u3 u4 u5 u6 : Value) :
    Only w.heap.size W (((((((W.setCell ⟨w.heap.size, 0, none⟩ u0).setCell ⟨w.heap.size, 1, none⟩ u1).setCell ⟨w.heap.size, 2, none⟩ u2).setCell ⟨w.heap.size, 3, none⟩ u3).setCell ⟨w.heap.size, 4, none⟩ u4).setCell ⟨w.heap.size, 5, none⟩ u5).setCell ⟨w.heap.size, 6, none⟩ u6) ∧
    Rd K D bs q e (((((((W.setCell ⟨w.heap.size, 0, none⟩ u0).setCell ⟨w.heap.size, 1, none⟩ u1).setCell ⟨w.heap.size, 2, none⟩ u2).setCell ⟨w.heap.size, 3, none⟩ u3).setCell ⟨w.heap.size, 4, none⟩ u4).setCell ⟨w.heap.size, 5, none⟩ u5).setCell ⟨w.heap.size, 6, none⟩ u6) ∧
    Only K w (((((((W.setCell ⟨w.heap.size, 0, none⟩ u0).setCell ⟨w.heap.size, 1, none⟩ u1).setCell ⟨w.heap.size, 2, none⟩ u2).setCell ⟨w.heap.size, 3, none⟩ u3).setCell ⟨w.heap.size, 4, none⟩ u4).setCell ⟨w.heap.size, 5, none⟩ u5).setCell ⟨w.heap.size, 6, none⟩ u6) := by
  have hS := only_seven W w.heap.size u0 u1 u2 u3 u4 u5 u6
  exact ⟨hS, h.rd.kept hS (by have := h.lt; omega) (by have := h.ltD; omega), Kept.trans h.only hS (fun i hi e => by omega)⟩
/-- A row of spans is no variable of an operation's kind. -/
theorem srow_apart {W : World} {B : Nat} {p : Option Addr} {l : List Sp} {k a b c sq : Int} {s : ByteArray} {v : Value} {t : TypeId} (hG : GRow layS W p l) (h0 : 0 < l.length) (h : W.heap[B]? = some (.cells #[.int .i64 k, .int .u16 a, .int .u32 b, .int .u32 c, .string s, v, .int .u32 sq] t (0, 0))) (hv : ∀ x y, v ≠ .int x y) : ∀ q, p = some q → ¬ q.block = B := by
  intro q e ee
  obtain ⟨b', o, rfl, c0, c1, c2⟩ := srow_at hG h0
  injection e with e
  subst e
  have ee : b' = B := ee
  subst ee
  rw [cell_of_block h] at c0 c1 c2
  simp only [Nat.zero_mul, Nat.add_zero] at c0 c1 c2
  match o, c0, c1, c2 with
  | 0, c0, c1, c2 => simp at c0
  | 1, c0, c1, c2 => simp at c2
  | 2, c0, c1, c2 => simp at c0
  | 3, c0, c1, c2 => simp at c0
  | 4, c0, c1, c2 => simp at c0
  | 5, c0, c1, c2 => simp at c0; exact hv _ _ c0
  | 6, c0, c1, c2 => simp at c0
  | n + 7, c0, c1, c2 => simp at c0
theorem GRow.away {W W' : World} {B : Nat} {p : Option Addr} {l : List Sp} {k a b c sq : Int} {s : ByteArray} {v : Value} {t : TypeId} (hG : GRow layS W p l) (h : W.heap[B]? = some (.cells #[.int .i64 k, .int .u16 a, .int .u32 b, .int .u32 c, .string s, v, .int .u32 sq] t (0, 0))) (hv : ∀ x y, v ≠ .int x y) (ho : Only B W W') : GRow layS W' p l := by
  rcases Nat.eq_zero_or_pos l.length with e | e
  · rw [List.eq_nil_of_length_eq_zero e]; exact GRow.nil _ _ _
  · exact hG.kept ho (srow_apart hG e h hv)

/-- What Get leaves, and in blocks of which kind. -/
def GotOK (bs : List UInt8) (q e K D : Nat) (w : World) (r : Ending) (w' : World) : Prop := ∃ p c q', r = .returned (ov (readO bs q e).1 p c) ∧ GRow layS w' p (readO bs q e).1.spans ∧ (readO bs q e).1.spans.length ≤ c ∧ (p = none → c = 0) ∧ Rd K D bs q' (readO bs q e).2.2 w' ∧ ((readO bs q e).2.2 = 0 → q' = (readO bs q e).2.1) ∧ Only K w w' ∧ KindAt 160 w' p
set_option maxHeartbeats 6400000 in
set_option maxRecDepth 20000 in
theorem getO_kind (bs : List UInt8) (q e K D : Nat) (w : World) (hR : Rd K D bs q e w) (hb : bs.length ≤ 100000) (he : e < 16) : Calls Tryz.prog 75 #[.pointer (some ⟨K, 0, none⟩)] w (GotOK bs q e K D w) := by
  have hK := lt_of_block hR.box
  have hD := lt_of_block hR.row
  have hkf := rdN_fits (e := e) (limit := 5) hR.fits
  have H0 := Lib.hid (fun (o : Obj) => rnum_any 5 (by decide) (w.alloc o) (hR.below (below_alloc (Below.refl _ _) o)))
  have HRO : Hid (readO bs q e = if (rdN bs q e 5).1 = 1 ∨ (rdN bs q e 5).1 = 3 then readB bs (rdN bs q e 5).1 (rdP bs (rdN bs q e 5).2.1 (rdN bs q e 5).2.2).1 (rdP bs (rdN bs q e 5).2.1 (rdN bs q e 5).2.2).2.1 (rdP bs (rdN bs q e 5).2.1 (rdN bs q e 5).2.2).2.2 else readB bs (rdN bs q e 5).1 (0, 0, 0) (rdN bs q e 5).2.1 (rdN bs q e 5).2.2) := rfl
  generalize rdN bs q e 5 = c0 at hkf H0 HRO
  obtain ⟨k, q0, e0⟩ := c0
  simp only at hkf H0 HRO
  obtain ⟨hq0, hk5, he0⟩ := hkf
  have he0' : e0 < 16 := by omega
  clear hR he0
  have zk : IntKind.i64.wrap (k : Int) = (k : Int) := by rw [IntKind.wrap_i64]; omega
  have HP : Hid (rdP bs q0 e0 = (((rdN bs q0 e0 65535).1, (rdN bs (rdN bs q0 e0 65535).2.1 (rdN bs q0 e0 65535).2.2 268435456).1, (rdN bs (rdN bs (rdN bs q0 e0 65535).2.1 (rdN bs q0 e0 65535).2.2 268435456).2.1 (rdN bs (rdN bs q0 e0 65535).2.1 (rdN bs q0 e0 65535).2.2 268435456).2.2 268435456).1), (rdN bs (rdN bs (rdN bs q0 e0 65535).2.1 (rdN bs q0 e0 65535).2.2 268435456).2.1 (rdN bs (rdN bs q0 e0 65535).2.1 (rdN bs q0 e0 65535).2.2 268435456).2.2 268435456).2)) := rfl
  have HA := Lib.hid (fun (W : World) (h : Rd K D bs q0 e0 W) => rnum_any 65535 (by decide) W h)
  have haf := rdN_fits (e := e0) (limit := 65535) hq0
  generalize rdN bs q0 e0 65535 = x1 at HP HA haf
  obtain ⟨a, q1, e1⟩ := x1
  simp only at HP HA haf
  have HB := Lib.hid (fun (W : World) (h : Rd K D bs q1 e1 W) => rnum_any 268435456 (by decide) W h)
  have hbf := rdN_fits (e := e1) (limit := 268435456) haf.1
  generalize rdN bs q1 e1 268435456 = x2 at HP HB hbf
  obtain ⟨b, q2, e2⟩ := x2
  simp only at HP HB hbf
  have HC := Lib.hid (fun (W : World) (h : Rd K D bs q2 e2 W) => rnum_any 268435456 (by decide) W h)
  have hcf := rdN_fits (e := e2) (limit := 268435456) hbf.1
  generalize rdN bs q2 e2 268435456 = x3 at HP HC hcf
  obtain ⟨c, q3, e3⟩ := x3
  simp only at HP HC hcf
  obtain ⟨_, ha1, ha2⟩ := haf
  obtain ⟨_, hb1, hb2⟩ := hbf
  obtain ⟨hq3, hc1, hc2⟩ := hcf
  have he3 : e3 < 16 := by omega
  have za : IntKind.u16.wrap (a : Int) = (a : Int) := by rw [IntKind.wrap_u16]; omega
  have zb : IntKind.u32.wrap (b : Int) = (b : Int) := by rw [IntKind.wrap_u32]; omega
  have zc : IntKind.u32.wrap (c : Int) = (c : Int) := by rw [IntKind.wrap_u32]; omega
  rw [HP.out] at HRO
  simp only at HRO
  clear HP ha2 hb2 hc2
  by_cases k1 : k = 1
  · subst k1
    rw [if_pos (Or.inl rfl)] at HRO
    have HRB : Hid (readO bs q e = if (rdT bs q3 e3 64).2.2 = 0 then (⟨1, (a : Int), (b : Int), (c : Int), (rdT bs q3 e3 64).1, [], 0⟩, (rdT bs q3 e3 64).2) else (o0, (rdT bs q3 e3 64).2)) := HRO.out
    have HT := Lib.hid (fun (W : World) (h : Rd K D bs q3 e3 W) => rtext_any 64 (by decide) (by decide) W h)
    simp only [show (64 : Int).toNat = 64 from rfl] at HT
    generalize rdT bs q3 e3 64 = x4 at HRB HT
    obtain ⟨T, qT, eT⟩ := x4
    simp only at HRB HT
    have HM := Lib.hid (makes_yes 1 (Or.inl rfl))
    have HN := Lib.hid (names_no 1 (by decide) (by decide))
    have HU := Lib.hid (turns_no 1 (Or.inl rfl))
    clear HRO
    go_enter Tryz.func75, Tryz.ntmps75
    go_wp2_with fail
    refine (H0.out _).mono ?_
    rintro r w1 ⟨rfl, hr1, ho1⟩
    have HG0 := Lib.hid (RG.new (1 : Int) hK hD hr1 ho1)
    generalize hY : w1.heap.size = Y at HG0
    clear hr1 ho1
    generalize hbt : (⟨T.toArray⟩ : ByteArray) = bt at HT
    obtain ⟨d0, d1, d2, d3, d4, d5, d6⟩ := seven_cells HG0.out.box
    obtain ⟨fx, fy⟩ := HG0.out.frozen
    go_wp2_with fail
    refine (HM.out _).mono ?_
    rintro r w2 ⟨rfl, he⟩
    obtain rfl := Eq.symm he
    go_wp2_with fail
    refine (HA.out _ HG0.out.rd).mono ?_
    rintro r w3 ⟨rfl, hr3, ho3⟩
    have G3 := Lib.hid (HG0.out.on hr3 ho3)
    clear hr3 ho3
    clear d0 d1 d2 d3 d4 d5 d6 fx fy
    obtain ⟨d0, d1, d2, d3, d4, d5, d6⟩ := seven_cells G3.out.box
    obtain ⟨fx, fy⟩ := G3.out.frozen
    go_wp2_with fail
    refine (HB.out _ G3.out.rd).mono ?_
    rintro r w4 ⟨rfl, hr4, ho4⟩
    have G4 := Lib.hid (G3.out.on hr4 ho4)
    clear hr4 ho4
    clear d0 d1 d2 d3 d4 d5 d6 fx fy
    obtain ⟨d0, d1, d2, d3, d4, d5, d6⟩ := seven_cells G4.out.box
    obtain ⟨fx, fy⟩ := G4.out.frozen
    have GS4 := Lib.hid ((G4.out.set 1 (.int .u16 (a : Int)) rfl).set 2 (.int .u32 (b : Int)) rfl)
    go_wp2_with fail
    refine (HC.out _ GS4.out.rd).mono ?_
    rintro r w5 ⟨rfl, hr5, ho5⟩
    have G5 := Lib.hid (GS4.out.on hr5 ho5)
    clear hr5 ho5
    clear d0 d1 d2 d3 d4 d5 d6 fx fy
    obtain ⟨d0, d1, d2, d3, d4, d5, d6⟩ := seven_cells G5.out.box
    obtain ⟨fx, fy⟩ := G5.out.frozen
    have GS5 := Lib.hid (G5.out.set 3 (.int .u32 (c : Int)) rfl)
    go_wp2_with fail
    refine (HT.out _ GS5.out.rd).mono ?_
    rintro r w6 ⟨rfl, hr6, ho6⟩
    have G6 := Lib.hid (GS5.out.on hr6 ho6)
    clear hr6 ho6
    clear d0 d1 d2 d3 d4 d5 d6 fx fy
    obtain ⟨d0, d1, d2, d3, d4, d5, d6⟩ := seven_cells G6.out.box
    obtain ⟨fx, fy⟩ := G6.out.frozen
    have GT := Lib.hid (G6.out.set 4 (.string bt) rfl)
    go_wp2_with fail
    refine (HN.out _).mono ?_
    rintro r w7 ⟨rfl, he⟩
    obtain rfl := Eq.symm he
    go_wp2_with fail
    refine (HU.out _).mono ?_
    rintro r w8 ⟨rfl, he⟩
    obtain rfl := Eq.symm he
    subst hbt
    have HE := Lib.hid (error_any _ GT.out.rd)
    go_wp2_with fail
    refine HE.out.mono ?_
    rintro r wE ⟨rfl, he⟩
    obtain rfl := Eq.symm he
    obtain ⟨x0, x1, x2, x3, x4, x5, x6⟩ := seven_cells GT.out.res
    have hne : ¬ w.heap.size = Y := by have := GT.out.far; omega
    have hne2 : ¬ Y = w.heap.size := by have := GT.out.far; omega
    by_cases hz : eT = 0
    · subst hz
      have HO := Lib.hid (show readO bs q e = (⟨1, (a : Int), (b : Int), (c : Int), T, [], 0⟩, qT, 0) from by rw [HRB.out, if_pos rfl])
      go_wp2
      (try simp only [Exit.inBlock, Exit.then])
      obtain ⟨t1, t2, t3⟩ := GT.out.ret (.int .i64 1) (.int .u16 (a : Int)) (.int .u32 (b : Int)) (.int .u32 (c : Int)) (.string ⟨T.toArray⟩) (.slice none 0 0) (.int .u32 0)
      refine bodyPost_ret (results_cell_row rfl _ _ w.heap.size 79 #[(.int .i64 1), (.int .u16 (a : Int)), (.int .u32 (b : Int)), (.int .u32 (c : Int)), (.string ⟨T.toArray⟩), (.slice none 0 0), (.int .u32 0)] (0, 0) _ rfl (box_seven GT.out.res) Tryz.underlying79 rfl szO) rfl ?_
      unfold GotOK
      rw [HO.out]
      exact ⟨none, 0, _, rfl, GRow.nil _ _ _, Nat.le_refl _, fun _ => rfl, t2, fun _ => rfl, t3, KindAt.nil _ _⟩
    · have hz1 : ((eT : Int) == 0) = false := beq_no (by omega)
      have hz2 : ((eT : Int) != 0) = true := by simpa using hz
      have HO := Lib.hid (show readO bs q e = (o0, qT, eT) from by rw [HRB.out, if_neg hz])
      go_wp2
      (try simp only [Exit.inBlock, Exit.then])
      obtain ⟨t1, t2, t3⟩ := GT.out.ret (.int .i64 0) (.int .u16 0) (.int .u32 0) (.int .u32 0) (.string ⟨#[]⟩) (.slice none 0 0) (.int .u32 0)
      refine bodyPost_ret (results_cell_row rfl _ _ w.heap.size 79 #[.int .i64 0, .int .u16 0, .int .u32 0, .int .u32 0, .string ⟨#[]⟩, .slice none 0 0, .int .u32 0] (0, 0) _ rfl (box_seven GT.out.res) Tryz.underlying79 rfl szO) rfl ?_
      unfold GotOK
      rw [HO.out]
      exact ⟨none, 0, _, rfl, GRow.nil _ _ _, Nat.le_refl _, fun _ => rfl, t2, fun h0 => absurd h0 hz, t3, KindAt.nil _ _⟩
  · by_cases k2 : k = 2
    · subst k2
      rw [if_neg (by decide)] at HRO
      have HRB : Hid (readO bs q e = if (readS bs q0 e0).2.2 = 0 then (⟨2, (0 : Int), (0 : Int), (0 : Int), [], (readS bs q0 e0).1, 0⟩, (readS bs q0 e0).2) else (o0, (readS bs q0 e0).2)) := by show _ = _; rw [HRO.out]; rfl
      have HS := Lib.hid (fun (W : World) (h : Rd K D bs q0 e0 W) => get_kind bs q0 e0 K D W h hb (by omega))
      unfold GotK at HS
      generalize readS bs q0 e0 = x4 at HRB HS
      obtain ⟨L, qL, eL⟩ := x4
      simp only at HRB HS
      have HN := Lib.hid (names_yes 2 (Or.inl rfl))
      have HU := Lib.hid (turns_no 2 (Or.inr (Or.inl rfl)))
      have HM := Lib.hid (makes_no 2 (by decide) (by decide))
      clear HRO
      go_enter Tryz.func75, Tryz.ntmps75
      go_wp2_with fail
      refine (H0.out _).mono ?_
      rintro r w9 ⟨rfl, hr9, ho9⟩
      have HG0 := Lib.hid (RG.new (2 : Int) hK hD hr9 ho9)
      generalize hY : w9.heap.size = Y at HG0
      clear hr9 ho9
      obtain ⟨d0, d1, d2, d3, d4, d5, d6⟩ := seven_cells HG0.out.box
      obtain ⟨fx, fy⟩ := HG0.out.frozen
      go_wp2_with fail
      refine (HM.out _).mono ?_
      rintro r w10 ⟨rfl, he⟩
      obtain rfl := Eq.symm he
      go_wp2_with fail
      refine (HN.out _).mono ?_
      rintro r w11 ⟨rfl, he⟩
      obtain rfl := Eq.symm he
      go_wp2_with fail
      refine (HS.out _ HG0.out.rd).mono ?_
      rintro r w12 ⟨pS, cS, qS', rfl, hG12, hcS, hpS, hr12, hqS, ho12, hk12⟩
      have G12 := Lib.hid (HG0.out.on hr12 ho12)
      have HL := Lib.hid (hG12.away G12.out.box (by intro x y h; cases h) (only_set _ Y 5 (.slice pS L.length cS)))
      have HKN := Lib.hid (hk12.kept (only_set _ Y 5 (.slice pS L.length cS)) (hk12.apart (by decide) G12.out.box))
      clear hr12 ho12 hG12 hk12
      clear d0 d1 d2 d3 d4 d5 d6 fx fy
      obtain ⟨d0, d1, d2, d3, d4, d5, d6⟩ := seven_cells G12.out.box
      obtain ⟨fx, fy⟩ := G12.out.frozen
      have GT := Lib.hid (G12.out.set 5 (.slice pS L.length cS) rfl)
      go_wp2_with fail
      refine (HU.out _).mono ?_
      rintro r w13 ⟨rfl, he⟩
      obtain rfl := Eq.symm he
      have HE := Lib.hid (error_any _ GT.out.rd)
      go_wp2_with fail
      refine HE.out.mono ?_
      rintro r wE ⟨rfl, he⟩
      obtain rfl := Eq.symm he
      obtain ⟨x0, x1, x2, x3, x4, x5, x6⟩ := seven_cells GT.out.res
      have hne : ¬ w.heap.size = Y := by have := GT.out.far; omega
      have hne2 : ¬ Y = w.heap.size := by have := GT.out.far; omega
      by_cases hz : eL = 0
      · subst hz
        have HO := Lib.hid (show readO bs q e = (⟨2, (0 : Int), (0 : Int), (0 : Int), [], L, 0⟩, qL, 0) from by rw [HRB.out, if_pos rfl])
        go_wp2
        (try simp only [Exit.inBlock, Exit.then])
        obtain ⟨t1, t2, t3⟩ := GT.out.ret (.int .i64 2) (.int .u16 (0 : Int)) (.int .u32 (0 : Int)) (.int .u32 (0 : Int)) (.string ⟨#[]⟩) (.slice pS L.length cS) (.int .u32 0)
        refine bodyPost_ret (results_cell_row rfl _ _ w.heap.size 79 #[(.int .i64 2), (.int .u16 (0 : Int)), (.int .u32 (0 : Int)), (.int .u32 (0 : Int)), (.string ⟨#[]⟩), (.slice pS L.length cS), (.int .u32 0)] (0, 0) _ rfl (box_seven GT.out.res) Tryz.underlying79 rfl szO) rfl ?_
        unfold GotOK
        rw [HO.out]
        exact ⟨pS, cS, _, rfl, HL.out.away GT.out.res (by intro x y h; cases h) t1, hcS, hpS, t2, fun _ => (by simpa using hqS), t3, HKN.out.kept t1 (HKN.out.apart (by decide) GT.out.res)⟩
      · have hz1 : ((eL : Int) == 0) = false := beq_no (by omega)
        have hz2 : ((eL : Int) != 0) = true := by simpa using hz
        have HO := Lib.hid (show readO bs q e = (o0, qL, eL) from by rw [HRB.out, if_neg hz])
        go_wp2
        (try simp only [Exit.inBlock, Exit.then])
        obtain ⟨t1, t2, t3⟩ := GT.out.ret (.int .i64 0) (.int .u16 0) (.int .u32 0) (.int .u32 0) (.string ⟨#[]⟩) (.slice none 0 0) (.int .u32 0)
        refine bodyPost_ret (results_cell_row rfl _ _ w.heap.size 79 #[.int .i64 0, .int .u16 0, .int .u32 0, .int .u32 0, .string ⟨#[]⟩, .slice none 0 0, .int .u32 0] (0, 0) _ rfl (box_seven GT.out.res) Tryz.underlying79 rfl szO) rfl ?_
        unfold GotOK
        rw [HO.out]
        exact ⟨none, 0, _, rfl, GRow.nil _ _ _, Nat.le_refl _, fun _ => rfl, t2, fun h0 => absurd h0 hz, t3, KindAt.nil _ _⟩
    · by_cases k3 : k = 3
      · subst k3
        rw [if_pos (Or.inr rfl)] at HRO
        have HRB : Hid (readO bs q e = if (readS bs q3 e3).2.2 = 0 then (⟨3, (a : Int), (b : Int), (c : Int), [], (readS bs q3 e3).1, 0⟩, (readS bs q3 e3).2) else (o0, (readS bs q3 e3).2)) := by show _ = _; rw [HRO.out]; rfl
        have HS := Lib.hid (fun (W : World) (h : Rd K D bs q3 e3 W) => get_kind bs q3 e3 K D W h hb (by omega))
        unfold GotK at HS
        generalize readS bs q3 e3 = x4 at HRB HS
        obtain ⟨L, qL, eL⟩ := x4
        simp only at HRB HS
        have HN := Lib.hid (names_yes 3 (Or.inr rfl))
        have HU := Lib.hid (turns_no 3 (Or.inr (Or.inr rfl)))
        have HM := Lib.hid (makes_yes 3 (Or.inr rfl))
        clear HRO
        go_enter Tryz.func75, Tryz.ntmps75
        go_wp2_with fail
        refine (H0.out _).mono ?_
        rintro r w14 ⟨rfl, hr14, ho14⟩
        have HG0 := Lib.hid (RG.new (3 : Int) hK hD hr14 ho14)
        generalize hY : w14.heap.size = Y at HG0
        clear hr14 ho14
        obtain ⟨d0, d1, d2, d3, d4, d5, d6⟩ := seven_cells HG0.out.box
        obtain ⟨fx, fy⟩ := HG0.out.frozen
        go_wp2_with fail
        refine (HM.out _).mono ?_
        rintro r w15 ⟨rfl, he⟩
        obtain rfl := Eq.symm he
        go_wp2_with fail
        refine (HA.out _ HG0.out.rd).mono ?_
        rintro r w16 ⟨rfl, hr16, ho16⟩
        have G16 := Lib.hid (HG0.out.on hr16 ho16)
        clear hr16 ho16
        clear d0 d1 d2 d3 d4 d5 d6 fx fy
        obtain ⟨d0, d1, d2, d3, d4, d5, d6⟩ := seven_cells G16.out.box
        obtain ⟨fx, fy⟩ := G16.out.frozen
        go_wp2_with fail
        refine (HB.out _ G16.out.rd).mono ?_
        rintro r w17 ⟨rfl, hr17, ho17⟩
        have G17 := Lib.hid (G16.out.on hr17 ho17)
        clear hr17 ho17
        clear d0 d1 d2 d3 d4 d5 d6 fx fy
        obtain ⟨d0, d1, d2, d3, d4, d5, d6⟩ := seven_cells G17.out.box
        obtain ⟨fx, fy⟩ := G17.out.frozen
        have GS17 := Lib.hid ((G17.out.set 1 (.int .u16 (a : Int)) rfl).set 2 (.int .u32 (b : Int)) rfl)
        go_wp2_with fail
        refine (HC.out _ GS17.out.rd).mono ?_
        rintro r w18 ⟨rfl, hr18, ho18⟩
        have G18 := Lib.hid (GS17.out.on hr18 ho18)
        clear hr18 ho18
        clear d0 d1 d2 d3 d4 d5 d6 fx fy
        obtain ⟨d0, d1, d2, d3, d4, d5, d6⟩ := seven_cells G18.out.box
        obtain ⟨fx, fy⟩ := G18.out.frozen
        have GS18 := Lib.hid (G18.out.set 3 (.int .u32 (c : Int)) rfl)
        go_wp2_with fail
        refine (HN.out _).mono ?_
        rintro r w19 ⟨rfl, he⟩
        obtain rfl := Eq.symm he
        go_wp2_with fail
        refine (HS.out _ GS18.out.rd).mono ?_
        rintro r w20 ⟨pS, cS, qS', rfl, hG20, hcS, hpS, hr20, hqS, ho20, hk20⟩
        have G20 := Lib.hid (GS18.out.on hr20 ho20)
        have HL := Lib.hid (hG20.away G20.out.box (by intro x y h; cases h) (only_set _ Y 5 (.slice pS L.length cS)))
        have HKN := Lib.hid (hk20.kept (only_set _ Y 5 (.slice pS L.length cS)) (hk20.apart (by decide) G20.out.box))
        clear hr20 ho20 hG20 hk20
        clear d0 d1 d2 d3 d4 d5 d6 fx fy
        obtain ⟨d0, d1, d2, d3, d4, d5, d6⟩ := seven_cells G20.out.box
        obtain ⟨fx, fy⟩ := G20.out.frozen
        have GT := Lib.hid (G20.out.set 5 (.slice pS L.length cS) rfl)
        go_wp2_with fail
        refine (HU.out _).mono ?_
        rintro r w21 ⟨rfl, he⟩
        obtain rfl := Eq.symm he
        have HE := Lib.hid (error_any _ GT.out.rd)
        go_wp2_with fail
        refine HE.out.mono ?_
        rintro r wE ⟨rfl, he⟩
        obtain rfl := Eq.symm he
        obtain ⟨x0, x1, x2, x3, x4, x5, x6⟩ := seven_cells GT.out.res
        have hne : ¬ w.heap.size = Y := by have := GT.out.far; omega
        have hne2 : ¬ Y = w.heap.size := by have := GT.out.far; omega
        by_cases hz : eL = 0
        · subst hz
          have HO := Lib.hid (show readO bs q e = (⟨3, (a : Int), (b : Int), (c : Int), [], L, 0⟩, qL, 0) from by rw [HRB.out, if_pos rfl])
          go_wp2
          (try simp only [Exit.inBlock, Exit.then])
          obtain ⟨t1, t2, t3⟩ := GT.out.ret (.int .i64 3) (.int .u16 (a : Int)) (.int .u32 (b : Int)) (.int .u32 (c : Int)) (.string ⟨#[]⟩) (.slice pS L.length cS) (.int .u32 0)
          refine bodyPost_ret (results_cell_row rfl _ _ w.heap.size 79 #[(.int .i64 3), (.int .u16 (a : Int)), (.int .u32 (b : Int)), (.int .u32 (c : Int)), (.string ⟨#[]⟩), (.slice pS L.length cS), (.int .u32 0)] (0, 0) _ rfl (box_seven GT.out.res) Tryz.underlying79 rfl szO) rfl ?_
          unfold GotOK
          rw [HO.out]
          exact ⟨pS, cS, _, rfl, HL.out.away GT.out.res (by intro x y h; cases h) t1, hcS, hpS, t2, fun _ => (by simpa using hqS), t3, HKN.out.kept t1 (HKN.out.apart (by decide) GT.out.res)⟩
        · have hz1 : ((eL : Int) == 0) = false := beq_no (by omega)
          have hz2 : ((eL : Int) != 0) = true := by simpa using hz
          have HO := Lib.hid (show readO bs q e = (o0, qL, eL) from by rw [HRB.out, if_neg hz])
          go_wp2
          (try simp only [Exit.inBlock, Exit.then])
          obtain ⟨t1, t2, t3⟩ := GT.out.ret (.int .i64 0) (.int .u16 0) (.int .u32 0) (.int .u32 0) (.string ⟨#[]⟩) (.slice none 0 0) (.int .u32 0)
          refine bodyPost_ret (results_cell_row rfl _ _ w.heap.size 79 #[.int .i64 0, .int .u16 0, .int .u32 0, .int .u32 0, .string ⟨#[]⟩, .slice none 0 0, .int .u32 0] (0, 0) _ rfl (box_seven GT.out.res) Tryz.underlying79 rfl szO) rfl ?_
          unfold GotOK
          rw [HO.out]
          exact ⟨none, 0, _, rfl, GRow.nil _ _ _, Nat.le_refl _, fun _ => rfl, t2, fun h0 => absurd h0 hz, t3, KindAt.nil _ _⟩
      · rw [if_neg (by omega)] at HRO
        have HRB : Hid (readO bs q e = if (rdN bs q0 e0 268435456).2.2 = 0 then (⟨(k : Int), 0, 0, 0, [], [], ((rdN bs q0 e0 268435456).1 : Int)⟩, (rdN bs q0 e0 268435456).2) else (o0, (rdN bs q0 e0 268435456).2)) := by show _ = _; rw [HRO.out]; unfold readB; rw [if_neg k1, if_neg (by omega)]; rfl
        have HS := Lib.hid (fun (W : World) (h : Rd K D bs q0 e0 W) => rnum_any 268435456 (by decide) W h)
        have hsf := rdN_fits (e := e0) (limit := 268435456) hq0
        generalize rdN bs q0 e0 268435456 = x4 at HRB HS hsf
        obtain ⟨sq, qL, eL⟩ := x4
        simp only at HRB HS hsf
        obtain ⟨_, hs1, _⟩ := hsf
        have zs : IntKind.u32.wrap (sq : Int) = (sq : Int) := by rw [IntKind.wrap_u32]; omega
        have HM := Lib.hid (makes_no (k : Int) (by omega) (by omega))
        have HN := Lib.hid (names_no (k : Int) (by omega) (by omega))
        have HU := Lib.hid (turns_yes (k : Int) (by omega) (by omega) (by omega))
        have k1' : ((k : Int) == 1) = false := beq_no (by omega)
        clear HRO
        go_enter Tryz.func75, Tryz.ntmps75
        go_wp2_with fail
        refine (H0.out _).mono ?_
        rintro r w22 ⟨rfl, hr22, ho22⟩
        have HG0 := Lib.hid (RG.new (k : Int) hK hD hr22 ho22)
        generalize hY : w22.heap.size = Y at HG0
        clear hr22 ho22
        obtain ⟨d0, d1, d2, d3, d4, d5, d6⟩ := seven_cells HG0.out.box
        obtain ⟨fx, fy⟩ := HG0.out.frozen
        go_wp2_with fail
        refine (HM.out _).mono ?_
        rintro r w23 ⟨rfl, he⟩
        obtain rfl := Eq.symm he
        go_wp2_with fail
        refine (HN.out _).mono ?_
        rintro r w24 ⟨rfl, he⟩
        obtain rfl := Eq.symm he
        go_wp2_with fail
        refine (HU.out _).mono ?_
        rintro r w25 ⟨rfl, he⟩
        obtain rfl := Eq.symm he
        go_wp2_with fail
        refine (HS.out _ HG0.out.rd).mono ?_
        rintro r w26 ⟨rfl, hr26, ho26⟩
        have G26 := Lib.hid (HG0.out.on hr26 ho26)
        clear hr26 ho26
        clear d0 d1 d2 d3 d4 d5 d6 fx fy
        obtain ⟨d0, d1, d2, d3, d4, d5, d6⟩ := seven_cells G26.out.box
        obtain ⟨fx, fy⟩ := G26.out.frozen
        have GT := Lib.hid (G26.out.set 6 (.int .u32 (sq : Int)) rfl)
        have HE := Lib.hid (error_any _ GT.out.rd)
        go_wp2_with fail
        refine HE.out.mono ?_
        rintro r wE ⟨rfl, he⟩
        obtain rfl := Eq.symm he
        obtain ⟨x0, x1, x2, x3, x4, x5, x6⟩ := seven_cells GT.out.res
        have hne : ¬ w.heap.size = Y := by have := GT.out.far; omega
        have hne2 : ¬ Y = w.heap.size := by have := GT.out.far; omega
        by_cases hz : eL = 0
        · subst hz
          have HO := Lib.hid (show readO bs q e = (⟨(k : Int), 0, 0, 0, [], [], (sq : Int)⟩, qL, 0) from by rw [HRB.out, if_pos rfl])
          go_wp2
          (try simp only [Exit.inBlock, Exit.then])
          obtain ⟨t1, t2, t3⟩ := GT.out.ret (.int .i64 (k : Int)) (.int .u16 0) (.int .u32 0) (.int .u32 0) (.string ⟨#[]⟩) (.slice none 0 0) (.int .u32 (sq : Int))
          refine bodyPost_ret (results_cell_row rfl _ _ w.heap.size 79 #[(.int .i64 (k : Int)), (.int .u16 0), (.int .u32 0), (.int .u32 0), (.string ⟨#[]⟩), (.slice none 0 0), (.int .u32 (sq : Int))] (0, 0) _ rfl (box_seven GT.out.res) Tryz.underlying79 rfl szO) rfl ?_
          unfold GotOK
          rw [HO.out]
          exact ⟨none, 0, _, rfl, GRow.nil _ _ _, Nat.le_refl _, fun _ => rfl, t2, fun _ => rfl, t3, KindAt.nil _ _⟩
        · have hz1 : ((eL : Int) == 0) = false := beq_no (by omega)
          have hz2 : ((eL : Int) != 0) = true := by simpa using hz
          have HO := Lib.hid (show readO bs q e = (o0, qL, eL) from by rw [HRB.out, if_neg hz])
          go_wp2
          (try simp only [Exit.inBlock, Exit.then])
          obtain ⟨t1, t2, t3⟩ := GT.out.ret (.int .i64 0) (.int .u16 0) (.int .u32 0) (.int .u32 0) (.string ⟨#[]⟩) (.slice none 0 0) (.int .u32 0)
          refine bodyPost_ret (results_cell_row rfl _ _ w.heap.size 79 #[.int .i64 0, .int .u16 0, .int .u32 0, .int .u32 0, .string ⟨#[]⟩, .slice none 0 0, .int .u32 0] (0, 0) _ rfl (box_seven GT.out.res) Tryz.underlying79 rfl szO) rfl ?_
          unfold GotOK
          rw [HO.out]
          exact ⟨none, 0, _, rfl, GRow.nil _ _ _, Nat.le_refl _, fun _ => rfl, t2, fun h0 => absurd h0 hz, t3, KindAt.nil _ _⟩
theorem getO_spec : GetOSpec := fun bs q e K D w hR hb he => (getO_kind bs q e K D w hR hb he).mono (by rintro r w' ⟨p, c, q', h1, h2, h3, h4, h5, h6, h7, -⟩; exact ⟨p, c, q', h1, h2, h3, h4, h5, h6, h7⟩)
end Go.Proofs.YtceanfpcddcfoaaGreat
/-
  What the program's Get of layer 9 leaves. No conditions beyond what each theorem states.
-/
namespace Go.Proofs.YtceanfpcddcfoaaGreat
open Go.ChangeShapes Go.WideShapes Go.ChangeAt Go.RowKit Go.Lib
set_option linter.unusedVariables false
set_option linter.unusedSimpArgs false

theorem szT9 : (Tryz.prog.info? 29).map (·.size) = some 5 := by kernel_rfl
theorem infoO9 : (Tryz.prog.info? 79).map (fun i => (i.zero, i.size, i.bytes)) = some (some (.agg #[.int .i64 0, .int .u16 0, .int .u32 0, .int .u32 0, .string ⟨#[]⟩, .slice none 0 0, .int .u32 0]), 7, 72) := by kernel_rfl
/-- Behind an error nothing is read. -/
theorem readO_err {bs : List UInt8} {q e : Nat} (h : e ≠ 0) : readO bs q e = (o0, q, e) := by
  unfold readO
  rw [rdN_err h]
  simp only
  rw [if_neg (by decide)]
  unfold readB
  rw [if_neg (by decide), if_neg (by decide), rdN_err h]
  simp only
  rw [if_neg h]
/-- Operations that are read on behind an error too: what is read so far. -/
def Sofar (bs : List UInt8) (n q0 e0 k : Nat) (l : List Om) (q e : Nat) : Prop := (e = 0 ∧ rdOs bs n q0 e0 = (l ++ (rdOs bs (n - k) q 0).1, (rdOs bs (n - k) q 0).2)) ∨ (e ≠ 0 ∧ (rdOs bs n q0 e0).2.2 = e)
theorem Sofar.start (bs : List UInt8) (n q e : Nat) : Sofar bs n q e 0 [] q e := by
  by_cases h : e = 0
  · subst h; exact Or.inl ⟨rfl, rfl⟩
  · exact Or.inr ⟨h, by rw [rdOs_err bs n q e h]⟩
theorem Sofar.next {bs : List UInt8} {n q0 e0 k q e q' : Nat} {l : List Om} (h : Sofar bs n q0 e0 k l q e) (hk : k < n) (hq : (readO bs q e).2.2 = 0 → q' = (readO bs q e).2.1) : Sofar bs n q0 e0 (k + 1) (l ++ [(readO bs q e).1]) q' (readO bs q e).2.2 := by
  rcases h with ⟨rfl, h⟩ | ⟨h1, h⟩
  · rw [rdOs_step hk] at h
    by_cases hz : (readO bs q 0).2.2 = 0
    · refine Or.inl ⟨hz, ?_⟩
      rw [h, hq hz, hz]
      simp
    · refine Or.inr ⟨hz, ?_⟩
      rw [h, rdOs_err _ _ _ _ hz]
  · have he : (readO bs q e).2.2 = e := by rw [readO_err h1]
    exact Or.inr ⟨by rw [he]; exact h1, by rw [he]; exact h⟩
theorem Sofar.done {bs : List UInt8} {n q0 e0 q e : Nat} {l : List Om} (h : Sofar bs n q0 e0 n l q e) : (e = 0 ∧ rdOs bs n q0 e0 = (l, q, 0)) ∨ (e ≠ 0 ∧ (rdOs bs n q0 e0).2.2 = e) := by
  rcases h with ⟨h1, h⟩ | h
  · refine Or.inl ⟨h1, ?_⟩
    rw [h, Nat.sub_self]
    simp [rdOs]
  · exact Or.inr h
/-- What Get holds: its result (still nothing), its variable, the row of operations in it, and the reader. -/
structure RT (w : World) (K D : Nat) (bs : List UInt8) (q e X : Nat) (a b c d : Int) (u v : Value) (ys : List OV) (W : World) : Prop where
  res : W.heap[w.heap.size]? = some (.cells #[.int .u16 0, .int .u32 0, .int .u64 0, .int .i64 0, .slice none 0 0] 29 (0, 0))
  box : W.heap[X]? = some (.cells #[.int .u16 a, .int .u32 b, .int .u64 c, .int .i64 d, u] 29 (0, 0))
  far : w.heap.size < X
  own : W.ownsRow w.heap.size 79 7 v ys.length (layO.flat ys)
  each : ∀ y ∈ ys, OwnO 160 W y
  only : Only K w W
  lt : K < w.heap.size
  ltD : D < w.heap.size
  rd : Rd K D bs q e W
theorem RT.on {w W W' : World} {K D : Nat} {bs : List UInt8} {q e q' e' X : Nat} {a b c d : Int} {u v : Value} {ys : List OV} (h : RT w K D bs q e X a b c d u v ys W) (hr : Rd K D bs q' e' W') (ho : Only K W W') : RT w K D bs q' e' X a b c d u v ys W' :=
  ⟨only_box h.res (by have := h.lt; omega) ho, only_box h.box (by have := h.lt; have := h.far; omega) ho, h.far,
   h.own.kept (row := some K) ⟨ho.os, ho.tape, ho.output, ho.size, fun k hk hn => ho.block k hk (fun e => hn (by rw [e]))⟩ (Or.inr fun e => by have := (h.own.lt _ e).1; have := h.lt; omega),
   fun y hy => (h.each y hy).only (by decide) h.rd.box ho, Kept.trans h.only ho (fun _ _ e => e), h.lt, h.ltD, hr⟩
theorem RT.below {w W W' : World} {K D : Nat} {bs : List UInt8} {q e X : Nat} {a b c d : Int} {u v : Value} {ys : List OV} (h : RT w K D bs q e X a b c d u v ys W) (hb : Below W.heap.size W W') : RT w K D bs q e X a b c d u v ys W' := h.on (h.rd.below hb) (Kept.ofBelow hb)
theorem RT.onto {w W W' : World} {K D : Nat} {bs : List UInt8} {q e X n : Nat} {a b c d : Int} {u v v' : Value} {ys : List OV} {y : OV} {cs : List Value} (h : RT w K D bs q e X a b c d u v ys W) (hy : OwnO 160 W y) (hcs : cs = layO.enc y) (hn : n = ys.length + 1) (hown : W'.ownsRow w.heap.size 79 7 v' n (layO.flat ys ++ cs)) (hg : W.grownBy W' v.ownBlock) : RT w K D bs q e X a b c d u v' (ys ++ [y]) W' := by
  have hk : Kept (fun i => v.ownBlock = some i) W W' := ⟨hg.os, hg.tape, hg.output, hg.size, fun k hk hn => hg.block k hk (fun e => hn e.symm)⟩
  refine ⟨box_grown (by decide) h.res h.own hg, box_grown (by decide) h.box h.own hg, h.far, ?_, ?_, Kept.trans h.only hk (fun i hi e => by have := (h.own.lt _ e).1; omega), h.lt, h.ltD, h.rd.kept hk (fun e => by have := (h.own.lt _ e).1; have := h.lt; omega) (fun e => by have := (h.own.lt _ e).1; have := h.ltD; omega)⟩
  · rw [layO.flat_append, layO.flat_one, List.length_append, ← hcs]
    rw [hn] at hown
    exact hown
  · intro z hz
    rcases List.mem_append.1 hz with hz | hz
    · exact (h.each z hz).grown (by decide) h.own hg
    · rw [List.mem_singleton.1 hz]; exact hy.grown (by decide) h.own hg
theorem RT.set {w W : World} {K D : Nat} {bs : List UInt8} {q e X : Nat} {a b c d : Int} {u v : Value} {ys : List OV} (h : RT w K D bs q e X a b c d u v ys W) (u' : Value) : RT w K D bs q e X a b c d u' v ys (W.setCell ⟨X, 4, none⟩ u') := by
  have hs := only_set W X 4 u'
  have hap := kind_apart (by decide) h.box h.own
  refine ⟨by rw [heap_setCell_other _ _ _ _ (by have := h.far; simp; omega)]; exact h.res, by rw [heap_setCell_same W _ 4 _ _ u' h.box]; rfl, h.far, ?_, fun y hy => (h.each y hy).only (by decide) h.box hs, Kept.trans h.only hs (fun i hi e => by have := h.far; omega), h.lt, h.ltD, h.rd.kept hs (by have := h.far; have := h.lt; omega) (by have := h.far; have := h.ltD; omega)⟩
  exact h.own.kept (row := some X) ⟨hs.os, hs.tape, hs.output, hs.size, fun k hk hn => hs.block k hk (fun e => hn (by rw [e]))⟩ (Or.inr hap)
theorem RT.new {w w1 : World} {K D : Nat} {bs : List UInt8} {q e : Nat} (a b c d : Int) (hK : K < w.heap.size) (hD : D < w.heap.size) (hR : Rd K D bs q e w1) (ho : Only K (w.alloc (.cells #[.int .u16 0, .int .u32 0, .int .u64 0, .int .i64 0, .slice none 0 0] 29)) w1) :
    RT w K D bs q e w1.heap.size a b c d (.slice none 0 0) (.slice none 0 0) [] (w1.alloc (.cells #[.int .u16 a, .int .u32 b, .int .u64 c, .int .i64 d, .slice none 0 0] 29)) := by
  have hX : w1.heap[w.heap.size]? = some (.cells #[.int .u16 0, .int .u32 0, .int .u64 0, .int .i64 0, .slice none 0 0] 29 (0, 0)) := only_box (heap_alloc_new w _) (by omega) ho
  have hl := lt_of_block hX
  exact ⟨kept_box hX (below_alloc (Below.refl _ _) _), heap_alloc_new w1 _, hl, World.ownsRow_nil _ w.heap.size 79 7, fun y hy => (by cases hy), (Kept.trans (Kept.ofBelow (below_alloc (Below.refl _ _) _)) ho (fun _ _ e => e)).alloc _, hK, hD, hR.below (below_alloc (Below.refl _ _) _)⟩
/-- What Get leaves, and in blocks of which kind. -/
def GotTK (bs : List UInt8) (q e K D : Nat) (w : World) (r : Ending) (w' : World) : Prop := ∃ ys p c q', r = .returned (tv (readTx bs q e).1 p c) ∧ RowT (readTx bs q e).1 ys p c w' ∧ Rd K D bs q' (readTx bs q e).2.2 w' ∧ ((readTx bs q e).2.2 = 0 → q' = (readTx bs q e).2.1) ∧ Only K w w' ∧ KindAt 79 w' p ∧ ∀ y ∈ ys, KindAt 160 w' y.2.1
set_option maxHeartbeats 6400000 in
set_option maxRecDepth 20000 in
theorem getT_kind (bs : List UInt8) (q e K D : Nat) (w : World) (hR : Rd K D bs q e w) (hb : bs.length ≤ 100000) (he : e < 16) : Calls Tryz.prog 42 #[.pointer (some ⟨K, 0, none⟩)] w (GotTK bs q e K D w) := by
  obtain ⟨i0, hi, hz0, hz1, hz2⟩ := info_parts infoO9
  have hK := lt_of_block hR.box
  have hD := lt_of_block hR.row
  have HRT := Lib.hid (readTx_ch bs q e)
  have L5 := chS_le (E := e) hR.fits 5
  have HC : Hid (∀ i (l : Int), l = (lim9 i : Int) → ∀ (W : World), Rd K D bs (chS bs q e i).1 (chS bs q e i).2 W → Calls Tryz.prog 73 #[.pointer (some ⟨K, 0, none⟩), .int .u64 l] W fun r w' => r = .returned (.int .u64 (chV bs q e i : Int)) ∧ Rd K D bs (chS bs q e (i + 1)).1 (chS bs q e (i + 1)).2 w' ∧ Only K W w') := fun i l hl W h => by
    subst hl
    exact rnum_any (lim9 i) (by match i with | 0 => decide | 1 => decide | 2 => decide | 3 => decide | n + 4 => exact (show (16 : Nat) < 18446744073709551616 from by decide)) W h
  have H0 := Lib.hid (fun (o : Obj) => HC.out 0 65535 rfl (w.alloc o) (hR.below (below_alloc (Below.refl _ _) o)))
  have H1 := Lib.hid (HC.out 1 268435456 rfl)
  have H2 := Lib.hid (HC.out 2 1099511627776 rfl)
  have H3 := Lib.hid (HC.out 3 7 rfl)
  have H4 := Lib.hid (HC.out 4 16 rfl)
  have l0 := chV_le (E := e) hR.fits 0
  have l1 := chV_le (E := e) hR.fits 1
  have l2 := chV_le (E := e) hR.fits 2
  have l3 := chV_le (E := e) hR.fits 3
  have l4 := chV_le (E := e) hR.fits 4
  simp only [lim9] at l0 l1 l2 l3 l4
  have he5 : (chS bs q e 5).2 < 16 := by omega
  simp only [show 0 + 1 = 1 from rfl, show 1 + 1 = 2 from rfl, show 2 + 1 = 3 from rfl, show 3 + 1 = 4 from rfl, show 4 + 1 = 5 from rfl] at H0 H1 H2 H3 H4
  clear HC hR L5
  generalize chV bs q e 0 = a at *
  generalize chV bs q e 1 = b at *
  generalize chV bs q e 2 = c at *
  generalize chV bs q e 3 = d at *
  generalize chV bs q e 4 = n at *
  generalize chS bs q e 1 = s1 at *
  generalize chS bs q e 2 = s2 at *
  generalize chS bs q e 3 = s3 at *
  generalize chS bs q e 4 = s4 at *
  generalize chS bs q e 5 = s5 at *
  obtain ⟨q5, e5⟩ := s5
  simp only at *
  have za : IntKind.u16.wrap (a : Int) = (a : Int) := by rw [IntKind.wrap_u16]; omega
  have zb : IntKind.u32.wrap (b : Int) = (b : Int) := by rw [IntKind.wrap_u32]; omega
  have zd : IntKind.i64.wrap (d : Int) = (d : Int) := by rw [IntKind.wrap_i64]; omega
  unfold GotTK
  go_enter Tryz.func42, Tryz.ntmps42
  go_wp2_with fail
  refine (H0.out _).mono ?_
  rintro r w1 ⟨rfl, hr1, ho1⟩
  have HR1 := Lib.hid hr1
  have HO1 := Lib.hid ho1
  clear hr1 ho1
  go_wp2_with fail
  refine (H1.out _ HR1.out).mono ?_
  rintro r w2 ⟨rfl, hr2, ho2⟩
  have HR2 := Lib.hid hr2
  have HO2 := Lib.hid (HO1.out.step ho2)
  clear hr2 ho2
  go_wp2_with fail
  refine (H2.out _ HR2.out).mono ?_
  rintro r w3 ⟨rfl, hr3, ho3⟩
  have HR3 := Lib.hid hr3
  have HO3 := Lib.hid (HO2.out.step ho3)
  clear hr3 ho3
  go_wp2_with fail
  refine (H3.out _ HR3.out).mono ?_
  rintro r w4 ⟨rfl, hr4, ho4⟩
  have HR4 := Lib.hid hr4
  have HO4 := Lib.hid (HO3.out.step ho4)
  clear hr4 ho4
  have T0 := Lib.hid (RT.new (a : Int) (b : Int) (c : Int) (d : Int) hK hD HR4.out HO4.out)
  generalize hX : w4.heap.size = X at T0
  clear HR1 HR2 HR3 HR4 HO1 HO2 HO3 HO4
  go_wp2_with fail
  refine (H4.out _ T0.out.rd).mono ?_
  rintro r w5 ⟨rfl, hr5, ho5⟩
  have T5 := Lib.hid (T0.out.on hr5 ho5)
  clear hr5 ho5 T0 hX
  clear H0 H1 H2 H3 H4
  go_wp2
  go_loopg [18] n (fun g i wr => ∃ (k : Nat) (v : Value) (ys : List OV) (q' e' : Nat), k ≤ n ∧ n - k ≤ g ∧ i = .int .u64 (k : Int) ∧ ys.length = k ∧ e' < 16 ∧ Sofar bs n q5 e5 k (ys.map (·.1)) q' e' ∧ RT w K D bs q' e' X a b c d v v ys wr)
  case atStart => exact ⟨0, .slice none 0 0, [], q5, e5, Nat.zero_le _, by omega, rfl, rfl, he5, Sofar.start _ _ _ _, T5.out⟩
  case round =>
    clear T5
    obtain ⟨k, v, ys, q', e', hk, hg, rfl, hyl, he', hS, hT⟩ := hrel
    have HYL := Lib.hid hyl
    have HS := Lib.hid hS
    have T := Lib.hid hT
    clear hS hT hyl
    by_cases hlt : k < n
    · have hkn : (k : Int) < (n : Int) := by omega
      have hk16 : k < 16 := by omega
      have HG := Lib.hid (getO_kind bs q' e' K D (wr.drew) (T.out.rd.below (below_drewN (Below.refl _ _) 1)) hb he')
      unfold GotOK at HG
      have hre := (readO_range (e := e') T.out.rd.fits he' (by omega)).2.1
      have HSN := Lib.hid (fun (q2 : Nat) (h : (readO bs q' e').2.2 = 0 → q2 = (readO bs q' e').2.1) => HS.out.next hlt h)
      generalize readO bs q' e' = ro at HG HSN hre
      obtain ⟨om, qo, eo⟩ := ro
      simp only at HG HSN hre
      have HOM : Hid (∀ p c, ov om p c = .agg #[.int .i64 om.kind, .int .u16 om.r, .int .u32 om.n, .int .u32 om.num, .string ⟨om.text.toArray⟩, .slice p om.spans.length c, .int .u32 om.seq]) := fun p c => rfl
      generalize hcc : (⟨om.text.toArray⟩ : ByteArray) = bt at HOM
      obtain ⟨z0, z1, z2, z3, z4⟩ := five_cells T.out.box
      have hX2 : X < wr.heap.size := lt_of_block T.out.box
      have hne1 : ¬ X = wr.heap.size := by omega
      have hne2 : ¬ wr.heap.size = X := by omega
      go_wp2_with fail
      go_region_law (first
        | (refine step_append_own rfl (.tmp 21) (.tmp 24) 27 rfl w.heap.size 79 i0 (.agg #[.int .i64 0, .int .u16 0, .int .u32 0, .int .u32 0, .string ⟨#[]⟩, .slice none 0 0, .int .u32 0]) 7 72 Tryz.underlying27 hi hz0 hz1 hz2 rfl (by decide) v ys.length (layO.flat ys) (by simp [Act.eval, Act.put]) T5.out.own ⟨w4.heap.size, 0, none⟩ 1 1 [.int .i64 om.kind, .int .u16 om.r, .int .u32 om.n, .int .u32 om.num, .string bt, .slice p4 om.spans.length c4, .int .u32 om.seq] (by simp [Act.eval, Act.put]) rfl (by have := @cells_new w4 [.int .i64 om.kind, .int .u16 om.r, .int .u32 om.n, .int .u32 om.num, .string bt, .slice p4 om.spans.length c4, .int .u32 om.seq] 79; simpa using this) (by have := layO.one (om, p4, c4); rw [← hcc]; exact this) (by have := HYL.out; unfold maxLen; omega) (by have := HYL.out; omega) T5.out.only.size ?_; intro v' w6 hown' hgrow; obtain ⟨pv, cv, rfl⟩ := owns_slice hown'; have T6 := Lib.hid (T5.out.onto HY5.out (by rw [← hcc]; rfl) (by rfl) hown' hgrow); have z6 := (five_cells T6.out.box).2.2.2.2; have f6 : w6.frozen? ⟨X, 4, none⟩ = false := frozen_of_block T6.out.box)
        | (go_simp; go_wp2_with (go_at_call 75; refine HG.out.mono ?_; rintro r w4 ⟨p4, c4, q4, rfl, hG, hc4, hp4, hr4, hq4, ho4, hk4⟩; rw [HOM.out]; have T4 := Lib.hid ((T.out.below (below_drewN (Below.refl _ _) 1)).on hr4 ho4); have HQ4 := Lib.hid hq4; have k4 := (five_cells T4.out.box).2.2.2.2; have T5 := Lib.hid (T4.out.below (below_alloc (Below.refl _ _) (.cells #[.int .i64 om.kind, .int .u16 om.r, .int .u32 om.n, .int .u32 om.num, .string bt, .slice p4 om.spans.length c4, .int .u32 om.seq] 79))); have k5 := (five_cells T5.out.box).2.2.2.2; have HY5 : Hid (OwnO 160 (w4.alloc (.cells #[.int .i64 om.kind, .int .u16 om.r, .int .u32 om.n, .int .u32 om.num, .string bt, .slice p4 om.spans.length c4, .int .u32 om.seq] 79)) (om, p4, c4)) := (OwnO.below (show OwnO 160 w4 (om, p4, c4) from ⟨⟨hG, hc4, hp4⟩, hk4⟩) (below_alloc (Below.refl _ _) _)); have hX4 : ¬ X = w4.heap.size := (by have := lt_of_block T4.out.box; omega); clear hG hr4 ho4 hq4 hk4)))
      all_goals
        have T7 : Hid (RT w K D bs q4 eo X a b c d (.slice pv (ys.length + 1) cv) (.slice pv (ys.length + 1) cv) (ys ++ [(om, p4, c4)]) (w6.setCell ⟨X, 4, none⟩ (.slice pv (ys.length + 1) cv))) := T6.out.set _
        have HS7 : Hid (Sofar bs n q5 e5 (k + 1) ((ys ++ [(om, p4, c4)]).map (·.1)) q4 eo) := by rw [List.map_append]; exact HSN.out q4 HQ4.out
        clear hown' hgrow
        go_wp2
        go_roundg (n - (k + 1))
        case measure => omega
        case rel => exact ⟨k + 1, _, ys ++ [(om, p4, c4)], q4, eo, by omega, Nat.le_refl _, by go_num, by rw [List.length_append, HYL.out]; rfl, hre, HS7.out, T7.out⟩
    · have : k = n := by omega
      subst this
      have hkk : ¬ (k : Int) < (k : Int) := by omega
      have HE := Lib.hid (error_any wr T.out.rd)
      have HDN := Lib.hid HS.out.done
      obtain ⟨z0, z1, z2, z3, z4⟩ := five_cells T.out.box
      obtain ⟨x0, x1, x2, x3, x4⟩ := five_cells T.out.res
      have fx : ∀ o, wr.frozen? ⟨w.heap.size, o, none⟩ = false := fun o => frozen_of_block T.out.res
      have hne : ¬ w.heap.size = X := by have := T.out.far; omega
      have hne2 : ¬ X = w.heap.size := by have := T.out.far; omega
      obtain ⟨p1, c1, hv, -, g1, g2, g3⟩ := grow_owns layO_pos T.out.own
      have hown := T.out.own
      rw [hv] at hown z4
      have HGR := Lib.hid g1
      have HKO := Lib.hid (kind_owns hown)
      clear hown g1 HS hv
      go_wp2_with fail
      refine HE.out.mono ?_
      rintro r w8 ⟨rfl, he8⟩
      obtain rfl := Eq.symm he8
      by_cases h0 : e' = 0
      · subst h0
        have HR : Hid (readTx bs q e = (⟨(a : Int), (b : Int), (c : Int), (d : Int), ys.map (·.1)⟩, q', 0)) := by
          show _ = _
          rcases HDN.out with ⟨-, h⟩ | ⟨h, -⟩
          · rw [HRT.out, h]; rfl
          · exact absurd rfl h
        go_wp2
        (try simp only [Exit.inBlock, Exit.then])
        have hS := only_five wr w.heap.size (.int .u16 (a : Int)) (.int .u32 (b : Int)) (.int .u64 (c : Int)) (.int .i64 (d : Int)) (.slice p1 ys.length c1)
        refine bodyPost_ret (results_cell_row rfl _ _ w.heap.size 29 #[.int .u16 (a : Int), .int .u32 (b : Int), .int .u64 (c : Int), .int .i64 (d : Int), .slice p1 ys.length c1] (0, 0) _ rfl (box_five T.out.res) Tryz.underlying29 rfl szT9) rfl ?_
        rw [HR.out]
        have hap := HKO.out.apart (by decide) T.out.res
        refine ⟨ys, p1, c1, q', by unfold tv; simp only [List.length_map], ⟨rfl, HGR.out.kept hS hap, fun y hy => ((T.out.each y hy).only (by decide) T.out.res hS).1, by simpa using g2, g3⟩, T.out.rd.kept hS (by have := T.out.lt; omega) (by have := T.out.ltD; omega), fun _ => rfl, Kept.trans T.out.only hS (fun i hi e => by omega), HKO.out.kept hS hap, fun y hy => ((T.out.each y hy).only (by decide) T.out.res hS).2⟩
      · have hz1 : ((e' : Int) == 0) = false := beq_no (by omega)
        have hz2 : ((e' : Int) != 0) = true := bne_int (by omega)
        have HR : Hid (readTx bs q e = (t0, (rdOs bs k q5 e5).2.1, e')) := by
          show _ = _
          rcases HDN.out with ⟨h, -⟩ | ⟨h, h2⟩
          · exact absurd h h0
          · rw [HRT.out, h2, if_neg h0, ← h2]
        go_wp2
        (try simp only [Exit.inBlock, Exit.then])
        have hS := only_five wr w.heap.size (.int .u16 0) (.int .u32 0) (.int .u64 0) (.int .i64 0) (.slice none 0 0)
        refine bodyPost_ret (results_cell_row rfl _ _ w.heap.size 29 #[.int .u16 0, .int .u32 0, .int .u64 0, .int .i64 0, .slice none 0 0] (0, 0) _ rfl (box_five T.out.res) Tryz.underlying29 rfl szT9) rfl ?_
        rw [HR.out]
        refine ⟨[], none, 0, q', rfl, ⟨rfl, GRow.nil _ _ _, fun y hy => (by cases hy), Nat.le_refl _, fun _ => rfl⟩, T.out.rd.kept hS (by have := T.out.lt; omega) (by have := T.out.ltD; omega), fun h => absurd h h0, Kept.trans T.out.only hS (fun i hi e => by omega), KindAt.nil _ _, fun y hy => (by cases hy)⟩
theorem getT_spec : GetTSpec := fun bs q e K D w hR hb he => (getT_kind bs q e K D w hR hb he).mono (by rintro r w' ⟨ys, p, c, q', h1, h2, h3, h4, h5, -, -⟩; exact ⟨ys, p, c, q', h1, h2, h3, h4, h5⟩)
end Go.Proofs.YtceanfpcddcfoaaGreat
/-
  The library's own theorem of the sort, laid at this program: slices.SortFunc. Its conditions are the library's.
-/
namespace Go.Proofs
open Go.Shelf
def Tryz.laysSort_ren : Go.Shelf.Ren := ⟨fun | 6 => 130 | 15 => 134 | 14 => 133 | 28 => 145 | 29 => 146 | 20 => 137 | 21 => 138 | 22 => 139 | 23 => 140 | 24 => 141 | 25 => 142 | 26 => 143 | 27 => 144 | 46 => 149 | 47 => 150 | 48 => 151 | 49 => 152 | 50 => 153 | 57 => 154 | n => n, fun | 22 => 77 | 24 => 160 | 25 => 180 | 3 => 3 | 39 => 54 | 0 => 0 | 53 => 25 | 55 => 26 | 4 => 4 | 46 => 187 | 45 => 186 | 50 => 121 | 5 => 5 | 9 => 9 | 66 => 196 | 70 => 200 | 76 => 202 | 77 => 203 | n => n, fun | n => n⟩
theorem Tryz.laysSort : Go.Proofs.SlLaysF0.n6 Tryz.prog Tryz.laysSort_ren := {
  mixed := by kernel_rfl
  f6 := ⟨Tryz.f130.name, by decide, Tryz.func130.trans (congrArg some (by kernel_rfl))⟩
  f14 := ⟨Tryz.f133.name, by decide, Tryz.func133.trans (congrArg some (by kernel_rfl))⟩
  f15 := Tryz.func134.trans (congrArg some (by kernel_rfl))
  f20 := ⟨Tryz.f137.name, by decide, Tryz.func137.trans (congrArg some (by kernel_rfl))⟩
  f21 := ⟨Tryz.f138.name, by decide, Tryz.func138.trans (congrArg some (by kernel_rfl))⟩
  f22 := ⟨Tryz.f139.name, by decide, Tryz.func139.trans (congrArg some (by kernel_rfl))⟩
  f23 := ⟨Tryz.f140.name, by decide, Tryz.func140.trans (congrArg some (by kernel_rfl))⟩
  f24 := ⟨Tryz.f141.name, by decide, Tryz.func141.trans (congrArg some (by kernel_rfl))⟩
  f25 := ⟨Tryz.f142.name, by decide, Tryz.func142.trans (congrArg some (by kernel_rfl))⟩
  f26 := ⟨Tryz.f143.name, by decide, Tryz.func143.trans (congrArg some (by kernel_rfl))⟩
  f27 := ⟨Tryz.f144.name, by decide, Tryz.func144.trans (congrArg some (by kernel_rfl))⟩
  f28 := Tryz.func145.trans (congrArg some (by kernel_rfl))
  f29 := Tryz.func146.trans (congrArg some (by kernel_rfl))
  f46 := ⟨Tryz.f149.name, by decide, Tryz.func149.trans (congrArg some (by kernel_rfl))⟩
  f47 := Tryz.func150.trans (congrArg some (by kernel_rfl))
  f48 := Tryz.func151.trans (congrArg some (by kernel_rfl))
  f49 := ⟨Tryz.f152.name, by decide, Tryz.func152.trans (congrArg some (by kernel_rfl))⟩
  f50 := ⟨Tryz.f153.name, by decide, Tryz.func153.trans (congrArg some (by kernel_rfl))⟩
  f57 := ⟨Tryz.f154.name, by decide, Tryz.func154.trans (congrArg some (by kernel_rfl))⟩
  t0 := Tryz.underlying0
  a0 := Tryz.isAgg0
  z0 := Tryz.sizeOf0
  v0 := Tryz.zeroValue0
  t3 := Tryz.underlying3
  a3 := Tryz.isAgg3
  z3 := Tryz.sizeOf3
  v3 := Tryz.zeroValue3
  t4 := Tryz.underlying4
  a4 := Tryz.isAgg4
  z4 := Tryz.sizeOf4
  v4 := Tryz.zeroValue4
  t5 := Tryz.underlying5
  a5 := Tryz.isAgg5
  z5 := Tryz.sizeOf5
  v5 := Tryz.zeroValue5
  t9 := Tryz.underlying9
  a9 := Tryz.isAgg9
  z9 := Tryz.sizeOf9
  v9 := Tryz.zeroValue9
  t22 := Tryz.underlying77
  a22 := Tryz.isAgg77
  z22 := Tryz.sizeOf77
  v22 := Tryz.zeroValue77
  t25 := Tryz.underlying180
  a25 := Tryz.isAgg180
  z25 := Tryz.sizeOf180
  v25 := Tryz.zeroValue180
  t39 := Tryz.underlying54
  a39 := Tryz.isAgg54
  z39 := Tryz.sizeOf54
  v39 := Tryz.zeroValue54
  t45 := Tryz.underlying186
  a45 := Tryz.isAgg186
  z45 := Tryz.sizeOf186
  v45 := Tryz.zeroValue186
  t46 := Tryz.underlying187
  a46 := Tryz.isAgg187
  z46 := Tryz.sizeOf187
  v46 := Tryz.zeroValue187
  t50 := Tryz.underlying121
  a50 := Tryz.isAgg121
  z50 := Tryz.sizeOf121
  v50 := Tryz.zeroValue121
  t53 := Tryz.underlying25
  a53 := Tryz.isAgg25
  z53 := Tryz.sizeOf25
  v53 := Tryz.zeroValue25
  t55 := Tryz.underlying26
  a55 := Tryz.isAgg26
  z55 := Tryz.sizeOf26
  v55 := Tryz.zeroValue26
  t66 := Tryz.underlying196
  a66 := Tryz.isAgg196
  z66 := Tryz.sizeOf196
  v66 := Tryz.zeroValue196
  t70 := Tryz.underlying200
  a70 := Tryz.isAgg200
  z70 := Tryz.sizeOf200
  v70 := Tryz.zeroValue200
  t76 := Tryz.underlying202
  a76 := Tryz.isAgg202
  z76 := Tryz.sizeOf202
  v76 := Tryz.zeroValue202
  t77 := Tryz.underlying203
  a77 := Tryz.isAgg203
  z77 := Tryz.sizeOf203
  v77 := Tryz.zeroValue203 }
end Go.Proofs
