
/-
  What the program's Get of layer 8 leaves. No conditions beyond what each theorem states.
-/
import Derived.Test.YtedlmngfkkpmgaaOpProg1
import Derived.Test.YtedlmngfkkpmgaaSpanProg7
import Derived.Test.YtedlmngfkkpmgaaOpRead5
import Derived.Test.YtedlmngfkkpmgaaKinds
namespace Go.Proofs.Ytedlmngfkkpmgaa
open Go.ChangeShapes Go.WideShapes Go.ChangeAt Go.RowKit Go.Lib
set_option linter.unusedVariables false
set_option linter.unusedSimpArgs false

theorem szO : (Try.prog.info? 69).map (·.size) = some 7 := by kernel_rfl
/-- What Get holds: its result (still nothing), what it has read so far, and the reader. -/
structure RG (w : World) (K D : Nat) (bs : List UInt8) (q e Y : Nat) (k a b c : Int) (s : ByteArray) (v : Value) (sq : Int) (W : World) : Prop where
  res : W.heap[w.heap.size]? = some (.cells #[.int .i64 0, .int .u16 0, .int .u32 0, .int .u32 0, .string ⟨#[]⟩, .slice none 0 0, .int .u32 0] 69 (0, 0))
  box : W.heap[Y]? = some (.cells #[.int .i64 k, .int .u16 a, .int .u32 b, .int .u32 c, .string s, v, .int .u32 sq] 69 (0, 0))
  far : w.heap.size < Y
  only : Only K w W
  lt : K < w.heap.size
  ltD : D < w.heap.size
  rd : Rd K D bs q e W
theorem RG.new {w w1 : World} {K D : Nat} {bs : List UInt8} {q e : Nat} (k : Int) (hK : K < w.heap.size) (hD : D < w.heap.size) (hR : Rd K D bs q e w1) (ho : Only K (w.alloc (.cells #[.int .i64 0, .int .u16 0, .int .u32 0, .int .u32 0, .string ⟨#[]⟩, .slice none 0 0, .int .u32 0] 69)) w1) :
    RG w K D bs q e w1.heap.size k 0 0 0 ⟨#[]⟩ (.slice none 0 0) 0 (w1.alloc (.cells #[.int .i64 k, .int .u16 0, .int .u32 0, .int .u32 0, .string ⟨#[]⟩, .slice none 0 0, .int .u32 0] 69)) := by
  have hX : w1.heap[w.heap.size]? = some (.cells #[.int .i64 0, .int .u16 0, .int .u32 0, .int .u32 0, .string ⟨#[]⟩, .slice none 0 0, .int .u32 0] 69 (0, 0)) := only_box (heap_alloc_new w _) (by omega) ho
  have hl := lt_of_block hX
  exact ⟨kept_box hX (below_alloc (Below.refl _ _) _), heap_alloc_new w1 _, hl, (Kept.trans (Kept.ofBelow (below_alloc (Below.refl _ _) _)) ho (fun _ _ e => e)).alloc _, hK, hD, hR.below (below_alloc (Below.refl _ _) _)⟩
theorem RG.on {w W W' : World} {K D : Nat} {bs : List UInt8} {q e q' e' Y : Nat} {k a b c : Int} {s : ByteArray} {v : Value} {sq : Int} (h : RG w K D bs q e Y k a b c s v sq W) (hr : Rd K D bs q' e' W') (ho : Only K W W') : RG w K D bs q' e' Y k a b c s v sq W' :=
  ⟨only_box h.res (by have := h.lt; omega) ho, only_box h.box (by have := h.lt; have := h.far; omega) ho, h.far, Kept.trans h.only ho (fun _ _ e => e), h.lt, h.ltD, hr⟩
theorem only_far {K V o : Nat} {w W : World} (h : Only K w W) (hV : w.heap.size ≤ V) (u : Value) : Only K w (W.setCell ⟨V, o, none⟩ u) :=
  Kept.trans h (only_set W V o u) (fun i hi e => by omega)
theorem RG.set {w W : World} {K D : Nat} {bs : List UInt8} {q e Y : Nat} {k a b c : Int} {s : ByteArray} {v : Value} {sq : Int} (h : RG w K D bs q e Y k a b c s v sq W) (i : Nat) (u : Value) {k' a' b' c' sq' : Int} {s' : ByteArray} {v' : Value}
    (ee : (#[.int .i64 k, .int .u16 a, .int .u32 b, .int .u32 c, .string s, v, .int .u32 sq] : Array Value).setIfInBounds i u = #[.int .i64 k', .int .u16 a', .int .u32 b', .int .u32 c', .string s', v', .int .u32 sq']) : RG w K D bs q e Y k' a' b' c' s' v' sq' (W.setCell ⟨Y, i, none⟩ u) :=
  ⟨by rw [heap_setCell_other _ _ _ _ (by have := h.far; simp; omega)]; exact h.res, by rw [heap_setCell_same W _ i _ _ u h.box, ee], h.far, only_far h.only (Nat.le_of_lt h.far) u, h.lt, h.ltD, h.rd.kept (S := fun k => k = Y) (only_set W Y i u) (by have := h.far; have := h.lt; omega) (by have := h.far; have := h.ltD; omega)⟩
theorem RG.frozen {w W : World} {K D : Nat} {bs : List UInt8} {q e Y : Nat} {k a b c : Int} {s : ByteArray} {v : Value} {sq : Int} (h : RG w K D bs q e Y k a b c s v sq W) : (∀ o, W.frozen? ⟨w.heap.size, o, none⟩ = false) ∧ (∀ o, W.frozen? ⟨Y, o, none⟩ = false) := ⟨fun o => frozen_of_block h.res, fun o => frozen_of_block h.box⟩
/-- The result written: the reader stays. -/
theorem RG.ret {w W : World} {K D : Nat} {bs : List UInt8} {q e Y : Nat} {k a b c : Int} {s : ByteArray} {v : Value} {sq : Int} (h : RG w K D bs q e Y k a b c s v sq W) (u0 u1 u2 u3 u4 u5 u6 : Value) :
    Only w.heap.size W (((((((W.setCell ⟨w.heap.size, 0, none⟩ u0).setCell ⟨w.heap.size, 1, none⟩ u1).setCell ⟨w.heap.size, 2, none⟩ u2).setCell ⟨w.heap.size, 3, none⟩ u3).setCell ⟨w.heap.size, 4, none⟩ u4).setCell ⟨w.heap.size, 5, none⟩ u5).setCell ⟨w.heap.size, 6, none⟩ u6) ∧
    Rd K D bs q e (((((((W.setCell ⟨w.heap.size, 0, none⟩ u0).setCell ⟨w.heap.size, 1, none⟩ u1).setCell ⟨w.heap.size, 2, none⟩ u2).setCell ⟨w.heap.size, 3, none⟩ u3).setCell ⟨w.heap.size, 4, none⟩ u4).setCell ⟨w.heap.size, 5, none⟩ u5).setCell ⟨w.heap.size, 6, none⟩ u6) ∧
    Only K w (((((((W.setCell ⟨w.heap.size, 0, none⟩ u0).setCell ⟨w.heap.size, 1, none⟩ u1).setCell ⟨w.heap.size, 2, none⟩ u2).setCell ⟨w.heap.size, 3, none⟩ u3).setCell ⟨w.heap.size, 4, none⟩ u4).setCell ⟨w.heap.size, 5, none⟩ u5).setCell ⟨w.heap.size, 6, none⟩ u6) := by
  have hS := only_seven W w.heap.size u0 u1 u2 u3 u4 u5 u6
  exact ⟨hS, h.rd.kept hS (by have := h.lt; omega) (by have := h.ltD; omega), Kept.trans h.only hS (fun i hi e => by omega)⟩
/-- A row of spans is no variable of an operation's kind. -/
theorem srow_apart {W : World} {B : Nat} {p : Option Addr} {l : List Sp} {k a b c sq : Int} {s : ByteArray} {v : Value} {t : TypeId} (hG : GRow layS W p l) (h0 : 0 < l.length) (h : W.heap[B]? = some (.cells #[.int .i64 k, .int .u16 a, .int .u32 b, .int .u32 c, .string s, v, .int .u32 sq] t (0, 0))) (hv : ∀ x y, v ≠ .int x y) : ∀ q, p = some q → ¬ q.block = B := by
  intro q e ee
  obtain ⟨b', o, rfl, c0, c1, c2⟩ := srow_at hG h0
  injection e with e
  subst e
  have ee : b' = B := ee
  subst ee
  rw [cell_of_block h] at c0 c1 c2
  simp only [Nat.zero_mul, Nat.add_zero] at c0 c1 c2
  match o, c0, c1, c2 with
  | 0, c0, c1, c2 => simp at c0
  | 1, c0, c1, c2 => simp at c2
  | 2, c0, c1, c2 => simp at c0
  | 3, c0, c1, c2 => simp at c0
  | 4, c0, c1, c2 => simp at c0
  | 5, c0, c1, c2 => simp at c0; exact hv _ _ c0
  | 6, c0, c1, c2 => simp at c0
  | n + 7, c0, c1, c2 => simp at c0
theorem GRow.away {W W' : World} {B : Nat} {p : Option Addr} {l : List Sp} {k a b c sq : Int} {s : ByteArray} {v : Value} {t : TypeId} (hG : GRow layS W p l) (h : W.heap[B]? = some (.cells #[.int .i64 k, .int .u16 a, .int .u32 b, .int .u32 c, .string s, v, .int .u32 sq] t (0, 0))) (hv : ∀ x y, v ≠ .int x y) (ho : Only B W W') : GRow layS W' p l := by
  rcases Nat.eq_zero_or_pos l.length with e | e
  · rw [List.eq_nil_of_length_eq_zero e]; exact GRow.nil _ _ _
  · exact hG.kept ho (srow_apart hG e h hv)

/-- What Get leaves, and in blocks of which kind. -/
def GotOK (bs : List UInt8) (q e K D : Nat) (w : World) (r : Ending) (w' : World) : Prop := ∃ p c q', r = .returned (ov (readO bs q e).1 p c) ∧ GRow layS w' p (readO bs q e).1.spans ∧ (readO bs q e).1.spans.length ≤ c ∧ (p = none → c = 0) ∧ Rd K D bs q' (readO bs q e).2.2 w' ∧ ((readO bs q e).2.2 = 0 → q' = (readO bs q e).2.1) ∧ Only K w w' ∧ KindAt 114 w' p
set_option maxHeartbeats 6400000 in
set_option maxRecDepth 20000 in
theorem getO_kind (bs : List UInt8) (q e K D : Nat) (w : World) (hR : Rd K D bs q e w) (hb : bs.length ≤ 100000) (he : e < 16) : Calls Try.prog 40 #[.pointer (some ⟨K, 0, none⟩)] w (GotOK bs q e K D w) := by
  have hK := lt_of_block hR.box
  have hD := lt_of_block hR.row
  have hkf := rdN_fits (e := e) (limit := 5) hR.fits
  have H0 := Lib.hid (fun (o : Obj) => rnum_any 5 (by decide) (w.alloc o) (hR.below (below_alloc (Below.refl _ _) o)))
  have HRO : Hid (readO bs q e = if (rdN bs q e 5).1 = 1 ∨ (rdN bs q e 5).1 = 3 then readB bs (rdN bs q e 5).1 (rdP bs (rdN bs q e 5).2.1 (rdN bs q e 5).2.2).1 (rdP bs (rdN bs q e 5).2.1 (rdN bs q e 5).2.2).2.1 (rdP bs (rdN bs q e 5).2.1 (rdN bs q e 5).2.2).2.2 else readB bs (rdN bs q e 5).1 (0, 0, 0) (rdN bs q e 5).2.1 (rdN bs q e 5).2.2) := rfl
  generalize rdN bs q e 5 = c0 at hkf H0 HRO
  obtain ⟨k, q0, e0⟩ := c0
  simp only at hkf H0 HRO
  obtain ⟨hq0, hk5, he0⟩ := hkf
  have he0' : e0 < 16 := by omega
  clear hR he0
  have zk : IntKind.i64.wrap (k : Int) = (k : Int) := by rw [IntKind.wrap_i64]; omega
  have HP : Hid (rdP bs q0 e0 = (((rdN bs q0 e0 65535).1, (rdN bs (rdN bs q0 e0 65535).2.1 (rdN bs q0 e0 65535).2.2 268435456).1, (rdN bs (rdN bs (rdN bs q0 e0 65535).2.1 (rdN bs q0 e0 65535).2.2 268435456).2.1 (rdN bs (rdN bs q0 e0 65535).2.1 (rdN bs q0 e0 65535).2.2 268435456).2.2 268435456).1), (rdN bs (rdN bs (rdN bs q0 e0 65535).2.1 (rdN bs q0 e0 65535).2.2 268435456).2.1 (rdN bs (rdN bs q0 e0 65535).2.1 (rdN bs q0 e0 65535).2.2 268435456).2.2 268435456).2)) := rfl
  have HA := Lib.hid (fun (W : World) (h : Rd K D bs q0 e0 W) => rnum_any 65535 (by decide) W h)
  have haf := rdN_fits (e := e0) (limit := 65535) hq0
  generalize rdN bs q0 e0 65535 = x1 at HP HA haf
  obtain ⟨a, q1, e1⟩ := x1
  simp only at HP HA haf
  have HB := Lib.hid (fun (W : World) (h : Rd K D bs q1 e1 W) => rnum_any 268435456 (by decide) W h)
  have hbf := rdN_fits (e := e1) (limit := 268435456) haf.1
  generalize rdN bs q1 e1 268435456 = x2 at HP HB hbf
  obtain ⟨b, q2, e2⟩ := x2
  simp only at HP HB hbf
  have HC := Lib.hid (fun (W : World) (h : Rd K D bs q2 e2 W) => rnum_any 268435456 (by decide) W h)
  have hcf := rdN_fits (e := e2) (limit := 268435456) hbf.1
  generalize rdN bs q2 e2 268435456 = x3 at HP HC hcf
  obtain ⟨c, q3, e3⟩ := x3
  simp only at HP HC hcf
  obtain ⟨_, ha1, ha2⟩ := haf
  obtain ⟨_, hb1, hb2⟩ := hbf
  obtain ⟨hq3, hc1, hc2⟩ := hcf
  have he3 : e3 < 16 := by omega
  have za : IntKind.u16.wrap (a : Int) = (a : Int) := by rw [IntKind.wrap_u16]; omega
  have zb : IntKind.u32.wrap (b : Int) = (b : Int) := by rw [IntKind.wrap_u32]; omega
  have zc : IntKind.u32.wrap (c : Int) = (c : Int) := by rw [IntKind.wrap_u32]; omega
  rw [HP.out] at HRO
  simp only at HRO
  clear HP ha2 hb2 hc2
  by_cases k1 : k = 1
  · subst k1
    rw [if_pos (Or.inl rfl)] at HRO
    have HRB : Hid (readO bs q e = if (rdT bs q3 e3 64).2.2 = 0 then (⟨1, (a : Int), (b : Int), (c : Int), (rdT bs q3 e3 64).1, [], 0⟩, (rdT bs q3 e3 64).2) else (o0, (rdT bs q3 e3 64).2)) := HRO.out
    have HT := Lib.hid (fun (W : World) (h : Rd K D bs q3 e3 W) => rtext_any 64 (by decide) (by decide) W h)
    simp only [show (64 : Int).toNat = 64 from rfl] at HT
    generalize rdT bs q3 e3 64 = x4 at HRB HT
    obtain ⟨T, qT, eT⟩ := x4
    simp only at HRB HT
    have HM := Lib.hid (makes_yes 1 (Or.inl rfl))
    have HN := Lib.hid (names_no 1 (by decide) (by decide))
    have HU := Lib.hid (turns_no 1 (Or.inl rfl))
    clear HRO
    go_enter Try.func40, Try.ntmps40
    go_wp2_with fail
    refine (H0.out _).mono ?_
    rintro r w1 ⟨rfl, hr1, ho1⟩
    have HG0 := Lib.hid (RG.new (1 : Int) hK hD hr1 ho1)
    generalize hY : w1.heap.size = Y at HG0
    clear hr1 ho1
    generalize hbt : (⟨T.toArray⟩ : ByteArray) = bt at HT
    obtain ⟨d0, d1, d2, d3, d4, d5, d6⟩ := seven_cells HG0.out.box
    obtain ⟨fx, fy⟩ := HG0.out.frozen
    go_wp2_with fail
    refine (HM.out _).mono ?_
    rintro r w2 ⟨rfl, he⟩
    obtain rfl := Eq.symm he
    go_wp2_with fail
    refine (HA.out _ HG0.out.rd).mono ?_
    rintro r w3 ⟨rfl, hr3, ho3⟩
    have G3 := Lib.hid (HG0.out.on hr3 ho3)
    clear hr3 ho3
    clear d0 d1 d2 d3 d4 d5 d6 fx fy
    obtain ⟨d0, d1, d2, d3, d4, d5, d6⟩ := seven_cells G3.out.box
    obtain ⟨fx, fy⟩ := G3.out.frozen
    go_wp2_with fail
    refine (HB.out _ G3.out.rd).mono ?_
    rintro r w4 ⟨rfl, hr4, ho4⟩
    have G4 := Lib.hid (G3.out.on hr4 ho4)
    clear hr4 ho4
    clear d0 d1 d2 d3 d4 d5 d6 fx fy
    obtain ⟨d0, d1, d2, d3, d4, d5, d6⟩ := seven_cells G4.out.box
    obtain ⟨fx, fy⟩ := G4.out.frozen
    have GS4 := Lib.hid ((G4.out.set 1 (.int .u16 (a : Int)) rfl).set 2 (.int .u32 (b : Int)) rfl)
    go_wp2_with fail
    refine (HC.out _ GS4.out.rd).mono ?_
    rintro r w5 ⟨rfl, hr5, ho5⟩
    have G5 := Lib.hid (GS4.out.on hr5 ho5)
    clear hr5 ho5
    clear d0 d1 d2 d3 d4 d5 d6 fx fy
    obtain ⟨d0, d1, d2, d3, d4, d5, d6⟩ := seven_cells G5.out.box
    obtain ⟨fx, fy⟩ := G5.out.frozen
    have GS5 := Lib.hid (G5.out.set 3 (.int .u32 (c : Int)) rfl)
    go_wp2_with fail
    refine (HT.out _ GS5.out.rd).mono ?_
    rintro r w6 ⟨rfl, hr6, ho6⟩
    have G6 := Lib.hid (GS5.out.on hr6 ho6)
    clear hr6 ho6
    clear d0 d1 d2 d3 d4 d5 d6 fx fy
    obtain ⟨d0, d1, d2, d3, d4, d5, d6⟩ := seven_cells G6.out.box
    obtain ⟨fx, fy⟩ := G6.out.frozen
    have GT := Lib.hid (G6.out.set 4 (.string bt) rfl)
    go_wp2_with fail
    refine (HN.out _).mono ?_
    rintro r w7 ⟨rfl, he⟩
    obtain rfl := Eq.symm he
    go_wp2_with fail
    refine (HU.out _).mono ?_
    rintro r w8 ⟨rfl, he⟩
    obtain rfl := Eq.symm he
    subst hbt
    have HE := Lib.hid (error_any _ GT.out.rd)
    go_wp2_with fail
    refine HE.out.mono ?_
    rintro r wE ⟨rfl, he⟩
    obtain rfl := Eq.symm he
    obtain ⟨x0, x1, x2, x3, x4, x5, x6⟩ := seven_cells GT.out.res
    have hne : ¬ w.heap.size = Y := by have := GT.out.far; omega
    have hne2 : ¬ Y = w.heap.size := by have := GT.out.far; omega
    by_cases hz : eT = 0
    · subst hz
      have HO := Lib.hid (show readO bs q e = (⟨1, (a : Int), (b : Int), (c : Int), T, [], 0⟩, qT, 0) from by rw [HRB.out, if_pos rfl])
      go_wp2
      (try simp only [Exit.inBlock, Exit.then])
      obtain ⟨t1, t2, t3⟩ := GT.out.ret (.int .i64 1) (.int .u16 (a : Int)) (.int .u32 (b : Int)) (.int .u32 (c : Int)) (.string ⟨T.toArray⟩) (.slice none 0 0) (.int .u32 0)
      refine bodyPost_ret (results_cell_row rfl _ _ w.heap.size 69 #[(.int .i64 1), (.int .u16 (a : Int)), (.int .u32 (b : Int)), (.int .u32 (c : Int)), (.string ⟨T.toArray⟩), (.slice none 0 0), (.int .u32 0)] (0, 0) _ rfl (box_seven GT.out.res) Try.underlying69 rfl szO) rfl ?_
      unfold GotOK
      rw [HO.out]
      exact ⟨none, 0, _, rfl, GRow.nil _ _ _, Nat.le_refl _, fun _ => rfl, t2, fun _ => rfl, t3, KindAt.nil _ _⟩
    · have hz1 : ((eT : Int) == 0) = false := beq_no (by omega)
      have hz2 : ((eT : Int) != 0) = true := by simpa using hz
      have HO := Lib.hid (show readO bs q e = (o0, qT, eT) from by rw [HRB.out, if_neg hz])
      go_wp2
      (try simp only [Exit.inBlock, Exit.then])
      obtain ⟨t1, t2, t3⟩ := GT.out.ret (.int .i64 0) (.int .u16 0) (.int .u32 0) (.int .u32 0) (.string ⟨#[]⟩) (.slice none 0 0) (.int .u32 0)
      refine bodyPost_ret (results_cell_row rfl _ _ w.heap.size 69 #[.int .i64 0, .int .u16 0, .int .u32 0, .int .u32 0, .string ⟨#[]⟩, .slice none 0 0, .int .u32 0] (0, 0) _ rfl (box_seven GT.out.res) Try.underlying69 rfl szO) rfl ?_
      unfold GotOK
      rw [HO.out]
      exact ⟨none, 0, _, rfl, GRow.nil _ _ _, Nat.le_refl _, fun _ => rfl, t2, fun h0 => absurd h0 hz, t3, KindAt.nil _ _⟩
  · by_cases k2 : k = 2
    · subst k2
      rw [if_neg (by decide)] at HRO
      have HRB : Hid (readO bs q e = if (readS bs q0 e0).2.2 = 0 then (⟨2, (0 : Int), (0 : Int), (0 : Int), [], (readS bs q0 e0).1, 0⟩, (readS bs q0 e0).2) else (o0, (readS bs q0 e0).2)) := by show _ = _; rw [HRO.out]; rfl
      have HS := Lib.hid (fun (W : World) (h : Rd K D bs q0 e0 W) => get_kind bs q0 e0 K D W h hb (by omega))
      unfold GotK at HS
      generalize readS bs q0 e0 = x4 at HRB HS
      obtain ⟨L, qL, eL⟩ := x4
      simp only at HRB HS
      have HN := Lib.hid (names_yes 2 (Or.inl rfl))
      have HU := Lib.hid (turns_no 2 (Or.inr (Or.inl rfl)))
      have HM := Lib.hid (makes_no 2 (by decide) (by decide))
      clear HRO
      go_enter Try.func40, Try.ntmps40
      go_wp2_with fail
      refine (H0.out _).mono ?_
      rintro r w9 ⟨rfl, hr9, ho9⟩
      have HG0 := Lib.hid (RG.new (2 : Int) hK hD hr9 ho9)
      generalize hY : w9.heap.size = Y at HG0
      clear hr9 ho9
      obtain ⟨d0, d1, d2, d3, d4, d5, d6⟩ := seven_cells HG0.out.box
      obtain ⟨fx, fy⟩ := HG0.out.frozen
      go_wp2_with fail
      refine (HM.out _).mono ?_
      rintro r w10 ⟨rfl, he⟩
      obtain rfl := Eq.symm he
      go_wp2_with fail
      refine (HN.out _).mono ?_
      rintro r w11 ⟨rfl, he⟩
      obtain rfl := Eq.symm he
      go_wp2_with fail
      refine (HS.out _ HG0.out.rd).mono ?_
      rintro r w12 ⟨pS, cS, qS', rfl, hG12, hcS, hpS, hr12, hqS, ho12, hk12⟩
      have G12 := Lib.hid (HG0.out.on hr12 ho12)
      have HL := Lib.hid (hG12.away G12.out.box (by intro x y h; cases h) (only_set _ Y 5 (.slice pS L.length cS)))
      have HKN := Lib.hid (hk12.kept (only_set _ Y 5 (.slice pS L.length cS)) (hk12.apart (by decide) G12.out.box))
      clear hr12 ho12 hG12 hk12
      clear d0 d1 d2 d3 d4 d5 d6 fx fy
      obtain ⟨d0, d1, d2, d3, d4, d5, d6⟩ := seven_cells G12.out.box
      obtain ⟨fx, fy⟩ := G12.out.frozen
      have GT := Lib.hid (G12.out.set 5 (.slice pS L.length cS) rfl)
      go_wp2_with fail
      refine (HU.out _).mono ?_
      rintro r w13 ⟨rfl, he⟩
      obtain rfl := Eq.symm he
      have HE := Lib.hid (error_any _ GT.out.rd)
      go_wp2_with fail
      refine HE.out.mono ?_
      rintro r wE ⟨rfl, he⟩
      obtain rfl := Eq.symm he
      obtain ⟨x0, x1, x2, x3, x4, x5, x6⟩ := seven_cells GT.out.res
      have hne : ¬ w.heap.size = Y := by have := GT.out.far; omega
      have hne2 : ¬ Y = w.heap.size := by have := GT.out.far; omega
      by_cases hz : eL = 0
      · subst hz
        have HO := Lib.hid (show readO bs q e = (⟨2, (0 : Int), (0 : Int), (0 : Int), [], L, 0⟩, qL, 0) from by rw [HRB.out, if_pos rfl])
        go_wp2
        (try simp only [Exit.inBlock, Exit.then])
        obtain ⟨t1, t2, t3⟩ := GT.out.ret (.int .i64 2) (.int .u16 (0 : Int)) (.int .u32 (0 : Int)) (.int .u32 (0 : Int)) (.string ⟨#[]⟩) (.slice pS L.length cS) (.int .u32 0)
        refine bodyPost_ret (results_cell_row rfl _ _ w.heap.size 69 #[(.int .i64 2), (.int .u16 (0 : Int)), (.int .u32 (0 : Int)), (.int .u32 (0 : Int)), (.string ⟨#[]⟩), (.slice pS L.length cS), (.int .u32 0)] (0, 0) _ rfl (box_seven GT.out.res) Try.underlying69 rfl szO) rfl ?_
        unfold GotOK
        rw [HO.out]
        exact ⟨pS, cS, _, rfl, HL.out.away GT.out.res (by intro x y h; cases h) t1, hcS, hpS, t2, fun _ => (by simpa using hqS), t3, HKN.out.kept t1 (HKN.out.apart (by decide) GT.out.res)⟩
      · have hz1 : ((eL : Int) == 0) = false := beq_no (by omega)
        have hz2 : ((eL : Int) != 0) = true := by simpa using hz
        have HO := Lib.hid (show readO bs q e = (o0, qL, eL) from by rw [HRB.out, if_neg hz])
        go_wp2
        (try simp only [Exit.inBlock, Exit.then])
        obtain ⟨t1, t2, t3⟩ := GT.out.ret (.int .i64 0) (.int .u16 0) (.int .u32 0) (.int .u32 0) (.string ⟨#[]⟩) (.slice none 0 0) (.int .u32 0)
        refine bodyPost_ret (results_cell_row rfl _ _ w.heap.size 69 #[.int .i64 0, .int .u16 0, .int .u32 0, .int .u32 0, .string ⟨#[]⟩, .slice none 0 0, .int .u32 0] (0, 0) _ rfl (box_seven GT.out.res) Try.underlying69 rfl szO) rfl ?_
        unfold GotOK
        rw [HO.out]
        exact ⟨none, 0, _, rfl, GRow.nil _ _ _, Nat.le_refl _, fun _ => rfl, t2, fun h0 => absurd h0 hz, t3, KindAt.nil _ _⟩
    · by_cases k3 : k = 3
      · subst k3
        rw [if_pos (Or.inr rfl)] at HRO
        have HRB : Hid (readO bs q e = if (readS bs q3 e3).2.2 = 0 then (⟨3, (a : Int), (b : Int), (c : Int), [], (readS bs q3 e3).1, 0⟩, (readS bs q3 e3).2) else (o0, (readS bs q3 e3).2)) := by show _ = _; rw [HRO.out]; rfl
        have HS := Lib.hid (fun (W : World) (h : Rd K D bs q3 e3 W) => get_kind bs q3 e3 K D W h hb (by omega))
        unfold GotK at HS
        generalize readS bs q3 e3 = x4 at HRB HS
        obtain ⟨L, qL, eL⟩ := x4
        simp only at HRB HS
        have HN := Lib.hid (names_yes 3 (Or.inr rfl))
        have HU := Lib.hid (turns_no 3 (Or.inr (Or.inr rfl)))
        have HM := Lib.hid (makes_yes 3 (Or.inr rfl))
        clear HRO
        go_enter Try.func40, Try.ntmps40
        go_wp2_with fail
        refine (H0.out _).mono ?_
        rintro r w14 ⟨rfl, hr14, ho14⟩
        have HG0 := Lib.hid (RG.new (3 : Int) hK hD hr14 ho14)
        generalize hY : w14.heap.size = Y at HG0
        clear hr14 ho14
        obtain ⟨d0, d1, d2, d3, d4, d5, d6⟩ := seven_cells HG0.out.box
        obtain ⟨fx, fy⟩ := HG0.out.frozen
        go_wp2_with fail
        refine (HM.out _).mono ?_
        rintro r w15 ⟨rfl, he⟩
        obtain rfl := Eq.symm he
        go_wp2_with fail
        refine (HA.out _ HG0.out.rd).mono ?_
        rintro r w16 ⟨rfl, hr16, ho16⟩
        have G16 := Lib.hid (HG0.out.on hr16 ho16)
        clear hr16 ho16
        clear d0 d1 d2 d3 d4 d5 d6 fx fy
        obtain ⟨d0, d1, d2, d3, d4, d5, d6⟩ := seven_cells G16.out.box
        obtain ⟨fx, fy⟩ := G16.out.frozen
        go_wp2_with fail
        refine (HB.out _ G16.out.rd).mono ?_
        rintro r w17 ⟨rfl, hr17, ho17⟩
        have G17 := Lib.hid (G16.out.on hr17 ho17)
        clear hr17 ho17
        clear d0 d1 d2 d3 d4 d5 d6 fx fy
        obtain ⟨d0, d1, d2, d3, d4, d5, d6⟩ := seven_cells G17.out.box
        obtain ⟨fx, fy⟩ := G17.out.frozen
        have GS17 := Lib.hid ((G17.out.set 1 (.int .u16 (a : Int)) rfl).set 2 (.int .u32 (b : Int)) rfl)
        go_wp2_with fail
        refine (HC.out _ GS17.out.rd).mono ?_
        rintro r w18 ⟨rfl, hr18, ho18⟩
        have G18 := Lib.hid (GS17.out.on hr18 ho18)
        clear hr18 ho18
        clear d0 d1 d2 d3 d4 d5 d6 fx fy
        obtain ⟨d0, d1, d2, d3, d4, d5, d6⟩ := seven_cells G18.out.box
        obtain ⟨fx, fy⟩ := G18.out.frozen
        have GS18 := Lib.hid (G18.out.set 3 (.int .u32 (c : Int)) rfl)
        go_wp2_with fail
        refine (HN.out _).mono ?_
        rintro r w19 ⟨rfl, he⟩
        obtain rfl := Eq.symm he
        go_wp2_with fail
        refine (HS.out _ GS18.out.rd).mono ?_
        rintro r w20 ⟨pS, cS, qS', rfl, hG20, hcS, hpS, hr20, hqS, ho20, hk20⟩
        have G20 := Lib.hid (GS18.out.on hr20 ho20)
        have HL := Lib.hid (hG20.away G20.out.box (by intro x y h; cases h) (only_set _ Y 5 (.slice pS L.length cS)))
        have HKN := Lib.hid (hk20.kept (only_set _ Y 5 (.slice pS L.length cS)) (hk20.apart (by decide) G20.out.box))
        clear hr20 ho20 hG20 hk20
        clear d0 d1 d2 d3 d4 d5 d6 fx fy
        obtain ⟨d0, d1, d2, d3, d4, d5, d6⟩ := seven_cells G20.out.box
        obtain ⟨fx, fy⟩ := G20.out.frozen
        have GT := Lib.hid (G20.out.set 5 (.slice pS L.length cS) rfl)
        go_wp2_with fail
        refine (HU.out _).mono ?_
        rintro r w21 ⟨rfl, he⟩
        obtain rfl := Eq.symm he
        have HE := Lib.hid (error_any _ GT.out.rd)
        go_wp2_with fail
        refine HE.out.mono ?_
        rintro r wE ⟨rfl, he⟩
        obtain rfl := Eq.symm he
        obtain ⟨x0, x1, x2, x3, x4, x5, x6⟩ := seven_cells GT.out.res
        have hne : ¬ w.heap.size = Y := by have := GT.out.far; omega
        have hne2 : ¬ Y = w.heap.size := by have := GT.out.far; omega
        by_cases hz : eL = 0
        · subst hz
          have HO := Lib.hid (show readO bs q e = (⟨3, (a : Int), (b : Int), (c : Int), [], L, 0⟩, qL, 0) from by rw [HRB.out, if_pos rfl])
          go_wp2
          (try simp only [Exit.inBlock, Exit.then])
          obtain ⟨t1, t2, t3⟩ := GT.out.ret (.int .i64 3) (.int .u16 (a : Int)) (.int .u32 (b : Int)) (.int .u32 (c : Int)) (.string ⟨#[]⟩) (.slice pS L.length cS) (.int .u32 0)
          refine bodyPost_ret (results_cell_row rfl _ _ w.heap.size 69 #[(.int .i64 3), (.int .u16 (a : Int)), (.int .u32 (b : Int)), (.int .u32 (c : Int)), (.string ⟨#[]⟩), (.slice pS L.length cS), (.int .u32 0)] (0, 0) _ rfl (box_seven GT.out.res) Try.underlying69 rfl szO) rfl ?_
          unfold GotOK
          rw [HO.out]
          exact ⟨pS, cS, _, rfl, HL.out.away GT.out.res (by intro x y h; cases h) t1, hcS, hpS, t2, fun _ => (by simpa using hqS), t3, HKN.out.kept t1 (HKN.out.apart (by decide) GT.out.res)⟩
        · have hz1 : ((eL : Int) == 0) = false := beq_no (by omega)
          have hz2 : ((eL : Int) != 0) = true := by simpa using hz
          have HO := Lib.hid (show readO bs q e = (o0, qL, eL) from by rw [HRB.out, if_neg hz])
          go_wp2
          (try simp only [Exit.inBlock, Exit.then])
          obtain ⟨t1, t2, t3⟩ := GT.out.ret (.int .i64 0) (.int .u16 0) (.int .u32 0) (.int .u32 0) (.string ⟨#[]⟩) (.slice none 0 0) (.int .u32 0)
          refine bodyPost_ret (results_cell_row rfl _ _ w.heap.size 69 #[.int .i64 0, .int .u16 0, .int .u32 0, .int .u32 0, .string ⟨#[]⟩, .slice none 0 0, .int .u32 0] (0, 0) _ rfl (box_seven GT.out.res) Try.underlying69 rfl szO) rfl ?_
          unfold GotOK
          rw [HO.out]
          exact ⟨none, 0, _, rfl, GRow.nil _ _ _, Nat.le_refl _, fun _ => rfl, t2, fun h0 => absurd h0 hz, t3, KindAt.nil _ _⟩
      · rw [if_neg (by omega)] at HRO
        have HRB : Hid (readO bs q e = if (rdN bs q0 e0 268435456).2.2 = 0 then (⟨(k : Int), 0, 0, 0, [], [], ((rdN bs q0 e0 268435456).1 : Int)⟩, (rdN bs q0 e0 268435456).2) else (o0, (rdN bs q0 e0 268435456).2)) := by show _ = _; rw [HRO.out]; unfold readB; rw [if_neg k1, if_neg (by omega)]; rfl
        have HS := Lib.hid (fun (W : World) (h : Rd K D bs q0 e0 W) => rnum_any 268435456 (by decide) W h)
        have hsf := rdN_fits (e := e0) (limit := 268435456) hq0
        generalize rdN bs q0 e0 268435456 = x4 at HRB HS hsf
        obtain ⟨sq, qL, eL⟩ := x4
        simp only at HRB HS hsf
        obtain ⟨_, hs1, _⟩ := hsf
        have zs : IntKind.u32.wrap (sq : Int) = (sq : Int) := by rw [IntKind.wrap_u32]; omega
        have HM := Lib.hid (makes_no (k : Int) (by omega) (by omega))
        have HN := Lib.hid (names_no (k : Int) (by omega) (by omega))
        have HU := Lib.hid (turns_yes (k : Int) (by omega) (by omega) (by omega))
        have k1' : ((k : Int) == 1) = false := beq_no (by omega)
        clear HRO
        go_enter Try.func40, Try.ntmps40
        go_wp2_with fail
        refine (H0.out _).mono ?_
        rintro r w22 ⟨rfl, hr22, ho22⟩
        have HG0 := Lib.hid (RG.new (k : Int) hK hD hr22 ho22)
        generalize hY : w22.heap.size = Y at HG0
        clear hr22 ho22
        obtain ⟨d0, d1, d2, d3, d4, d5, d6⟩ := seven_cells HG0.out.box
        obtain ⟨fx, fy⟩ := HG0.out.frozen
        go_wp2_with fail
        refine (HM.out _).mono ?_
        rintro r w23 ⟨rfl, he⟩
        obtain rfl := Eq.symm he
        go_wp2_with fail
        refine (HN.out _).mono ?_
        rintro r w24 ⟨rfl, he⟩
        obtain rfl := Eq.symm he
        go_wp2_with fail
        refine (HU.out _).mono ?_
        rintro r w25 ⟨rfl, he⟩
        obtain rfl := Eq.symm he
        go_wp2_with fail
        refine (HS.out _ HG0.out.rd).mono ?_
        rintro r w26 ⟨rfl, hr26, ho26⟩
        have G26 := Lib.hid (HG0.out.on hr26 ho26)
        clear hr26 ho26
        clear d0 d1 d2 d3 d4 d5 d6 fx fy
        obtain ⟨d0, d1, d2, d3, d4, d5, d6⟩ := seven_cells G26.out.box
        obtain ⟨fx, fy⟩ := G26.out.frozen
        have GT := Lib.hid (G26.out.set 6 (.int .u32 (sq : Int)) rfl)
        have HE := Lib.hid (error_any _ GT.out.rd)
        go_wp2_with fail
        refine HE.out.mono ?_
        rintro r wE ⟨rfl, he⟩
        obtain rfl := Eq.symm he
        obtain ⟨x0, x1, x2, x3, x4, x5, x6⟩ := seven_cells GT.out.res
        have hne : ¬ w.heap.size = Y := by have := GT.out.far; omega
        have hne2 : ¬ Y = w.heap.size := by have := GT.out.far; omega
        by_cases hz : eL = 0
        · subst hz
          have HO := Lib.hid (show readO bs q e = (⟨(k : Int), 0, 0, 0, [], [], (sq : Int)⟩, qL, 0) from by rw [HRB.out, if_pos rfl])
          go_wp2
          (try simp only [Exit.inBlock, Exit.then])
          obtain ⟨t1, t2, t3⟩ := GT.out.ret (.int .i64 (k : Int)) (.int .u16 0) (.int .u32 0) (.int .u32 0) (.string ⟨#[]⟩) (.slice none 0 0) (.int .u32 (sq : Int))
          refine bodyPost_ret (results_cell_row rfl _ _ w.heap.size 69 #[(.int .i64 (k : Int)), (.int .u16 0), (.int .u32 0), (.int .u32 0), (.string ⟨#[]⟩), (.slice none 0 0), (.int .u32 (sq : Int))] (0, 0) _ rfl (box_seven GT.out.res) Try.underlying69 rfl szO) rfl ?_
          unfold GotOK
          rw [HO.out]
          exact ⟨none, 0, _, rfl, GRow.nil _ _ _, Nat.le_refl _, fun _ => rfl, t2, fun _ => rfl, t3, KindAt.nil _ _⟩
        · have hz1 : ((eL : Int) == 0) = false := beq_no (by omega)
          have hz2 : ((eL : Int) != 0) = true := by simpa using hz
          have HO := Lib.hid (show readO bs q e = (o0, qL, eL) from by rw [HRB.out, if_neg hz])
          go_wp2
          (try simp only [Exit.inBlock, Exit.then])
          obtain ⟨t1, t2, t3⟩ := GT.out.ret (.int .i64 0) (.int .u16 0) (.int .u32 0) (.int .u32 0) (.string ⟨#[]⟩) (.slice none 0 0) (.int .u32 0)
          refine bodyPost_ret (results_cell_row rfl _ _ w.heap.size 69 #[.int .i64 0, .int .u16 0, .int .u32 0, .int .u32 0, .string ⟨#[]⟩, .slice none 0 0, .int .u32 0] (0, 0) _ rfl (box_seven GT.out.res) Try.underlying69 rfl szO) rfl ?_
          unfold GotOK
          rw [HO.out]
          exact ⟨none, 0, _, rfl, GRow.nil _ _ _, Nat.le_refl _, fun _ => rfl, t2, fun h0 => absurd h0 hz, t3, KindAt.nil _ _⟩
theorem getO_spec : GetOSpec := fun bs q e K D w hR hb he => (getO_kind bs q e K D w hR hb he).mono (by rintro r w' ⟨p, c, q', h1, h2, h3, h4, h5, h6, h7, -⟩; exact ⟨p, c, q', h1, h2, h3, h4, h5, h6, h7⟩)
end Go.Proofs.Ytedlmngfkkpmgaa
