
/-
  What the document's Read of layer 7 hands back. No conditions beyond what each theorem states.
-/
import Derived.Test.YtedlmngfkkpmgaaSpanPack2
namespace Go.Proofs.Ytedlmngfkkpmgaa
open Go.ChangeShapes Go.WideShapes Go.ChangeAt Go.RowKit Go.Lib
set_option linter.unusedVariables false
set_option linter.unusedSimpArgs false

theorem readnum_any (bs : List UInt8) (q limit : Nat) (p : Option Addr) (c : Nat) (hlim : limit < 18446744073709551616) (hq : q ≤ bs.length) (hl : bs.length ≤ 1000000) (w : World) (hR : BRow w p bs) :
    Calls Try.prog 42 #[.slice p bs.length c, .int .i64 (q : Int), .int .u64 (limit : Int)] w fun r w' => r = .returned (.tuple #[.int .u64 ((rdN bs q 0 limit).1 : Int), .int .i64 ((rdN bs q 0 limit).2.1 : Int), .int .i64 ((rdN bs q 0 limit).2.2 : Int)]) ∧ w' = w := by
  rw [rdN_read]
  exact refreadnum_any bs q limit p c hlim hq hl w hR
/-- Three cells of a block of its own. -/
def B3 (t : TypeId) (V : Nat) (a b c : Int) (w : World) : Prop := w.heap[V]? = some (.cells #[.int .u64 a, .int .u64 b, .int .u64 c] t (0, 0))
theorem B3.new (w : World) (t : TypeId) (a b c : Int) : B3 t w.heap.size a b c (w.alloc (.cells #[.int .u64 a, .int .u64 b, .int .u64 c] t)) := heap_alloc_new w _
theorem B3.alloc {t : TypeId} {V : Nat} {a b c : Int} {w : World} (h : B3 t V a b c w) (o : Obj) : B3 t V a b c (w.alloc o) := by
  have := (below_alloc (Below.refl w.heap.size w) o).block V (lt_of_block h)
  unfold B3 at h ⊢; rw [this]; exact h
theorem B3.cells {t : TypeId} {V : Nat} {a b c : Int} {w : World} (h : B3 t V a b c w) : w.cell? ⟨V, 0, none⟩ = some (.int .u64 a) ∧ w.cell? ⟨V, 1, none⟩ = some (.int .u64 b) ∧ w.cell? ⟨V, 2, none⟩ = some (.int .u64 c) := by
  refine ⟨?_, ?_, ?_⟩ <;> rw [cell_of_block h] <;> rfl
theorem B3.frozen {t : TypeId} {V : Nat} {a b c : Int} {w : World} (h : B3 t V a b c w) (o : Nat) : w.frozen? ⟨V, o, none⟩ = false := frozen_of_block h
theorem B3.set0 {t : TypeId} {V : Nat} {a b c : Int} {w : World} (h : B3 t V a b c w) (x : Int) : B3 t V x b c (w.setCell ⟨V, 0, none⟩ (.int .u64 x)) := by
  unfold B3 at h ⊢; simp [World.setCell, Array.getElem?_modify, h]
theorem B3.set1 {t : TypeId} {V : Nat} {a b c : Int} {w : World} (h : B3 t V a b c w) (x : Int) : B3 t V a x c (w.setCell ⟨V, 1, none⟩ (.int .u64 x)) := by
  unfold B3 at h ⊢; simp [World.setCell, Array.getElem?_modify, h]
theorem B3.set2 {t : TypeId} {V : Nat} {a b c : Int} {w : World} (h : B3 t V a b c w) (x : Int) : B3 t V a b x (w.setCell ⟨V, 2, none⟩ (.int .u64 x)) := by
  unfold B3 at h ⊢; simp [World.setCell, Array.getElem?_modify, h]
theorem B3.other {t : TypeId} {V K o : Nat} {a b c : Int} {w : World} (h : B3 t V a b c w) (hne : V ≠ K) (u : Value) : B3 t V a b c (w.setCell ⟨K, o, none⟩ u) := by
  unfold B3 at h ⊢; rw [Below.heap_setCell _ _ _ _ hne]; exact h
theorem Hold.other {α : Type} {L : Lay α} {w wr : World} {e : TypeId} {v : Value} {xs : List α} (h : Hold L w e v xs wr) {V : Nat} (hv : v.ownBlock ≠ some V) (hb : w.heap.size ≤ V) (o : Nat) (u : Value) : Hold L w e v xs (wr.setCell ⟨V, o, none⟩ u) :=
  ⟨ownsRow_setCell_other h.1 hv u, h.2.setCell (p := ⟨V, o, none⟩) hb u⟩
/-- Three numbers behind so many of them. -/
def St3 (bs : List UInt8) (q0 : Nat) (i : Nat) (a b c q e : Nat) : Prop :=
  match i with
  | 0 => a = 0 ∧ b = 0 ∧ c = 0 ∧ q = q0 ∧ e = 0
  | 1 => (a, q, e) = rdN bs q0 0 65535 ∧ b = 0 ∧ c = 0
  | 2 => ∃ q1 e1, (a, q1, e1) = rdN bs q0 0 65535 ∧ (b, q, e) = rdN bs q1 e1 268435456 ∧ c = 0
  | _ => ∃ q1 e1 q2 e2, (a, q1, e1) = rdN bs q0 0 65535 ∧ (b, q2, e2) = rdN bs q1 e1 268435456 ∧ (c, q, e) = rdN bs q2 e2 1024
theorem St3.done {bs : List UInt8} {q0 i a b c q e : Nat} (h : St3 bs q0 i a b c q e) (hi : i ≤ 3) (hd : i = 3 ∨ e ≠ 0) : rd3 bs q0 0 = (((a : Int), (b : Int), (c : Int)), q, e) := by
  have : i = 0 ∨ i = 1 ∨ i = 2 ∨ i = 3 := by omega
  unfold rd3
  rcases this with rfl | rfl | rfl | rfl
  · obtain ⟨_, _, _, _, rfl⟩ := h
    rcases hd with hd | hd
    · cases hd
    · exact absurd rfl hd
  · obtain ⟨h1, rfl, rfl⟩ := h
    have he : e ≠ 0 := by rcases hd with hd | hd; cases hd; exact hd
    rw [← h1]
    simp only
    rw [rdN_err he]
    simp only
    rw [rdN_err he]
  · obtain ⟨q1, e1, h1, h2, rfl⟩ := h
    have he : e ≠ 0 := by rcases hd with hd | hd; cases hd; exact hd
    rw [← h1]
    simp only
    rw [← h2]
    simp only
    rw [rdN_err he]
  · obtain ⟨q1, e1, q2, e2, h1, h2, h3⟩ := h
    rw [← h1]
    simp only
    rw [← h2]
    simp only
    rw [← h3]
theorem St3.next0 {bs : List UInt8} {q0 a b c q : Nat} (h : St3 bs q0 0 a b c q 0) : St3 bs q0 1 (rdN bs q 0 65535).1 b c (rdN bs q 0 65535).2.1 (rdN bs q 0 65535).2.2 := by
  obtain ⟨rfl, rfl, rfl, rfl, _⟩ := h; exact ⟨rfl, rfl, rfl⟩
theorem St3.next1 {bs : List UInt8} {q0 a b c q : Nat} (h : St3 bs q0 1 a b c q 0) : St3 bs q0 2 a (rdN bs q 0 268435456).1 c (rdN bs q 0 268435456).2.1 (rdN bs q 0 268435456).2.2 := by
  obtain ⟨h1, rfl, rfl⟩ := h; exact ⟨q, 0, h1, rfl, rfl⟩
theorem St3.next2 {bs : List UInt8} {q0 a b c q : Nat} (h : St3 bs q0 2 a b c q 0) : St3 bs q0 3 a b (rdN bs q 0 1024).1 (rdN bs q 0 1024).2.1 (rdN bs q 0 1024).2.2 := by
  obtain ⟨q1, e1, h1, h2, rfl⟩ := h; exact ⟨q1, e1, q, 0, h1, h2, rfl⟩
def ReadAt (bs : List UInt8) (Q : Nat) (w : World) (r : Ending) (w' : World) : Prop := ∃ v, r = .returned (.tuple #[v, .int .i64 ((readS bs Q 0).2.1 : Int), .int .i64 ((readS bs Q 0).2.2 : Int)]) ∧ Hold layS w 101 v (readS bs Q 0).1 w'
def Read7 (bs : List UInt8) (w : World) (r : Ending) (w' : World) : Prop := ∃ v, r = .returned (.tuple #[v, .int .i64 ((readS bs 0 0).2.1 : Int), .int .i64 ((readS bs 0 0).2.2 : Int)]) ∧ Hold layS w 101 v (readS bs 0 0).1 w'

set_option maxHeartbeats 6400000 in
set_option maxRecDepth 20000 in
theorem refread_at (bs : List UInt8) (Q : Nat) (hQ : Q ≤ bs.length) (p : Option Addr) (c : Nat) (w : World) (hR : BRow w p bs) (hl : bs.length ≤ 1000000) :
    Calls Try.prog 66 #[.slice p bs.length c, .int .i64 (Q : Int)] w (ReadAt bs Q w) := by
  obtain ⟨i0, hi, hz0, hz1, hz2⟩ := info_parts infoRS
  have HR := Lib.hid hR
  clear hR
  have hf0 := rdN_fits (bs := bs) (q := Q) (e := 0) (limit := 1024) hQ
  have HS : Hid (readS bs Q 0 = (if (rdL bs (rdN bs Q 0 1024).1 (rdN bs Q 0 1024).2.1 (rdN bs Q 0 1024).2.2).2.2 = 0 then (rdL bs (rdN bs Q 0 1024).1 (rdN bs Q 0 1024).2.1 (rdN bs Q 0 1024).2.2).1 else [], (rdL bs (rdN bs Q 0 1024).1 (rdN bs Q 0 1024).2.1 (rdN bs Q 0 1024).2.2).2)) := rfl
  have H0 := readnum_any bs Q 1024 p c (by omega) hQ hl w HR.out
  generalize hr0 : rdN bs Q 0 1024 = r0 at *
  obtain ⟨n, q0, e0⟩ := r0
  simp only at hf0 HS H0
  have H0 := Lib.hid H0
  go_enter Try.func66, Try.ntmps66
  go_wp2_with fail
  refine H0.out.mono ?_
  rintro e w1 ⟨rfl, hw1⟩
  obtain rfl := Eq.symm hw1
  clear hw1 H0 hr0
  go_wp2_with fail
  go_loopg [1, 8, 9, 10] (n + 1) (fun g at' er v i wr => ∃ (k q e : Nat) (out : List Sp), k ≤ n ∧ n + 1 - k ≤ g ∧ i = .int .u64 (k : Int) ∧ at' = .int .i64 (q : Int) ∧ er = .int .i64 (e : Int) ∧ q ≤ bs.length ∧ e < 16 ∧ out.length = k ∧ rdL bs n q0 e0 = (out ++ (rdL bs (n - k) q e).1, (rdL bs (n - k) q e).2) ∧ Hold layS w 101 v out wr)
  case atStart => exact ⟨0, q0, e0, [], Nat.zero_le _, by omega, rfl, rfl, rfl, hf0.1, by omega, rfl, rfl, Hold.nil _ _ _⟩
  case round =>
    obtain ⟨k, q, e, out, hk, hg, rfl, rfl, rfl, hq, he, hol, hrd, hO⟩ := hrel
    have HO := Lib.hid hO
    have HRD := Lib.hid hrd
    clear hO hrd
    by_cases hlt : k < n
    · by_cases hez : e = 0
      · subst hez
        have HRr : Hid (∀ W, Below w.heap.size w W → BRow W p bs) := fun W hb => HR.out.below hb
        have HSTEP : Hid (rdL bs n q0 e0 = ((out ++ [(rd3 bs q 0).1]) ++ (rdL bs (n - (k + 1)) (rd3 bs q 0).2.1 (rd3 bs q 0).2.2).1, (rdL bs (n - (k + 1)) (rd3 bs q 0).2.1 (rd3 bs q 0).2.2).2)) := by
          show _ = _
          rw [HRD.out, show n - k = (n - (k + 1)) + 1 by omega, rdL, if_pos rfl]
          simp
        have hf3 := rd3_fits hq
        have hVN : u9.ownBlock ≠ some (wr.heap.size + 1) := fun h => by have := (HO.out.1.lt _ h).2; omega
        have hVB : w.heap.size ≤ wr.heap.size + 1 := Nat.le_succ_of_le HO.out.2.size
        have hL0 := (B3.new wr 108 65535 268435456 1024).alloc (.cells #[.int .u64 0, .int .u64 0, .int .u64 0] 108)
        have hV0 : B3 108 (wr.heap.size + 1) 0 0 0 ((wr.alloc (.cells #[.int .u64 65535, .int .u64 268435456, .int .u64 1024] 108)).alloc (.cells #[.int .u64 0, .int .u64 0, .int .u64 0] 108)) := by
          have := B3.new (wr.alloc (.cells #[.int .u64 65535, .int .u64 268435456, .int .u64 1024] 108)) 108 0 0 0
          simpa using this
        have hH0 := (HO.out.alloc (.cells #[.int .u64 65535, .int .u64 268435456, .int .u64 1024] 108)).alloc (.cells #[.int .u64 0, .int .u64 0, .int .u64 0] 108)
        go_wp2_with fail
        generalize (wr.alloc (.cells #[.int .u64 65535, .int .u64 268435456, .int .u64 1024] 108)).alloc (.cells #[.int .u64 0, .int .u64 0, .int .u64 0] 108) = W9 at hL0 hV0 hH0 ⊢
        generalize wr.heap.size = V0 at hVN hVB hL0 hV0 ⊢
        have HVN := Lib.hid hVN
        have HVB := Lib.hid hVB
        have HL0 := Lib.hid hL0
        have HV0 := Lib.hid hV0
        have HH0 := Lib.hid hH0
        clear hVN hVB hL0 hV0 hH0
        go_loopg [1, 8, 13] 4 (fun g at' er i wq => ∃ (j a b c' q1 e1 : Nat), j ≤ 3 ∧ 4 - j ≤ g ∧ i = .int .i64 (j : Int) ∧ at' = .int .i64 (q1 : Int) ∧ er = .int .i64 (e1 : Int) ∧ q1 ≤ bs.length ∧ e1 < 16 ∧ St3 bs q j a b c' q1 e1 ∧ (a ≤ 65535 ∧ b ≤ 268435456 ∧ c' ≤ 1024) ∧ B3 108 (V0 + 1) (a : Int) (b : Int) (c' : Int) wq ∧ B3 108 V0 65535 268435456 1024 wq ∧ Hold layS w 101 u9 out wq)
        case atStart => exact ⟨0, 0, 0, 0, q, 0, by omega, by omega, rfl, rfl, rfl, hq, by omega, ⟨rfl, rfl, rfl, rfl, rfl⟩, ⟨by omega, by omega, by omega⟩, HV0.out, HL0.out, HH0.out⟩
        case round =>
          clear HL0 HV0 HH0 HO
          obtain ⟨j, a, b, c', q1, e1, hj, hgj, rfl, rfl, rfl, hq1, he1, hst, ⟨ha, hb, hc⟩, hV, hL, hO2⟩ := hrel
          have HST := Lib.hid hst
          have HO2 := Lib.hid hO2
          have HV := Lib.hid hV
          have HL := Lib.hid hL
          obtain ⟨v0, v1, v2⟩ := hV.cells
          obtain ⟨l0, l1, l2⟩ := hL.cells
          clear hst hV hL hO2
          by_cases hj3 : j = 3
          · subst hj3
            have HD := Lib.hid (HST.out.done (by omega) (Or.inl rfl))
            have HSTEP2 : Hid (rdL bs n q0 e0 = ((out ++ [((a : Int), (b : Int), (c' : Int))]) ++ (rdL bs (n - (k + 1)) q1 e1).1, (rdL bs (n - (k + 1)) q1 e1).2)) := by rw [HSTEP.out, HD.out]; rfl
            clear HSTEP HD HST
            go_wp2_with (first
              | (at_builtin; refine wpList_append_own _ rfl (.tmp 51) (.tmp 63) 47 rfl w.heap.size 101 i0 (.agg #[.int .u16 0, .int .u32 0, .int .i64 0]) 3 16 Try.underlying47 hi hz0 hz1 hz2 rfl (by decide) _ out.length (layS.flat out) rfl (HO2.out.alloc _).1 ⟨wr.heap.size, 0, none⟩ 1 1 [.int .u16 (a : Int), .int .u32 (b : Int), .int .i64 (c' : Int)] rfl rfl (cells_new (cs := [.int .u16 (a : Int), .int .u32 (b : Int), .int .i64 (c' : Int)])) (layS.one ((a : Int), (b : Int), (c' : Int))) (by unfold maxLen; omega) (by omega) (by have := HO2.out.2.size; simp; omega) ?_))
            intro v' w4 hown hgrow _
            have HO4 : Hid (Hold layS w 101 v' (out ++ [((a : Int), (b : Int), (c' : Int))]) w4) := (HO2.out.alloc _).onto rfl (by rw [hol]; rfl) hown hgrow
            clear hown hgrow
            go_wp2
            go_roundg (n + 1 - (k + 1))
            case measure => omega
            case rel => exact ⟨k + 1, q1, e1, _, by omega, Nat.le_refl _, by go_num, rfl, rfl, hq1, he1, by rw [List.length_append, hol]; rfl, HSTEP2.out, HO4.out⟩
          · by_cases hez1 : e1 = 0
            · subst hez1
              have : j = 0 ∨ j = 1 ∨ j = 2 := by omega
              rcases this with rfl | rfl | rfl
              · have hfit := rdN_fits (bs := bs) (q := q1) (e := 0) (limit := 65535) hq1
                have HC := readnum_any bs q1 65535 p c (by omega) hq1 hl wr (HR.out.below HO2.out.2)
                have HST2 := Lib.hid (HST.out.next0)
                generalize rdN bs q1 0 65535 = r1 at HC HST2 hfit
                obtain ⟨x1, x2, x3⟩ := r1
                simp only at HC HST2 hfit
                have HC := Lib.hid HC
                have f0 := HV.out.frozen 0
                have HVV := Lib.hid (HV.out.set0 (x1 : Int))
                have HLL := Lib.hid (HL.out.other (K := V0 + 1) (o := 0) (by omega) (.int .u64 (x1 : Int)))
                have HO3 := Lib.hid (HO2.out.other HVN.out HVB.out 0 (.int .u64 (x1 : Int)))
                clear HST
                go_wp2_with fail
                refine HC.out.mono ?_
                rintro e w5 ⟨rfl, hw5⟩
                obtain rfl := Eq.symm hw5
                clear hw5 HC
                go_wp2
                go_roundg (4 - (0 + 1))
                case measure => omega
                case rel => exact ⟨0 + 1, x1, b, c', x2, x3, by omega, Nat.le_refl _, by go_num, rfl, rfl, hfit.1, by omega, HST2.out, ⟨hfit.2.1, hb, hc⟩, HVV.out, HLL.out, HO3.out⟩
              · have hfit := rdN_fits (bs := bs) (q := q1) (e := 0) (limit := 268435456) hq1
                have HC := readnum_any bs q1 268435456 p c (by omega) hq1 hl wr (HR.out.below HO2.out.2)
                have HST2 := Lib.hid (HST.out.next1)
                generalize rdN bs q1 0 268435456 = r1 at HC HST2 hfit
                obtain ⟨x1, x2, x3⟩ := r1
                simp only at HC HST2 hfit
                have HC := Lib.hid HC
                have f1 := HV.out.frozen 1
                have HVV := Lib.hid (HV.out.set1 (x1 : Int))
                have HLL := Lib.hid (HL.out.other (K := V0 + 1) (o := 1) (by omega) (.int .u64 (x1 : Int)))
                have HO3 := Lib.hid (HO2.out.other HVN.out HVB.out 1 (.int .u64 (x1 : Int)))
                clear HST
                go_wp2_with fail
                refine HC.out.mono ?_
                rintro e w5 ⟨rfl, hw5⟩
                obtain rfl := Eq.symm hw5
                clear hw5 HC
                go_wp2
                go_roundg (4 - (1 + 1))
                case measure => omega
                case rel => exact ⟨1 + 1, a, x1, c', x2, x3, by omega, Nat.le_refl _, by go_num, rfl, rfl, hfit.1, by omega, HST2.out, ⟨ha, hfit.2.1, hc⟩, HVV.out, HLL.out, HO3.out⟩
              · have hfit := rdN_fits (bs := bs) (q := q1) (e := 0) (limit := 1024) hq1
                have HC := readnum_any bs q1 1024 p c (by omega) hq1 hl wr (HR.out.below HO2.out.2)
                have HST2 := Lib.hid (HST.out.next2)
                generalize rdN bs q1 0 1024 = r1 at HC HST2 hfit
                obtain ⟨x1, x2, x3⟩ := r1
                simp only at HC HST2 hfit
                have HC := Lib.hid HC
                have f2 := HV.out.frozen 2
                have HVV := Lib.hid (HV.out.set2 (x1 : Int))
                have HLL := Lib.hid (HL.out.other (K := V0 + 1) (o := 2) (by omega) (.int .u64 (x1 : Int)))
                have HO3 := Lib.hid (HO2.out.other HVN.out HVB.out 2 (.int .u64 (x1 : Int)))
                clear HST
                go_wp2_with fail
                refine HC.out.mono ?_
                rintro e w5 ⟨rfl, hw5⟩
                obtain rfl := Eq.symm hw5
                clear hw5 HC
                go_wp2
                go_roundg (4 - (2 + 1))
                case measure => omega
                case rel => exact ⟨2 + 1, a, b, x1, x2, x3, by omega, Nat.le_refl _, by go_num, rfl, rfl, hfit.1, by omega, HST2.out, ⟨ha, hb, hfit.2.1⟩, HVV.out, HLL.out, HO3.out⟩
            · have hez' : ((e1 : Int) == 0) = false := by rw [beq_eq_false_iff_ne]; omega
              have hj3' : (j : Int) < 3 := by omega
              have HD := Lib.hid (HST.out.done (by omega) (Or.inr hez1))
              have HSTEP2 : Hid (rdL bs n q0 e0 = ((out ++ [((a : Int), (b : Int), (c' : Int))]) ++ (rdL bs (n - (k + 1)) q1 e1).1, (rdL bs (n - (k + 1)) q1 e1).2)) := by rw [HSTEP.out, HD.out]; rfl
              clear HSTEP HD HST
              go_wp2_with (first
                | (at_builtin; refine wpList_append_own _ rfl (.tmp 51) (.tmp 63) 47 rfl w.heap.size 101 i0 (.agg #[.int .u16 0, .int .u32 0, .int .i64 0]) 3 16 Try.underlying47 hi hz0 hz1 hz2 rfl (by decide) _ out.length (layS.flat out) rfl (HO2.out.alloc _).1 ⟨wr.heap.size, 0, none⟩ 1 1 [.int .u16 (a : Int), .int .u32 (b : Int), .int .i64 (c' : Int)] rfl rfl (cells_new (cs := [.int .u16 (a : Int), .int .u32 (b : Int), .int .i64 (c' : Int)])) (layS.one ((a : Int), (b : Int), (c' : Int))) (by unfold maxLen; omega) (by omega) (by have := HO2.out.2.size; simp; omega) ?_))
              intro v' w4 hown hgrow _
              have HO4 : Hid (Hold layS w 101 v' (out ++ [((a : Int), (b : Int), (c' : Int))]) w4) := (HO2.out.alloc _).onto rfl (by rw [hol]; rfl) hown hgrow
              clear hown hgrow
              go_wp2
              go_roundg (n + 1 - (k + 1))
              case measure => omega
              case rel => exact ⟨k + 1, q1, e1, _, by omega, Nat.le_refl _, by go_num, rfl, rfl, hq1, he1, by rw [List.length_append, hol]; rfl, HSTEP2.out, HO4.out⟩
      · have hez' : ((e : Int) == 0) = false := by rw [beq_eq_false_iff_ne]; omega
        have HE := Lib.hid (rdL_err bs (n - k) q e hez)
        have HS2 : Hid (readS bs Q 0 = ([], q, e)) := by rw [HS.out, HRD.out, HE.out]; simp only; rw [if_neg hez]; rfl
        go_wp2
        go_ret3
        exact ⟨_, by rw [HS2.out]; rfl, by rw [HS2.out]; exact (Hold.nil layS wr 101).rebase HO.out.2⟩
    · have : k = n := by omega
      subst this
      have HE : Hid (rdL bs (k - k) q e = ([], q, e)) := by rw [Nat.sub_self]; rfl
      by_cases hez : e = 0
      · subst hez
        have HS2 : Hid (readS bs Q 0 = (out, q, 0)) := by show _ = _; rw [HS.out, HRD.out, HE.out]; simp only [if_true, List.append_nil]
        go_wp2
        go_ret3
        exact ⟨_, by rw [HS2.out]; rfl, by rw [HS2.out]; exact HO.out⟩
      · have hez' : ((e : Int) == 0) = false := by rw [beq_eq_false_iff_ne]; omega
        have HS2 : Hid (readS bs Q 0 = ([], q, e)) := by rw [HS.out, HRD.out, HE.out]; simp only; rw [if_neg hez]; rfl
        go_wp2
        go_ret3
        exact ⟨_, by rw [HS2.out]; rfl, by rw [HS2.out]; exact (Hold.nil layS wr 101).rebase HO.out.2⟩

theorem refread_any (bs : List UInt8) (p : Option Addr) (c : Nat) (w : World) (hR : BRow w p bs) (hl : bs.length ≤ 1000000) :
    Calls Try.prog 66 #[.slice p bs.length c, .int .i64 0] w (Read7 bs w) := refread_at bs 0 (Nat.zero_le _) p c w hR hl

end Go.Proofs.Ytedlmngfkkpmgaa
