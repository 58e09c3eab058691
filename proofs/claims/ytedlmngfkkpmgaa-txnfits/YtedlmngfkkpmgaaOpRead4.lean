
/-
  What the document's Read of layer 8 hands back: where spans stand behind the kind. No conditions beyond what each theorem states.
-/
import Derived.Test.YtedlmngfkkpmgaaOpRead3
namespace Go.Proofs.Ytedlmngfkkpmgaa
open Go.ChangeShapes Go.WideShapes Go.ChangeAt Go.RowKit Go.Lib
set_option linter.unusedVariables false
set_option linter.unusedSimpArgs false

set_option maxHeartbeats 6400000 in
set_option maxRecDepth 20000 in
theorem read8_2 (bs : List UInt8) (Q : Nat) (hQ : Q ≤ bs.length) (p : Option Addr) (c : Nat) (w : World) (hR : BRow w p bs) (hl : bs.length ≤ 1000000) (he0 : (rdN bs Q 0 5).2.2 = 0) (h2 : (rdN bs Q 0 5).1 = 2) :
    Calls Try.prog 43 #[.slice p bs.length c, .int .i64 (Q : Int)] w (Read8At bs Q w) := by
  have H0 := Lib.hid (fun W (hb : Below w.heap.size w W) => readnum_any bs Q 5 p c (by omega) hQ hl W (hR.below hb))
  have hf0 := rdN_fits (bs := bs) (q := Q) (e := 0) (limit := 5) hQ
  have HO : Hid (readO bs Q 0 = readB bs 2 (0, 0, 0) (rdN bs Q 0 5).2.1 0) := by
    show _ = _
    unfold readO
    rw [if_neg (by omega), he0, h2]
  generalize rdN bs Q 0 5 = kk at H0 he0 h2 hf0 HO
  obtain ⟨k, q0, e0⟩ := kk
  simp only at H0 he0 h2 hf0 HO
  subst he0 h2
  have HO : Hid (readO bs Q 0 = if (readS bs q0 0).2.2 = 0 then (⟨2, 0, 0, 0, [], (readS bs q0 0).1, 0⟩, (readS bs q0 0).2) else (o0, (readS bs q0 0).2)) := by
    show _ = _
    rw [HO.out]
    unfold readB
    rw [if_neg (by decide), if_pos (Or.inl rfl)]
    rfl
  have HS := Lib.hid (fun W (hb : Below w.heap.size w W) => refread_at bs q0 hf0.1 p c W (hR.below hb) hl)
  unfold ReadAt at HS
  generalize readS bs q0 0 = ss at HO HS
  obtain ⟨L, q1, e1⟩ := ss
  simp only at HO HS
  clear hR
  have HRS := Lib.hid (RS.new w)
  go_enter Try.func43, Try.ntmps43
  go_wp2_with fail
  generalize (w.alloc (.cells #[.int .i64 0, .int .u16 0, .int .u32 0, .int .u32 0, .string ⟨#[]⟩, .slice none 0 0, .int .u32 0] 49)).alloc (.cells #[.int .i64 0, .int .u16 0, .int .u32 0, .int .u32 0, .string ⟨#[]⟩, .slice none 0 0, .int .u32 0] 49) = W0 at HRS ⊢
  refine (H0.out _ HRS.out.bel).mono ?_
  rintro r w1 ⟨rfl, hw1⟩
  obtain rfl := Eq.symm hw1
  have HRS1 := Lib.hid (HRS.out.set 0 (.int .i64 2) (k' := 2) (a' := 0) (b' := 0) (c' := 0) (s' := ⟨#[]⟩) (v' := .slice none 0 0) (q' := 0) rfl)
  obtain ⟨x0, x1, x2, x3, x4, x5, x6⟩ := seven_cells HRS.out.box
  obtain ⟨y0, y1, y2, y3, y4, y5, y6⟩ := seven_cells HRS.out.res
  obtain ⟨fr, fb⟩ := HRS.out.frozen
  have hne : ¬ w.heap.size + 1 = w.heap.size := by omega
  have hne' : ¬ w.heap.size = w.heap.size + 1 := by omega
  clear hw1 H0
  go_wp2_with fail
  clear x0 x1 x2 x3 x4 x5 x6 y0 y1 y2 y3 y4 y5 y6 fr fb
  generalize W0.setCell ⟨w.heap.size + 1, 0, none⟩ (.int .i64 2) = W1 at HRS1 ⊢
  obtain ⟨x0, x1, x2, x3, x4, x5, x6⟩ := seven_cells HRS1.out.box
  obtain ⟨y0, y1, y2, y3, y4, y5, y6⟩ := seven_cells HRS1.out.res
  obtain ⟨fr, fb⟩ := HRS1.out.frozen
  go_wp2_with fail
  refine (HS.out _ HRS1.out.bel).mono ?_
  rintro r w2 ⟨v2, rfl, hH⟩
  have HR2 := Lib.hid (HRS1.out.below hH.2)
  obtain ⟨pv, cv, rfl, hG, hcv, hpv⟩ := hH.gave layS_pos
  have hX1 : w.heap.size + 1 < W1.heap.size := lt_of_block HRS1.out.box
  have hP : ∀ q, pv = some q → W1.heap.size ≤ q.block := fun q e => by
    subst e
    exact (hH.1.lt q.block rfl).1
  have HRS2 := Lib.hid (HR2.out.set 5 (.slice pv L.length cv) (k' := 2) (a' := 0) (b' := 0) (c' := 0) (s' := ⟨#[]⟩) (v' := .slice pv L.length cv) (q' := 0) rfl)
  have HG2 : Hid (GRow layS (w2.setCell ⟨w.heap.size + 1, 5, none⟩ (.slice pv L.length cv)) pv L) := hG.kept (only_set _ _ _ _) (fun q e ee => by have := hP q e; have ee : q.block = w.heap.size + 1 := ee; omega)
  have HK2 : Hid (KindAt 101 (w2.setCell ⟨w.heap.size + 1, 5, none⟩ (.slice pv L.length cv)) pv) := (kind_owns hH.1).kept (only_set _ _ _ _) (fun q e ee => by have := hP q e; have ee : q.block = w.heap.size + 1 := ee; omega)
  have HP : Hid (∀ q, pv = some q → q.block ≠ w.heap.size) := fun q e => by have := hP q e; omega
  clear x0 x1 x2 x3 x4 x5 x6 y0 y1 y2 y3 y4 y5 y6 fr fb
  obtain ⟨x0, x1, x2, x3, x4, x5, x6⟩ := seven_cells HR2.out.box
  obtain ⟨y0, y1, y2, y3, y4, y5, y6⟩ := seven_cells HR2.out.res
  obtain ⟨fr, fb⟩ := HR2.out.frozen
  clear hH hG hP HS
  by_cases hz : e1 = 0
  · subst hz
    have HO2 : Hid (readO bs Q 0 = (⟨2, 0, 0, 0, [], L, 0⟩, q1, 0)) := by show _ = _; rw [HO.out, if_pos rfl]
    go_wp2
    (try simp only [Exit.inBlock, Exit.then])
    refine bodyPost_ret (results_ctt (p := 4) (t := 5) (u := 6) (ty := 49) rfl _ _ ⟨w.heap.size, 0, none⟩ _ rfl (load8 (box_seven HRS2.out.res) rfl)) rfl ?_
    exact read8_some (o := ⟨2, 0, 0, 0, [], L, 0⟩) (p := pv) (cc := cv) (q := 0) (pos := q1) HRS2.out HG2.out HP.out HK2.out HO2.out
  · have hee : ((e1 : Int) == 0) = false := beq_no (by omega)
    have hee' : ((e1 : Int) != 0) = true := by simp; omega
    have HO2 : Hid (readO bs Q 0 = (o0, q1, e1)) := by show _ = _; rw [HO.out, if_neg hz]
    go_wp2
    (try simp only [Exit.inBlock, Exit.then])
    refine bodyPost_ret (results_ctt (p := 4) (t := 5) (u := 6) (ty := 49) rfl _ _ ⟨w.heap.size, 0, none⟩ _ rfl (load8 (box_seven HRS2.out.res) rfl)) rfl ?_
    exact read8_zero (pos := q1) HRS2.out HO2.out hz
end Go.Proofs.Ytedlmngfkkpmgaa
