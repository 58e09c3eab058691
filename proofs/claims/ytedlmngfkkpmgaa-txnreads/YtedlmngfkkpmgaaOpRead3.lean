
/-
  What the document's Read of layer 8 hands back: where there is no anchor to read. No conditions beyond what each theorem states.
-/
import Derived.Test.YtedlmngfkkpmgaaOpRead2
namespace Go.Proofs.Ytedlmngfkkpmgaa
open Go.ChangeShapes Go.WideShapes Go.ChangeAt Go.RowKit Go.Lib
set_option linter.unusedVariables false
set_option linter.unusedSimpArgs false

theorem rdN_zero {bs : List UInt8} {q limit : Nat} (h : (rdN bs q 0 limit).2.2 ≠ 0) : (rdN bs q 0 limit).1 = 0 := by
  rw [rdN_read] at h ⊢
  have := read_fair (bs.drop q) limit
  unfold Fair at this
  simp only at h ⊢
  omega
set_option maxHeartbeats 6400000 in
set_option maxRecDepth 20000 in
/-- The kind could not be read. -/
theorem read8_k (bs : List UInt8) (Q : Nat) (hQ : Q ≤ bs.length) (p : Option Addr) (c : Nat) (w : World) (hR : BRow w p bs) (hl : bs.length ≤ 1000000) (he0 : (rdN bs Q 0 5).2.2 ≠ 0) :
    Calls Try.prog 43 #[.slice p bs.length c, .int .i64 (Q : Int)] w (Read8At bs Q w) := by
  have H0 := Lib.hid (fun W (hb : Below w.heap.size w W) => readnum_any bs Q 5 p c (by omega) hQ hl W (hR.below hb))
  have hz := rdN_zero he0
  have HO : Hid (readO bs Q 0 = (o0, (rdN bs Q 0 5).2.1, (rdN bs Q 0 5).2.2)) := by
    show _ = _
    unfold readO
    rw [hz, if_neg (by decide)]
    unfold readB
    rw [if_neg (by decide), if_neg (by decide), rdN_err he0]
    simp only
    rw [if_neg he0]
  generalize rdN bs Q 0 5 = kk at H0 he0 hz HO
  obtain ⟨k, q0, e0⟩ := kk
  simp only at H0 he0 hz HO
  subst hz
  have hee : ((e0 : Int) == 0) = false := beq_no (by omega)
  have hee' : ((e0 : Int) != 0) = true := by simp; omega
  have HRS := Lib.hid (RS.new w)
  clear hR
  go_enter Try.func43, Try.ntmps43
  go_wp2_with fail
  generalize (w.alloc (.cells #[.int .i64 0, .int .u16 0, .int .u32 0, .int .u32 0, .string ⟨#[]⟩, .slice none 0 0, .int .u32 0] 49)).alloc (.cells #[.int .i64 0, .int .u16 0, .int .u32 0, .int .u32 0, .string ⟨#[]⟩, .slice none 0 0, .int .u32 0] 49) = W0 at HRS ⊢
  refine (H0.out _ HRS.out.bel).mono ?_
  rintro r w1 ⟨rfl, hw1⟩
  obtain rfl := Eq.symm hw1
  have HRS1 := Lib.hid (HRS.out.set 0 (.int .i64 0) (k' := 0) (a' := 0) (b' := 0) (c' := 0) (s' := ⟨#[]⟩) (v' := .slice none 0 0) (q' := 0) rfl)
  obtain ⟨x0, x1, x2, x3, x4, x5, x6⟩ := seven_cells HRS.out.box
  obtain ⟨y0, y1, y2, y3, y4, y5, y6⟩ := seven_cells HRS.out.res
  obtain ⟨fr, fb⟩ := HRS.out.frozen
  have hne : ¬ w.heap.size + 1 = w.heap.size := by omega
  have hne' : ¬ w.heap.size = w.heap.size + 1 := by omega
  clear hw1 H0
  go_wp2
  (try simp only [Exit.inBlock, Exit.then])
  refine bodyPost_ret (results_ctt (p := 4) (t := 5) (u := 6) (ty := 49) rfl _ _ ⟨w.heap.size, 0, none⟩ _ rfl (load8 (box_seven HRS1.out.res) rfl)) rfl ?_
  exact read8_zero (pos := q0) HRS1.out HO.out he0
set_option maxHeartbeats 6400000 in
set_option maxRecDepth 20000 in
/-- A kind that has a number behind it. -/
theorem read8_s (bs : List UInt8) (Q : Nat) (hQ : Q ≤ bs.length) (p : Option Addr) (c : Nat) (w : World) (hR : BRow w p bs) (hl : bs.length ≤ 1000000) (he0 : (rdN bs Q 0 5).2.2 = 0) (h1 : (rdN bs Q 0 5).1 ≠ 1) (h2 : (rdN bs Q 0 5).1 ≠ 2) (h3 : (rdN bs Q 0 5).1 ≠ 3) :
    Calls Try.prog 43 #[.slice p bs.length c, .int .i64 (Q : Int)] w (Read8At bs Q w) := by
  have H0 := Lib.hid (fun W (hb : Below w.heap.size w W) => readnum_any bs Q 5 p c (by omega) hQ hl W (hR.below hb))
  have hf0 := rdN_fits (bs := bs) (q := Q) (e := 0) (limit := 5) hQ
  have HO : Hid (readO bs Q 0 = readB bs (rdN bs Q 0 5).1 (0, 0, 0) (rdN bs Q 0 5).2.1 0) := by
    show _ = _
    unfold readO
    rw [if_neg (by omega), he0]
  generalize rdN bs Q 0 5 = kk at H0 he0 h1 h2 h3 hf0 HO
  obtain ⟨k, q0, e0⟩ := kk
  simp only at H0 he0 h1 h2 h3 hf0 HO
  subst he0
  have HO : Hid (readO bs Q 0 = if (rdN bs q0 0 268435456).2.2 = 0 then (⟨(k : Int), 0, 0, 0, [], [], ((rdN bs q0 0 268435456).1 : Int)⟩, (rdN bs q0 0 268435456).2) else (o0, (rdN bs q0 0 268435456).2)) := by
    show _ = _
    rw [HO.out]
    unfold readB
    rw [if_neg h1, if_neg (by omega)]
    rfl
  have HQ := Lib.hid (fun W (hb : Below w.heap.size w W) => readnum_any bs q0 268435456 p c (by omega) hf0.1 hl W (hR.below hb))
  have hf1 := rdN_fits (bs := bs) (q := q0) (e := 0) (limit := 268435456) hf0.1
  generalize rdN bs q0 0 268435456 = ss at HO HQ hf1
  obtain ⟨S, q1, e1⟩ := ss
  simp only at HO HQ hf1
  have k1 : ((k : Int) == 1) = false := beq_no (by omega)
  have k2 : ((k : Int) == 2) = false := beq_no (by omega)
  have k3 : ((k : Int) == 3) = false := beq_no (by omega)
  have hkw : IntKind.i64.wrap (k : Int) = (k : Int) := by rw [IntKind.wrap_i64]; omega
  have hsw : IntKind.u32.wrap (S : Int) = (S : Int) := by rw [IntKind.wrap_u32]; omega
  have HRS := Lib.hid (RS.new w)
  clear hR
  go_enter Try.func43, Try.ntmps43
  go_wp2_with fail
  generalize (w.alloc (.cells #[.int .i64 0, .int .u16 0, .int .u32 0, .int .u32 0, .string ⟨#[]⟩, .slice none 0 0, .int .u32 0] 49)).alloc (.cells #[.int .i64 0, .int .u16 0, .int .u32 0, .int .u32 0, .string ⟨#[]⟩, .slice none 0 0, .int .u32 0] 49) = W0 at HRS ⊢
  refine (H0.out _ HRS.out.bel).mono ?_
  rintro r w1 ⟨rfl, hw1⟩
  obtain rfl := Eq.symm hw1
  have HRS1 := Lib.hid (HRS.out.set 0 (.int .i64 (k : Int)) (k' := (k : Int)) (a' := 0) (b' := 0) (c' := 0) (s' := ⟨#[]⟩) (v' := .slice none 0 0) (q' := 0) rfl)
  obtain ⟨x0, x1, x2, x3, x4, x5, x6⟩ := seven_cells HRS.out.box
  obtain ⟨y0, y1, y2, y3, y4, y5, y6⟩ := seven_cells HRS.out.res
  obtain ⟨fr, fb⟩ := HRS.out.frozen
  have hne : ¬ w.heap.size + 1 = w.heap.size := by omega
  have hne' : ¬ w.heap.size = w.heap.size + 1 := by omega
  clear hw1 H0
  go_wp2_with fail
  clear x0 x1 x2 x3 x4 x5 x6 y0 y1 y2 y3 y4 y5 y6 fr fb
  generalize W0.setCell ⟨w.heap.size + 1, 0, none⟩ (.int .i64 (k : Int)) = W1 at HRS1 ⊢
  obtain ⟨x0, x1, x2, x3, x4, x5, x6⟩ := seven_cells HRS1.out.box
  obtain ⟨y0, y1, y2, y3, y4, y5, y6⟩ := seven_cells HRS1.out.res
  obtain ⟨fr, fb⟩ := HRS1.out.frozen
  go_wp2_with fail
  refine (HQ.out _ HRS1.out.bel).mono ?_
  rintro r w2 ⟨rfl, hw2⟩
  obtain rfl := Eq.symm hw2
  have HRS2 := Lib.hid (HRS1.out.set 6 (.int .u32 (S : Int)) (k' := (k : Int)) (a' := 0) (b' := 0) (c' := 0) (s' := ⟨#[]⟩) (v' := .slice none 0 0) (q' := (S : Int)) rfl)
  clear hw2 HQ
  by_cases hz : e1 = 0
  · subst hz
    have HO : Hid (readO bs Q 0 = (⟨(k : Int), 0, 0, 0, [], [], (S : Int)⟩, q1, 0)) := by show _ = _; rw [HO.out, if_pos rfl]
    go_wp2
    (try simp only [Exit.inBlock, Exit.then])
    refine bodyPost_ret (results_ctt (p := 4) (t := 5) (u := 6) (ty := 49) rfl _ _ ⟨w.heap.size, 0, none⟩ _ rfl (load8 (box_seven HRS2.out.res) rfl)) rfl ?_
    exact read8_some (o := ⟨(k : Int), 0, 0, 0, [], [], (S : Int)⟩) (p := none) (cc := 0) (q := 0) (pos := q1) HRS2.out (GRow.nil _ _ _) (by intro a ha; cases ha) (KindAt.nil _ _) HO.out
  · have hee : ((e1 : Int) == 0) = false := beq_no (by omega)
    have hee' : ((e1 : Int) != 0) = true := by simp; omega
    have HO : Hid (readO bs Q 0 = (o0, q1, e1)) := by show _ = _; rw [HO.out, if_neg hz]
    go_wp2
    (try simp only [Exit.inBlock, Exit.then])
    refine bodyPost_ret (results_ctt (p := 4) (t := 5) (u := 6) (ty := 49) rfl _ _ ⟨w.heap.size, 0, none⟩ _ rfl (load8 (box_seven HRS2.out.res) rfl)) rfl ?_
    exact read8_zero (pos := q1) HRS2.out HO.out hz
end Go.Proofs.Ytedlmngfkkpmgaa
