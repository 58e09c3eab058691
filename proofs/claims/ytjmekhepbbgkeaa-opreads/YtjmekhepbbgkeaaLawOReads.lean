
/-
  The law OpReads' own function, over what op's calls hand back. No conditions beyond what each theorem states.
-/
import Derived.Test.YtjmekhepbbgkeaaOpRead6
import Derived.Test.YtjmekhepbbgkeaaOpLaw2
namespace Go.Proofs.Ytjmekhepbbgkeaa
open Go.ChangeShapes Go.WideShapes Go.ChangeAt Go.RowKit Go.Lib
set_option linter.unusedVariables false
set_option linter.unusedSimpArgs false

theorem rdN_le (bs : List UInt8) (q e limit : Nat) : (rdN bs q e limit).1 ≤ limit := by
  unfold rdN
  split
  · have := read_fair (bs.drop q) limit
    unfold Fair at this
    simp only
    omega
  · exact Nat.zero_le _
theorem rdL_le (bs : List UInt8) : ∀ n q e, (rdL bs n q e).1.length ≤ n := by
  intro n
  induction n with
  | zero => intro q e; exact Nat.le_refl _
  | succ n ih =>
    intro q e
    rw [rdL]
    split
    · have := ih (rd3 bs q 0).2.1 (rd3 bs q 0).2.2
      simp only [List.length_cons]
      omega
    · exact Nat.zero_le _
theorem readS_le (bs : List UInt8) (q e : Nat) : (readS bs q e).1.length ≤ 1024 := by
  unfold readS
  simp only
  split
  · exact Nat.le_trans (rdL_le _ _ _ _) (rdN_le _ _ _ _)
  · exact Nat.zero_le _
theorem readB_le (bs : List UInt8) (k : Nat) (t : Nat × Nat × Nat) (q e : Nat) : (readB bs k t q e).1.spans.length ≤ 1024 := by
  unfold readB
  split
  · split <;> exact Nat.zero_le _
  · split
    · split
      · exact readS_le bs q e
      · exact Nat.zero_le _
    · split <;> exact Nat.zero_le _
theorem readO_le (bs : List UInt8) (q e : Nat) : (readO bs q e).1.spans.length ≤ 1024 := by
  unfold readO
  split <;> exact readB_le _ _ _ _ _
set_option maxHeartbeats 6400000 in
set_option maxRecDepth 20000 in
theorem opreads_any (HPU : PutOSpec) (HGE : GetOSpec) (bs : List UInt8) (p : Option Addr) (c : Nat) (w : World) (hR : BRow w p bs) (hb : bs.length ≤ 9223372036854775807) (hcap : bs.length ≤ c) :
    Calls Try.prog 5 #[.slice p bs.length c] w fun e w' => e = .returned (.bool true) ∧ Below w.heap.size w w' := by
  have HA := Lib.hid (anchor8_any HPU w)
  have HR := Lib.hid hR
  clear hR HPU
  go_enter Try.func5, Try.ntmps5
  go_wp2_with fail
  refine HA.out.mono ?_
  rintro e w1 ⟨rfl, hb1⟩
  have HB1 := Lib.hid hb1
  clear hb1 HA
  by_cases hbig : 1000 < bs.length
  · have hbig' : (1000 : Int) < (bs.length : Int) := by omega
    go_wp2
    go_ret
    exact ⟨rfl, HB1.out⟩
  have hbig' : ¬ (1000 : Int) < (bs.length : Int) := by omega
  have H2 := Lib.hid (from_any bs p c w1 (HR.out.below HB1.out) (by omega))
  go_wp2_with fail
  refine H2.out.mono ?_
  rintro e w2 ⟨K, rfl, hK, hrd, hb2⟩
  have HB2 : Hid (Below w.heap.size w w2) := below_step HB1.out hb2
  have HK : Hid (w.heap.size ≤ K) := by have := HB1.out.size; show w.heap.size ≤ K; omega
  have HRD := Lib.hid hrd
  generalize w1.heap.size = D at *
  clear hb2 hrd H2 hK HB1
  have H3 := Lib.hid (HGE bs 0 0 K D w2 HRD.out (by omega) (by omega))
  have H4 : Hid (∀ W, Below w.heap.size w W → Calls Try.prog 21 #[.slice p bs.length c, .int .i64 0] W (Read8 bs W)) := fun W hbW => refread8_any bs p c W (HR.out.below hbW) (by omega) hcap
  have H5 : Hid (∀ p q c d W, GRow layS W p (readO bs 0 0).1.spans → GRow layS W q (readO bs 0 0).1.spans → Calls Try.prog 18 #[ov (readO bs 0 0).1 p c, ov (readO bs 0 0).1 q d] W fun e w' => e = .returned (.bool true) ∧ Below W.heap.size W w') := fun p q c d W h1 h2 => same8_any _ p q c d W h1 h2 (by have := readO_le bs 0 0; omega)
  unfold GotO at H3
  unfold Read8 at H4
  generalize readO bs 0 0 = RR at H3 H4 H5
  obtain ⟨o, qo, eo⟩ := RR
  simp only at H3 H4 H5
  go_wp2_with fail
  refine H3.out.mono ?_
  rintro e w3 ⟨p3, c3, q3, rfl, hG3, -, -, hrd3, hq3, ho3⟩
  have HB3 : Hid (Below w.heap.size w w3) := only_below HB2.out ho3 HK.out
  have HG3 := Lib.hid hG3
  have HRD3 := Lib.hid hrd3
  have HQ3 := Lib.hid hq3
  clear hG3 hrd3 hq3 ho3 H3 HB2 HRD HGE
  obtain ⟨kind, r, n, num, text, spans, seq⟩ := o
  have HOV : Hid (∀ p c, ov ⟨kind, r, n, num, text, spans, seq⟩ p c = .agg #[.int .i64 kind, .int .u16 r, .int .u32 n, .int .u32 num, .string ⟨text.toArray⟩, .slice p spans.length c, .int .u32 seq]) := fun p c => rfl
  simp only [HOV.out] at H4 H5 HG3 ⊢
  generalize (⟨text.toArray⟩ : ByteArray) = bt at *
  go_wp2_with fail
  refine (H4.out _ (below_alloc HB3.out _)).mono ?_
  rintro r w4 ⟨p4, c4, q4, rfl, hG4, hq4, hb4⟩
  simp only [HOV.out]
  have HB4 : Hid (Below w.heap.size w w4) := below_step (below_alloc HB3.out _) hb4
  have HX4 := Lib.hid (kept_box (heap_alloc_new w3 _) hb4)
  have HG4 : Hid (GRow layS w4 p4 spans) := hG4
  have HG34 : Hid (GRow layS w4 p3 spans) := (HG3.out.alloc _).below hb4
  have HRD4 := Lib.hid ((HRD3.out.below (below_alloc (Below.refl _ _) _)).below hb4)
  have HQ4 := Lib.hid hq4
  obtain ⟨x0, x1, x2, x3, x4, x5, x6⟩ := seven_cells HX4.out
  have hX : w3.heap.size < w4.heap.size := lt_of_block HX4.out
  have hne : ¬ w3.heap.size = w4.heap.size := by omega
  have hne' : ¬ w4.heap.size = w3.heap.size := by omega
  have hbb := fun (A : Obj) => below_alloc (Below.refl w4.heap.size w4) A
  have X0 := fun A => cellU x0 (hbb A)
  have X1 := fun A => cellU x1 (hbb A)
  have X2 := fun A => cellU x2 (hbb A)
  have X3 := fun A => cellU x3 (hbb A)
  have X4 := fun A => cellU x4 (hbb A)
  have X5 := fun A => cellU x5 (hbb A)
  have X6 := fun A => cellU x6 (hbb A)
  clear hG4 hb4 hq4 H4 HB3 HG3 HRD3 HX4 hbb
  have H5b := Lib.hid (fun A => H5.out p3 p4 c3 c4 (w4.alloc A) (HG34.out.alloc A) (HG4.out.alloc A))
  clear H5
  go_wp2_with fail
  refine (H5b.out _).mono ?_
  rintro r w5 ⟨rfl, hb5⟩
  have HB5 : Hid (Below w.heap.size w w5) := below_step (below_alloc HB4.out _) hb5
  have HRD5 := Lib.hid ((HRD4.out.below (below_alloc (Below.refl _ _) _)).below hb5)
  clear hb5 H5b HB4 HRD4 X0 X1 X2 X3 X4 X5 X6 x0 x1 x2 x3 x4 x5 x6
  have H6 := Lib.hid (error_any w5 HRD5.out)
  have H7 := Lib.hid (at_any w5 HRD5.out)
  by_cases hz : eo = 0
  · subst hz
    obtain rfl := HQ3.out rfl
    obtain rfl := HQ4.out rfl
    go_wp2_with fail
    refine H6.out.mono ?_
    rintro r w6 ⟨rfl, he6⟩
    obtain rfl := Eq.symm he6
    clear he6 H6
    go_wp2_with fail
    refine H7.out.mono ?_
    rintro r w7 ⟨rfl, he7⟩
    obtain rfl := Eq.symm he7
    clear he7 H7
    go_wp2
    go_ret
    exact ⟨rfl, HB5.out⟩
  · have hee : ((eo : Int) == 0) = false := beq_no (by omega)
    have hee' : ((eo : Int) != 0) = true := by simp; omega
    go_wp2_with fail
    refine H6.out.mono ?_
    rintro r w6 ⟨rfl, he6⟩
    obtain rfl := Eq.symm he6
    clear he6 H6 H7
    go_wp2
    go_ret
    exact ⟨rfl, HB5.out⟩
end Go.Proofs.Ytjmekhepbbgkeaa
