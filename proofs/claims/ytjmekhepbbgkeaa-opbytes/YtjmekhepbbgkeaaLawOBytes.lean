
/-
  The law OpBytes' own function, over what op's calls hand back. No conditions beyond what each theorem states.
-/
import Derived.Test.YtjmekhepbbgkeaaOpRead1
import Derived.Test.YtjmekhepbbgkeaaOpLaw2
namespace Go.Proofs.Ytjmekhepbbgkeaa
open Go.ChangeShapes Go.WideShapes Go.ChangeAt Go.RowKit Go.Lib
set_option linter.unusedVariables false
set_option linter.unusedSimpArgs false

theorem kind_pos {o : Om} (h : fitO o = 0) : 0 ≤ o.kind := by
  rcases fitO_cases h with h | h | h | h
  · have := h.1; omega
  · have := h.1; omega
  · have := h.1; omega
  · have := h.1; omega
theorem bytesO_pos (o : Om) : 1 ≤ (bytesO o).length := by
  unfold bytesO
  rw [List.length_append, List.length_append]
  have := encN_pos o.kind.toNat
  omega
set_option maxHeartbeats 25600000 in
set_option maxRecDepth 20000 in
theorem opbytes_any (HPU : PutOSpec) (HGE : GetOSpec) (o : Om) (p : Option Addr) (c : Nat) (w : World) (hI : InO o p c w) (hsl : o.text.length ≤ 9223372036854775807) (hll : o.spans.length ≤ 9223372036854775807) :
    Calls Try.prog 4 #[ov o p c] w fun e w' => e = .returned (.bool true) ∧ Below w.heap.size w w' := by
  have HA := Lib.hid (fun W => anchor8_any HPU W)
  have hsz : (⟨o.text.toArray⟩ : ByteArray).size = o.text.length := rfl
  have HOV : Hid (∀ p c, ov o p c = .agg #[.int .i64 o.kind, .int .u16 o.r, .int .u32 o.n, .int .u32 o.num, .string ⟨o.text.toArray⟩, .slice p o.spans.length c, .int .u32 o.seq]) := fun p c => rfl
  rw [HOV.out]
  have HI := Lib.hid (fun A => hI.below (below_alloc (Below.refl w.heap.size w) A))
  have HLT : Hid (0 < o.spans.length → ∀ q, p = some q → q.block < w.heap.size) := fun h0 q hq => grow_lt hI.row (by rw [layS.flat_length]; exact Nat.mul_pos h0 (by decide)) q hq
  have HX0 := Lib.hid (heap_alloc_new w)
  have HB0 := Lib.hid (fun A => below_alloc (Below.refl w.heap.size w) A)
  clear hI
  go_enter Try.func4, Try.ntmps4
  go_wp2_with fail
  have HI := Lib.hid (HI.out (.cells #[.int .i64 o.kind, .int .u16 o.r, .int .u32 o.n, .int .u32 o.num, .string ⟨o.text.toArray⟩, .slice p o.spans.length c, .int .u32 o.seq] 28))
  have HX0 := Lib.hid (HX0.out (.cells #[.int .i64 o.kind, .int .u16 o.r, .int .u32 o.n, .int .u32 o.num, .string ⟨o.text.toArray⟩, .slice p o.spans.length c, .int .u32 o.seq] 28))
  have HB0 := Lib.hid (HB0.out (.cells #[.int .i64 o.kind, .int .u16 o.r, .int .u32 o.n, .int .u32 o.num, .string ⟨o.text.toArray⟩, .slice p o.spans.length c, .int .u32 o.seq] 28))
  generalize w.alloc (.cells #[.int .i64 o.kind, .int .u16 o.r, .int .u32 o.n, .int .u32 o.num, .string ⟨o.text.toArray⟩, .slice p o.spans.length c, .int .u32 o.seq] 28) = w0 at HI HX0 HB0 ⊢
  have HC : Hid (∀ W, Below w0.heap.size w0 W → _) := fun W hb => seven_cells (kept_box HX0.out hb)
  refine (HA.out _).mono ?_
  rintro e w1 ⟨rfl, hb1⟩
  have HB1 := Lib.hid hb1
  obtain ⟨x0, x1, x2, x3, x4, x5, x6⟩ := HC.out _ hb1
  clear hb1 HA
  by_cases ht : 300 < o.text.length
  · have ht' : (300 : Int) < ((⟨o.text.toArray⟩ : ByteArray).size : Int) := by omega
    clear HI HOV HPU HGE
    generalize (⟨o.text.toArray⟩ : ByteArray) = bt at *
    go_wp2
    go_ret
    exact ⟨rfl, below_step HB0.out HB1.out⟩
  have ht' : ¬ (300 : Int) < ((⟨o.text.toArray⟩ : ByteArray).size : Int) := by omega
  by_cases hs : 60 < o.spans.length
  · have hs' : (60 : Int) < (o.spans.length : Int) := by omega
    clear HI HOV HPU HGE
    generalize (⟨o.text.toArray⟩ : ByteArray) = bt at *
    go_wp2
    go_ret
    exact ⟨rfl, below_step HB0.out HB1.out⟩
  have hs' : ¬ (60 : Int) < (o.spans.length : Int) := by omega
  have R1 : Hid (∀ W, Below w0.heap.size w0 W → Calls Try.prog 7 #[ov o p c] W (GaveO o W)) := fun W hb => ref8_any o p c W (HI.out.below hb).row (by omega)
  have R0 : Hid (∀ W p1 c1, GRow layS W p1 o.spans → Calls Try.prog 8 #[ov o p1 c1] W fun e w' => e = .returned (.int .i64 (fitO o)) ∧ Below W.heap.size W w') := fun W p1 c1 hg => reffit8_any o p1 c1 W ⟨HI.out.fit, hg, by omega, by omega⟩
  simp only [HOV.out] at R1 R0
  go_wp2_with fail
  refine (R1.out _ HB1.out).mono ?_
  rintro e w2 ⟨p2, c2, rfl, hG2, -, -, hb2⟩
  rw [HOV.out]
  have HB2 : Hid (Below w0.heap.size w0 w2) := below_step HB1.out hb2
  have H3 := Lib.hid (R0.out w2 p2 c2 hG2)
  clear hG2 hb2 R0 HB1 x0 x1 x2 x3 x4 x5 x6
  generalize hFO : fitO o = FO at H3
  have HFO := Lib.hid hFO
  clear hFO
  go_wp2_with fail
  refine H3.out.mono ?_
  rintro e w3 ⟨rfl, hb3⟩
  have HB3 : Hid (Below w0.heap.size w0 w3) := below_step HB2.out hb3
  clear hb3 HB2 H3
  by_cases h0 : FO = 0
  case neg =>
    have h0' : (FO == 0) = false := beq_no h0
    have h0'' : (FO != 0) = true := by simp [h0]
    clear HI HOV HPU HGE R1 HC HX0
    generalize (⟨o.text.toArray⟩ : ByteArray) = bt at *
    go_wp2
    go_ret
    exact ⟨rfl, below_step HB0.out HB3.out⟩
  subst h0
  have hbl := bytesO_len HI.out.fit (by omega) (by omega) (kind_pos HFO.out)
  have HRS := Lib.hid (readO_all HI.out.fit HFO.out)
  have HB8 : Hid (Below w0.heap.size w0 (w3.alloc (.cells #[.slice none 0 0] 43))) := below_alloc HB3.out _
  have HW8 : Hid (Wr w3.heap.size w3.heap.size (.slice none 0 0) [] (w3.alloc (.cells #[.slice none 0 0] 43))) := ⟨Nat.le_refl _, by simp, heap_alloc_new w3 _, World.ownsRow_nil _ _ _ _⟩
  have H1 := Lib.hid (HPU w3.heap.size w3.heap.size (.slice none 0 0) [] o p c _ HW8.out (HI.out.below HB8.out) (fun h0 q hq => by have h1 := HLT.out h0 q hq; have := HB3.out.size; have := HB0.out.size; omega) (by omega) (by omega) HFO.out (by simp))
  rw [HOV.out] at H1
  obtain ⟨x0, x1, x2, x3, x4, x5, x6⟩ := HC.out _ HB8.out
  go_wp2_with fail
  refine H1.out.mono ?_
  rintro e w9 ⟨rfl, v9, hw9, -, hk9⟩
  have HB9 : Hid (Below w0.heap.size w0 w9) := HB8.out.trans ((HW8.out.bound hk9).mono HB3.out.size)
  have HW9 := Lib.hid hw9
  clear hw9 hk9 HW8 HB8 H1 x0 x1 x2 x3 x4 x5 x6 HPU
  rw [List.nil_append] at HW9
  have H2 := Lib.hid (wbytes_any _ _ _ _ w9 HW9.out (by omega))
  go_wp2_with fail
  refine H2.out.mono ?_
  rintro e w10 ⟨rfl, hh10, hb10⟩
  have HB10 : Hid (Below w0.heap.size w0 w10) := below_step HB9.out hb10
  have HC10 : Hid (BRow w10 (some ⟨w9.heap.size, 0, none⟩) (bytesO o)) := brow_block hh10
  clear hh10 hb10 HB9 HW9 H2 HB3
  generalize w9.heap.size = C at *
  have H3 := Lib.hid (from_any (bytesO o) (some ⟨C, 0, none⟩) (bytesO o).length w10 HC10.out (by omega))
  go_wp2_with fail
  refine H3.out.mono ?_
  rintro e w11 ⟨K2, rfl, hK2, hrd, hb11⟩
  have HB11 : Hid (Below w0.heap.size w0 w11) := below_step HB10.out hb11
  have HC11 : Hid (BRow w11 (some ⟨C, 0, none⟩) (bytesO o)) := HC10.out.below hb11
  have HRD := Lib.hid hrd
  have HK2 : Hid (w0.heap.size ≤ K2) := by have := HB10.out.size; show w0.heap.size ≤ K2; omega
  generalize w10.heap.size = D2 at *
  clear hb11 hrd HB10 HC10 H3 hK2
  have R2 : Hid (∀ W p1 c1, GRow layS W p1 o.spans → o.spans.length ≤ c1 → (p1 = none → c1 = 0) → Calls Try.prog 17 #[ov o p1 c1] W (Fresh (bytesO o) W)) := fun W p1 c1 hg h1 h2 => refbytes8_any o p1 c1 W ⟨HI.out.fit, hg, h1, h2⟩ (by omega) HFO.out
  have G1 : Hid (∀ W, Rd K2 D2 (bytesO o) 0 0 W → Calls Try.prog 19 #[.pointer (some ⟨K2, 0, none⟩)] W fun r w' => ∃ p c, r = .returned (ov o p c) ∧ GRow layS w' p o.spans ∧ Rd K2 D2 (bytesO o) (bytesO o).length 0 w' ∧ Only K2 W w') := fun W hrd => by
    refine (HGE (bytesO o) 0 0 K2 D2 W hrd (by omega) (by omega)).mono ?_
    unfold GotO
    rw [HRS.out]
    rintro r w' ⟨p1, c1, q1, e1, e2, -, -, e3, e4, e5⟩
    obtain rfl := e4 rfl
    exact ⟨p1, c1, e1, e2, e3, e5⟩
  have R3 : Hid (∀ W p1 c1 q1 d1, GRow layS W p1 o.spans → GRow layS W q1 o.spans → Calls Try.prog 18 #[ov o p1 c1, ov o q1 d1] W fun e w' => e = .returned (.bool true) ∧ Below W.heap.size W w') := fun W p1 c1 q1 d1 hp1 hq1 => same8_any o p1 q1 c1 d1 W hp1 hq1 (by omega)
  have D1 : Hid (∀ W, Rd K2 D2 (bytesO o) (bytesO o).length 0 W → Calls Try.prog 20 #[.pointer (some ⟨K2, 0, none⟩)] W fun r w' => r = .returned (.int .i64 0) ∧ Below W.heap.size W w') := fun W hrd => by
    have := done_any W hrd
    rwa [if_pos rfl, if_neg (Nat.lt_irrefl _)] at this
  have hcv : ∀ W, Below w11.heap.size w11 W → (convert 41 9 (.slice (some ⟨C, 0, none⟩) (bytesO o).length (bytesO o).length)).run Try.prog W = .ok (.string ⟨(bytesO o).toArray⟩) W := fun W hb => conv_row (HC11.out.below hb) rfl
  have CV := Lib.hid hcv
  have cv0 := hcv w11.drew (Below.refl _ _).drew
  have cv00 := hcv w11 (Below.refl _ _)
  have B11 : Below w0.heap.size w0 w11.drew := HB11.out.drew
  have hpos := bytesO_pos o
  unfold GaveO at R1
  simp only [HOV.out] at R1 R2 G1 R3
  clear hcv HGE HRS HC11 HI HFO HOV HLT
  generalize bytesO o = X at *
  generalize (⟨o.text.toArray⟩ : ByteArray) = bt at *
  generalize o.kind = kind at *
  generalize o.r = r at *
  generalize o.n = n at *
  generalize o.num = num at *
  generalize o.seq = seq at *
  generalize o.spans = spans at *
  obtain ⟨x0, x1, x2, x3, x4, x5, x6⟩ := HC.out _ B11
  go_wp2_with fail
  go_region_with (first
    | (go_at_call 17; refine (R2.out _ _ _ (by exact hr12) (by exact hc12) (by exact hp12)).mono ?_; rintro e w13 ⟨v13, rfl, hown, hb13⟩
       obtain ⟨g13, c13, rfl, hr13⟩ := owns_some hown hpos
       have L13 : Below w11.heap.size w11 w13 := below_step L12 hb13
       have cv2 := CV.out w13 L13
       have cvo := conv_row (c := c13) hr13 rfl
       have RD13 := HRD.out.below L13
       have B13 := below_step HB11.out L13
       obtain ⟨k0, k1, k2, k3, k4, k5, k6⟩ := HC.out _ B13
       clear hown hb13 hr13)
    | (go_at_call 19; refine (G1.out _ (by exact RD13)).mono ?_; rintro e w14 ⟨p14, c14, rfl, hr14, hrd14, ho14⟩
       have B14 := only_below B13 ho14 HK2.out
       obtain ⟨j0, j1, j2, j3, j4, j5, j6⟩ := HC.out _ B14
       clear ho14)
    | (go_at_call 7; refine (R1.out _ (by first | exact B14 | exact B11 | exact HB11.out)).mono ?_; rintro e w12 ⟨p12, c12, rfl, hr12, hc12, hp12, hb12⟩
       (try have L12 : Below w11.heap.size w11 w12 := below_step (Below.refl w11.heap.size w11).drew hb12)
       (try have L12 : Below w11.heap.size w11 w12 := below_step (Below.refl w11.heap.size w11) hb12)
       (try have cv1 := CV.out w12 L12)
       (try have B15 := below_step B14 hb12)
       (try have hr15 := hr14.below hb12)
       (try have hrd15 := hrd14.below hb12)
       clear hb12)
    | (go_at_call 18; refine (R3.out _ _ _ _ _ (by exact hr15) (by exact hr12)).mono ?_; rintro e w16 ⟨rfl, hb16⟩
       have B16 := below_step B15 hb16
       have hrd16 := hrd15.below hb16
       clear hb16)
    | (go_at_call 20; refine (D1.out _ (by exact hrd16)).mono ?_; rintro e w17 ⟨rfl, hb17⟩
       have B17 := below_step B16 hb17
       clear hb17))
  all_goals
    have HB17 := Lib.hid B17
    clear B17
    go_wp2
    go_ret
    exact ⟨rfl, below_step HB0.out HB17.out⟩

end Go.Proofs.Ytjmekhepbbgkeaa
