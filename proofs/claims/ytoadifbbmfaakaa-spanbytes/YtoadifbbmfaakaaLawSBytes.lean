
/-
  SpanBytes' function hands back true, for all spans and bytes that lie in memory, if span's Of, Put and Get are as the document says. No conditions beyond what each theorem states.
-/
import Derived.Test.YtoadifbbmfaakaaSpanPack3
namespace Go.Proofs.Ytoadifbbmfaakaa
open Go.ChangeShapes Go.WideShapes Go.ChangeAt Go.RowKit Go.Lib
set_option linter.unusedVariables false
set_option linter.unusedSimpArgs false

/-- What Get leaves. -/
def Got (bs : List UInt8) (q e K D : Nat) (w : World) (r : Ending) (w' : World) : Prop := ∃ p c q', r = .returned (.slice p (readS bs q e).1.length c) ∧ GRow layS w' p (readS bs q e).1 ∧ (readS bs q e).1.length ≤ c ∧ (p = none → c = 0) ∧ Rd K D bs q' (readS bs q e).2.2 w' ∧ ((readS bs q e).2.2 = 0 → q' = (readS bs q e).2.1) ∧ Only K w w'
def GetSpec : Prop := ∀ (bs : List UInt8) (q e K D : Nat) (w : World), Rd K D bs q e w → bs.length ≤ 100000 → e < 16 → Calls Try.prog 31 #[.pointer (some ⟨K, 0, none⟩)] w (Got bs q e K D w)
def PutSpec : Prop := ∀ (B K : Nat) (v : Value) (bs : List UInt8) (l : List Sp) (p : Option Addr) (c : Nat) (w : World), Wr B K v bs w → GRow layS w p l → (0 < l.length → ∀ q, p = some q → q.block < B) → RightS l → FitSs l → l.length ≤ 1024 → bs.length ≤ 100000 → Calls Try.prog 35 #[.pointer (some ⟨K, 0, none⟩), .slice p l.length c] w fun e w' => e = .returned (.tuple #[]) ∧ Wrote B K v bs (bytesL l) w w'

theorem only_below {w w1 w2 : World} {K : Nat} (h : Below w.heap.size w w1) (hk : Only K w1 w2) (hK : w.heap.size ≤ K) : Below w.heap.size w w2 := h.trans (hk.below h.size (by rintro k rfl; exact hK))
theorem grow_lt {α : Type} {L : Lay α} {w : World} {p : Option Addr} {xs : List α} (h : GRow L w p xs) (hx : 0 < (L.flat xs).length) : ∀ q, p = some q → q.block < w.heap.size := by
  intro q hq
  obtain ⟨b, o, e, hc⟩ := h 0 _ (List.getElem?_eq_getElem hx)
  rw [hq] at e
  cases e
  exact block_lt_of_cell hc
theorem conv_row {w : World} {p : Option Addr} {n c : Nat} {bs : List UInt8} (h : BRow w p bs) (hn : bs.length = n) :
    (convert 60 9 (.slice p n c)).run Try.prog w = .ok (.string ⟨bs.toArray⟩) w := by
  cases p with
  | some a =>
    subst hn
    exact run_convert_bytes_back (P := Try.prog) w 60 9 5 a c bs Try.underlying60 Try.underlying5 Try.underlying9 (fun j hj => by
      obtain ⟨b, o', e, hc⟩ := h j hj
      cases e
      rw [Addr.add_lit, hc]
      simp [atB, hj])
  | none =>
    cases bs with
    | nil =>
      subst hn
      rw [List.length_nil, run_convert_bytes_string (P := Try.prog) w 60 9 5 none 0 c Try.underlying60 Try.underlying5 Try.underlying9]
      rfl
    | cons x xs => obtain ⟨b, o, e, _⟩ := h 0 (by simp); cases e

set_option maxHeartbeats 6400000 in
set_option maxRecDepth 20000 in
theorem sbytes_any (HOF : OfSpec) (HGE : GetSpec) (HPU : PutSpec) (l : List Sp) (bs : List UInt8) (p q : Option Addr) (c d : Nat) (w : World) (hR : GRow layS w p l) (hS : BRow w q bs) (hf : FitSs l) (hl : l.length ≤ 8796093021952) (hb : bs.length ≤ 9223372036854775807) :
    Calls Try.prog 6 #[.slice p l.length c, .slice q bs.length d] w fun e w' => e = .returned (.bool true) ∧ Below w.heap.size w w' := by
  have HA := Lib.hid (anchor_any HOF w)
  have HR := Lib.hid hR
  have HS := Lib.hid hS
  have HFL := Lib.hid hf
  clear hR hS hf
  go_enter Try.func6, Try.ntmps6
  go_wp2_with fail
  refine HA.out.mono ?_
  rintro e w1 ⟨rfl, hb1⟩
  have HB1 := Lib.hid hb1
  clear hb1 HA
  by_cases hbig : 1000 < bs.length
  · have hbig' : (1000 : Int) < (bs.length : Int) := by omega
    go_wp2
    go_ret
    exact ⟨rfl, HB1.out⟩
  have hbig' : (bs.length : Int) ≤ 1000 := by omega
  have H1 := Lib.hid (from_any bs q d w1 (HS.out.below HB1.out) (by omega))
  have H2 := Lib.hid (fun K D W h => HGE bs 0 0 K D W h (by omega) (by omega))
  have H3 := Lib.hid (fun W hb => refread_any bs q d W (HS.out.below (w' := W) hb) (by omega))
  obtain ⟨-, hfr, hlr, her⟩ := readS_fits (bs := bs) (q := 0) (Nat.zero_le _)
  have H4 : Hid (∀ W p1 c1 q1 d1, GRow layS W p1 (readS bs 0 0).1 → GRow layS W q1 (readS bs 0 0).1 → Calls Try.prog 17 #[.slice p1 (readS bs 0 0).1.length c1, .slice q1 (readS bs 0 0).1.length d1] W fun e w' => e = .returned (.bool true) ∧ Below W.heap.size W w') := fun W p1 c1 q1 d1 hp1 hq1 => by
    have := same_any _ _ p1 q1 c1 d1 W hp1 hq1 (by omega) (by omega)
    rwa [decide_eq_true rfl] at this
  have H9 := Lib.hid (fun W hb => right_any l p c W (HR.out.below (w' := W) hb) HFL.out hl)
  unfold Got Read7 at *
  generalize readS bs 0 0 = RR at *
  obtain ⟨rl, rq, re⟩ := RR
  simp only at *
  go_wp2_with fail
  refine H1.out.mono ?_
  rintro e w2 ⟨K, rfl, hK, hrd2, hb2⟩
  have HB2 : Hid (Below w.heap.size w w2) := below_step HB1.out hb2
  have HRD := Lib.hid hrd2
  have HKW : Hid (w.heap.size ≤ K) := by have := HB1.out.size; show w.heap.size ≤ K; omega
  clear hb2 hrd2 H1 hK
  go_wp2_with fail
  refine (H2.out _ _ _ HRD.out).mono ?_
  rintro e w3 ⟨p3, c3, q3, rfl, hr3, -, -, hrd3, hq3, ho3⟩
  have HB3 : Hid (Below w.heap.size w w3) := only_below HB2.out ho3 HKW.out
  have HRD := Lib.hid hrd3
  have HR3 := Lib.hid hr3
  have HQ3 := Lib.hid hq3
  clear hr3 hrd3 hq3 ho3 HB2 H2
  go_wp2_with fail
  refine (H3.out _ HB3.out).mono ?_
  rintro e w4 ⟨v4, rfl, hh4⟩
  obtain ⟨p4, c4, rfl, hr4, -, -⟩ := hh4.gave layS_pos
  have HB4 : Hid (Below w.heap.size w w4) := below_step HB3.out hh4.2
  have HR4 := Lib.hid hr4
  have HR3 : Hid (GRow layS w4 p3 rl) := HR3.out.below hh4.2
  have HRD := Lib.hid (HRD.out.below hh4.2)
  clear hr4 hh4 HB3 H3
  go_wp2_with fail
  refine (H4.out _ _ _ _ _ HR3.out HR4.out).mono ?_
  rintro e w5 ⟨rfl, hb5⟩
  have HB5 : Hid (Below w.heap.size w w5) := below_step HB4.out hb5
  have HRD := Lib.hid (HRD.out.below hb5)
  clear hb5 HB4 H4 HR3 HR4
  have H5 := Lib.hid (error_any w5 HRD.out)
  have H6 := Lib.hid (at_any w5 HRD.out)
  go_wp2_with fail
  refine H5.out.mono ?_
  rintro e w6 ⟨rfl, hw6⟩
  obtain rfl := Eq.symm hw6
  clear hw6 H5
  have HW5 := Lib.hid HB5.out
  by_cases hre : re = 0
  case' pos =>
    subst hre
    obtain rfl : q3 = rq := HQ3.out rfl
    go_wp2_with fail
    refine H6.out.mono ?_
    rintro e w6 ⟨rfl, hw6⟩
    obtain rfl := Eq.symm hw6
    clear hw6
    go_wp2_with fail
  case' neg =>
    have hre' : ((re : Int) == 0) = false := by rw [beq_eq_false_iff_ne]; omega
    go_wp2_with fail
  all_goals
    clear H6 HQ3 HRD
    refine (H9.out _ HB5.out).mono ?_
    rintro e w7 ⟨rfl, hb7⟩
    have HB7 : Hid (Below w.heap.size w w7) := below_step HB5.out hb7
    clear hb7 HB5 HW5 H9
    cases hra : rightL l
    · go_wp2
      go_ret
      exact ⟨rfl, HB7.out⟩
    · obtain ⟨hrl, htl, hll⟩ := rightL_iff.1 hra
      have HRL := Lib.hid hrl
      have hll' : (l.length : Int) ≤ 1024 := by omega
      clear hra hrl
      have hbl := bytesL_len HFL.out (by omega)
      have HRS := Lib.hid (readS_all HRL.out HFL.out (by omega))
      have HB8 : Hid (Below w.heap.size w (w7.alloc (.cells #[.slice none 0 0] 69))) := below_alloc HB7.out _
      have HW8 : Hid (Wr w7.heap.size w7.heap.size (.slice none 0 0) [] (w7.alloc (.cells #[.slice none 0 0] 69))) := ⟨Nat.le_refl _, by simp, heap_alloc_new w7 _, World.ownsRow_nil _ _ _ _⟩
      have H1 := Lib.hid (HPU w7.heap.size w7.heap.size (.slice none 0 0) [] l p c _ HW8.out (HR.out.below HB8.out) (fun h0 q hq => by have h1 := grow_lt HR.out (by rw [layS.flat_length]; exact Nat.mul_pos h0 (by decide)) q hq; have := HB7.out.size; omega) HRL.out HFL.out (by omega) (by simp))
      go_wp2_with fail
      refine H1.out.mono ?_
      rintro e w9 ⟨rfl, v9, hw9, -, hk9⟩
      have HB9 : Hid (Below w.heap.size w w9) := HB8.out.trans ((HW8.out.bound hk9).mono HB7.out.size)
      have HW9 := Lib.hid hw9
      clear hw9 hk9 HW8 HB8 H1
      rw [List.nil_append] at HW9
      have H2 := Lib.hid (wbytes_any _ _ _ _ w9 HW9.out (by omega))
      go_wp2_with fail
      refine H2.out.mono ?_
      rintro e w10 ⟨rfl, hh10, hb10⟩
      have HB10 : Hid (Below w.heap.size w w10) := below_step HB9.out hb10
      have HC10 : Hid (BRow w10 (some ⟨w9.heap.size, 0, none⟩) (bytesL l)) := brow_block hh10
      clear hh10 hb10 HB9 HW9 H2
      generalize w9.heap.size = C at *
      have H3 := Lib.hid (from_any (bytesL l) (some ⟨C, 0, none⟩) (bytesL l).length w10 HC10.out (by omega))
      go_wp2_with fail
      refine H3.out.mono ?_
      rintro e w11 ⟨K2, rfl, hK2, hrd, hb11⟩
      have HB11 : Hid (Below w.heap.size w w11) := below_step HB10.out hb11
      have HC11 : Hid (BRow w11 (some ⟨C, 0, none⟩) (bytesL l)) := HC10.out.below hb11
      have HRD := Lib.hid hrd
      have HK2 : Hid (w.heap.size ≤ K2) := by have := HB10.out.size; show w.heap.size ≤ K2; omega
      generalize w10.heap.size = D2 at *
      clear hb11 hrd HB10 HC10 H3 hK2
      have R1 := Lib.hid (fun W hb => (refs_any l p c W (HR.out.below (w' := W) hb) (by omega)).mono fun e w' h => h.gave layS_pos)
      have R2 := Lib.hid (fun W p1 c1 hg => refbytes_any l p1 c1 W hg HRL.out HFL.out (by omega))
      have G1 : Hid (∀ W, Rd K2 D2 (bytesL l) 0 0 W → Calls Try.prog 31 #[.pointer (some ⟨K2, 0, none⟩)] W fun r w' => ∃ p c, r = .returned (.slice p l.length c) ∧ GRow layS w' p l ∧ Rd K2 D2 (bytesL l) (bytesL l).length 0 w' ∧ Only K2 W w') := fun W hrd => by
        refine (HGE (bytesL l) 0 0 K2 D2 W hrd (by omega) (by omega)).mono ?_
        unfold Got
        rw [HRS.out]
        rintro r w' ⟨p1, c1, q1, e1, e2, -, -, e3, e4, e5⟩
        obtain rfl := e4 rfl
        exact ⟨p1, c1, e1, e2, e3, e5⟩
      have R3 : Hid (∀ W p1 c1 q1 d1, GRow layS W p1 l → GRow layS W q1 l → Calls Try.prog 17 #[.slice p1 l.length c1, .slice q1 l.length d1] W fun e w' => e = .returned (.bool true) ∧ Below W.heap.size W w') := fun W p1 c1 q1 d1 hp1 hq1 => by
        have := same_any _ _ p1 q1 c1 d1 W hp1 hq1 (by omega) (by omega)
        rwa [decide_eq_true rfl] at this
      have D1 : Hid (∀ W, Rd K2 D2 (bytesL l) (bytesL l).length 0 W → Calls Try.prog 38 #[.pointer (some ⟨K2, 0, none⟩)] W fun r w' => r = .returned (.int .i64 0) ∧ Below W.heap.size W w') := fun W hrd => by
        have := done_any W hrd
        rwa [if_pos rfl, if_neg (Nat.lt_irrefl _)] at this
      have hcv : ∀ W, Below w11.heap.size w11 W → (convert 60 9 (.slice (some ⟨C, 0, none⟩) (bytesL l).length (bytesL l).length)).run Try.prog W = .ok (.string ⟨(bytesL l).toArray⟩) W := fun W hb => conv_row (HC11.out.below hb) rfl
      have CV := Lib.hid hcv
      have cv0 := hcv w11.drew (Below.refl _ _).drew
      have cv00 := hcv w11 (Below.refl _ _)
      have B11 : Below w.heap.size w w11.drew := HB11.out.drew
      have hpos : 1 ≤ (bytesL l).length := by unfold bytesL; rw [List.length_append]; have := encN_pos l.length; omega
      clear hcv HGE HPU HOF HRS HC11
      generalize bytesL l = X at *
      go_wp2_with fail
      go_region_with (first
        | (go_at_call 37; refine (R2.out _ _ _ (by exact hr12)).mono ?_; rintro e w13 ⟨v13, rfl, hown, hb13⟩
           obtain ⟨g13, c13, rfl, hr13⟩ := owns_some hown hpos
           have L13 : Below w11.heap.size w11 w13 := below_step L12 hb13
           have cv2 := CV.out w13 L13
           have cvo := conv_row (c := c13) hr13 rfl
           have RD13 := HRD.out.below L13
           have B13 := below_step HB11.out L13
           clear hown hb13 hr13)
        | (go_at_call 31; refine (G1.out _ (by exact RD13)).mono ?_; rintro e w14 ⟨p14, c14, rfl, hr14, hrd14, ho14⟩
           have B14 := only_below B13 ho14 HK2.out
           clear ho14)
        | (go_at_call 10; refine (R1.out _ (by first | exact B14 | exact B11 | exact HB11.out)).mono ?_; rintro e w12 ⟨p12, c12, rfl, hr12, -, -, hb12⟩
           (try have L12 : Below w11.heap.size w11 w12 := below_step (Below.refl w11.heap.size w11).drew hb12)
           (try have L12 : Below w11.heap.size w11 w12 := below_step (Below.refl w11.heap.size w11) hb12)
           (try have cv1 := CV.out w12 L12)
           (try have B15 := below_step B14 hb12)
           (try have hr15 := hr14.below hb12)
           (try have hrd15 := hrd14.below hb12)
           clear hb12)
        | (go_at_call 17; refine (R3.out _ _ _ _ _ (by exact hr15) (by exact hr12)).mono ?_; rintro e w16 ⟨rfl, hb16⟩
           have B16 := below_step B15 hb16
           have hrd16 := hrd15.below hb16
           clear hb16)
        | (go_at_call 38; refine (D1.out _ (by exact hrd16)).mono ?_; rintro e w17 ⟨rfl, hb17⟩
           have B17 := below_step B16 hb17
           clear hb17))
      all_goals
        have HB17 := Lib.hid B17
        clear B17
        go_wp2
        go_ret
        exact ⟨rfl, HB17.out⟩

end Go.Proofs.Ytoadifbbmfaakaa
