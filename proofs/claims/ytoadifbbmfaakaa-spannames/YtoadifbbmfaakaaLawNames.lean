
/-
  SpanNames' function hands back true, for all spans that lie in memory, any name and any number, if span's calls are as the document says. No conditions beyond what each theorem states.
-/
import Derived.Test.YtoadifbbmfaakaaSpanSpec
namespace Go.Proofs.Ytoadifbbmfaakaa
open Go.ChangeShapes Go.WideShapes Go.ChangeAt Go.RowKit Go.Lib
set_option linter.unusedVariables false
set_option linter.unusedSimpArgs false

theorem idsN_add (r n : Int) (x : Int) (a b : Nat) : idsN (r, n, x) (a + b) = idsN (r, n, x) a ++ idsN (r, n + (a : Int), x) b := by
  induction b with
  | zero => simp [idsN]
  | succ b ih =>
    rw [← Nat.add_assoc, idsN_succ, ih, idsN_succ, List.append_assoc]
    congr 3
    apply Prod.ext
    · rfl
    · simp only; omega
theorem cut_ids {s : Sp} {n : Int} (h1 : 1 ≤ n) (h2 : n < s.2.2) : idsL [cutA s n, cutB s n] = idsS s := by
  unfold cutA cutB
  rw [if_pos ⟨h1, h2⟩, if_pos ⟨h1, h2⟩, idsL_cons, idsL_one]
  unfold idsS
  simp only
  have e : s.2.2.toNat = n.toNat + (s.2.2 - n).toNat := by omega
  have k1 : idsN (s.1, s.2.1, n) n.toNat = idsN (s.1, s.2.1, s.2.2) n.toNat := rfl
  have k2 : idsN (s.1, s.2.1 + n, s.2.2 - n) (s.2.2 - n).toNat = idsN (s.1, s.2.1 + (n.toNat : Int), s.2.2) (s.2.2 - n).toNat := by
    unfold idsN; simp only; rw [show ((n.toNat : Nat) : Int) = n by omega]
  rw [k1, k2, ← idsN_add, ← e]
theorem cut_right {s : Sp} {n : Int} (hr : rightS s = true) (hf : FitS s) (h1 : 1 ≤ n) (h2 : n < s.2.2) : RightS [cutA s n, cutB s n] ∧ FitSs [cutA s n, cutB s n] := by
  have h := rightS_iff.1 hr
  unfold FitS at hf
  unfold cutA cutB
  rw [if_pos ⟨h1, h2⟩, if_pos ⟨h1, h2⟩]
  constructor
  · intro x hx
    simp only [List.mem_cons, List.not_mem_nil, or_false] at hx
    rcases hx with rfl | rfl <;> rw [rightS_iff] <;> simp only <;> omega
  · intro x hx
    simp only [List.mem_cons, List.not_mem_nil, or_false] at hx
    rcases hx with rfl | rfl <;> unfold FitS <;> simp only <;> omega
theorem last_id {s : Sp} (h : 1 ≤ s.2.2) : (idsS s).getD (s.2.2.toNat - 1) n0 = (s.1, s.2.1 + s.2.2 - 1) := by
  unfold idsS idsN
  rw [List.getD_eq_getElem?_getD, List.getElem?_map, List.getElem?_range (by omega)]
  simp only [Option.map_some, Option.getD_some]
  apply Prod.ext
  · rfl
  · simp only; omega
set_option maxHeartbeats 6400000 in
set_option maxRecDepth 20000 in
theorem names_law (HOF : OfSpec) (HID : IdsSpec) (HTO : TotalSpec) (HAP : ApartSpec) (HLE : LessSpec) (HHA : HasSpec) (HLA : LastSpec) (HCU : CutSpec) (l wo : List Sp) (a : Nm) (n : Int) (p q : Option Addr) (c d : Nat) (w : World) (hR : GRow layS w p l) (hS : GRow layS w q wo) (hf : FitSs l) (hg : FitSs wo) (hc : l.length ≤ c) (hp : p = none → c = 0) (hd : wo.length ≤ d) (hq : q = none → d = 0) (hl : l.length ≤ 8796093021952) (hm : wo.length ≤ 8796093021952) (ha : FitN a) (hn0 : -9223372036854775808 ≤ n) (hn1 : n ≤ 9223372036854775807) :
    Calls Try.prog 3 #[.slice p l.length c, .slice q wo.length d, nv a, .int .i64 n] w fun e w' => e = .returned (.bool true) ∧ Below w.heap.size w w' := by
  have HFA := Lib.hid ha
  obtain ⟨x, y⟩ := a
  unfold nv
  simp only
  have e0 : (w.alloc (.cells #[.int .u16 x, .int .u32 y] 26)).cell? ⟨w.heap.size, 0, none⟩ = some (.int .u16 x) := by rw [cell_of_block (heap_alloc_new w _)]; rfl
  have e1 : (w.alloc (.cells #[.int .u16 x, .int .u32 y] 26)).cell? ⟨w.heap.size, 1, none⟩ = some (.int .u32 y) := by rw [cell_of_block (heap_alloc_new w _)]; rfl
  have hR := hR.alloc (.cells #[.int .u16 x, .int .u32 y] 26)
  have hS := hS.alloc (.cells #[.int .u16 x, .int .u32 y] 26)
  have hbW : Below w.heap.size w (w.alloc (.cells #[.int .u16 x, .int .u32 y] 26)) := below_alloc (Below.refl _ _) _
  go_enter Try.func3, Try.ntmps3
  go_wp2_with fail
  generalize w.alloc (.cells #[.int .u16 x, .int .u32 y] 26) = W at *
  generalize w.heap.size = B0 at e0 e1 ⊢
  have HA := Lib.hid (anchor_any HOF W)
  have HRA := Lib.hid (fun W' hb => right_any l p c W' (hR.below (w' := W') hb) hf hl)
  have HRB := Lib.hid (fun W' hb => right_any wo q d W' (hS.below (w' := W') hb) hg hm)
  have HR := Lib.hid hR
  have HS := Lib.hid hS
  have HFL := Lib.hid hf
  have HFW := Lib.hid hg
  have HBW := Lib.hid hbW
  have HE : Hid (W.cell? ⟨B0, 0, none⟩ = some (.int .u16 x) ∧ W.cell? ⟨B0, 1, none⟩ = some (.int .u32 y)) := ⟨e0, e1⟩
  clear hR hS hf hg hbW e0 e1 ha
  go_wp2_with fail
  refine HA.out.mono ?_
  rintro e w1 ⟨rfl, hb1⟩
  have HB1 := Lib.hid hb1
  clear hb1 HA
  go_wp2_with fail
  refine (HRA.out _ HB1.out).mono ?_
  rintro e w2 ⟨rfl, hb2⟩
  have HB2 : Hid (Below W.heap.size W w2) := below_step HB1.out hb2
  clear hb2 HB1 HRA
  cases hra : rightL l with
  | false =>
    go_wp2
    go_ret
    exact ⟨rfl, below_step HBW.out HB2.out⟩
  | true =>
  obtain ⟨hrl, htl, hll⟩ := rightL_iff.1 hra
  clear hra
  go_wp2_with fail
  refine (HRB.out _ HB2.out).mono ?_
  rintro e w3 ⟨rfl, hb3⟩
  have HB3 : Hid (Below W.heap.size W w3) := below_step HB2.out hb3
  clear hb3 HB2 HRB
  cases hrb : rightL wo with
  | false =>
    go_wp2
    go_ret
    exact ⟨rfl, below_step HBW.out HB3.out⟩
  | true =>
  obtain ⟨hrw, htw, hlw⟩ := rightL_iff.1 hrb
  clear hrb
  have HRL := Lib.hid hrl
  have HRW := Lib.hid hrw
  clear hrl hrw
  have hNt : (idsL l).length ≤ 1500 := htl
  have hLl : (lessL l wo).length ≤ 1500 := Nat.le_trans (len_less HRL.out) htl
  have H1 := Lib.hid (fun W' hb => (refs_any l p c W' (HR.out.below (w' := W') hb) (by omega)).mono fun e w' h => h.gave layS_pos)
  have H2 := Lib.hid (fun W' hb => (refs_any wo q d W' (HS.out.below (w' := W') hb) (by omega)).mono fun e w' h => h.gave layS_pos)
  have H3 := Lib.hid (fun W' q d hg => (refids_any l q d W' hg HRL.out (by omega) (by omega)).mono fun e w' h => h.gave layI_pos)
  have H4 := Lib.hid (fun W' hb => HID l p c W' (HR.out.below (w' := W') hb) HRL.out HFL.out (by omega) (by omega) hc hp)
  have H5 : Hid (∀ W' p1 c1 q1 d1, GRow layI W' p1 (idsL l) → GRow layI W' q1 (idsL l) → Calls Try.prog 12 #[.slice p1 (idsL l).length c1, .slice q1 (idsL l).length d1] W' fun e w' => e = .returned (.bool true) ∧ Below W'.heap.size W' w') := fun W' p1 c1 q1 d1 hp1 hq1 => by
    have := names_any (idsL l) (idsL l) p1 q1 c1 d1 W' hp1 hq1 (by omega) (by omega)
    rwa [decide_eq_true rfl] at this
  have H6 : Hid (∀ W', Below W.heap.size W W' → Calls Try.prog 14 #[.slice p l.length c] W' fun e w' => e = .returned (.int .i64 ((idsL l).length : Int)) ∧ Below W'.heap.size W' w') := fun W' hb => HTO l p c W' (HR.out.below hb) HRL.out HFL.out (by omega) (by omega) hc hp
  have H7 := Lib.hid (fun W' hb => HAP l p c W' (HR.out.below (w' := W') hb) HRL.out HFL.out (by omega) (by omega) hc hp)
  have H8 := Lib.hid (fun W' q d hg => refapart_any l q d W' hg HRL.out (by omega))
  have H9 := Lib.hid (fun W' hb => HLE l wo p q c d W' (HR.out.below (w' := W') hb) (HS.out.below hb) HRL.out HRW.out HFL.out HFW.out (by omega) (by omega) (by omega) (by omega) hc hp hd hq)
  have H10 := Lib.hid (fun W' p1 q1 c1 d1 hg1 hg2 => (refless_any l wo p1 q1 c1 d1 W' hg1 hg2 HRL.out HRW.out (by omega) (by omega) (by omega) (by omega)).mono fun e w' h => h.gave layS_pos)
  have H11 : Hid (∀ W' p1 c1 q1 d1, GRow layS W' p1 (lessL l wo) → GRow layS W' q1 (lessL l wo) → Calls Try.prog 17 #[.slice p1 (lessL l wo).length c1, .slice q1 (lessL l wo).length d1] W' fun e w' => e = .returned (.bool true) ∧ Below W'.heap.size W' w') := fun W' p1 c1 q1 d1 hp1 hq1 => by
    have := same_any _ _ p1 q1 c1 d1 W' hp1 hq1 (by omega) (by omega)
    rwa [decide_eq_true rfl] at this
  generalize lessL l wo = LL at *
  generalize idsL l = A at *
  generalize apartB l = bb at *
  go_wp2_with fail
  refine (H1.out _ HB3.out).mono ?_
  rintro e w4 ⟨p4, c4, rfl, hr4, hc4, -, hb4⟩
  have HB4 : Hid (Below W.heap.size W w4) := below_step HB3.out hb4
  have HR4 := Lib.hid hr4
  clear hr4 hb4 HB3 H1
  go_wp2_with fail
  refine (H2.out _ HB4.out).mono ?_
  rintro e w5 ⟨p5, c5, rfl, hr5, -, -, hb5⟩
  have HB5 : Hid (Below W.heap.size W w5) := below_step HB4.out hb5
  have HR5 := Lib.hid hr5
  have HR4 : Hid (GRow layS w5 p4 l) := HR4.out.below hb5
  clear hr5 hb5 HB4 H2
  go_wp2_with fail
  refine (H3.out _ _ _ HR4.out).mono ?_
  rintro e w6 ⟨p6, c6, rfl, hr6, -, -, hb6⟩
  have HB6 : Hid (Below W.heap.size W w6) := below_step HB5.out hb6
  have HR6 := Lib.hid hr6
  have HR4 : Hid (GRow layS w6 p4 l) := HR4.out.below hb6
  have HR5 : Hid (GRow layS w6 p5 wo) := HR5.out.below hb6
  clear hr6 hb6 HB5 H3
  go_wp2_with fail
  refine (H4.out _ HB6.out).mono ?_
  rintro e w7 ⟨p7, c7, rfl, hr7, -, -, hb7⟩
  have HB7 : Hid (Below W.heap.size W w7) := below_step HB6.out hb7
  have HR7 := Lib.hid hr7
  have HR4 : Hid (GRow layS w7 p4 l) := HR4.out.below hb7
  have HR5 : Hid (GRow layS w7 p5 wo) := HR5.out.below hb7
  have HR6 : Hid (GRow layI w7 p6 A) := HR6.out.below hb7
  clear hr7 hb7 HB6 H4
  go_wp2_with fail
  refine (H5.out _ _ _ _ _ HR7.out HR6.out).mono ?_
  rintro e w8 ⟨rfl, hb8⟩
  have HB8 : Hid (Below W.heap.size W w8) := below_step HB7.out hb8
  have HR4 : Hid (GRow layS w8 p4 l) := HR4.out.below hb8
  have HR5 : Hid (GRow layS w8 p5 wo) := HR5.out.below hb8
  clear hb8 HB7 H5 HR7 HR6
  go_wp2_with fail
  refine (H6.out _ HB8.out).mono ?_
  rintro e w9 ⟨rfl, hb9⟩
  have HB9 : Hid (Below W.heap.size W w9) := below_step HB8.out hb9
  have HR4 : Hid (GRow layS w9 p4 l) := HR4.out.below hb9
  have HR5 : Hid (GRow layS w9 p5 wo) := HR5.out.below hb9
  clear hb9 HB8 H6
  go_wp2_with fail
  refine (H7.out _ HB9.out).mono ?_
  rintro e w10 ⟨rfl, hb10⟩
  have HB10 : Hid (Below W.heap.size W w10) := below_step HB9.out hb10
  have HR4 : Hid (GRow layS w10 p4 l) := HR4.out.below hb10
  have HR5 : Hid (GRow layS w10 p5 wo) := HR5.out.below hb10
  clear hb10 HB9 H7
  go_wp2_with fail
  refine (H8.out _ _ _ HR4.out).mono ?_
  rintro e w11 ⟨rfl, hb11⟩
  have HB11 : Hid (Below W.heap.size W w11) := below_step HB10.out hb11
  have HR4 : Hid (GRow layS w11 p4 l) := HR4.out.below hb11
  have HR5 : Hid (GRow layS w11 p5 wo) := HR5.out.below hb11
  clear hb11 HB10 H8
  go_wp2_with fail
  refine (H9.out _ HB11.out).mono ?_
  rintro e w12 ⟨p12, c12, rfl, hr12, -, -, hb12⟩
  have HB12 : Hid (Below W.heap.size W w12) := below_step HB11.out hb12
  have HR12 := Lib.hid hr12
  have HR4 : Hid (GRow layS w12 p4 l) := HR4.out.below hb12
  have HR5 : Hid (GRow layS w12 p5 wo) := HR5.out.below hb12
  clear hr12 hb12 HB11 H9
  go_wp2_with fail
  refine (H10.out _ _ _ _ _ HR4.out HR5.out).mono ?_
  rintro e w13 ⟨p13, c13, rfl, hr13, -, -, hb13⟩
  have HB13 : Hid (Below W.heap.size W w13) := below_step HB12.out hb13
  have HR13 := Lib.hid hr13
  have HR4 : Hid (GRow layS w13 p4 l) := HR4.out.below hb13
  have HR12 : Hid (GRow layS w13 p12 LL) := HR12.out.below hb13
  clear hr13 hb13 HB12 H10 HR5
  go_wp2_with fail
  refine (H11.out _ _ _ _ _ HR12.out HR13.out).mono ?_
  rintro e w14 ⟨rfl, hb14⟩
  have HB14 : Hid (Below W.heap.size W w14) := below_step HB13.out hb14
  have HR4 : Hid (GRow layS w14 p4 l) := HR4.out.below hb14
  clear hb14 HB13 H11 HR12 HR13
  go_wp2_with fail
  go_loopg [65] l.length (fun g i wr => ∃ k : Nat, k ≤ l.length ∧ l.length - k ≤ g ∧ i = .int .i64 (k : Int) ∧ Below w14.heap.size w14 wr)
  case atStart => exact ⟨0, Nat.zero_le _, by omega, rfl, Below.refl _ _⟩
  case round =>
    obtain ⟨k, hk, hg, rfl, hb⟩ := hrel
    have HB := Lib.hid hb
    clear hb
    have HBV : Hid (Below W.heap.size W wr) := below_step HB14.out HB.out
    by_cases hlt : k < l.length
    · obtain ⟨b, o, rfl, c0', c1', c2'⟩ := srow_at HR.out hlt
      obtain ⟨b4, o4, rfl, f0', f1', f2'⟩ := srow_at HR4.out hlt
      have c0 := cellU c0' HBV.out
      have c1 := cellU c1' HBV.out
      have c2 := cellU c2' HBV.out
      have hfs := HFL.out.at hlt
      have hrs := HRL.out.at hlt
      have hck : ¬ c4 = k := by omega
      generalize l.getD k s0 = s at *
      have hri := rightS_iff.1 hrs
      have H1 := Lib.hid (fun W' q d hg => (refids_any [s] q d W' hg (by intro x hx; rw [List.mem_singleton] at hx; rw [hx]; exact hrs) (by simp) (by rw [totalL_cons, totalL_nil]; omega)).mono fun e w' h => h.gave layI_pos)
      rw [idsL_one] at H1
      obtain ⟨r, m, t⟩ := s
      simp only at c0 c1 c2 f0' f1' f2' hri
      obtain ⟨T, rfl⟩ : ∃ T : Nat, t = (T : Int) := ⟨t.toNat, by omega⟩
      obtain ⟨g0, g1, g2⟩ := box_cells wr (.int .u16 r) (.int .u32 m) (.int .i64 (T : Int)) 43
      have hbx : Below wr.heap.size wr (wr.alloc (.cells #[.int .u16 r, .int .u32 m, .int .i64 (T : Int)] 43)) := below_alloc (Below.refl _ _) _
      have HX : Hid (GRow layS (wr.alloc (.cells #[.int .u16 r, .int .u32 m, .int .i64 (T : Int)] 43)) (some ⟨b4, o4 + k * 3, none⟩) [(r, m, (T : Int))]) := grow_three (cellU (cellU f0' HB.out) hbx) (cellU (cellU f1' HB.out) hbx) (cellU (cellU f2' HB.out) hbx)
      have HHS : Hid (∀ W', Calls Try.prog 20 #[.agg #[.int .u16 r, .int .u32 m, .int .i64 (T : Int)], .agg #[.int .u16 x, .int .u32 y]] W' fun e w' => e = .returned (.bool (decide ((x, y) ∈ idsS (r, m, (T : Int))))) ∧ Below W'.heap.size W' w') := fun W' => HHA (r, m, (T : Int)) (x, y) W' hrs hfs HFA.out
      have HLS : Hid (∀ W', Calls Try.prog 22 #[.agg #[.int .u16 r, .int .u32 m, .int .i64 (T : Int)]] W' fun e w' => e = .returned (.agg #[.int .u16 r, .int .u32 (m + (T : Int) - 1)]) ∧ Below W'.heap.size W' w') := fun W' => HLA (r, m, (T : Int)) W' hrs hfs
      have HCS : Hid (∀ W', Calls Try.prog 23 #[.agg #[.int .u16 r, .int .u32 m, .int .i64 (T : Int)], .int .i64 n] W' fun e w' => e = .returned (.tuple #[sv (cutA (r, m, (T : Int)) n), sv (cutB (r, m, (T : Int)) n), .bool (decide (1 ≤ n ∧ n < (T : Int)))]) ∧ Below W'.heap.size W' w') := fun W' => HCU (r, m, (T : Int)) n W' hrs hfs hn0 hn1
      have HCI : Hid (1 ≤ n → n < (T : Int) → idsL [cutA (r, m, (T : Int)) n, cutB (r, m, (T : Int)) n] = idsS (r, m, (T : Int)) ∧ RightS [cutA (r, m, (T : Int)) n, cutB (r, m, (T : Int)) n] ∧ FitSs [cutA (r, m, (T : Int)) n, cutB (r, m, (T : Int)) n]) := fun h1 h2 => ⟨cut_ids h1 h2, cut_right hrs hfs h1 h2⟩
      have hOl : (idsS (r, m, (T : Int))).length = T := by rw [idsS_length]; simp
      have HOX : Hid ((idsS (r, m, (T : Int))).getD (T - 1) n0 = (r, m + (T : Int) - 1)) := by
        show (idsS (r, m, (T : Int))).getD (T - 1) n0 = (r, m + (T : Int) - 1)
        have := last_id (s := (r, m, (T : Int))) (by simp only; omega)
        simpa using this
      generalize idsS (r, m, (T : Int)) = Own at *
      subst hOl
      have HRH := Lib.hid (fun W' q d hg => refhas_any Own (x, y) q d W' hg (by omega))
      rw [nv_eq] at HRH
      simp only at HRH
      generalize decide ((x, y) ∈ Own) = bD at *
      have HBX : Hid (Below w14.heap.size w14 (wr.alloc (.cells #[.int .u16 r, .int .u32 m, .int .i64 (Own.length : Int)] 43))) := below_alloc HB.out _
      clear c0' c1' c2' f0' f1' f2' hbx hfs hrs
      go_wp2_with fail
      refine (H1.out _ _ _ HX.out).mono ?_
      rintro e w15 ⟨p15, c15, rfl, hr15, -, -, hb15⟩
      have HB15 : Hid (Below w14.heap.size w14 w15) := below_step HBX.out hb15
      have HR15 := Lib.hid hr15
      have k0 := cellU g0 hb15
      have k1 := cellU g1 hb15
      have k2 := cellU g2 hb15
      obtain ⟨b5, o5, rfl, j0, j1⟩ := irow_at hr15 (i := Own.length - 1) (by omega)
      rw [HOX.out] at j0 j1
      simp only at j0 j1
      have a0 := cellU HE.out.1 (below_step HB14.out HB15.out)
      have a1 := cellU HE.out.2 (below_step HB14.out HB15.out)
      have q0 := cell_regrown k0
      have q1 := cell_regrown k1
      have q2 := cell_regrown k2
      have q3 := cell_regrown j0
      have q4 := cell_regrown j1
      have q5 := cell_regrown a0
      have q6 := cell_regrown a1
      have hix : ((Own.length : Nat) : Int) - 1 = ((Own.length - 1 : Nat) : Int) := by omega
      have HRH2 : Hid (∀ dd os, Calls Try.prog 21 #[.slice (some ⟨b5, o5, none⟩) Own.length c15, .agg #[.int .u16 x, .int .u32 y]] (Go.Sort.grow (redrawn w15 dd) os) fun e w' => e = .returned (.bool bD) ∧ Below (Go.Sort.grow (redrawn w15 dd) os).heap.size (Go.Sort.grow (redrawn w15 dd) os) w') := fun dd os => HRH.out _ _ _ (HR15.out.below (below_regrown w15 dd os))
      clear hr15 hb15 g0 g1 g2 c0 c1 c2 H1 HX HRH
      cases bD
      all_goals
        go_wp2_with fail
        refine wp_region_quiet_below (by kernel_rfl) (by kernel_rfl) ?_
        repeat (go_big_quiet_step (first | (go_at_call 20; exact Calls.regrown_of (HHS.out _)) | (go_at_call 21; exact Calls.regrown_of (HRH2.out _ _)) | (go_at_call 22; exact Calls.regrown_of (HLS.out _))))
        refine wpQuiet_nil ?_
        intro _ hw'
        obtain ⟨⟨dq, osq⟩, hw''⟩ := hw'
        subst hw''
        have hbq := below_regrown w15 dq osq
        have HBQ : Hid (Below w14.heap.size w14 (Go.Sort.grow (redrawn w15 dq) osq)) := below_step HB15.out hbq
        have HRQ : Hid (GRow layI (Go.Sort.grow (redrawn w15 dq) osq) (some ⟨b5, o5, none⟩) Own) := HR15.out.below hbq
        have k0 := cellU k0 hbq
        have k1 := cellU k1 hbq
        have k2 := cellU k2 hbq
        clear q0 q1 q2 q3 q4 q5 q6 a0 a1 j0 j1 hbq HHS HLS HRH2 HR15 HB15
        generalize Go.Sort.grow (redrawn w15 dq) osq = w16 at *
        go_wp2_with fail
        refine (HCS.out _).mono ?_
        rintro e w17 ⟨rfl, hb17⟩
        have HB17 : Hid (Below w14.heap.size w14 w17) := below_step HBQ.out hb17
        have HR17 : Hid (GRow layI w17 (some ⟨b5, o5, none⟩) Own) := HRQ.out.below hb17
        have k0 := cellU k0 hb17
        have k1 := cellU k1 hb17
        have k2 := cellU k2 hb17
        have hsz : wr.heap.size < w17.heap.size := block_lt_of_cell k2
        have hne1 : ¬ wr.heap.size = w17.heap.size := by omega
        have hne2 : ¬ wr.heap.size = w17.heap.size + 1 := by omega
        have hne3 : ¬ w17.heap.size = wr.heap.size := by omega
        have hne4 : ¬ w17.heap.size + 1 = wr.heap.size := by omega
        have kk2 : ∀ o o', ((w17.alloc o).alloc o').cell? ⟨wr.heap.size, 2, none⟩ = some (.int .i64 (Own.length : Int)) := fun o o' => cellU k2 (below_alloc (below_alloc (Below.refl _ _) _) _)
        clear hb17 HCS HBQ HRQ hsz
        by_cases hok : 1 ≤ n ∧ n < (Own.length : Int)
        · have eA : cutA (r, m, (Own.length : Int)) n = (r, m, n) := by unfold cutA; rw [if_pos hok]
          have eB : cutB (r, m, (Own.length : Int)) n = (r, m + n, (Own.length : Int) - n) := by unfold cutB; rw [if_pos hok]
          obtain ⟨i1, i2, i3⟩ := HCI.out hok.1 hok.2
          rw [eA, eB] at i1 i2 i3
          rw [eA, eB, decide_eq_true hok]
          have h20 : ∀ W' p1, GRow layS W' p1 [(r, m, n), (r, m + n, (Own.length : Int) - n)] → (p1 = none → 2 = 0) → Calls Try.prog 13 #[.slice p1 2 2] W' (Gave layI W' Own) := fun W' p1 hg hn => by
            have := HID [(r, m, n), (r, m + n, (Own.length : Int) - n)] p1 2 W' hg i2 i3 (by simp) (by unfold totalL; rw [i1]; omega) (by simp) hn
            rwa [i1] at this
          have H20 : Hid (∀ (W' : World) (B : Nat), B = W'.heap.size → Calls Try.prog 13 #[.slice (some ⟨B, 0, none⟩) 2 2] (W'.alloc (.cells #[.int .u16 r, .int .u32 m, .int .i64 n, .int .u16 r, .int .u32 (m + n), .int .i64 ((Own.length : Int) - n)] 43)) (Gave layI (W'.alloc (.cells #[.int .u16 r, .int .u32 m, .int .i64 n, .int .u16 r, .int .u32 (m + n), .int .i64 ((Own.length : Int) - n)] 43)) Own)) := fun W' B hB => by
            subst hB
            refine h20 _ _ (grow_block (t := 43) (f := (0, 0)) ?_) (by intro h; cases h)
            exact heap_alloc_new W' _
          have H21 : Hid (∀ W' p1 c1 q1 d1, GRow layI W' p1 Own → GRow layI W' q1 Own → Calls Try.prog 12 #[.slice p1 Own.length c1, .slice q1 Own.length d1] W' fun e w' => e = .returned (.bool true) ∧ Below W'.heap.size W' w') := fun W' p1 c1 q1 d1 hp1 hq1 => by
            have := names_any Own Own p1 q1 c1 d1 W' hp1 hq1 (by omega) (by omega)
            rwa [decide_eq_true rfl] at this
          obtain ⟨ho1, ho2⟩ := hok
          clear i1 i2 i3 h20 eA eB HCI
          rw [sv_eq, sv_eq]
          simp only
          go_wp2_with fail
          refine (H20.out _ _ (by simp)).mono ?_
          rintro e w18 ⟨p18, c18, rfl, hr18, -, -, hb18⟩
          have hb18' : Below w17.heap.size w17 w18 := below_step (below_alloc (below_alloc (below_alloc (Below.refl _ _) _) _) _) hb18
          have HB18 : Hid (Below w14.heap.size w14 w18) := below_step HB17.out hb18'
          have HR18 := Lib.hid hr18
          have HR17 : Hid (GRow layI w18 (some ⟨b5, o5, none⟩) Own) := HR17.out.below hb18'
          clear hr18 hb18 hb18' H20
          go_wp2_with fail
          refine (H21.out _ _ _ _ _ HR18.out HR17.out).mono ?_
          rintro e w19 ⟨rfl, hb19⟩
          have HB19 : Hid (Below w14.heap.size w14 w19) := below_step HB18.out hb19
          clear hb19 H21
          go_wp2
          go_roundg (l.length - (k + 1))
          case measure => omega
          case rel => exact ⟨k + 1, by omega, Nat.le_refl _, by go_num, HB19.out⟩
        · have eA : cutA (r, m, (Own.length : Int)) n = s0 := by unfold cutA; rw [if_neg hok]
          have eB : cutB (r, m, (Own.length : Int)) n = s0 := by unfold cutB; rw [if_neg hok]
          have HB18 : Hid (∀ o o', Below w14.heap.size w14 ((w17.alloc o).alloc o')) := fun o o' => below_alloc (below_alloc HB17.out _) _
          rw [eA, eB, decide_eq_false hok, sv_eq]
          unfold s0
          simp only
          clear eA eB HCI
          by_cases ho1 : 1 ≤ n
          · have ho2 : ¬ n < (Own.length : Int) := fun h => hok ⟨ho1, h⟩
            clear hok
            go_wp2
            go_roundg (l.length - (k + 1))
            case measure => omega
            case rel => exact ⟨k + 1, by omega, Nat.le_refl _, by go_num, HB18.out _ _⟩
          · clear hok
            go_wp2
            go_roundg (l.length - (k + 1))
            case measure => omega
            case rel => exact ⟨k + 1, by omega, Nat.le_refl _, by go_num, HB18.out _ _⟩
    · have : k = l.length := by omega
      subst this
      go_wp2
      go_ret
      exact ⟨rfl, below_step HBW.out HBV.out⟩

end Go.Proofs.Ytoadifbbmfaakaa
