
/-
  SpanLaws' function hands back true, for all spans that lie in memory, if span's calls are as the document says. No conditions beyond what each theorem states.
-/
import Derived.Test.YtoadifbbmfaakaaSpanSpec
import Derived.Laws.AppendOwnNone
namespace Go.Proofs.Ytoadifbbmfaakaa
open Go.ChangeShapes Go.WideShapes Go.ChangeAt Go.RowKit Go.Lib
set_option linter.unusedVariables false
set_option linter.unusedSimpArgs false

/-- append onto a row of the call's own, of things that came in, nil or not. -/
theorem wpList_append_own_any {P : Program} (w : World) {ops : Array Oper} {rest : List Oper} {o : Oper} {a : Act} {Q : Exit → Act → World → Prop} (hgd : o.guard = none) (s x : Operand) (t : TypeId)
    (ho : o.op = .call { callee := .builtin .append, args := #[s, x], argTypes := #[t, t] })
    (base : Nat) (e : TypeId) (i : TypeInfo) (z : Value) (size bytes : Nat) (ht : P.underlying t = some (.slice e)) (hi : P.info? e = some i) (hz : i.zero = some z)
    (hsize : i.size = size) (hby : i.bytes = bytes) (hzs : z.cells.size = size) (hsz : 0 < size)
    (v : Value) (n : Nat) (xs : List Value) (hs : a.eval s = v) (hown : w.ownsRow base e size v n xs)
    (ao : Option Addr) (m c : Nat) (news : List Value) (hx : a.eval x = .slice ao m c) (hl : news.length = m * size) (hnone : ao = none → m = 0 ∧ c = 0) (hnews : ∀ ad, ao = some ad → ∀ j u, news[j]? = some u → w.cell? (ad.add j) = some u) (h1 : ∀ u ∈ news, u.oneCell' = true)
    (h63 : n + m ≤ maxLen) (hbytes : (n + m) * bytes ≤ 140737488355328) (hbase : base ≤ w.heap.size)
    (h : ∀ v' w', w'.ownsRow base e size v' (n + m) (xs ++ news) → w.grownBy w' v.ownBlock → wpList P ops Q rest (a.put o.dst v') w') : wpList P ops Q (o :: rest) a w := by
  cases ao with
  | some ad => exact wpList_append_own w hgd s x t ho base e i z size bytes ht hi hz hsize hby hzs hsz v n xs hs hown ad m c news hx hl (hnews ad rfl) h1 h63 hbytes hbase fun v' w' a b _ => h v' w' a b
  | none =>
    obtain ⟨rfl, rfl⟩ := hnone rfl
    have hnews : news = [] := List.eq_nil_of_length_eq_zero (by simpa using hl)
    subst hnews
    exact wpList_append_own_none hgd s x t ho base e i size ht hi v n xs hs hown hx (h v w (by simpa using hown) (World.grownBy.refl _ _))
theorem hold_empty (w : World) (t : TypeId) : Hold layS w t (.slice (some ⟨w.heap.size, 0, none⟩) 0 0) [] (w.alloc (.cells #[] t)) :=
  ⟨⟨rfl, .inr ⟨w.heap.size, 0, #[], rfl, Nat.le_refl _, heap_alloc_new w _, by simp, by simp, by simp [layS], by simp [Lay.flat]⟩⟩, below_alloc (Below.refl _ _) _⟩
theorem srow_none {w : World} {p : Option Addr} {c : Nat} {xs : List Sp} (h : GRow layS w p xs) (hp : p = none → c = 0) : p = none → xs.length = 0 ∧ c = 0 := fun e => ⟨by rw [h.none_nil layS_pos e]; rfl, hp e⟩

set_option maxHeartbeats 6400000 in
set_option maxRecDepth 20000 in
theorem laws_any (HOF : OfSpec) (HID : IdsSpec) (HTO : TotalSpec) (HAP : ApartSpec) (HLE : LessSpec) (l wo : List Sp) (p q : Option Addr) (c d : Nat) (w : World) (hR : GRow layS w p l) (hS : GRow layS w q wo) (hf : FitSs l) (hg : FitSs wo) (hc : l.length ≤ c) (hp : p = none → c = 0) (hd : wo.length ≤ d) (hq : q = none → d = 0) (hl : l.length ≤ 8796093021952) (hm : wo.length ≤ 8796093021952) :
    Calls Try.prog 7 #[.slice p l.length c, .slice q wo.length d] w fun e w' => e = .returned (.bool true) ∧ Below w.heap.size w w' := by
  obtain ⟨i0, hi, hz0, hz1, hz2⟩ := info_parts infoSp
  have HA := Lib.hid (anchor_any HOF w)
  have HRA := Lib.hid (fun W hb => right_any l p c W (hR.below (w' := W) hb) hf hl)
  have HRB := Lib.hid (fun W hb => right_any wo q d W (hS.below (w' := W) hb) hg hm)
  have HR := Lib.hid hR
  have HS := Lib.hid hS
  have HFL := Lib.hid hf
  have HFW := Lib.hid hg
  clear hR hS hf hg
  go_enter Try.func7, Try.ntmps7
  go_wp2_with fail
  refine HA.out.mono ?_
  rintro e w1 ⟨rfl, hb1⟩
  have HB1 := Lib.hid hb1
  clear hb1 HA
  go_wp2_with fail
  refine (HRA.out _ HB1.out).mono ?_
  rintro e w2 ⟨rfl, hb2⟩
  have HB2 : Hid (Below w.heap.size w w2) := below_step HB1.out hb2
  clear hb2 HB1 HRA
  cases hra : rightL l with
  | false =>
    go_wp2
    go_ret
    exact ⟨rfl, HB2.out⟩
  | true =>
  obtain ⟨hrl, htl, hll⟩ := rightL_iff.1 hra
  clear hra
  go_wp2_with fail
  refine (HRB.out _ HB2.out).mono ?_
  rintro e w3 ⟨rfl, hb3⟩
  have HB3 : Hid (Below w.heap.size w w3) := below_step HB2.out hb3
  clear hb3 HB2 HRB
  cases hrb : rightL wo with
  | false =>
    go_wp2
    go_ret
    exact ⟨rfl, HB3.out⟩
  | true =>
  obtain ⟨hrw, htw, hlw⟩ := rightL_iff.1 hrb
  clear hrb
  have HRL := Lib.hid hrl
  have HRW := Lib.hid hrw
  clear hrl hrw
  have H1 := Lib.hid (fun W hb => (refs_any l p c W (HR.out.below (w' := W) hb) (by omega)).mono fun e w' h => h.gave layS_pos)
  have H2 := Lib.hid (fun W q d hg => refapart_any l q d W hg HRL.out (by omega))
  go_wp2_with fail
  refine (H1.out _ HB3.out).mono ?_
  rintro e w4 ⟨p4, c4, rfl, hr4, -, -, hb4⟩
  have HB4 : Hid (Below w.heap.size w w4) := below_step HB3.out hb4
  have HR4 := Lib.hid hr4
  clear hr4 hb4 HB3
  go_wp2_with fail
  refine (H2.out _ _ _ HR4.out).mono ?_
  rintro e w5 ⟨rfl, hb5⟩
  have HB5 : Hid (Below w.heap.size w w5) := below_step HB4.out hb5
  clear hb5 HB4 HR4 H2
  cases hap : apartB l with
  | false =>
    go_wp2
    go_ret
    exact ⟨rfl, HB5.out⟩
  | true =>
  have HND : Hid ((idsL l).Nodup) := (apart_nodup HRL.out).1 hap
  clear hap
  have HBO := Lib.hid (less_both (wo := wo) HRL.out HND.out)
  have HI0 := Lib.hid (less_in (wo := wo) HRL.out)
  obtain ⟨O, hO⟩ : ∃ O, O = lessL l wo := ⟨_, rfl⟩
  obtain ⟨I, hI⟩ : ∃ I, I = lessL l O := ⟨_, rfl⟩
  have HRO : Hid (RightS O ∧ FitSs O) := by rw [hO]; exact ⟨right_less HRL.out, fit_less HRL.out HFL.out⟩
  have HRI : Hid (RightS I ∧ FitSs I) := by rw [hI]; exact ⟨right_less HRL.out, fit_less HRL.out HFL.out⟩
  have hOt : totalL O ≤ 1500 := by rw [hO]; exact Nat.le_trans (total_less HRL.out) htl
  have hIt : totalL I ≤ 1500 := by rw [hI]; exact Nat.le_trans (total_less HRL.out) htl
  have hOl : O.length ≤ 1500 := by rw [hO]; exact Nat.le_trans (len_less HRL.out) htl
  have hIl : I.length ≤ 1500 := by rw [hI]; exact Nat.le_trans (len_less HRL.out) htl
  rw [← hO, ← hI] at HBO HI0
  have HO := Lib.hid hO
  have HI := Lib.hid hI
  clear hO hI
  have H3 : Hid (∀ W, Below w.heap.size w W → Calls Try.prog 18 #[.slice p l.length c, .slice q wo.length d] W (Gave layS W O)) := fun W hb => by
    rw [HO.out]
    exact HLE l wo p q c d W (HR.out.below hb) (HS.out.below hb) HRL.out HRW.out HFL.out HFW.out (by omega) (by omega) (by omega) (by omega) hc hp hd hq
  have H4 : Hid (∀ W p1 c1, Below w.heap.size w W → GRow layS W p1 O → O.length ≤ c1 → (p1 = none → c1 = 0) → Calls Try.prog 18 #[.slice p l.length c, .slice p1 O.length c1] W (Gave layS W I)) := fun W p1 c1 hb hg hc1 hp1 => by
    rw [HI.out]
    exact HLE l O p p1 c c1 W (HR.out.below hb) hg HRL.out HRO.out.1 HFL.out HRO.out.2 (by omega) (by omega) (by omega) (by omega) hc hp hc1 hp1
  go_wp2_with fail
  refine (H3.out _ HB5.out).mono ?_
  rintro e w6 ⟨p6, c6, rfl, hr6, hc6, hp6, hb6⟩
  have HB6 : Hid (Below w.heap.size w w6) := below_step HB5.out hb6
  have HR6 := Lib.hid hr6
  have HC6 : Hid (O.length ≤ c6 ∧ (p6 = none → c6 = 0)) := ⟨hc6, hp6⟩
  clear hr6 hc6 hp6 hb6 HB5 H3
  go_wp2_with fail
  refine (H4.out _ _ _ HB6.out HR6.out HC6.out.1 HC6.out.2).mono ?_
  rintro e w7 ⟨p7, c7, rfl, hr7, hc7, hp7, hb7⟩
  have HB7 : Hid (Below w.heap.size w w7) := below_step HB6.out hb7
  have HR6 : Hid (GRow layS w7 p6 O) := HR6.out.below hb7
  have HR7 := Lib.hid hr7
  have HC7 : Hid (I.length ≤ c7 ∧ (p7 = none → c7 = 0)) := ⟨hc7, hp7⟩
  clear hr7 hc7 hp7 hb7 HB6 H4
  have HRI7 := HR7
  have HE := Lib.hid (hold_empty w7 43)
  go_wp2_with (first
    | (at_builtin; refine wpList_append_own_any _ rfl (.tmp 31) (.tmp 32) 22 rfl w7.heap.size 43 i0 (.agg #[.int .u16 0, .int .u32 0, .int .i64 0]) 3 16 Try.underlying22 hi hz0 hz1 hz2 rfl (by decide) _ 0 [] rfl HE.out.1 p6 O.length c6 (layS.flat O) rfl (layS.flat_length O) (srow_none HR6.out HC6.out.2) (fun ad e => ((e ▸ HR6.out.alloc _) : GRow layS _ (some ad) O).news) (layS.flat_one' O) (by unfold maxLen; omega) (by omega) (by simp) ?_))
  intro v8 w8 hown hgrow
  have HO8 : Hid (Hold layS w7 43 v8 O w8) := HE.out.onto (xs := []) (ys := O) rfl (by simp) hown hgrow
  have HR7 : Hid (GRow layS w8 p7 I) := HR7.out.below HO8.out.2
  have HR6 : Hid (GRow layS w8 p6 O) := HR6.out.below HO8.out.2
  clear hown hgrow HE
  go_wp2_with (first
    | (at_builtin; refine wpList_append_own_any _ rfl (.tmp 33) (.tmp 34) 22 rfl w7.heap.size 43 i0 (.agg #[.int .u16 0, .int .u32 0, .int .i64 0]) 3 16 Try.underlying22 hi hz0 hz1 hz2 rfl (by decide) _ O.length (layS.flat O) rfl HO8.out.1 p7 I.length c7 (layS.flat I) rfl (layS.flat_length I) (srow_none HR7.out HC7.out.2) (fun ad e => ((e ▸ HR7.out) : GRow layS _ (some ad) I).news) (layS.flat_one' I) (by unfold maxLen; omega) (by omega) HO8.out.2.size ?_))
  intro v9 w9 hown hgrow
  have HO9 : Hid (Hold layS w7 43 v9 (O ++ I) w9) := HO8.out.onto rfl rfl hown hgrow
  have hb89 : Below w7.heap.size w7 w9 := HO9.out.2
  obtain ⟨p9, c9, rfl, hr9, hc9, hp9⟩ := HO9.out.gave layS_pos
  have HB9 : Hid (Below w.heap.size w w9) := below_step HB7.out hb89
  have HR9 := Lib.hid hr9
  have HC9 : Hid ((O ++ I).length ≤ c9 ∧ (p9 = none → c9 = 0)) := ⟨hc9, hp9⟩
  have HRX : Hid (GRow layS w9 p7 I) := fun m u hm => by
    obtain ⟨b, o, e, hcell⟩ := HRI7.out m u hm
    exact ⟨b, o, e, cellU hcell hb89⟩
  clear hown hgrow HO8 HO9 hr9 hc9 hp9 hb89 HR6 HR7 HRI7
  have HRB2 : Hid (RightS (O ++ I) ∧ FitSs (O ++ I)) := ⟨fun x hx => by rcases List.mem_append.1 hx with h | h; exact HRO.out.1 x h; exact HRI.out.1 x h, fun x hx => by rcases List.mem_append.1 hx with h | h; exact HRO.out.2 x h; exact HRI.out.2 x h⟩
  have hBl : (O ++ I).length ≤ 3000 := by rw [List.length_append]; omega
  have hBt : totalL (O ++ I) ≤ 3000 := by rw [totalL_append]; omega
  have HAB : Hid (apartB (O ++ I) = true) := (apart_nodup HRB2.out.1).2 HBO.out.2
  have hNt : (idsL l).length ≤ 1500 := htl
  have H3 := Lib.hid (fun W hb => HID l p c W (HR.out.below (w' := W) hb) HRL.out HFL.out (by omega) (by omega) hc hp)
  have H4 : Hid (∀ W, GRow layS W p9 (O ++ I) → Calls Try.prog 14 #[.slice p9 (O ++ I).length c9] W fun e w' => e = .returned (.int .i64 ((idsL l).length : Int)) ∧ Below W.heap.size W w') := fun W hg => by
    have := HTO (O ++ I) p9 c9 W hg HRB2.out.1 HRB2.out.2 hBl hBt HC9.out.1 HC9.out.2
    rwa [HBO.out.1] at this
  have H5 : Hid (∀ W, GRow layS W p9 (O ++ I) → Calls Try.prog 15 #[.slice p9 (O ++ I).length c9] W fun e w' => e = .returned (.bool true) ∧ Below W.heap.size W w') := fun W hg => by
    have := HAP (O ++ I) p9 c9 W hg HRB2.out.1 HRB2.out.2 hBl hBt HC9.out.1 HC9.out.2
    rwa [HAB.out] at this
  have H6 : Hid (∀ W, Below w.heap.size w W → Calls Try.prog 18 #[.slice p l.length c, .slice p l.length c] W (Gave layS W [])) := fun W hb => by
    have := HLE l l p p c c W (HR.out.below hb) (HR.out.below hb) HRL.out HRL.out HFL.out HFL.out (by omega) (by omega) (by omega) (by omega) hc hp hc hp
    rwa [less_self] at this
  have H7 : Hid (∀ W, Below w.heap.size w W → GRow layS W p7 I → Calls Try.prog 18 #[.slice p7 I.length c7, .slice q wo.length d] W (Gave layS W [])) := fun W hb hg => by
    have := HLE I wo p7 q c7 d W hg (HS.out.below hb) HRI.out.1 HRW.out HRI.out.2 HFW.out (by omega) (by omega) (by omega) (by omega) HC7.out.1 HC7.out.2 hd hq
    rwa [HI0.out] at this
  have H8 : Hid (∀ W, Below w.heap.size w W → Calls Try.prog 18 #[.slice p l.length c, .slice none 0 0] W (Gave layS W (ofL (idsL l)))) := fun W hb => by
    have := HLE l [] p none c 0 W (HR.out.below hb) (GRow.nil _ _ _) HRL.out (by intro x hx; simp at hx) HFL.out (by intro x hx; simp at hx) (by omega) (by simp) (by omega) (by simp [totalL, idsL]) hc hp (by simp) (fun _ => rfl)
    rwa [less_nil] at this
  have H9 := Lib.hid (fun W q d hg => (refids_any l q d W hg HRL.out (by omega) (by omega)).mono fun e w' h => h.gave layI_pos)
  have H10 := Lib.hid (fun W q d hg => (refof_any (idsL l) q d W hg (rightN_ids HRL.out) (by omega)).mono fun e w' h => h.gave layS_pos)
  have hol := of_len (idsL l)
  have H11 : Hid (∀ W p1 c1 q1 d1, GRow layS W p1 (ofL (idsL l)) → GRow layS W q1 (ofL (idsL l)) → Calls Try.prog 17 #[.slice p1 (ofL (idsL l)).length c1, .slice q1 (ofL (idsL l)).length d1] W fun e w' => e = .returned (.bool true) ∧ Below W.heap.size W w') := fun W p1 c1 q1 d1 hp1 hq1 => by
    have := same_any _ _ p1 q1 c1 d1 W hp1 hq1 (by omega) (by omega)
    rwa [decide_eq_true rfl] at this
  clear HBO HI0 HO HI HRB2 HAB hol HC6 HC7 HRO HRI HND
  generalize O ++ I = B at *
  generalize ofL (idsL l) = F at *
  generalize idsL l = A at *
  go_wp2_with fail
  refine (H3.out _ HB9.out).mono ?_
  rintro e w10 ⟨p10, c10, rfl, -, -, -, hb10⟩
  have HB10 : Hid (Below w.heap.size w w10) := below_step HB9.out hb10
  have HR9 : Hid (GRow layS w10 p9 B) := HR9.out.below hb10
  have HRX : Hid (GRow layS w10 p7 I) := HRX.out.below hb10
  clear hb10 HB9 H3
  go_wp2_with fail
  refine (H4.out _ HR9.out).mono ?_
  rintro e w11 ⟨rfl, hb11⟩
  have HB11 : Hid (Below w.heap.size w w11) := below_step HB10.out hb11
  have HR9 : Hid (GRow layS w11 p9 B) := HR9.out.below hb11
  have HRX : Hid (GRow layS w11 p7 I) := HRX.out.below hb11
  clear hb11 HB10 H4
  go_wp2_with fail
  refine (H5.out _ HR9.out).mono ?_
  rintro e w12 ⟨rfl, hb12⟩
  have HB12 : Hid (Below w.heap.size w w12) := below_step HB11.out hb12
  have HRX : Hid (GRow layS w12 p7 I) := HRX.out.below hb12
  clear hb12 HB11 H5 HR9
  go_wp2_with fail
  refine (H6.out _ HB12.out).mono ?_
  rintro e w13 ⟨p13, c13, rfl, -, -, -, hb13⟩
  have HB13 : Hid (Below w.heap.size w w13) := below_step HB12.out hb13
  have HRX : Hid (GRow layS w13 p7 I) := HRX.out.below hb13
  clear hb13 HB12 H6
  go_wp2_with fail
  refine (H7.out _ HB13.out HRX.out).mono ?_
  rintro e w14 ⟨p14, c14, rfl, -, -, -, hb14⟩
  have HB14 : Hid (Below w.heap.size w w14) := below_step HB13.out hb14
  clear hb14 HB13 H7 HRX
  go_wp2_with fail
  refine (H8.out _ HB14.out).mono ?_
  rintro e w15 ⟨p15, c15, rfl, hr15, -, -, hb15⟩
  have HB15 : Hid (Below w.heap.size w w15) := below_step HB14.out hb15
  have HR15 := Lib.hid hr15
  clear hr15 hb15 HB14 H8
  go_wp2_with fail
  refine (H1.out _ HB15.out).mono ?_
  rintro e w16 ⟨p16, c16, rfl, hr16, -, -, hb16⟩
  have HB16 : Hid (Below w.heap.size w w16) := below_step HB15.out hb16
  have HR15 : Hid (GRow layS w16 p15 F) := HR15.out.below hb16
  have HR16 := Lib.hid hr16
  clear hr16 hb16 HB15 H1
  go_wp2_with fail
  refine (H9.out _ _ _ HR16.out).mono ?_
  rintro e w17 ⟨p17, c17, rfl, hr17, -, -, hb17⟩
  have HB17 : Hid (Below w.heap.size w w17) := below_step HB16.out hb17
  have HR15 : Hid (GRow layS w17 p15 F) := HR15.out.below hb17
  have HR17 := Lib.hid hr17
  clear hr17 hb17 HB16 H9 HR16
  go_wp2_with fail
  refine (H10.out _ _ _ HR17.out).mono ?_
  rintro e w18 ⟨p18, c18, rfl, hr18, -, -, hb18⟩
  have HB18 : Hid (Below w.heap.size w w18) := below_step HB17.out hb18
  have HR15 : Hid (GRow layS w18 p15 F) := HR15.out.below hb18
  have HR18 := Lib.hid hr18
  clear hr18 hb18 HB17 H10 HR17
  go_wp2_with fail
  refine (H11.out _ _ _ _ _ HR15.out HR18.out).mono ?_
  rintro e w19 ⟨rfl, hb19⟩
  have HB19 : Hid (Below w.heap.size w w19) := below_step HB18.out hb19
  clear hb19 HB18 H11
  go_wp2
  go_ret
  exact ⟨by simp, HB19.out⟩

end Go.Proofs.Ytoadifbbmfaakaa
