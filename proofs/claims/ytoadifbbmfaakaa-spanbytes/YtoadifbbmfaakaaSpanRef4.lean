
/-
  What the document's Less of layer 7 hands back. No conditions beyond what each theorem states.
-/
import Derived.Test.YtoadifbbmfaakaaSpanRef3
namespace Go.Proofs.Ytoadifbbmfaakaa
open Go.ChangeShapes Go.WideShapes Go.ChangeAt Go.RowKit Go.Lib
set_option linter.unusedVariables false
set_option linter.unusedSimpArgs false

theorem owns_rebase {w : World} {B B' n size : Nat} {e : TypeId} {v : Value} {xs : List Value} (h : w.ownsRow B' e size v n xs) (hb : B ≤ B') : w.ownsRow B e size v n xs := by
  refine ⟨h.1, ?_⟩
  rcases h.2 with hv | ⟨g, cap, cur, rfl, hbg, rest⟩
  · exact .inl hv
  · exact .inr ⟨g, cap, cur, rfl, Nat.le_trans hb hbg, rest⟩
theorem Hold.rebase {α : Type} {L : Lay α} {w w' wr : World} {e : TypeId} {v : Value} {xs : List α} (h : Hold L w' e v xs wr) (hb : Below w.heap.size w w') : Hold L w e v xs wr := ⟨owns_rebase h.1 hb.size, below_step hb h.2⟩
theorem Made.rebase {α : Type} {L : Lay α} {t : TypeId} {w w' w'' : World} {xs : List α} {e : Ending} (h : Made L t w' xs e w'') (hb : Below w.heap.size w w') : Made L t w xs e w'' := by
  obtain ⟨v, e, hh⟩ := h
  exact ⟨v, e, hh.rebase hb⟩
theorem lessN_right {l wo : List Sp} (h : RightS l) : RightN (lessN l wo) := fun a ha => rightN_ids h a ((List.mem_filter.1 ha).1)
theorem lessN_le (l wo : List Sp) : (lessN l wo).length ≤ totalL l := List.length_filter_le _ _

set_option maxHeartbeats 3200000 in
theorem refless_any (l wo : List Sp) (p q : Option Addr) (c d : Nat) (w : World) (hR : GRow layS w p l) (hS : GRow layS w q wo) (hr : RightS l) (hs : RightS wo) (hl : l.length ≤ 100000) (hm : wo.length ≤ 100000) (ht : totalL l ≤ 100000) (hu : totalL wo ≤ 100000) :
    Calls Try.prog 19 #[.slice p l.length c, .slice q wo.length d] w (Made layS 56 w (lessL l wo)) := by
  obtain ⟨i0, hi, hz0, hz1, hz2⟩ := info_parts infoRI
  have H1 := Lib.hid (refids_any l p c w hR hr hl ht)
  have H2 := Lib.hid (fun W hb => refids_any wo q d W (hS.below (w' := W) hb) hs hm hu)
  have HLR : Hid (RightN (lessN l wo)) := lessN_right hr
  have HLL := Lib.hid (lessN_le l wo)
  have hta : (idsL l).length ≤ 100000 := ht
  have htb : (idsL wo).length ≤ 100000 := hu
  have HLN : Hid (lessN l wo = (idsL l).filter fun a => decide (a ∉ idsL wo)) := rfl
  have HLS : Hid (lessL l wo = ofL (lessN l wo)) := rfl
  clear hR hS hr hs
  go_enter Try.func19, Try.ntmps19
  go_wp2_with fail
  refine H1.out.mono ?_
  intro e w1 hm1
  obtain ⟨p1, c1, rfl, hr1, -, -, hb1⟩ := hm1.gave layI_pos
  have HB1 := Lib.hid hb1
  have HR1 := Lib.hid hr1
  clear hm1 hr1 hb1 H1
  go_wp2_with fail
  refine (H2.out _ HB1.out).mono ?_
  intro e w2 hm2
  obtain ⟨p2, c2, rfl, hr2, -, -, hb2⟩ := hm2.gave layI_pos
  have HB2 : Hid (Below w.heap.size w w2) := below_step HB1.out hb2
  have HR1 : Hid (GRow layI w2 p1 (idsL l)) := HR1.out.below hb2
  have HR2 := Lib.hid hr2
  clear hm2 hr2 hb2 H2 HB1
  generalize idsL l = A at *
  generalize idsL wo = B at *
  go_wp2_with fail
  go_loopg [5, 8] A.length (fun g v i wr => ∃ k : Nat, k ≤ A.length ∧ A.length - k ≤ g ∧ i = .int .i64 (k : Int) ∧ Hold layI w2 46 v ((A.take k).filter fun a => decide (a ∉ B)) wr)
  case atStart => exact ⟨0, Nat.zero_le _, by omega, rfl, Hold.nil _ _ _⟩
  case round =>
    obtain ⟨k, hk, hg, rfl, hO⟩ := hrel
    have HO := Lib.hid hO
    clear hO
    by_cases hlt : k < A.length
    · obtain ⟨b, o, rfl, c0', c1'⟩ := irow_at HR1.out hlt
      have c0 := cellU c0' HO.out.2
      have c1 := cellU c1' HO.out.2
      have HC := refhas_any B (A.getD k n0) p2 c2 wr (HR2.out.below HO.out.2) (by omega)
      rw [nv_eq] at HC
      have HTK : Hid ((A.take (k + 1)).filter (fun a => decide (a ∉ B)) = (A.take k).filter (fun a => decide (a ∉ B)) ++ if A.getD k n0 ∈ B then [] else [A.getD k n0]) := by
        show _ = _
        rw [take_getD n0 hlt, List.filter_append]
        generalize A.getD k n0 = a
        refine congrArg (fun z => List.filter (fun a => decide (a ∉ B)) (A.take k) ++ z) ?_
        by_cases h : a ∈ B
        · rw [if_pos h]; simp [h]
        · rw [if_neg h]; simp [h]
      have hfl : ((A.take k).filter fun a => decide (a ∉ B)).length ≤ 100000 := by
        refine Nat.le_trans (List.length_filter_le _ _) ?_
        rw [List.length_take]; omega
      generalize (A.take k).filter (fun a => decide (a ∉ B)) = F at HO HTK hfl
      generalize A.getD k n0 = a at HC HTK c0 c1
      have d0 := fun W hb => cellU (w' := W) c0 hb
      have d1 := fun W hb => cellU (w' := W) c1 hb
      obtain ⟨x, y⟩ := a
      simp only at HC c0 c1 d0 d1
      clear c0' c1'
      by_cases hin : (x, y) ∈ B
      · rw [decide_eq_true hin] at HC
        have HC := Lib.hid HC
        have HNX : Hid ((A.take (k + 1)).filter (fun a => decide (a ∉ B)) = F) := by rw [HTK.out, if_pos hin, List.append_nil]; rfl
        clear hin
        go_wp2_with fail
        refine HC.out.mono ?_
        rintro e w3 ⟨rfl, hb3⟩
        have HO3 : Hid (Hold layI w2 46 u5 F w3) := HO.out.below hb3
        clear hb3 d0 d1
        go_wp2
        go_roundg (A.length - (k + 1))
        case measure => omega
        case rel => exact ⟨k + 1, by omega, Nat.le_refl _, by go_num, by rw [HNX.out]; exact HO3.out⟩
      · rw [decide_eq_false hin] at HC
        have HC := Lib.hid HC
        have HNX : Hid ((A.take (k + 1)).filter (fun a => decide (a ∉ B)) = F ++ [(x, y)]) := by rw [HTK.out, if_neg hin]; rfl
        clear hin
        go_wp2_with fail
        refine HC.out.mono ?_
        rintro e w3 ⟨rfl, hb3⟩
        have HO3 : Hid (Hold layI w2 46 u5 F w3) := HO.out.below hb3
        have d0 := d0 _ hb3
        have d1 := d1 _ hb3
        clear hb3
        go_wp2_with (first
          | (at_builtin; refine wpList_append_own _ rfl (.tmp 26) (.tmp 31) 31 rfl w2.heap.size 46 i0 (.agg #[.int .u16 0, .int .u32 0]) 2 8 Try.underlying31 hi hz0 hz1 hz2 rfl (by decide) _ F.length (layI.flat F) rfl (HO3.out.alloc _).1 ⟨w3.heap.size, 0, none⟩ 1 1 [.int .u16 x, .int .u32 y] rfl rfl (cells_new (cs := [.int .u16 x, .int .u32 y])) (layI.one (x, y)) (by unfold maxLen; omega) (by omega) (by have := HO3.out.2.size; simp; omega) ?_))
        intro v' w4 hown' hgrow _
        have HO4 : Hid (Hold layI w2 46 v' (F ++ [(x, y)]) w4) := (HO3.out.alloc _).onto rfl rfl hown' hgrow
        clear hown' hgrow
        go_wp2
        go_roundg (A.length - (k + 1))
        case measure => omega
        case rel => exact ⟨k + 1, by omega, Nat.le_refl _, by go_num, by rw [HNX.out]; exact HO4.out⟩
    · have : k = A.length := by omega
      subst this
      rw [List.take_length, ← HLN.out] at HO
      obtain ⟨p3, c3, rfl, hr3, -, -⟩ := HO.out.gave layI_pos
      have HC := Lib.hid (refof_any (lessN l wo) p3 c3 wr hr3 HLR.out (by have := HLL.out; omega))
      have HBw : Hid (Below w.heap.size w wr) := below_step HB2.out HO.out.2
      clear hr3
      go_wp2_with fail
      refine HC.out.mono ?_
      intro e w4 hm4
      have HM : Hid (Made layS 56 w (lessL l wo) e w4) := hm4.rebase HBw.out
      clear hm4
      obtain ⟨v, rfl, hh⟩ := HM.out
      have HH := Lib.hid hh
      clear hh HM
      go_wp2
      go_ret
      exact ⟨_, rfl, HH.out⟩

end Go.Proofs.Ytoadifbbmfaakaa
