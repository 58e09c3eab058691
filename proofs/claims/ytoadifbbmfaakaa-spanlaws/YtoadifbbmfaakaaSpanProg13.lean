
/-
  What the program's Less of layer 7 hands back. No conditions beyond what each theorem states.
-/
import Derived.Test.YtoadifbbmfaakaaSpanProg12
namespace Go.Proofs.Ytoadifbbmfaakaa
open Go.ChangeShapes Go.WideShapes Go.ChangeAt Go.RowKit Go.Lib
set_option linter.unusedVariables false
set_option linter.unusedSimpArgs false

def flt (wo : List Sp) (xs : List Nm) : List Nm := xs.filter fun a => decide (a ∉ idsL wo)
theorem flt_in {wo : List Sp} {xs : List Nm} {a : Nm} (h : a ∈ idsL wo) : flt wo (xs ++ [a]) = flt wo xs := by simp [flt, h]
theorem flt_out {wo : List Sp} {xs : List Nm} {a : Nm} (h : a ∉ idsL wo) : flt wo (xs ++ [a]) = flt wo xs ++ [a] := by simp [flt, h]
theorem flt_right {wo : List Sp} {xs : List Nm} (h : RightN xs) : RightN (flt wo xs) := fun a ha => h a (List.mem_filter.1 ha).1
theorem flt_len (wo : List Sp) (xs : List Nm) : (flt wo xs).length ≤ xs.length := List.length_filter_le _ _
theorem idsN_right {r n : Int} {M j : Nat} (hj : j ≤ M) (h1 : 1 ≤ n) (h2 : n + (M : Int) - 1 ≤ 268435456) : RightN (idsN (r, n, (M : Int)) j) := by
  intro a ha
  unfold idsN at ha
  obtain ⟨i, hi, rfl⟩ := List.mem_map.1 ha
  have := List.mem_range.1 hi
  exact rightN_iff.2 ⟨by simp only; omega, by simp only; omega⟩
theorem RightN.append {xs ys : List Nm} (h1 : RightN xs) (h2 : RightN ys) : RightN (xs ++ ys) := fun a ha => (List.mem_append.1 ha).elim (h1 a) (h2 a)

set_option maxHeartbeats 6400000 in
set_option maxRecDepth 20000 in
theorem less_spec : LessSpec := by
  intro l wo p q c d w hR hS hr hs hf hg hl hm ht hu hc hp hd hq
  have H0 := Lib.hid (finder_any wo q d w hS hs hg hm)
  have HR := Lib.hid hR
  have HRT := Lib.hid hr
  have HF := Lib.hid hf
  have HT := Lib.hid ht
  have HLE : Hid (lessL l wo = ofL (flt wo (idsL l))) := rfl
  clear hR hS hr hs hf hg hp hq hc hd ht hu hm
  go_enter Try.func18, Try.ntmps18
  go_wp2_with fail
  refine H0.out.mono ?_
  rintro e w1 ⟨bx, pz, cz, zs, rfl, hcx, hGz, hgood, hzl, hsame, hb1⟩
  have HCX := Lib.hid hcx
  have HGZ := Lib.hid hGz
  have HGO := Lib.hid hgood
  have HSA := Lib.hid hsame
  have HB1 := Lib.hid hb1
  have HR1 := Lib.hid (HR.out.below hb1)
  clear hcx hGz hgood hsame hb1 H0 HR
  go_wp2
  go_loopg [6, 15] l.length (fun g v i wr => ∃ k : Nat, k ≤ l.length ∧ l.length - k ≤ g ∧ i = .int .i64 (k : Int) ∧ Hold layS w1 43 v (ofL (flt wo (idsL (l.take k)))) wr)
  case atStart => exact ⟨0, Nat.zero_le _, by omega, rfl, Hold.nil _ _ _⟩
  case round =>
    obtain ⟨k, hk, hg, rfl, hO⟩ := hrel
    have HO := Lib.hid hO
    clear hO
    by_cases hlt : k < l.length
    · have hri := rightS_iff.1 (HRT.out.at hlt)
      have HTK : Hid (totalL (l.take k) + (l.getD k s0).2.2.toNat ≤ 3000) := by
        show totalL (l.take k) + (l.getD k s0).2.2.toNat ≤ 3000
        rw [← totalL_take hlt]; exact Nat.le_trans (totalL_take_le _ _) HT.out
      have HIT : Hid (idsL (l.take (k + 1)) = idsL (l.take k) ++ idsN (l.getD k s0) (l.getD k s0).2.2.toNat) := idsL_take hlt
      have HSZ := Lib.hid (fun (W : World) => size_any (l.getD k s0) W (HRT.out.at hlt) (HF.out.at hlt))
      have HAR : Hid (RightN (idsL (l.take k))) := rightN_ids (HRT.out.take k)
      obtain ⟨b, o, rfl, c0', c1', c2'⟩ := srow_at HR1.out hlt
      have c0 := cellU c0' HO.out.2
      have c1 := cellU c1' HO.out.2
      have c2 := cellU c2' HO.out.2
      have hfn := (HF.out.at hlt)
      have hkl : (k : Int) < (l.length : Int) := by omega
      unfold FitS at hfn
      unfold sv at HSZ
      generalize (l.getD k s0) = s at c0 c1 c2 hri HTK HIT HSZ hfn
      obtain ⟨r, n, m⟩ := s
      simp only at c0 c1 c2 HSZ hri HTK HIT hfn
      obtain ⟨M, rfl⟩ : ∃ M : Nat, m = (M : Int) := ⟨m.toNat, by omega⟩
      rw [Int.toNat_natCast] at HTK HIT
      have HTL : Hid (totalL (l.take k) = (idsL (l.take k)).length) := rfl
      generalize idsL (l.take k) = A at HO HIT HTL HAR
      rw [HTL.out] at HTK
      obtain ⟨hr1, hr2, hr3, hr4, hr5⟩ := hri
      obtain ⟨hf1, hf2, -, -, -, -⟩ := hfn
      clear c0' c1' c2'
      go_wp2_with fail
      refine (HSZ.out _).mono ?_
      rintro e w3 ⟨rfl, hb3⟩
      have HX3 := Lib.hid (kept_box (heap_alloc_new wr _) hb3)
      have HN3 : Hid (u6.ownBlock ≠ some wr.heap.size) := fun e => by have := (HO.out.1.lt _ e).2; omega
      have HO3 : Hid (Hold layS w1 43 u6 (ofL (flt wo A)) w3) := (HO.out.alloc _).below hb3
      clear hb3 HSZ HO c0 c1 c2
      generalize wr.heap.size = B at HX3 HN3 ⊢
      go_wp2
      go_loopg [6, 21] M (fun g v i wq => ∃ j : Nat, j ≤ M ∧ M - j ≤ g ∧ i = .int .i64 (j : Int) ∧ Hold layS w1 43 v (ofL (flt wo (A ++ idsN (r, n, (M : Int)) j))) wq ∧ wq.heap[B]? = some (.cells #[.int .u16 r, .int .u32 n, .int .i64 (M : Int)] 43 (0, 0)) ∧ v.ownBlock ≠ some B)
      case atStart => exact ⟨0, Nat.zero_le _, by omega, rfl, by rw [show idsN (r, n, (M : Int)) 0 = [] from rfl, List.append_nil]; exact HO3.out, HX3.out, HN3.out⟩
      case round =>
        clear HO3 HX3 HN3
        obtain ⟨j, hj, hgj, rfl, hO, hX, hN⟩ := hrel
        have HO := Lib.hid hO
        have HX := Lib.hid hX
        have HN := Lib.hid hN
        obtain ⟨d0, d1, d2⟩ := three_cells hX
        clear hO hX hN
        by_cases hjm : j < M
        · have hjm' : (j : Int) < (M : Int) := by omega
          have hll : (A ++ idsN (r, n, (M : Int)) j).length ≤ 3000 := by
            rw [List.length_append, idsN_length]; have := HTK.out; omega
          have HCR : Hid (RightN (flt wo (A ++ idsN (r, n, (M : Int)) j))) := flt_right (HAR.out.append (idsN_right (by omega) hr1 hr5))
          have HNX : Hid (A ++ idsN (r, n, (M : Int)) (j + 1) = (A ++ idsN (r, n, (M : Int)) j) ++ [(r, n + (j : Int))]) := by
            show _ = _
            rw [idsN_succ, List.append_assoc]
          generalize A ++ idsN (r, n, (M : Int)) j = C at HO HNX hll HCR
          have hcl : (flt wo C).length ≤ 3000 := Nat.le_trans (flt_len _ _) hll
          have HP := Lib.hid (fun W => plus_any (r, n) (j : Int) (n + j) W (by simp only; omega))
          have HIO : Hid (∀ W, Below w1.heap.size w1 W → Calls Try.prog 57 #[nv (r, n + (j : Int)), .pointer (some ⟨bx, 0, none⟩)] W fun e w' => e = .returned (.bool (decide ((r, n + (j : Int)) ∈ idsL wo))) ∧ Below W.heap.size W w') := fun W hb => by
            have := isout_any zs (r, n + (j : Int)) pz cz bx W (cellU HCX.out hb) (HGZ.out.below hb) HGO.out (by unfold FitN; simp only; omega) hzl
            rw [decide_eq_decide.2 (HSA.out (r, n + (j : Int)))] at this
            exact this
          unfold nv at HP HIO
          simp only at HP HIO
          go_wp2_with fail
          refine (HP.out _).mono ?_
          rintro e w4 ⟨rfl, hb4⟩
          have HX4 := Lib.hid (kept_box HX.out hb4)
          have HO4 : Hid (Hold layS w1 43 u6 (ofL (flt wo C)) w4) := HO.out.below hb4
          clear hb4 HP HO HX d0 d1 d2
          by_cases hin : (r, n + (j : Int)) ∈ idsL wo
          · rw [decide_eq_true hin] at HIO
            have HNF : Hid (flt wo (A ++ idsN (r, n, (M : Int)) (j + 1)) = flt wo C) := by show _ = _; rw [HNX.out]; exact flt_in hin
            clear hin
            go_wp2_with fail
            refine (HIO.out _ (below_alloc HO4.out.2 _)).mono ?_
            rintro e w5 ⟨rfl, hb5⟩
            have HX5 := Lib.hid (kept_box (kept_box HX4.out (below_alloc (Below.refl _ _) _)) hb5)
            have HO5 : Hid (Hold layS w1 43 u6 (ofL (flt wo (A ++ idsN (r, n, (M : Int)) (j + 1)))) w5) := by rw [HNF.out]; exact (HO4.out.alloc _).below hb5
            clear hb5 HIO HO4 HX4
            go_wp2
            go_roundg (M - (j + 1))
            case measure => omega
            case rel => exact ⟨j + 1, by omega, Nat.le_refl _, by go_num, HO5.out, HX5.out, HN.out⟩
          · rw [decide_eq_false hin] at HIO
            have HNF : Hid (ofL (flt wo (A ++ idsN (r, n, (M : Int)) (j + 1))) = joinL (ofL (flt wo C)) (r, n + (j : Int))) := by
              show _ = _
              rw [HNX.out, flt_out hin]
              exact ofL_join HCR.out _
            clear hin
            go_wp2_with fail
            refine (HIO.out _ (below_alloc HO4.out.2 _)).mono ?_
            rintro e w5 ⟨rfl, hb5⟩
            have HX5 := Lib.hid (kept_box (kept_box HX4.out (below_alloc (Below.refl _ _) _)) hb5)
            have hA5 := two_cells (kept_box (heap_alloc_new w4 _) hb5)
            obtain ⟨f0, f1⟩ := hA5
            have HO5 : Hid (Hold layS w1 43 u6 (ofL (flt wo C)) w5) := (HO4.out.alloc _).below hb5
            have HJ := Lib.hid (join_any (ofL (flt wo C)) (r, n + (j : Int)) u6 w1 w5 HO5.out (right_of HCR.out) (Nat.le_trans (of_len _) (by omega)))
            unfold nv at HJ
            simp only at HJ
            clear hb5 HIO HO4 HX4
            go_wp2_with fail
            refine HJ.out.mono ?_
            rintro e w6 ⟨v', rfl, hH, hK, hW⟩
            rw [← HNF.out] at hH
            have HO6 := Lib.hid hH
            have HX6 : Hid (w6.heap[B]? = some (.cells #[.int .u16 r, .int .u32 n, .int .i64 (M : Int)] 43 (0, 0))) := hK.stays HX5.out HN.out
            have HN6 : Hid (v'.ownBlock ≠ some B) := fun e => by
              rcases hW B e with h | h
              · exact HN.out h
              · have := lt_of_block HX5.out; omega
            clear hH hK hW HJ HO5 HX5 HN f0 f1
            go_wp2
            go_roundg (M - (j + 1))
            case measure => omega
            case rel => exact ⟨j + 1, by omega, Nat.le_refl _, by go_num, HO6.out, HX6.out, HN6.out⟩
        · have : j = M := by omega
          subst this
          have hjm' : ¬ (j : Int) < (j : Int) := by omega
          rw [← HIT.out] at HO
          go_wp2
          go_roundg (l.length - (k + 1))
          case measure => omega
          case rel => exact ⟨k + 1, by omega, Nat.le_refl _, by go_num, HO.out⟩
    · have : k = l.length := by omega
      subst this
      have hkl : ¬ (l.length : Int) < (l.length : Int) := by omega
      rw [List.take_length, ← HLE.out] at HO
      go_wp2
      go_ret
      obtain ⟨p1, c1, rfl, h1, h2, h3⟩ := HO.out.gave layS_pos
      exact ⟨p1, c1, rfl, h1, h2, h3, below_step HB1.out HO.out.2⟩
end Go.Proofs.Ytoadifbbmfaakaa
