
/-
  What the laws' own refs, right, names and same of layer 7 hand back. No conditions beyond what each theorem states.
-/
import Derived.Test.YtoadifbbmfaakaaSpanRef3
namespace Go.Proofs.Ytoadifbbmfaakaa
open Go.ChangeShapes Go.WideShapes Go.ChangeAt Go.RowKit Go.Lib
set_option linter.unusedVariables false
set_option linter.unusedSimpArgs false

set_option maxHeartbeats 3200000 in
theorem refs_any (l : List Sp) (p : Option Addr) (c : Nat) (w : World) (hR : GRow layS w p l) (hl : l.length ≤ 8796093021952) :
    Calls Try.prog 10 #[.slice p l.length c] w (Made layS 56 w l) := by
  obtain ⟨i0, hi, hz0, hz1, hz2⟩ := info_parts infoRS
  have HR := Lib.hid hR
  clear hR
  go_enter Try.func10, Try.ntmps10
  go_wp2
  go_loopg [3, 8] l.length (fun g v i wr => ∃ k : Nat, k ≤ l.length ∧ l.length - k ≤ g ∧ i = .int .i64 (k : Int) ∧ Hold layS w 56 v (l.take k) wr)
  case atStart => exact ⟨0, Nat.zero_le _, by omega, rfl, Hold.nil _ _ _⟩
  case round =>
    obtain ⟨k, hk, hg, rfl, hO⟩ := hrel
    have HO := Lib.hid hO
    clear hO
    by_cases hlt : k < l.length
    · obtain ⟨b, o, rfl, c0', c1', c2'⟩ := srow_at HR.out hlt
      have c0 := cellU c0' HO.out.2
      have c1 := cellU c1' HO.out.2
      have c2 := cellU c2' HO.out.2
      clear c0' c1' c2'
      have HNX := Lib.hid (take_getD s0 hlt)
      generalize l.getD k s0 = s at c0 c1 c2 HNX
      obtain ⟨r, n, m⟩ := s
      simp only at c0 c1 c2
      have hkl : (l.take k).length = k := by rw [List.length_take]; omega
      have HW : Hid (∀ o o', ((wr.alloc o).alloc o').ownsRow w.heap.size 56 3 u3 k (layS.flat (l.take k))) := fun o o' => by
        have := ((HO.out.alloc o).alloc o').1
        rw [hkl] at this; exact this
      go_wp2_with (first
        | (at_builtin; refine wpList_append_own _ rfl (.tmp 12) (.tmp 18) 29 rfl w.heap.size 56 i0 (.agg #[.int .u16 0, .int .u32 0, .int .i64 0]) 3 16 Try.underlying29 hi hz0 hz1 hz2 rfl (by decide) _ k (layS.flat (l.take k)) rfl (HW.out _ _) ⟨wr.heap.size + 1, 0, none⟩ 1 1 [.int .u16 r, .int .u32 n, .int .i64 m] rfl rfl (by have := cells_new (W := wr.alloc (.cells #[.int .u16 r, .int .u32 n, .int .i64 m] 43)) (cs := [.int .u16 r, .int .u32 n, .int .i64 m]) (t := 56); simpa using this) (layS.one (r, n, m)) (by unfold maxLen; omega) (by omega) (by have := HO.out.2.size; simp; omega) ?_))
      intro v' w1 hown' hgrow _
      have HO2 : Hid (Hold layS w 56 v' (l.take (k + 1)) w1) := by
        rw [HNX.out]
        exact ((HO.out.alloc _).alloc _).onto rfl (by rw [hkl]; rfl) hown' hgrow
      clear hown' hgrow hkl
      go_wp2
      go_roundg (l.length - (k + 1))
      case measure => omega
      case rel => exact ⟨k + 1, by omega, Nat.le_refl _, by go_num, HO2.out⟩
    · have : k = l.length := by omega
      subst this
      rw [List.take_length] at HO
      go_wp2
      go_ret
      exact ⟨_, rfl, HO.out⟩

/-- All are spans, with few names, and few. -/
def rightL (l : List Sp) : Bool := l.all rightS && decide (totalL l ≤ 1500) && decide (l.length ≤ 60)
theorem rightL_iff {l : List Sp} : rightL l = true ↔ RightS l ∧ totalL l ≤ 1500 ∧ l.length ≤ 60 := by
  unfold rightL RightS
  simp only [Bool.and_eq_true, List.all_eq_true, decide_eq_true_eq, and_assoc]
theorem rightL_no {l : List Sp} (h : ¬ (RightS l ∧ totalL l ≤ 1500 ∧ l.length ≤ 60)) : rightL l = false := by
  cases hb : rightL l with
  | false => rfl
  | true => exact absurd (rightL_iff.1 hb) h
theorem box_cells (w : World) (r n m : Value) (t : TypeId) : (w.alloc (.cells #[r, n, m] t)).cell? ⟨w.heap.size, 0, none⟩ = some r ∧ (w.alloc (.cells #[r, n, m] t)).cell? ⟨w.heap.size, 1, none⟩ = some n ∧ (w.alloc (.cells #[r, n, m] t)).cell? ⟨w.heap.size, 2, none⟩ = some m := by
  refine ⟨?_, ?_, ?_⟩ <;> rw [cell_of_block (heap_alloc_new w _)] <;> rfl
set_option maxHeartbeats 3200000 in
theorem right_any (l : List Sp) (p : Option Addr) (c : Nat) (w : World) (hR : GRow layS w p l) (hf : FitSs l) (hl : l.length ≤ 8796093021952) :
    Calls Try.prog 9 #[.slice p l.length c] w fun e w' => e = .returned (.bool (rightL l)) ∧ Below w.heap.size w w' := by
  have H := Lib.hid (refs_any l p c w hR hl)
  have HFT := Lib.hid hf
  clear hR hf
  go_enter Try.func9, Try.ntmps9
  go_wp2_with fail
  refine H.out.mono ?_
  intro e w1 hm
  obtain ⟨p1, c1, rfl, hr1, -, -, hb1⟩ := hm.gave layS_pos
  have HR := Lib.hid hr1
  have HB1 := Lib.hid hb1
  clear hm hr1 hb1 H
  go_wp2_with fail
  go_loopg [3, 9] l.length (fun g n i wr => ∃ k : Nat, k ≤ l.length ∧ l.length - k ≤ g ∧ i = .int .i64 (k : Int) ∧ n = .int .i64 (totalL (l.take k) : Int) ∧ totalL (l.take k) ≤ 1500 ∧ k ≤ totalL (l.take k) ∧ RightS (l.take k) ∧ Below w1.heap.size w1 wr)
  case atStart => exact ⟨0, Nat.zero_le _, by omega, rfl, rfl, by simp [totalL, idsL], by omega, (by intro x hx; simp at hx), Below.refl _ _⟩
  case round =>
    obtain ⟨k, hk, hg, rfl, rfl, ht, hkt, hrt, hb⟩ := hrel
    have HB := Lib.hid hb
    have HRT := Lib.hid hrt
    clear hb hrt
    by_cases hlt : k < l.length
    · obtain ⟨b, o, rfl, c0', c1', c2'⟩ := srow_at HR.out hlt
      have c0 := cellU c0' HB.out
      have c1 := cellU c1' HB.out
      have c2 := cellU c2' HB.out
      have hfs := HFT.out.at hlt
      have HTT : Hid (totalL (l.take (k + 1)) = totalL (l.take k) + (l.getD k s0).2.2.toNat) := totalL_take hlt
      have HLE : Hid (totalL (l.take (k + 1)) ≤ totalL l) := totalL_take_le _ _
      have HMEM : Hid (l.getD k s0 ∈ l) := getD_mem s0 hlt
      have HTK : Hid (rightS (l.getD k s0) = true → RightS (l.take (k + 1))) := fun h x hx => by
        rw [take_getD s0 hlt, List.mem_append] at hx
        rcases hx with hx | hx
        · exact HRT.out x hx
        · rw [List.mem_singleton] at hx; rw [hx]; exact h
      generalize l.getD k s0 = s at HTK hfs HTT HMEM c0' c1' c2' c0 c1 c2
      obtain ⟨r, n, m⟩ := s
      simp only at c0 c1 c2 HTT
      clear c0' c1' c2' HRT
      obtain ⟨e0, e1, e2⟩ := box_cells wr (.int .u16 r) (.int .u32 n) (.int .i64 m) 56
      have hbx : Below w1.heap.size w1 (wr.alloc (.cells #[.int .u16 r, .int .u32 n, .int .i64 m] 56)) := below_alloc HB.out _
      have HC := refright_any (r, n, m) (wr.alloc (.cells #[.int .u16 r, .int .u32 n, .int .i64 m] 56)) hfs
      rw [sv_eq] at HC
      simp only at HC
      unfold FitS at hfs
      simp only at hfs
      generalize totalL (l.take k) = T at ht hkt HTT ⊢
      cases hrs : rightS (r, n, m) with
      | false =>
        have HF : Hid (rightL l = false) := rightL_no fun h => by rw [h.1 _ HMEM.out] at hrs; cases hrs
        rw [hrs] at HC
        have HC := Lib.hid HC
        go_wp2_with fail
        refine HC.out.mono ?_
        rintro e w2 ⟨rfl, hb2⟩
        have HB2 : Hid (Below w.heap.size w w2) := below_step (below_step HB1.out hbx) hb2
        clear hb2 hbx e0 e1 e2
        go_wp2
        go_ret
        exact ⟨by rw [HF.out]; rfl, HB2.out⟩
      | true =>
        have hri := rightS_iff.1 hrs
        simp only at hri
        have HRT2 := Lib.hid (HTK.out hrs)
        obtain ⟨M, rfl⟩ : ∃ M : Nat, m = (M : Int) := ⟨m.toNat, by omega⟩
        rw [Int.toNat_natCast] at HTT
        rw [hrs] at HC
        have HC := Lib.hid HC
        clear HTK hrs
        by_cases hbig : 1500 < T + M
        · have HF : Hid (rightL l = false) := rightL_no fun h => by have := HLE.out; have := HTT.out; have := h.2.1; omega
          have hbig' : (1500 : Int) < (T : Int) + (M : Int) := by omega
          go_wp2_with fail
          refine HC.out.mono ?_
          rintro e w2 ⟨rfl, hb2⟩
          have HB2 : Hid (Below w.heap.size w w2) := below_step (below_step HB1.out hbx) hb2
          have f2 := cellU e2 hb2
          clear hb2 hbx e0 e1 e2
          go_wp2
          go_ret
          exact ⟨by rw [HF.out]; rfl, HB2.out⟩
        · have hbig' : (T : Int) + (M : Int) ≤ 1500 := by omega
          have HV : Hid ((totalL (l.take (k + 1)) : Int) = (T : Int) + (M : Int)) := by have := HTT.out; show (totalL (l.take (k + 1)) : Int) = (T : Int) + (M : Int); omega
          go_wp2_with fail
          refine HC.out.mono ?_
          rintro e w2 ⟨rfl, hb2⟩
          have HB2 : Hid (Below w1.heap.size w1 w2) := below_step hbx hb2
          have f2 := cellU e2 hb2
          clear hb2 hbx e0 e1 e2
          go_wp2
          go_roundg (l.length - (k + 1))
          case measure => omega
          case rel => exact ⟨k + 1, by omega, Nat.le_refl _, by go_num, by rw [HV.out], by have := HTT.out; omega, by have := HTT.out; omega, HRT2.out, HB2.out⟩
    · have : k = l.length := by omega
      subst this
      rw [List.take_length] at HRT ht hkt
      have HB2 : Hid (Below w.heap.size w wr) := below_step HB1.out HB.out
      by_cases h60 : l.length ≤ 60
      · have HF : Hid (rightL l = true) := rightL_iff.2 ⟨HRT.out, ht, h60⟩
        have h60' : (l.length : Int) ≤ 60 := by omega
        go_wp2
        go_ret
        exact ⟨by rw [HF.out]; rfl, HB2.out⟩
      · have HF : Hid (rightL l = false) := rightL_no fun h => h60 h.2.2
        have h60' : ¬ (l.length : Int) ≤ 60 := by omega
        go_wp2
        go_ret
        exact ⟨by rw [HF.out]; rfl, HB2.out⟩

set_option maxHeartbeats 1600000 in
theorem names_any (xs ys : List Nm) (p q : Option Addr) (c d : Nat) (w : World) (hR : GRow layI w p xs) (hS : GRow layI w q ys) (hl : xs.length ≤ 4611686018427387904) (hm : ys.length ≤ 4611686018427387904) :
    Calls Try.prog 12 #[.slice p xs.length c, .slice q ys.length d] w fun e w' => e = .returned (.bool (decide (xs = ys))) ∧ Below w.heap.size w w' := by
  have HR := Lib.hid hR
  have HS := Lib.hid hS
  clear hR hS
  by_cases hlen : xs.length = ys.length
  · have HL := Lib.hid hlen
    rw [← hlen]
    clear hlen hm
    go_enter Try.func12, Try.ntmps12
    go_wp2
    go_loopg [13] xs.length (fun g i wr => ∃ k q : Nat, k ≤ xs.length ∧ xs.length - k ≤ g ∧ i = .int .i64 (k : Int) ∧ wr = w.drewN q ∧ ∀ j, j < k → xs.getD j n0 = ys.getD j n0)
    case atStart => exact ⟨0, 0, Nat.zero_le _, by omega, rfl, rfl, fun j hj => by omega⟩
    case round =>
      obtain ⟨k, nq, hk, hg, rfl, rfl, hno⟩ := hrel
      have HN := Lib.hid hno
      clear hno
      by_cases hlt : k < xs.length
      · obtain ⟨b, o, rfl, c0, c1⟩ := irow_at HR.out hlt
        obtain ⟨b', o', rfl, d0, d1⟩ := irow_at HS.out (i := k) (by rw [← HL.out]; exact hlt)
        have HX : Hid (xs = ys → xs.getD k n0 = ys.getD k n0) := fun h => by rw [h]
        generalize hx : xs.getD k n0 = x at c0 c1 HX
        generalize hy : ys.getD k n0 = y at d0 d1 HX
        have B : Hid (xs.getD k n0 = x ∧ ys.getD k n0 = y) := ⟨hx, hy⟩
        clear hx hy
        obtain ⟨x1, x2⟩ := x
        obtain ⟨y1, y2⟩ := y
        simp only at c0 c1 d0 d1
        by_cases h1 : x1 = y1
        · subst h1
          by_cases h2 : x2 = y2
          · subst h2
            go_wp2_with fail
            go_quiet (fail)
            go_wp2
            go_roundg (xs.length - (k + 1))
            case measure => omega
            case rel => exact ⟨k + 1, _, by omega, Nat.le_refl _, by go_num, rfl, fun j hj => by
              by_cases e : j = k
              · subst e; rw [B.out.1, B.out.2]
              · exact HN.out j (by omega)⟩
          · have h2' : (x2 == y2) = false := by simp [h2]
            have HF : Hid (decide (xs = ys) = false) := decide_eq_false fun h => h2 (Prod.mk.inj (HX.out h)).2
            go_wp2_with fail
            go_quiet (fail)
            go_wp2
            go_ret
            exact ⟨by rw [HF.out]; rfl, below_drewN (below_drewN (Below.refl _ _) _) _⟩
        · have h1' : (x1 == y1) = false := by simp [h1]
          have HF : Hid (decide (xs = ys) = false) := decide_eq_false fun h => h1 (Prod.mk.inj (HX.out h)).1
          go_wp2_with fail
          go_quiet (fail)
          go_wp2
          go_ret
          exact ⟨by rw [HF.out]; rfl, below_drewN (below_drewN (Below.refl _ _) _) _⟩
      · have : k = xs.length := by omega
        subst this
        have HF : Hid (decide (xs = ys) = true) := decide_eq_true (ext_getD n0 HL.out HN.out)
        go_wp2
        go_ret
        exact ⟨by rw [HF.out]; rfl, below_drewN (Below.refl _ _) _⟩
  · have hne : (((xs.length : Nat) : Int) == ((ys.length : Nat) : Int)) = false := by rw [beq_eq_false_iff_ne]; omega
    have HF : Hid (decide (xs = ys) = false) := decide_eq_false fun h => hlen (by rw [h])
    go_enter Try.func12, Try.ntmps12
    go_wp2
    go_ret
    exact ⟨by rw [HF.out]; rfl, Below.refl _ _⟩

set_option maxHeartbeats 3200000 in
theorem same_any (xs ys : List Sp) (p q : Option Addr) (c d : Nat) (w : World) (hR : GRow layS w p xs) (hS : GRow layS w q ys) (hl : xs.length ≤ 8796093021952) (hm : ys.length ≤ 8796093021952) :
    Calls Try.prog 17 #[.slice p xs.length c, .slice q ys.length d] w fun e w' => e = .returned (.bool (decide (xs = ys))) ∧ Below w.heap.size w w' := by
  have H := Lib.hid (refs_any xs p c w hR hl)
  have HS := Lib.hid hS
  clear hR hS
  by_cases hlen : xs.length = ys.length
  · have HL := Lib.hid hlen
    rw [← hlen]
    clear hlen hm
    go_enter Try.func17, Try.ntmps17
    go_wp2_with fail
    refine H.out.mono ?_
    intro e w1 hm
    obtain ⟨p1, c1, rfl, hr1, -, -, hb1⟩ := hm.gave layS_pos
    have HR := Lib.hid hr1
    have HB1 := Lib.hid hb1
    clear hm hr1 hb1 H
    go_wp2_with fail
    go_loopg [15] xs.length (fun g i wr => ∃ k : Nat, k ≤ xs.length ∧ xs.length - k ≤ g ∧ i = .int .i64 (k : Int) ∧ Below w1.heap.size w1 wr ∧ ∀ j, j < k → xs.getD j s0 = ys.getD j s0)
    case atStart => exact ⟨0, Nat.zero_le _, by omega, rfl, Below.refl _ _, fun j hj => by omega⟩
    case round =>
      obtain ⟨k, hk, hg, rfl, hb, hno⟩ := hrel
      have HN := Lib.hid hno
      have HB := Lib.hid hb
      clear hno hb
      by_cases hlt : k < xs.length
      · obtain ⟨b, o, rfl, c0', c1', c2'⟩ := srow_at HR.out hlt
        obtain ⟨b', o', rfl, d0', d1', d2'⟩ := srow_at (HS.out.below HB1.out) (i := k) (by rw [← HL.out]; exact hlt)
        have HX : Hid (xs = ys → xs.getD k s0 = ys.getD k s0) := fun h => by rw [h]
        generalize hx : xs.getD k s0 = x at c0' c1' c2' HX
        generalize hy : ys.getD k s0 = y at d0' d1' d2' HX
        have B : Hid (xs.getD k s0 = x ∧ ys.getD k s0 = y) := ⟨hx, hy⟩
        clear hx hy
        obtain ⟨x1, x2, x3⟩ := x
        obtain ⟨y1, y2, y3⟩ := y
        simp only at c0' c1' c2' d0' d1' d2'
        have c0 := cellU c0' HB.out
        have c1 := cellU c1' HB.out
        have c2 := cellU c2' HB.out
        have hbx : Below w1.heap.size w1 (wr.alloc (.cells #[.int .u16 x1, .int .u32 x2, .int .i64 x3] 56)) := below_alloc HB.out _
        have d0 := cellU d0' hbx
        have d1 := cellU d1' hbx
        have d2 := cellU d2' hbx
        obtain ⟨e0, e1, e2⟩ := box_cells wr (.int .u16 x1) (.int .u32 x2) (.int .i64 x3) 56
        have HBX := Lib.hid hbx
        have HF : Hid (¬ (x1, x2, x3) = (y1, y2, y3) → decide (xs = ys) = false) := fun h => decide_eq_false fun h' => h (HX.out h')
        have HY : Hid ((x1, x2, x3) = (y1, y2, y3) → ∀ j, j < k + 1 → xs.getD j s0 = ys.getD j s0) := fun h j hj => by
          by_cases e : j = k
          · subst e; rw [B.out.1, B.out.2, h]
          · exact HN.out j (by omega)
        clear c0' c1' c2' d0' d1' d2' hbx
        by_cases h1 : x1 = y1
        · subst h1
          by_cases h2 : x2 = y2
          · subst h2
            by_cases h3 : x3 = y3
            · subst h3
              have HYY := Lib.hid (HY.out rfl)
              go_wp2_with fail
              go_quiet (fail)
              go_wp2
              go_roundg (xs.length - (k + 1))
              case measure => omega
              case rel => exact ⟨k + 1, by omega, Nat.le_refl _, by go_num, below_drewN HBX.out _, HYY.out⟩
            · have h3' : (x3 == y3) = false := by simp [h3]
              have HFF : Hid (decide (xs = ys) = false) := HF.out (by intro h; exact h3 (Prod.mk.inj (Prod.mk.inj h).2).2)
              go_wp2_with fail
              go_quiet (fail)
              go_wp2
              go_ret
              exact ⟨by rw [HFF.out]; rfl, below_drewN (below_step HB1.out HBX.out) _⟩
          · have h2' : (x2 == y2) = false := by simp [h2]
            have HFF : Hid (decide (xs = ys) = false) := HF.out (by intro h; exact h2 (Prod.mk.inj (Prod.mk.inj h).2).1)
            go_wp2_with fail
            go_quiet (fail)
            go_wp2
            go_ret
            exact ⟨by rw [HFF.out]; rfl, below_drewN (below_step HB1.out HBX.out) _⟩
        · have h1' : (x1 == y1) = false := by simp [h1]
          have HFF : Hid (decide (xs = ys) = false) := HF.out (by intro h; exact h1 (Prod.mk.inj h).1)
          go_wp2_with fail
          go_quiet (fail)
          go_wp2
          go_ret
          exact ⟨by rw [HFF.out]; rfl, below_drewN (below_step HB1.out HBX.out) _⟩
      · have : k = xs.length := by omega
        subst this
        have HF : Hid (decide (xs = ys) = true) := decide_eq_true (ext_getD s0 HL.out HN.out)
        go_wp2
        go_ret
        exact ⟨by rw [HF.out]; rfl, below_step HB1.out HB.out⟩
  · have hne : (((xs.length : Nat) : Int) == ((ys.length : Nat) : Int)) = false := by rw [beq_eq_false_iff_ne]; omega
    have HF : Hid (decide (xs = ys) = false) := decide_eq_false fun h => hlen (by rw [h])
    go_enter Try.func17, Try.ntmps17
    go_wp2
    go_ret
    exact ⟨by rw [HF.out]; rfl, Below.refl _ _⟩

end Go.Proofs.Ytoadifbbmfaakaa
