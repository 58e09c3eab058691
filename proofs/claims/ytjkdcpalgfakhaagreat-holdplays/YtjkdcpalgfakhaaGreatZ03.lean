/-
  Several texts of one proof, joined: each part says at its head what it proves. No conditions beyond what each theorem states.
-/
import Derived.Lib.QuietBelow
import Derived.Lib.OwnKind
import Derived.Test.YtjkdcpalgfakhaaGreatZ02
/-
  What the document's Plain, Atoms, numbered, placeless and Fit of layer 8 hand back. No conditions beyond what each theorem states.
-/
namespace Go.Proofs.YtjkdcpalgfakhaaGreat
open Go.ChangeShapes Go.WideShapes Go.ChangeAt Go.RowKit Go.Lib
set_option linter.unusedVariables false
set_option linter.unusedSimpArgs false

theorem bytes_getD (s : ByteArray) {k : Nat} (h : k < s.size) : s.data.toList.getD k 0 = s[k] := by
  have h' : k < s.data.toList.length := h
  rw [List.getD_eq_getElem?_getD, List.getElem?_eq_getElem h']
  rfl
theorem plain_walks (s : ByteArray) {k : Nat} (h : k < s.size) (hx : plain1 s[k] = false) : plainB s.data.toList = false := plainB_no (k := k) h (by rw [bytes_getD s h]; exact hx)
set_option maxHeartbeats 1600000 in
theorem refplain_at (s : ByteArray) (hs : s.size ≤ 1000000) (w : World) :
    Calls Tryz.prog 79 #[.string s] w fun e w' => e = .returned (.bool (plainB s.data.toList)) ∧ w' = w := by
  go_enter Tryz.func79, Tryz.ntmps79
  go_wp2
  go_loopg [3] s.size (fun g i wr => ∃ k : Nat, k ≤ s.size ∧ s.size - k ≤ g ∧ i = .int .i64 (k : Int) ∧ plainB (s.data.toList.take k) = true ∧ wr = w)
  case atStart => exact ⟨0, Nat.zero_le _, by omega, rfl, rfl, rfl⟩
  case round =>
    obtain ⟨k, hk, hg, rfl, hp, rfl⟩ := hrel
    have HP := Lib.hid hp
    clear hp
    by_cases hlt : k < s.size
    · have HNX : Hid (plainB (s.data.toList.take (k + 1)) = plain1 s[k]) := by
        show _ = _
        rw [plainB_take (s := s.data.toList) hlt, HP.out, bytes_getD s hlt]
        rfl
      have HNO : Hid (plain1 s[k] = false → plainB s.data.toList = false) := plain_walks s hlt
      have HX : Hid (plain1 s[k] = (s[k].toNat == 10 || (decide (32 ≤ s[k].toNat) && decide (s[k].toNat ≤ 126)))) := rfl
      have hb := s[k].toNat_lt
      clear HP
      by_cases h10 : s[k].toNat = 10
      · have h10' : ((s[k].toNat : Int) == 10) = true := by rw [h10]; rfl
        have HT : Hid (plainB (s.data.toList.take (k + 1)) = true) := by show _ = _; rw [HNX.out, HX.out, h10]; rfl
        go_wp2
        go_roundg (s.size - (k + 1))
        case measure => omega
        case rel => exact ⟨k + 1, by omega, Nat.le_refl _, by go_num, HT.out, rfl⟩
      · have h10' : ((s[k].toNat : Int) == 10) = false := by rw [beq_eq_false_iff_ne]; omega
        by_cases h32 : s[k].toNat < 32
        · have h32' : ((s[k].toNat : Nat) : Int) < 32 := by omega
          have HT : Hid (plainB s.data.toList = false) := HNO.out (by rw [HX.out, decide_eq_false (by omega : ¬ 32 ≤ s[k].toNat)]; simp [h10])
          go_wp2
          go_ret
          exact ⟨by rw [HT.out]; rfl, rfl⟩
        · have h32' : ¬ ((s[k].toNat : Nat) : Int) < 32 := by omega
          by_cases h126 : 126 < s[k].toNat
          · have h126' : 126 < ((s[k].toNat : Nat) : Int) := by omega
            have HT : Hid (plainB s.data.toList = false) := HNO.out (by rw [HX.out, decide_eq_false (by omega : ¬ s[k].toNat ≤ 126)]; simp [h10])
            go_wp2
            go_ret
            exact ⟨by rw [HT.out]; rfl, rfl⟩
          · have h126' : ¬ 126 < ((s[k].toNat : Nat) : Int) := by omega
            have HT : Hid (plainB (s.data.toList.take (k + 1)) = true) := by show _ = _; rw [HNX.out, HX.out, decide_eq_true (by omega : 32 ≤ s[k].toNat), decide_eq_true (by omega : s[k].toNat ≤ 126)]; simp
            go_wp2
            go_roundg (s.size - (k + 1))
            case measure => omega
            case rel => exact ⟨k + 1, by omega, Nat.le_refl _, by go_num, HT.out, rfl⟩
    · have : k = s.size := by omega
      subst this
      have HT : Hid (plainB s.data.toList = true) := by have := HP.out; rwa [List.take_of_length_le (show s.data.toList.length ≤ s.size from Nat.le_refl _)] at this
      go_wp2
      go_ret
      exact ⟨by rw [HT.out]; rfl, rfl⟩
theorem refplain_any (s : List UInt8) (hs : s.length ≤ 1000000) (w : World) :
    Calls Tryz.prog 79 #[.string ⟨s.toArray⟩] w fun e w' => e = .returned (.bool (plainB s)) ∧ w' = w := refplain_at ⟨s.toArray⟩ hs w

theorem seven_cells {w : World} {B : Nat} {a b c d e f g : Value} {t : TypeId} (h : w.heap[B]? = some (.cells #[a, b, c, d, e, f, g] t (0, 0))) : w.cell? ⟨B, 0, none⟩ = some a ∧ w.cell? ⟨B, 1, none⟩ = some b ∧ w.cell? ⟨B, 2, none⟩ = some c ∧ w.cell? ⟨B, 3, none⟩ = some d ∧ w.cell? ⟨B, 4, none⟩ = some e ∧ w.cell? ⟨B, 5, none⟩ = some f ∧ w.cell? ⟨B, 6, none⟩ = some g :=
  ⟨by rw [cell_of_block h]; rfl, by rw [cell_of_block h]; rfl, by rw [cell_of_block h]; rfl, by rw [cell_of_block h]; rfl, by rw [cell_of_block h]; rfl, by rw [cell_of_block h]; rfl, by rw [cell_of_block h]; rfl⟩
/-- What Atoms asks for: spans that are right, where it counts them. -/
def Counts (o : Om) : Prop := o.kind = 3 → RightS o.spans ∧ totalL o.spans ≤ 100000
set_option maxHeartbeats 1600000 in
theorem refatoms_any (o : Om) (p : Option Addr) (c : Nat) (w : World) (hR : GRow layS w p o.spans) (hc : Counts o) (hl : o.spans.length ≤ 100000) (ht : o.text.length ≤ 1000000) :
    Calls Tryz.prog 70 #[ov o p c] w fun e w' => e = .returned (.int .i64 (atomsO o)) ∧ Below w.heap.size w w' := by
  have HI : Hid (o.kind = 3 → ∀ W, Below w.heap.size w W → Calls Tryz.prog 83 #[.slice p o.spans.length c] W (Made layI 105 W (idsL o.spans))) := fun h W hb => refids_any o.spans p c W (hR.below hb) (hc h).1 hl (hc h).2
  have HA : Hid (atomsO o = if o.kind = 1 then (o.text.length : Int) else if o.kind = 3 then (totalL o.spans : Int) else 0) := rfl
  have hsz : (⟨o.text.toArray⟩ : ByteArray).size = o.text.length := rfl
  clear hR hc
  obtain ⟨kind, r, n, num, text, spans, seq⟩ := o
  unfold ov
  simp only at *
  by_cases h1 : kind = 1
  · subst h1
    have HE : Hid (atomsO ⟨1, r, n, num, text, spans, seq⟩ = (text.length : Int)) := by show _ = _; rw [HA.out, if_pos rfl]
    generalize (⟨text.toArray⟩ : ByteArray) = bt at hsz ⊢
    go_enter Tryz.func70, Tryz.ntmps70
    go_wp2
    go_ret
    exact ⟨by rw [HE.out, ← hsz]; rfl, below_alloc (Below.refl _ _) _⟩
  · have h1' : (kind == 1) = false := by rw [beq_eq_false_iff_ne]; exact h1
    by_cases h3 : kind = 3
    · subst h3
      have HE : Hid (atomsO ⟨3, r, n, num, text, spans, seq⟩ = (totalL spans : Int)) := by show _ = _; rw [HA.out, if_neg (by decide), if_pos rfl]
      have HI3 : Hid (∀ W, Below w.heap.size w W → Calls Tryz.prog 83 #[.slice p spans.length c] W (Made layI 105 W (idsL spans))) := HI.out rfl
      clear HI
      go_enter Tryz.func70, Tryz.ntmps70
      go_wp2_with fail
      refine (HI3.out _ (below_alloc (Below.refl _ _) _)).mono ?_
      intro e w1 hm
      obtain ⟨p1, c1, rfl, -, -, -, hb⟩ := hm.gave layI_pos
      have HB : Hid (Below w.heap.size w w1) := below_step (below_alloc (Below.refl _ _) _) hb
      clear hm hb HI3
      go_wp2
      go_ret
      exact ⟨by rw [HE.out]; rfl, HB.out⟩
    · have h3' : (kind == 3) = false := by rw [beq_eq_false_iff_ne]; exact h3
      have HE : Hid (atomsO ⟨kind, r, n, num, text, spans, seq⟩ = 0) := by show _ = _; rw [HA.out, if_neg h1, if_neg h3]
      go_enter Tryz.func70, Tryz.ntmps70
      go_wp2
      go_ret
      exact ⟨by rw [HE.out]; rfl, below_alloc (Below.refl _ _) _⟩
set_option maxHeartbeats 1600000 in
theorem refplaceless_any (o : Om) (p : Option Addr) (c : Nat) (w : World) :
    Calls Tryz.prog 81 #[ov o p c] w fun e w' => e = .returned (.bool (placelessO o)) ∧ Below w.heap.size w w' := by
  obtain ⟨kind, r, n, num, text, spans, seq⟩ := o
  have HE : Hid (placelessO ⟨kind, r, n, num, text, spans, seq⟩ = decide (r = 0 ∧ n = 0 ∧ num = 0)) := rfl
  unfold ov
  simp only
  by_cases h1 : r = 0
  · subst h1
    by_cases h2 : n = 0
    · subst h2
      by_cases h3 : num = 0
      · subst h3
        have HT : Hid (placelessO ⟨kind, 0, 0, 0, text, spans, seq⟩ = true) := by show _ = _; rw [HE.out]; rfl
        go_enter Tryz.func81, Tryz.ntmps81
        go_wp2
        go_ret
        exact ⟨by rw [HT.out]; rfl, below_alloc (Below.refl _ _) _⟩
      · have h3' : (num == 0) = false := by rw [beq_eq_false_iff_ne]; exact h3
        have HT : Hid (placelessO ⟨kind, 0, 0, num, text, spans, seq⟩ = false) := by show _ = _; rw [HE.out]; exact decide_eq_false fun h => h3 h.2.2
        go_enter Tryz.func81, Tryz.ntmps81
        go_wp2
        go_ret
        exact ⟨by rw [HT.out]; rfl, below_alloc (Below.refl _ _) _⟩
    · have h2' : (n == 0) = false := by rw [beq_eq_false_iff_ne]; exact h2
      have HT : Hid (placelessO ⟨kind, 0, n, num, text, spans, seq⟩ = false) := by show _ = _; rw [HE.out]; exact decide_eq_false fun h => h2 h.2.1
      go_enter Tryz.func81, Tryz.ntmps81
      go_wp2
      go_ret
      exact ⟨by rw [HT.out]; rfl, below_alloc (Below.refl _ _) _⟩
  · have h1' : (r == 0) = false := by rw [beq_eq_false_iff_ne]; exact h1
    have HT : Hid (placelessO ⟨kind, r, n, num, text, spans, seq⟩ = false) := by show _ = _; rw [HE.out]; exact decide_eq_false fun h => h1 h.1
    go_enter Tryz.func81, Tryz.ntmps81
    go_wp2
    go_ret
    exact ⟨by rw [HT.out]; rfl, below_alloc (Below.refl _ _) _⟩
/-- May the anchor be? -/
def anchB (o : Om) : Bool := decide (o.r = 0 ∧ o.n = 0 ∨ 1 ≤ o.n ∧ o.n ≤ 268435456)
theorem numbered_no {o : Om} (h : anchB o = false) : numberedO o = false := by
  have h := of_decide_eq_false h
  exact decide_eq_false fun g => h g.1
theorem numbered_yes {o : Om} (h : anchB o = true) : numberedO o = decide (1 ≤ o.num ∧ o.num ≤ 268435456 ∧ o.num + atomsO o - 1 ≤ 268435456) := by
  have h := of_decide_eq_true h
  unfold numberedO
  apply decide_eq_decide.2
  exact ⟨fun g => g.2, fun g => ⟨h, g⟩⟩
end Go.Proofs.YtjkdcpalgfakhaaGreat
/-
  What the document's numbered and Fit of layer 8 hand back. No conditions beyond what each theorem states.
-/
namespace Go.Proofs.YtjkdcpalgfakhaaGreat
open Go.ChangeShapes Go.WideShapes Go.ChangeAt Go.RowKit Go.Lib
set_option linter.unusedVariables false
set_option linter.unusedSimpArgs false

theorem beq_no {a b : Int} (h : ¬ a = b) : (a == b) = false := by rw [beq_eq_false_iff_ne]; exact h
set_option maxHeartbeats 6400000 in
theorem refnumbered_any (o : Om) (p : Option Addr) (c : Nat) (w : World) (hf : FitOm o) (hR : GRow layS w p o.spans) (hc : Counts o) (hl : o.spans.length ≤ 100000) (ht : o.text.length ≤ 1000000) :
    Calls Tryz.prog 80 #[ov o p c] w fun e w' => e = .returned (.bool (numberedO o)) ∧ Below w.heap.size w w' := by
  have HA : Hid (∀ W, Below w.heap.size w W → Calls Tryz.prog 70 #[ov o p c] W fun e w' => e = .returned (.int .i64 (atomsO o)) ∧ Below W.heap.size W w') := fun W hb => refatoms_any o p c W (hR.below hb) hc hl ht
  have hat : 0 ≤ atomsO o ∧ atomsO o ≤ 1000000 := by
    unfold atomsO
    by_cases h1 : o.kind = 1
    · rw [if_pos h1]; omega
    · rw [if_neg h1]
      by_cases h3 : o.kind = 3
      · rw [if_pos h3]; have := (hc h3).2; omega
      · rw [if_neg h3]; omega
  have HY := Lib.hid (@numbered_yes o)
  have HNO := Lib.hid (@numbered_no o)
  have HAN : Hid (anchB o = decide (o.r = 0 ∧ o.n = 0 ∨ 1 ≤ o.n ∧ o.n ≤ 268435456)) := rfl
  unfold FitOm at hf
  obtain ⟨kind, r, n, num, text, spans, seq⟩ := o
  generalize atomsO ⟨kind, r, n, num, text, spans, seq⟩ = A at HA hat HY
  generalize hNU : numberedO ⟨kind, r, n, num, text, spans, seq⟩ = NU at HY HNO
  unfold ov at HA ⊢
  simp only at HA HY HNO HAN hf ⊢
  obtain ⟨_, _, hr0, hr1, hn0, hn1, hm0, hm1, _, _, _⟩ := hf
  have HNU := Lib.hid hNU
  clear hNU hR hc
  generalize (⟨text.toArray⟩ : ByteArray) = bt at HA ⊢
  have HX : Hid ((w.alloc (.cells #[.int .i64 kind, .int .u16 r, .int .u32 n, .int .u32 num, .string bt, .slice p spans.length c, .int .u32 seq] 108)).heap[w.heap.size]? = some (.cells #[.int .i64 kind, .int .u16 r, .int .u32 n, .int .u32 num, .string bt, .slice p spans.length c, .int .u32 seq] 108 (0, 0))) := heap_alloc_new w _
  cases han : anchB ⟨kind, r, n, num, text, spans, seq⟩ with
  | false =>
    have hno := HNO.out han
    rw [HAN.out] at han
    have han := of_decide_eq_false han
    subst hno
    clear HA HY HNO HAN HX hat
    have : r = 0 ∧ 268435456 < n ∨ ¬ r = 0 ∧ n = 0 ∨ ¬ r = 0 ∧ 268435456 < n := by omega
    clear han
    rcases this with ⟨rfl, h⟩ | ⟨hr, rfl⟩ | ⟨hr, h⟩
    · have h' : (n == 0) = false := beq_no (by omega)
      go_enter Tryz.func80, Tryz.ntmps80
      go_wp2
      go_ret
      exact ⟨by first | rfl | (rw [HNU.out]; rfl), below_alloc (Below.refl _ _) _⟩
    · have hr' : (r == 0) = false := beq_no hr
      go_enter Tryz.func80, Tryz.ntmps80
      go_wp2
      go_ret
      exact ⟨by first | rfl | (rw [HNU.out]; rfl), below_alloc (Below.refl _ _) _⟩
    · have hr' : (r == 0) = false := beq_no hr
      go_enter Tryz.func80, Tryz.ntmps80
      go_wp2
      go_ret
      exact ⟨by first | rfl | (rw [HNU.out]; rfl), below_alloc (Below.refl _ _) _⟩
  | true =>
    have hyes := HY.out han
    rw [HAN.out] at han
    have han := of_decide_eq_true han
    clear HY HNO HAN
    have HYE := Lib.hid hyes
    clear hyes
    have HA2 : Hid (∀ (B : Obj) dd os, Calls Tryz.prog 70 #[.agg #[.int .i64 kind, .int .u16 r, .int .u32 n, .int .u32 num, .string bt, .slice p spans.length c, .int .u32 seq]] (Go.Sort.grow (redrawn (w.alloc B) dd) os) fun e w' => e = .returned (.int .i64 A) ∧ Below (Go.Sort.grow (redrawn (w.alloc B) dd) os).heap.size (Go.Sort.grow (redrawn (w.alloc B) dd) os) w') := fun B dd os => HA.out _ (below_step (below_alloc (Below.refl _ _) _) (below_regrown _ _ _))
    obtain ⟨s0, s1, s2, s3, s4, s5, s6⟩ := seven_cells HX.out
    have t0 := cell_regrown s0
    have t1 := cell_regrown s1
    have t2 := cell_regrown s2
    have t3 := cell_regrown s3
    have t4 := cell_regrown s4
    have t5 := cell_regrown s5
    have t6 := cell_regrown s6
    clear HX HA s0 s1 s2 s3 s4 s5 s6
    have hsum : IntKind.i64.wrap (num + A) = num + A := by rw [IntKind.wrap_i64]; omega
    have hsub : IntKind.i64.wrap (num + A - 1) = num + A - 1 := by rw [IntKind.wrap_i64]; omega
    have : r = 0 ∧ n = 0 ∨ r = 0 ∧ (n == 0) = false ∧ ¬ n < 1 ∧ ¬ 268435456 < n ∨ (r == 0) = false ∧ ¬ n < 1 ∧ ¬ 268435456 < n := by
      by_cases h : r = 0
      · by_cases h2 : n = 0
        · exact Or.inl ⟨h, h2⟩
        · exact Or.inr (Or.inl ⟨h, beq_no h2, by omega, by omega⟩)
      · exact Or.inr (Or.inr ⟨beq_no h, by omega, by omega⟩)
    clear han
    by_cases m1 : 1 ≤ num
    · by_cases m2 : num ≤ 268435456
      · have HF : Hid (NU = decide (num + A - 1 ≤ 268435456)) := by
          show _ = _
          rw [HYE.out]; apply decide_eq_decide.2; omega
        clear HYE
        rcases this with ⟨rfl, rfl⟩ | ⟨rfl, hn2, hn3, hn4⟩ | ⟨hr2, hn3, hn4⟩
        all_goals
          go_enter Tryz.func80, Tryz.ntmps80
          go_wp2_with fail
          refine wp_region_quiet_below (by kernel_rfl) (by kernel_rfl) ?_
          repeat (go_big_quiet_step ((go_at_call 70; exact Calls.regrown_of (HA2.out _ _ _))))
          refine wpQuiet_nil ?_
          intro _ hw'
          obtain ⟨⟨dq, osq⟩, hw''⟩ := hw'
          subst hw''
          go_wp2
          go_ret
          exact ⟨by first | (rw [HF.out]; rfl) | (rw [HNU.out, HF.out]; rfl), below_step (below_alloc (Below.refl _ _) _) (below_regrown _ _ _)⟩
      · have m2' : decide (num ≤ 268435456) = false := decide_eq_false m2
        have HF : Hid (NU = false) := by
          show _ = _
          rw [HYE.out]; exact decide_eq_false (by omega)
        clear HYE
        rcases this with ⟨rfl, rfl⟩ | ⟨rfl, hn2, hn3, hn4⟩ | ⟨hr2, hn3, hn4⟩
        all_goals
          go_enter Tryz.func80, Tryz.ntmps80
          go_wp2_with fail
          refine wp_region_quiet_below (by kernel_rfl) (by kernel_rfl) ?_
          repeat (go_big_quiet_step (fail))
          refine wpQuiet_nil ?_
          intro _ hw'
          obtain ⟨⟨dq, osq⟩, hw''⟩ := hw'
          subst hw''
          go_wp2
          go_ret
          exact ⟨by first | (rw [HF.out]; rfl) | (rw [HNU.out, HF.out]; rfl), below_step (below_alloc (Below.refl _ _) _) (below_regrown _ _ _)⟩
    · have m1' : decide (1 ≤ num) = false := decide_eq_false m1
      have HF : Hid (NU = false) := by
        show _ = _
        rw [HYE.out]; exact decide_eq_false (by omega)
      clear HYE
      rcases this with ⟨rfl, rfl⟩ | ⟨rfl, hn2, hn3, hn4⟩ | ⟨hr2, hn3, hn4⟩
      all_goals
        go_enter Tryz.func80, Tryz.ntmps80
        go_wp2_with fail
        refine wp_region_quiet_below (by kernel_rfl) (by kernel_rfl) ?_
        repeat (go_big_quiet_step (fail))
        refine wpQuiet_nil ?_
        intro _ hw'
        obtain ⟨⟨dq, osq⟩, hw''⟩ := hw'
        subst hw''
        go_wp2
        go_ret
        exact ⟨by first | (rw [HF.out]; rfl) | (rw [HNU.out, HF.out]; rfl), below_step (below_alloc (Below.refl _ _) _) (below_regrown _ _ _)⟩
end Go.Proofs.YtjkdcpalgfakhaaGreat
/-
  What the document's Fit of layer 8 hands back. No conditions beyond what each theorem states.
-/
namespace Go.Proofs.YtjkdcpalgfakhaaGreat
open Go.ChangeShapes Go.WideShapes Go.ChangeAt Go.RowKit Go.Lib
set_option linter.unusedVariables false
set_option linter.unusedSimpArgs false

theorem text_no {s : List UInt8} (h : s ≠ []) : ((⟨s.toArray⟩ : ByteArray).toList == (⟨#[]⟩ : ByteArray).toList) = false ∧ ((⟨s.toArray⟩ : ByteArray).toList == ([] : List UInt8)) = false ∧ ¬ (⟨s.toArray⟩ : ByteArray).toList = [] ∧ (⟨s.toArray⟩ : ByteArray).toList.isEmpty = false := by
  have e : (⟨s.toArray⟩ : ByteArray).toList = s := by rw [ByteArray.toList_eq]
  have e0 : (⟨#[]⟩ : ByteArray).toList = [] := by rw [ByteArray.toList_eq]
  rw [e, e0]
  exact ⟨by rw [beq_eq_false_iff_ne]; exact h, by rw [beq_eq_false_iff_ne]; exact h, h, by simpa using h⟩
/-- What the document's Fit leans on, at this operation. -/
structure FitHyp (o : Om) (p : Option Addr) (c : Nat) (w : World) : Prop where
  fit : FitOm o
  row : GRow layS w p o.spans
  len : o.spans.length ≤ 100000
  text : o.text.length ≤ 1000000
theorem counts_not {o : Om} (h : o.kind ≠ 3) : Counts o := fun e => absurd e h
theorem counts_fit {o : Om} (h : fitL o.spans = 0) : Counts o := fun _ => ⟨(fitL_ok h).1, by have := (fitL_ok h).2.1; omega⟩

set_option maxHeartbeats 6400000 in
theorem reffit1 (o : Om) (p : Option Addr) (c : Nat) (w : World) (hk : o.kind = 1) (H : FitHyp o p c w) :
    Calls Tryz.prog 69 #[ov o p c] w fun e w' => e = .returned (.int .i64 (fitO o)) ∧ Below w.heap.size w w' := by
  have HN : Hid (∀ B, Calls Tryz.prog 80 #[ov o p c] (w.alloc B) fun e w' => e = .returned (.bool (numberedO o)) ∧ Below (w.alloc B).heap.size (w.alloc B) w') := fun B => refnumbered_any o p c _ H.fit (H.row.alloc B) (counts_not (by omega)) H.len H.text
  have HP := Lib.hid (fun W => refplain_any o.text H.text W)
  have HF : Hid (fitO o = if 0 < o.spans.length ∨ o.seq ≠ 0 ∨ o.text = [] ∨ plainB o.text = false then 11 else if 64 < o.text.length then 15 else if numberedO o = false then 11 else 0) := by show _ = _; unfold fitO; rw [if_pos hk]
  have hsz : (⟨o.text.toArray⟩ : ByteArray).size = o.text.length := rfl
  obtain ⟨kind, r, n, num, text, spans, seq⟩ := o
  simp only at hk
  subst hk
  generalize hFO : fitO ⟨1, r, n, num, text, spans, seq⟩ = FO at HF ⊢
  generalize numberedO ⟨1, r, n, num, text, spans, seq⟩ = NU at HN HF
  unfold ov at HN ⊢
  simp only at HN HP HF hsz ⊢
  clear H hFO
  by_cases h1 : 0 < spans.length
  · have h1' : (0 : Int) < (spans.length : Int) := by omega
    have HE : Hid (FO = 11) := by show _ = _; rw [HF.out, if_pos (Or.inl h1)]
    clear HN HP HF
    go_enter Tryz.func69, Tryz.ntmps69
    go_wp2
    go_ret
    exact ⟨by rw [HE.out]; rfl, below_alloc (Below.refl _ _) _⟩
  · have h1' : ¬ (0 : Int) < (spans.length : Int) := by omega
    by_cases h2 : seq = 0
    · subst h2
      by_cases h3 : text = []
      · subst h3
        have HE : Hid (FO = 11) := by show _ = _; rw [HF.out, if_pos (Or.inr (Or.inr (Or.inl rfl)))]
        clear HN HP HF hsz
        go_enter Tryz.func69, Tryz.ntmps69
        go_wp2
        go_ret
        exact ⟨by rw [HE.out]; rfl, below_alloc (Below.refl _ _) _⟩
      · obtain ⟨h3a, h3b, h3c, h3d⟩ := text_no h3
        generalize (⟨text.toArray⟩ : ByteArray) = bt at HN HP hsz h3a h3b h3c h3d ⊢
        cases h4 : plainB text with
        | false =>
          rw [h4] at HP
          have HE : Hid (FO = 11) := by show _ = _; rw [HF.out, if_pos (Or.inr (Or.inr (Or.inr h4)))]
          clear HN HF
          go_enter Tryz.func69, Tryz.ntmps69
          go_wp2_with (first | (go_at_call 79; refine (HP.out _).mono ?_; rintro e w1 ⟨rfl, he⟩; obtain rfl := Eq.symm he))
          go_ret
          exact ⟨by rw [HE.out]; rfl, below_alloc (Below.refl _ _) _⟩
        | true =>
          rw [h4] at HP
          have hno : ¬ (0 < spans.length ∨ (0 : Int) ≠ 0 ∨ text = [] ∨ plainB text = false) := by rw [h4]; rintro (a | a | a | a); exact h1 a; exact a rfl; exact h3 a; cases a
          by_cases h5 : 64 < text.length
          · have HE : Hid (FO = 15) := by show _ = _; rw [HF.out, if_neg hno, if_pos h5]
            have h5' : (64 : Int) < (bt.size : Int) := by omega
            clear HN HF hno
            go_enter Tryz.func69, Tryz.ntmps69
            go_wp2_with (first | (go_at_call 79; refine (HP.out _).mono ?_; rintro e w1 ⟨rfl, he⟩; obtain rfl := Eq.symm he))
            go_ret
            exact ⟨by rw [HE.out]; rfl, below_alloc (Below.refl _ _) _⟩
          · have h5' : ¬ (64 : Int) < (bt.size : Int) := by omega
            have HE : Hid (FO = if NU = false then 11 else 0) := by show _ = _; rw [HF.out, if_neg hno, if_neg h5]
            clear HF hno
            cases NU
            all_goals
              go_enter Tryz.func69, Tryz.ntmps69
              go_wp2_with (first | (go_at_call 79; refine (HP.out _).mono ?_; rintro e w1 ⟨rfl, he⟩; obtain rfl := Eq.symm he) | (go_at_call 80; refine (HN.out _).mono ?_; rintro e w2 ⟨rfl, hb2⟩))
              go_ret
              exact ⟨by rw [HE.out]; rfl, below_step (below_alloc (Below.refl _ _) _) hb2⟩
    · have h2' : (seq == 0) = false := beq_no h2
      have HE : Hid (FO = 11) := by show _ = _; rw [HF.out, if_pos (Or.inr (Or.inl h2))]
      clear HN HP HF
      go_enter Tryz.func69, Tryz.ntmps69
      go_wp2
      go_ret
      exact ⟨by rw [HE.out]; rfl, below_alloc (Below.refl _ _) _⟩
set_option maxHeartbeats 6400000 in
theorem reffit2 (o : Om) (p : Option Addr) (c : Nat) (w : World) (hk : o.kind = 2) (H : FitHyp o p c w) :
    Calls Tryz.prog 69 #[ov o p c] w fun e w' => e = .returned (.int .i64 (fitO o)) ∧ Below w.heap.size w w' := by
  have HL := Lib.hid (fun W => refplaceless_any o p c W)
  have HS : Hid (∀ W, Below w.heap.size w W → Calls Tryz.prog 82 #[.slice p o.spans.length c] W fun e w' => e = .returned (.int .i64 (fitL o.spans)) ∧ Below W.heap.size W w') := fun W hb => reffit_any o.spans p c W (H.row.below hb) H.fit.2.2.2.2.2.2.2.2.1 H.len
  have HF : Hid (fitO o = if o.text ≠ [] ∨ o.seq ≠ 0 ∨ placelessO o = false then 11 else fitL o.spans) := by show _ = _; unfold fitO; rw [if_neg (by omega), if_pos hk]
  obtain ⟨kind, r, n, num, text, spans, seq⟩ := o
  simp only at hk
  subst hk
  generalize fitO ⟨2, r, n, num, text, spans, seq⟩ = FO at HF ⊢
  generalize placelessO ⟨2, r, n, num, text, spans, seq⟩ = PL at HL HF
  unfold ov at HL ⊢
  simp only at HL HS HF ⊢
  clear H
  by_cases h3 : text = []
  · subst h3
    by_cases h2 : seq = 0
    · subst h2
      cases PL with
      | false =>
        have HE : Hid (FO = 11) := by show _ = _; rw [HF.out, if_pos (Or.inr (Or.inr rfl))]
        clear HS HF
        go_enter Tryz.func69, Tryz.ntmps69
        go_wp2_with (first | (go_at_call 81; refine (HL.out _).mono ?_; rintro e w1 ⟨rfl, hb1⟩))
        go_ret
        exact ⟨by rw [HE.out]; rfl, below_step (below_alloc (Below.refl _ _) _) hb1⟩
      | true =>
        have HE : Hid (FO = fitL spans) := by show _ = _; rw [HF.out, if_neg (by simp)]
        clear HF
        generalize fitL spans = fl at HS HE
        go_enter Tryz.func69, Tryz.ntmps69
        go_wp2_with fail
        refine (HL.out _).mono ?_
        rintro e w1 ⟨rfl, hb1⟩
        have HB1 : Hid (Below w.heap.size w w1) := below_step (below_alloc (Below.refl _ _) _) hb1
        obtain ⟨s0, s1, s2, s3, s4, s5, s6⟩ := seven_cells (kept_box (heap_alloc_new w _) hb1)
        clear hb1 HL
        go_wp2_with fail
        refine (HS.out _ HB1.out).mono ?_
        rintro e w2 ⟨rfl, hb2⟩
        have HB2 : Hid (Below w.heap.size w w2) := below_step HB1.out hb2
        clear hb2 HS
        go_wp2
        go_ret
        exact ⟨by rw [HE.out]; rfl, HB2.out⟩
    · have h2' : (seq == 0) = false := beq_no h2
      have HE : Hid (FO = 11) := by show _ = _; rw [HF.out, if_pos (Or.inr (Or.inl h2))]
      clear HL HS HF
      go_enter Tryz.func69, Tryz.ntmps69
      go_wp2
      go_ret
      exact ⟨by rw [HE.out]; rfl, below_alloc (Below.refl _ _) _⟩
  · obtain ⟨h3a, h3b, h3c, h3d⟩ := text_no h3
    generalize (⟨text.toArray⟩ : ByteArray) = bt at HL h3a h3b h3c h3d ⊢
    have HE : Hid (FO = 11) := by show _ = _; rw [HF.out, if_pos (Or.inl h3)]
    clear HL HS HF
    go_enter Tryz.func69, Tryz.ntmps69
    go_wp2
    go_ret
    exact ⟨by rw [HE.out]; rfl, below_alloc (Below.refl _ _) _⟩
set_option maxHeartbeats 6400000 in
theorem reffit3 (o : Om) (p : Option Addr) (c : Nat) (w : World) (hk : o.kind = 3) (H : FitHyp o p c w) :
    Calls Tryz.prog 69 #[ov o p c] w fun e w' => e = .returned (.int .i64 (fitO o)) ∧ Below w.heap.size w w' := by
  have HN : Hid (fitL o.spans = 0 → ∀ W, Below w.heap.size w W → Calls Tryz.prog 80 #[ov o p c] W fun e w' => e = .returned (.bool (numberedO o)) ∧ Below W.heap.size W w') := fun h W hb => refnumbered_any o p c _ H.fit (H.row.below hb) (counts_fit h) H.len H.text
  have HS : Hid (∀ W, Below w.heap.size w W → Calls Tryz.prog 82 #[.slice p o.spans.length c] W fun e w' => e = .returned (.int .i64 (fitL o.spans)) ∧ Below W.heap.size W w') := fun W hb => reffit_any o.spans p c W (H.row.below hb) H.fit.2.2.2.2.2.2.2.2.1 H.len
  have HF : Hid (fitO o = if o.text ≠ [] ∨ o.seq ≠ 0 then 11 else if fitL o.spans ≠ 0 then fitL o.spans else if numberedO o = false then 11 else 0) := by show _ = _; unfold fitO; rw [if_neg (by omega), if_neg (by omega), if_pos hk]
  obtain ⟨kind, r, n, num, text, spans, seq⟩ := o
  simp only at hk
  subst hk
  generalize fitO ⟨3, r, n, num, text, spans, seq⟩ = FO at HF ⊢
  generalize numberedO ⟨3, r, n, num, text, spans, seq⟩ = NU at HN HF
  unfold ov at HN ⊢
  simp only at HN HS HF ⊢
  clear H
  by_cases h3 : text = []
  · subst h3
    by_cases h2 : seq = 0
    · subst h2
      generalize fitL spans = fl at HS HF HN
      by_cases h4 : fl = 0
      · subst h4
        have HE : Hid (FO = if NU = false then 11 else 0) := by show _ = _; rw [HF.out, if_neg (by simp), if_neg (by simp)]
        have HN2 : Hid (∀ W, Below w.heap.size w W → Calls Tryz.prog 80 #[.agg #[.int .i64 3, .int .u16 r, .int .u32 n, .int .u32 num, .string ⟨#[]⟩, .slice p spans.length c, .int .u32 0]] W fun e w' => e = .returned (.bool NU) ∧ Below W.heap.size W w') := HN.out rfl
        clear HF HN
        cases NU
        all_goals
          go_enter Tryz.func69, Tryz.ntmps69
          go_wp2_with fail
          refine (HS.out _ (below_alloc (Below.refl _ _) _)).mono ?_
          rintro e w1 ⟨rfl, hb1⟩
          have HB1 : Hid (Below w.heap.size w w1) := below_step (below_alloc (Below.refl _ _) _) hb1
          obtain ⟨s0, s1, s2, s3, s4, s5, s6⟩ := seven_cells (kept_box (heap_alloc_new w _) hb1)
          clear hb1 HS
          go_wp2_with fail
          refine (HN2.out _ HB1.out).mono ?_
          rintro e w2 ⟨rfl, hb2⟩
          have HB2 : Hid (Below w.heap.size w w2) := below_step HB1.out hb2
          clear hb2 HN2
          go_wp2
          go_ret
          exact ⟨by rw [HE.out]; rfl, HB2.out⟩
      · have h4' : (fl == 0) = false := beq_no h4
        have HE : Hid (FO = fl) := by show _ = _; rw [HF.out, if_neg (by simp), if_pos h4]
        clear HF HN
        go_enter Tryz.func69, Tryz.ntmps69
        go_wp2_with fail
        refine (HS.out _ (below_alloc (Below.refl _ _) _)).mono ?_
        rintro e w1 ⟨rfl, hb1⟩
        have HB1 : Hid (Below w.heap.size w w1) := below_step (below_alloc (Below.refl _ _) _) hb1
        clear hb1 HS
        go_wp2
        go_ret
        exact ⟨by rw [HE.out]; rfl, HB1.out⟩
    · have h2' : (seq == 0) = false := beq_no h2
      have HE : Hid (FO = 11) := by show _ = _; rw [HF.out, if_pos (Or.inr h2)]
      clear HN HS HF
      go_enter Tryz.func69, Tryz.ntmps69
      go_wp2
      go_ret
      exact ⟨by rw [HE.out]; rfl, below_alloc (Below.refl _ _) _⟩
  · obtain ⟨h3a, h3b, h3c, h3d⟩ := text_no h3
    generalize (⟨text.toArray⟩ : ByteArray) = bt at HN h3a h3b h3c h3d ⊢
    have HE : Hid (FO = 11) := by show _ = _; rw [HF.out, if_pos (Or.inl h3)]
    clear HN HS HF
    go_enter Tryz.func69, Tryz.ntmps69
    go_wp2
    go_ret
    exact ⟨by rw [HE.out]; rfl, below_alloc (Below.refl _ _) _⟩
set_option maxHeartbeats 6400000 in
theorem reffit4 (o : Om) (p : Option Addr) (c : Nat) (w : World) (hk : o.kind = 4 ∨ o.kind = 5) (H : FitHyp o p c w) :
    Calls Tryz.prog 69 #[ov o p c] w fun e w' => e = .returned (.int .i64 (fitO o)) ∧ Below w.heap.size w w' := by
  have HL := Lib.hid (fun W => refplaceless_any o p c W)
  have HF : Hid (fitO o = if o.text ≠ [] ∨ 0 < o.spans.length ∨ placelessO o = false ∨ o.seq < 1 ∨ 268435456 < o.seq then 11 else 0) := by show _ = _; unfold fitO; rw [if_neg (by omega), if_neg (by omega), if_neg (by omega), if_pos hk]
  obtain ⟨kind, r, n, num, text, spans, seq⟩ := o
  simp only at hk
  generalize fitO ⟨kind, r, n, num, text, spans, seq⟩ = FO at HF ⊢
  generalize placelessO ⟨kind, r, n, num, text, spans, seq⟩ = PL at HL HF
  unfold ov at HL ⊢
  simp only at HL HF ⊢
  clear H
  by_cases h3 : text = []
  · subst h3
    by_cases h1 : 0 < spans.length
    · have h1' : (0 : Int) < (spans.length : Int) := by omega
      have HE : Hid (FO = 11) := by show _ = _; rw [HF.out, if_pos (Or.inr (Or.inl h1))]
      clear HF HL
      rcases hk with rfl | rfl
      all_goals
        go_enter Tryz.func69, Tryz.ntmps69
        go_wp2
        go_ret
        exact ⟨by rw [HE.out]; rfl, below_alloc (Below.refl _ _) _⟩
    · have h1' : ¬ (0 : Int) < (spans.length : Int) := by omega
      cases PL with
      | false =>
        have HE : Hid (FO = 11) := by show _ = _; rw [HF.out, if_pos (Or.inr (Or.inr (Or.inl rfl)))]
        clear HF
        rcases hk with rfl | rfl
        all_goals
          go_enter Tryz.func69, Tryz.ntmps69
          go_wp2_with (first | (go_at_call 81; refine (HL.out _).mono ?_; rintro e w1 ⟨rfl, hb1⟩))
          go_ret
          exact ⟨by rw [HE.out]; rfl, below_step (below_alloc (Below.refl _ _) _) hb1⟩
      | true =>
        have HE : Hid (FO = if seq < 1 ∨ 268435456 < seq then 11 else 0) := by
          show _ = _
          rw [HF.out]
          by_cases h : seq < 1 ∨ 268435456 < seq
          · rw [if_pos h, if_pos (Or.inr (Or.inr (Or.inr h)))]
          · rw [if_neg h, if_neg (by rintro (a | a | a | a); exact a rfl; exact h1 a; cases a; exact h a)]
        clear HF
        by_cases q1 : seq < 1
        · have HE : Hid (FO = 11) := by show _ = _; rw [HE.out, if_pos (Or.inl q1)]
          rcases hk with rfl | rfl
          all_goals
            go_enter Tryz.func69, Tryz.ntmps69
            go_wp2_with (first | (go_at_call 81; refine (HL.out _).mono ?_; rintro e w1 ⟨rfl, hb1⟩; obtain ⟨s0, s1, s2, s3, s4, s5, s6⟩ := seven_cells (kept_box (heap_alloc_new w _) hb1)))
            go_ret
            exact ⟨by rw [HE.out]; rfl, below_step (below_alloc (Below.refl _ _) _) hb1⟩
        · by_cases q2 : 268435456 < seq
          · have HE : Hid (FO = 11) := by show _ = _; rw [HE.out, if_pos (Or.inr q2)]
            rcases hk with rfl | rfl
            all_goals
              go_enter Tryz.func69, Tryz.ntmps69
              go_wp2_with (first | (go_at_call 81; refine (HL.out _).mono ?_; rintro e w1 ⟨rfl, hb1⟩; obtain ⟨s0, s1, s2, s3, s4, s5, s6⟩ := seven_cells (kept_box (heap_alloc_new w _) hb1)))
              go_ret
              exact ⟨by rw [HE.out]; rfl, below_step (below_alloc (Below.refl _ _) _) hb1⟩
          · have HE : Hid (FO = 0) := by show _ = _; rw [HE.out, if_neg (by omega)]
            rcases hk with rfl | rfl
            all_goals
              go_enter Tryz.func69, Tryz.ntmps69
              go_wp2_with (first | (go_at_call 81; refine (HL.out _).mono ?_; rintro e w1 ⟨rfl, hb1⟩; obtain ⟨s0, s1, s2, s3, s4, s5, s6⟩ := seven_cells (kept_box (heap_alloc_new w _) hb1)))
              go_ret
              exact ⟨by rw [HE.out]; rfl, below_step (below_alloc (Below.refl _ _) _) hb1⟩
  · obtain ⟨h3a, h3b, h3c, h3d⟩ := text_no h3
    generalize (⟨text.toArray⟩ : ByteArray) = bt at HL h3a h3b h3c h3d ⊢
    have HE : Hid (FO = 11) := by show _ = _; rw [HF.out, if_pos (Or.inl h3)]
    clear HL HF
    rcases hk with rfl | rfl
    all_goals
      go_enter Tryz.func69, Tryz.ntmps69
      go_wp2
      go_ret
      exact ⟨by rw [HE.out]; rfl, below_alloc (Below.refl _ _) _⟩
set_option maxHeartbeats 1600000 in
theorem reffitE (o : Om) (p : Option Addr) (c : Nat) (w : World) (h1 : o.kind ≠ 1) (h2 : o.kind ≠ 2) (h3 : o.kind ≠ 3) (h4 : ¬ (o.kind = 4 ∨ o.kind = 5)) :
    Calls Tryz.prog 69 #[ov o p c] w fun e w' => e = .returned (.int .i64 (fitO o)) ∧ Below w.heap.size w w' := by
  have HE : Hid (fitO o = 11) := by show _ = _; unfold fitO; rw [if_neg h1, if_neg h2, if_neg h3, if_neg h4]
  obtain ⟨kind, r, n, num, text, spans, seq⟩ := o
  simp only at h1 h2 h3 h4
  have k1 : (kind == 1) = false := beq_no h1
  have k2 : (kind == 2) = false := beq_no h2
  have k3 : (kind == 3) = false := beq_no h3
  have k4 : (kind == 4) = false := beq_no fun h => h4 (Or.inl h)
  have k5 : (kind == 5) = false := beq_no fun h => h4 (Or.inr h)
  unfold ov
  simp only
  clear h1 h2 h3 h4
  go_enter Tryz.func69, Tryz.ntmps69
  go_wp2
  go_ret
  exact ⟨by rw [HE.out]; rfl, below_alloc (Below.refl _ _) _⟩
/-- The document's Fit, of any operation. -/
theorem reffit8_any (o : Om) (p : Option Addr) (c : Nat) (w : World) (H : FitHyp o p c w) :
    Calls Tryz.prog 69 #[ov o p c] w fun e w' => e = .returned (.int .i64 (fitO o)) ∧ Below w.heap.size w w' := by
  by_cases h1 : o.kind = 1
  · exact reffit1 o p c w h1 H
  · by_cases h2 : o.kind = 2
    · exact reffit2 o p c w h2 H
    · by_cases h3 : o.kind = 3
      · exact reffit3 o p c w h3 H
      · by_cases h4 : o.kind = 4 ∨ o.kind = 5
        · exact reffit4 o p c w h4 H
        · exact reffitE o p c w h1 h2 h3 h4
end Go.Proofs.YtjkdcpalgfakhaaGreat
/-
  What the program's join and Of of layer 7 hand back. No conditions beyond what each theorem states.
-/
namespace Go.Proofs.YtjkdcpalgfakhaaGreat
open Go.ChangeShapes Go.WideShapes Go.ChangeAt Go.RowKit Go.Lib
set_option linter.unusedVariables false
set_option linter.unusedSimpArgs false

/-- One name more behind spans. -/
def joinL (A : List Sp) (a : Nm) : List Sp :=
  match A.getLast? with
  | none => A ++ [(a.1, a.2, 1)]
  | some s => if s.2.2 < 1024 ∧ s.1 = a.1 ∧ s.2.1 + s.2.2 = a.2 then A.dropLast ++ [(s.1, s.2.1, s.2.2 + 1)] else A ++ [(a.1, a.2, 1)]
theorem joinL_nil (a : Nm) : joinL [] a = [] ++ [(a.1, a.2, 1)] := rfl
theorem joinL_snoc (D : List Sp) (s : Sp) (a : Nm) : joinL (D ++ [s]) a = if s.2.2 < 1024 ∧ s.1 = a.1 ∧ s.2.1 + s.2.2 = a.2 then D ++ [(s.1, s.2.1, s.2.2 + 1)] else (D ++ [s]) ++ [(a.1, a.2, 1)] := by
  unfold joinL
  rw [List.getLast?_concat, List.dropLast_concat]
theorem ofL_join {xs : List Nm} (hr : RightN xs) (a : Nm) : ofL (xs ++ [a]) = joinL (ofL xs) a := by
  by_cases h0 : xs = []
  · subst h0; rfl
  · have hp : 0 < xs.length := List.length_pos_iff.2 h0
    obtain ⟨D, s, e1, e2⟩ := ofL_next (ids := xs ++ [a]) (k := xs.length) hp (by simp)
    have hT : (xs ++ [a]).take xs.length = xs := by simp
    have hT1 : (xs ++ [a]).take (xs.length + 1) = xs ++ [a] := by rw [List.take_of_length_le (by simp)]
    have hG : (xs ++ [a]).getD xs.length n0 = a := by simp
    have hI := of_inv hr xs.length (Nat.le_refl _)
    unfold OfInv at hI
    rw [List.take_length] at hI
    rw [hT] at e1
    rw [hT1, hG] at e2
    have hL := hI.2.2 D s e1
    have hG1 : (xs ++ [a]).getD (xs.length - 1) n0 = xs.getD (xs.length - 1) n0 := by
      rw [List.getD_eq_getElem?_getD, List.getD_eq_getElem?_getD, List.getElem?_append_left (by omega)]
    rw [e2, e1, joinL_snoc, hG1, ← hL]
    unfold follows
    simp only
    congr 1
    apply propext
    rw [decide_eq_true_eq]
    constructor
    · rintro ⟨⟨h1, h2⟩, h3⟩; exact ⟨h3, h1, by omega⟩
    · rintro ⟨h1, h2, h3⟩; exact ⟨⟨h2, by omega⟩, h1⟩

/-- Where append puts a row of the call's own: where it was, or in a new block. -/
theorem append_where {P : Program} {w : World} (base : Nat) (t ty e : TypeId) (i : TypeInfo) (z : Value) (size bytes : Nat) (ht : P.underlying t = some (.slice e)) (hi : P.info? e = some i) (hz : i.zero = some z)
    (hsize : i.size = size) (hby : i.bytes = bytes) (hzs : z.cells.size = size) (hsz : 0 < size)
    (v : Value) (n : Nat) (xs : List Value) (hown : w.ownsRow base e size v n xs)
    (a : Addr) (m c : Nat) (news : List Value) (hl : news.length = m * size) (hnews : ∀ j u, news[j]? = some u → w.cell? (a.add j) = some u) (h1 : ∀ u ∈ news, u.oneCell' = true)
    (h63 : n + m ≤ maxLen) (hbytes : (n + m) * bytes ≤ 140737488355328) (hm : 0 < m) {v' : Value} {w' : World}
    (hrun : (Builtin.append_ #[t, t] ty #[v, .slice (some a) m c]).run P w = .ok v' w') : ∀ j, v'.ownBlock = some j → v.ownBlock = some j ∨ w.heap.size ≤ j := by
  subst hsize
  subst hby
  have hsmall : n + m ≤ 9223372036854775807 := by simp only [maxLen] at h63; omega
  intro j hj
  rcases hown.2 with ⟨rfl, rfl⟩ | ⟨g, cap, cur, rfl, hbg, hg, hnc, hcm, hcs, htake⟩
  · have hr := run_append_nil (P := P) w t ty e i z ht hi hz a m c news hl hnews (by omega) (by omega) (by have hb := hbytes; simp only [Nat.zero_add] at hb; omega)
    rw [hr] at hrun
    cases hrun
    simp [Value.ownBlock] at hj
    exact Or.inr (by omega)
  · by_cases hroom : n + m ≤ cap
    · have hfit : n * i.size + news.length ≤ cur.size := by rw [hl, hcs, ← Nat.add_mul]; exact Nat.mul_le_mul_right _ hroom
      have hr := run_append_room (P := P) w t ty e i ht hi g n cap cur hg a m c news hl hnews h1 hroom hfit
      rw [hr] at hrun
      cases hrun
      simp [Value.ownBlock] at hj
      exact Or.inl (by simp [Value.ownBlock, hj])
    · have holds : ∀ j u, xs[j]? = some u → w.cell? ((⟨g, 0, none⟩ : Addr).add j) = some u := hown.cells (g := g) rfl
      have hr := run_append_grow (P := P) w t ty e i z ht hi hz ⟨g, 0, none⟩ n cap xs hown.1 holds a m c news hl hnews (by omega) (by omega) (growslice_fits (by omega) hbytes)
      rw [hr] at hrun
      cases hrun
      simp [Value.ownBlock] at hj
      exact Or.inr (by omega)
theorem wpList_append_where {P : Program} (w : World) {ops : Array Oper} {rest : List Oper} {o : Oper} {a : Act} {Q : Exit → Act → World → Prop} (hgd : o.guard = none) (s x : Operand) (t : TypeId)
    (ho : o.op = .call { callee := .builtin .append, args := #[s, x], argTypes := #[t, t] })
    (base : Nat) (e : TypeId) (i : TypeInfo) (z : Value) (size bytes : Nat) (ht : P.underlying t = some (.slice e)) (hi : P.info? e = some i) (hz : i.zero = some z)
    (hsize : i.size = size) (hby : i.bytes = bytes) (hzs : z.cells.size = size) (hsz : 0 < size)
    (v : Value) (n : Nat) (xs : List Value) (hs : a.eval s = v) (hown : w.ownsRow base e size v n xs)
    (ad : Addr) (m c : Nat) (news : List Value) (hx : a.eval x = .slice (some ad) m c) (hl : news.length = m * size) (hnews : ∀ j u, news[j]? = some u → w.cell? (ad.add j) = some u) (h1 : ∀ u ∈ news, u.oneCell' = true)
    (h63 : n + m ≤ maxLen) (hbytes : (n + m) * bytes ≤ 140737488355328) (hbase : base ≤ w.heap.size) (hm : 0 < m)
    (h : ∀ v' w', w'.ownsRow base e size v' (n + m) (xs ++ news) → w.grownBy w' v.ownBlock → (∀ j, v'.ownBlock = some j → v.ownBlock = some j ∨ w.heap.size ≤ j) → wpList P ops Q rest (a.put o.dst v') w') : wpList P ops Q (o :: rest) a w :=
  wpList_plain hgd fun _ hK => by
    obtain ⟨v', w', hr, h2, h3, h4⟩ := run_append_own (P := P) w base t o.type e i z size bytes ht hi hz hsize hby hzs hsz v n xs hown ad m c news hl hnews h1 h63 hbytes hbase
    have h5 := append_where base t o.type e i z size bytes ht hi hz hsize hby hzs hsz v n xs hown ad m c news hl hnews h1 h63 hbytes hm hr
    unfold Oper.wp execOp
    simp only [ho, resolve, invoke, builtin, Sem.run_bind, Sem.run_pure, Result.andThen_ok, List.map_toArray, List.map_cons, List.map_nil, hs, hx, hr]
    exact hK _ _ (h v' w' h2 h3 h5)

end Go.Proofs.YtjkdcpalgfakhaaGreat
/-
  What the program's join of layer 7 hands back. No conditions beyond what each theorem states.
-/
namespace Go.Proofs.YtjkdcpalgfakhaaGreat
open Go.ChangeShapes Go.WideShapes Go.ChangeAt Go.RowKit Go.Lib
set_option linter.unusedVariables false
set_option linter.unusedSimpArgs false

/-- What join leaves: the row with one name more, all else as it was. -/
def Joined (w0 : World) (v : Value) (A : List Sp) (a : Nm) (w : World) (e : Ending) (w' : World) : Prop :=
  ∃ v', e = .returned v' ∧ Hold layS w0 119 v' (joinL A a) w' ∧ Kept (fun i => v.ownBlock = some i) w w' ∧ (∀ j, v'.ownBlock = some j → v.ownBlock = some j ∨ w.heap.size ≤ j)
theorem kept_grown {w w' : World} {v : Value} (h : w.grownBy w' v.ownBlock) : Kept (fun i => v.ownBlock = some i) w w' := ⟨h.os, h.tape, h.output, h.size, fun k hk hn => h.block k hk (fun e => hn e.symm)⟩

theorem joined_append {w0 w W w1 : World} {v v' : Value} {A : List Sp} {x y : Int} (hO : Hold layS w0 119 v A W) (hb : Below w.heap.size w W) (hown : w1.ownsRow w0.heap.size 119 3 v' (A.length + 1) (layS.flat A ++ [.int .u16 x, .int .u32 y, .int .i64 1])) (hg : W.grownBy w1 v.ownBlock) (hw : ∀ j, v'.ownBlock = some j → v.ownBlock = some j ∨ W.heap.size ≤ j) (hj : joinL A (x, y) = A ++ [(x, y, 1)]) : Joined w0 v A (x, y) w (.returned v') w1 := by
  refine ⟨v', rfl, ?_, ?_, ?_⟩
  · rw [hj]; exact hO.onto (ys := [(x, y, 1)]) (by rw [layS.flat_one]; rfl) rfl hown hg
  · exact (Kept.ofBelow (S := fun i => v.ownBlock = some i) hb).trans (T := fun i => v.ownBlock = some i) (kept_grown hg) (fun i _ e => e)
  · intro j hj
    rcases hw j hj with h | h
    · exact Or.inl h
    · have := hb.size; exact Or.inr (by omega)
end Go.Proofs.YtjkdcpalgfakhaaGreat
/-
  What the program's Of, Total and IDs of layer 7 hand back. No conditions beyond what each theorem states.
-/
namespace Go.Proofs.YtjkdcpalgfakhaaGreat
open Go.ChangeShapes Go.WideShapes Go.ChangeAt Go.RowKit Go.Lib
set_option linter.unusedVariables false
set_option linter.unusedSimpArgs false

theorem RightN.take {xs : List Nm} (h : RightN xs) (n : Nat) : RightN (xs.take n) := fun x hx => h x (List.mem_of_mem_take hx)
theorem box_grown {w w' : World} {B base size n : Nat} {cs : Array Value} {t e : TypeId} {v : Value} {xs : List Value} (hne : t ≠ e) (h : w.heap[B]? = some (.cells cs t (0, 0))) (hown : w.ownsRow base e size v n xs) (hg : w.grownBy w' v.ownBlock) : w'.heap[B]? = some (.cells cs t (0, 0)) := by
  rw [hg.block B (lt_of_block h) (fun ee => ?_)]
  · exact h
  · obtain ⟨c, fz, hc⟩ := Lib.ownsRow_kind hown B ee.symm
    rw [h] at hc
    injection hc with hc
    injection hc with h1 h2 h3
    exact hne h2
end Go.Proofs.YtjkdcpalgfakhaaGreat
/-
  What the document's Bytes and Read of layer 7 hand back. No conditions beyond what each theorem states.
-/
namespace Go.Proofs.YtjkdcpalgfakhaaGreat
open Go.ChangeShapes Go.WideShapes Go.ChangeAt Go.RowKit Go.Lib
set_option linter.unusedVariables false
set_option linter.unusedSimpArgs false

/-- Bytes that the call has made so far. -/
def OB (w : World) (v : Value) (bs : List UInt8) (wr : World) : Prop := wr.ownsRow w.heap.size 5 1 v bs.length (byteCells bs) ∧ Below w.heap.size w wr
theorem OB.below {w wr w1 : World} {v : Value} {bs : List UInt8} (h : OB w v bs wr) (hb : Below wr.heap.size wr w1) : OB w v bs w1 :=
  ⟨h.1.kept (row := none) ⟨hb.os, hb.tape, hb.output, hb.size, fun k hk _ => hb.block k hk⟩ (by cases v.ownBlock <;> simp), below_step h.2 hb⟩
theorem OB.onto {w wr w1 : World} {v v' : Value} {bs cs : List UInt8} (h : OB w v bs wr) (hown : w1.ownsRow w.heap.size 5 1 v' (bs.length + cs.length) (byteCells bs ++ byteCells cs)) (hg : wr.grownBy w1 v.ownBlock) : OB w v' (bs ++ cs) w1 :=
  ⟨by rw [byteCells_append, List.length_append]; exact hown, h.2.grown hg h.2.size (fun j hj => (h.1.lt j hj).1)⟩
theorem flatB_take {l : List Sp} {k : Nat} (h : k < l.length) : (l.take (k + 1)).flatMap bytesS = (l.take k).flatMap bytesS ++ bytesS (l.getD k s0) := by
  rw [take_getD s0 h, List.flatMap_append]; simp
end Go.Proofs.YtjkdcpalgfakhaaGreat
/-
  What the document's Read of layer 7 hands back. No conditions beyond what each theorem states.
-/
namespace Go.Proofs.YtjkdcpalgfakhaaGreat
open Go.ChangeShapes Go.WideShapes Go.ChangeAt Go.RowKit Go.Lib
set_option linter.unusedVariables false
set_option linter.unusedSimpArgs false

/-- Three cells of a block of its own. -/
def B3 (t : TypeId) (V : Nat) (a b c : Int) (w : World) : Prop := w.heap[V]? = some (.cells #[.int .u64 a, .int .u64 b, .int .u64 c] t (0, 0))
theorem B3.new (w : World) (t : TypeId) (a b c : Int) : B3 t w.heap.size a b c (w.alloc (.cells #[.int .u64 a, .int .u64 b, .int .u64 c] t)) := heap_alloc_new w _
theorem B3.alloc {t : TypeId} {V : Nat} {a b c : Int} {w : World} (h : B3 t V a b c w) (o : Obj) : B3 t V a b c (w.alloc o) := by
  have := (below_alloc (Below.refl w.heap.size w) o).block V (lt_of_block h)
  unfold B3 at h ⊢; rw [this]; exact h
theorem B3.cells {t : TypeId} {V : Nat} {a b c : Int} {w : World} (h : B3 t V a b c w) : w.cell? ⟨V, 0, none⟩ = some (.int .u64 a) ∧ w.cell? ⟨V, 1, none⟩ = some (.int .u64 b) ∧ w.cell? ⟨V, 2, none⟩ = some (.int .u64 c) := by
  refine ⟨?_, ?_, ?_⟩ <;> rw [cell_of_block h] <;> rfl
theorem B3.frozen {t : TypeId} {V : Nat} {a b c : Int} {w : World} (h : B3 t V a b c w) (o : Nat) : w.frozen? ⟨V, o, none⟩ = false := frozen_of_block h
theorem B3.set0 {t : TypeId} {V : Nat} {a b c : Int} {w : World} (h : B3 t V a b c w) (x : Int) : B3 t V x b c (w.setCell ⟨V, 0, none⟩ (.int .u64 x)) := by
  unfold B3 at h ⊢; simp [World.setCell, Array.getElem?_modify, h]
theorem B3.set1 {t : TypeId} {V : Nat} {a b c : Int} {w : World} (h : B3 t V a b c w) (x : Int) : B3 t V a x c (w.setCell ⟨V, 1, none⟩ (.int .u64 x)) := by
  unfold B3 at h ⊢; simp [World.setCell, Array.getElem?_modify, h]
theorem B3.set2 {t : TypeId} {V : Nat} {a b c : Int} {w : World} (h : B3 t V a b c w) (x : Int) : B3 t V a b x (w.setCell ⟨V, 2, none⟩ (.int .u64 x)) := by
  unfold B3 at h ⊢; simp [World.setCell, Array.getElem?_modify, h]
theorem B3.other {t : TypeId} {V K o : Nat} {a b c : Int} {w : World} (h : B3 t V a b c w) (hne : V ≠ K) (u : Value) : B3 t V a b c (w.setCell ⟨K, o, none⟩ u) := by
  unfold B3 at h ⊢; rw [Below.heap_setCell _ _ _ _ hne]; exact h
theorem Hold.other {α : Type} {L : Lay α} {w wr : World} {e : TypeId} {v : Value} {xs : List α} (h : Hold L w e v xs wr) {V : Nat} (hv : v.ownBlock ≠ some V) (hb : w.heap.size ≤ V) (o : Nat) (u : Value) : Hold L w e v xs (wr.setCell ⟨V, o, none⟩ u) :=
  ⟨ownsRow_setCell_other h.1 hv u, h.2.setCell (p := ⟨V, o, none⟩) hb u⟩
/-- Three numbers behind so many of them. -/
def St3 (bs : List UInt8) (q0 : Nat) (i : Nat) (a b c q e : Nat) : Prop :=
  match i with
  | 0 => a = 0 ∧ b = 0 ∧ c = 0 ∧ q = q0 ∧ e = 0
  | 1 => (a, q, e) = rdN bs q0 0 65535 ∧ b = 0 ∧ c = 0
  | 2 => ∃ q1 e1, (a, q1, e1) = rdN bs q0 0 65535 ∧ (b, q, e) = rdN bs q1 e1 268435456 ∧ c = 0
  | _ => ∃ q1 e1 q2 e2, (a, q1, e1) = rdN bs q0 0 65535 ∧ (b, q2, e2) = rdN bs q1 e1 268435456 ∧ (c, q, e) = rdN bs q2 e2 1024
theorem St3.done {bs : List UInt8} {q0 i a b c q e : Nat} (h : St3 bs q0 i a b c q e) (hi : i ≤ 3) (hd : i = 3 ∨ e ≠ 0) : rd3 bs q0 0 = (((a : Int), (b : Int), (c : Int)), q, e) := by
  have : i = 0 ∨ i = 1 ∨ i = 2 ∨ i = 3 := by omega
  unfold rd3
  rcases this with rfl | rfl | rfl | rfl
  · obtain ⟨_, _, _, _, rfl⟩ := h
    rcases hd with hd | hd
    · cases hd
    · exact absurd rfl hd
  · obtain ⟨h1, rfl, rfl⟩ := h
    have he : e ≠ 0 := by rcases hd with hd | hd; cases hd; exact hd
    rw [← h1]
    simp only
    rw [rdN_err he]
    simp only
    rw [rdN_err he]
  · obtain ⟨q1, e1, h1, h2, rfl⟩ := h
    have he : e ≠ 0 := by rcases hd with hd | hd; cases hd; exact hd
    rw [← h1]
    simp only
    rw [← h2]
    simp only
    rw [rdN_err he]
  · obtain ⟨q1, e1, q2, e2, h1, h2, h3⟩ := h
    rw [← h1]
    simp only
    rw [← h2]
    simp only
    rw [← h3]
theorem St3.next0 {bs : List UInt8} {q0 a b c q : Nat} (h : St3 bs q0 0 a b c q 0) : St3 bs q0 1 (rdN bs q 0 65535).1 b c (rdN bs q 0 65535).2.1 (rdN bs q 0 65535).2.2 := by
  obtain ⟨rfl, rfl, rfl, rfl, _⟩ := h; exact ⟨rfl, rfl, rfl⟩
theorem St3.next1 {bs : List UInt8} {q0 a b c q : Nat} (h : St3 bs q0 1 a b c q 0) : St3 bs q0 2 a (rdN bs q 0 268435456).1 c (rdN bs q 0 268435456).2.1 (rdN bs q 0 268435456).2.2 := by
  obtain ⟨h1, rfl, rfl⟩ := h; exact ⟨q, 0, h1, rfl, rfl⟩
theorem St3.next2 {bs : List UInt8} {q0 a b c q : Nat} (h : St3 bs q0 2 a b c q 0) : St3 bs q0 3 a b (rdN bs q 0 1024).1 (rdN bs q 0 1024).2.1 (rdN bs q 0 1024).2.2 := by
  obtain ⟨q1, e1, h1, h2, rfl⟩ := h; exact ⟨q1, e1, q, 0, h1, h2, rfl⟩
def ReadAt (bs : List UInt8) (Q : Nat) (w : World) (r : Ending) (w' : World) : Prop := ∃ v, r = .returned (.tuple #[v, .int .i64 ((readS bs Q 0).2.1 : Int), .int .i64 ((readS bs Q 0).2.2 : Int)]) ∧ Hold layS w 136 v (readS bs Q 0).1 w'
def Read7 (bs : List UInt8) (w : World) (r : Ending) (w' : World) : Prop := ∃ v, r = .returned (.tuple #[v, .int .i64 ((readS bs 0 0).2.1 : Int), .int .i64 ((readS bs 0 0).2.2 : Int)]) ∧ Hold layS w 136 v (readS bs 0 0).1 w'

end Go.Proofs.YtjkdcpalgfakhaaGreat
/-
  What the laws' own ref of layer 8 hands back. No conditions beyond what each theorem states.
-/
namespace Go.Proofs.YtjkdcpalgfakhaaGreat
open Go.ChangeShapes Go.WideShapes Go.ChangeAt Go.RowKit Go.Lib
set_option linter.unusedVariables false
set_option linter.unusedSimpArgs false

theorem sz8 : (Tryz.prog.info? 108).map (·.size) = some 7 := by kernel_rfl
theorem box_seven {w : World} {B : Nat} {a b c d e f g a' b' c' d' e' f' g' : Value} {t : TypeId} (h : w.heap[B]? = some (.cells #[a, b, c, d, e, f, g] t (0, 0))) :
    (((((((w.setCell ⟨B, 0, none⟩ a').setCell ⟨B, 1, none⟩ b').setCell ⟨B, 2, none⟩ c').setCell ⟨B, 3, none⟩ d').setCell ⟨B, 4, none⟩ e').setCell ⟨B, 5, none⟩ f').setCell ⟨B, 6, none⟩ g').heap[B]? = some (.cells #[a', b', c', d', e', f', g'] t (0, 0)) := by
  have h1 := heap_setCell_same w B 0 _ t a' h
  have h2 := heap_setCell_same _ B 1 _ t b' h1
  have h3 := heap_setCell_same _ B 2 _ t c' h2
  have h4 := heap_setCell_same _ B 3 _ t d' h3
  have h5 := heap_setCell_same _ B 4 _ t e' h4
  have h6 := heap_setCell_same _ B 5 _ t f' h5
  have h7 := heap_setCell_same _ B 6 _ t g' h6
  simpa using h7
theorem only_set (w : World) (B o : Nat) (u : Value) : Only B w (w.setCell ⟨B, o, none⟩ u) := ⟨rfl, rfl, rfl, by simp [World.setCell], fun k _ hn => Below.heap_setCell _ _ _ _ hn⟩
theorem Only.trans {K : Nat} {a b c : World} (h : Only K a b) (k : Only K b c) : Only K a c := Kept.trans h k (fun _ _ e => e)
theorem only_seven (w : World) (B : Nat) (a b c d e f g : Value) :
    Only B w (((((((w.setCell ⟨B, 0, none⟩ a).setCell ⟨B, 1, none⟩ b).setCell ⟨B, 2, none⟩ c).setCell ⟨B, 3, none⟩ d).setCell ⟨B, 4, none⟩ e).setCell ⟨B, 5, none⟩ f).setCell ⟨B, 6, none⟩ g) :=
  (((((((only_set w B 0 a).trans (only_set _ B 1 b)).trans (only_set _ B 2 c)).trans (only_set _ B 3 d)).trans (only_set _ B 4 e)).trans (only_set _ B 5 f)).trans (only_set _ B 6 g))
/-- A variable of another kind is no part of a row of the call's own. -/
theorem kind_apart {w : World} {B base size n : Nat} {cs : Array Value} {t e : TypeId} {v : Value} {xs : List Value} {f : Nat × Nat} (hne : t ≠ e) (h : w.heap[B]? = some (.cells cs t f)) (hown : w.ownsRow base e size v n xs) : v.ownBlock ≠ some B := by
  intro ee
  obtain ⟨c, fz, hc⟩ := Lib.ownsRow_kind hown B ee
  rw [h] at hc
  injection hc with hc
  injection hc with h1 h2 h3
  exact hne h2
theorem three_blocks8 (w : World) (A B C : Obj) : (((w.alloc A).alloc B).alloc C).heap[w.heap.size + 1]? = some B ∧ (((w.alloc A).alloc B).alloc C).heap[w.heap.size + 2]? = some C := by
  have h2 : ((w.alloc A).alloc B).heap.size = w.heap.size + 2 := by simp
  refine ⟨?_, ?_⟩
  · rw [Go.heap_alloc_old ((w.alloc A).alloc B) C (by omega)]; exact heap_alloc2_new w A B
  · rw [← h2]; exact heap_alloc_new _ _
/-- An operation that a call hands back, with spans of its own. -/
def GaveO (o : Om) (w : World) (e : Ending) (w' : World) : Prop := ∃ p c, e = .returned (ov o p c) ∧ GRow layS w' p o.spans ∧ o.spans.length ≤ c ∧ (p = none → c = 0) ∧ Below w.heap.size w w'

end Go.Proofs.YtjkdcpalgfakhaaGreat
/-
  SpanBytes' function hands back true, for all spans and bytes that lie in memory, if span's Of, Put and Get are as the document says. No conditions beyond what each theorem states.
-/
namespace Go.Proofs.YtjkdcpalgfakhaaGreat
open Go.ChangeShapes Go.WideShapes Go.ChangeAt Go.RowKit Go.Lib
set_option linter.unusedVariables false
set_option linter.unusedSimpArgs false

theorem only_below {w w1 w2 : World} {K : Nat} (h : Below w.heap.size w w1) (hk : Only K w1 w2) (hK : w.heap.size ≤ K) : Below w.heap.size w w2 := h.trans (hk.below h.size (by rintro k rfl; exact hK))
theorem grow_lt {α : Type} {L : Lay α} {w : World} {p : Option Addr} {xs : List α} (h : GRow L w p xs) (hx : 0 < (L.flat xs).length) : ∀ q, p = some q → q.block < w.heap.size := by
  intro q hq
  obtain ⟨b, o, e, hc⟩ := h 0 _ (List.getElem?_eq_getElem hx)
  rw [hq] at e
  cases e
  exact block_lt_of_cell hc
end Go.Proofs.YtjkdcpalgfakhaaGreat
/-
  What the laws of layer 8 lean on: what op's calls hand back (to be proved of the landed code), and the laws' own anchor under that. No conditions beyond what each theorem states.
-/
namespace Go.Proofs.YtjkdcpalgfakhaaGreat
open Go.ChangeShapes Go.WideShapes Go.ChangeAt Go.RowKit Go.Lib
set_option linter.unusedVariables false
set_option linter.unusedSimpArgs false

/-- An operation, written. -/
def bytesO (o : Om) : List UInt8 := encN o.kind.toNat ++ (if o.kind = 1 ∨ o.kind = 3 then encN o.r.toNat ++ (encN o.n.toNat ++ encN o.num.toNat) else []) ++ (if o.kind = 1 then encT o.text else if o.kind = 2 ∨ o.kind = 3 then bytesL o.spans else encN o.seq.toNat)
/-- An operation that comes in: values of their kinds, its spans behind their address. -/
structure InO (o : Om) (p : Option Addr) (c : Nat) (w : World) : Prop where
  fit : FitOm o
  row : GRow layS w p o.spans
  cap : o.spans.length ≤ c
  nil : p = none → c = 0
theorem InO.below {o : Om} {p : Option Addr} {c : Nat} {w w' : World} (h : InO o p c w) (hb : Below w.heap.size w w') : InO o p c w' := ⟨h.fit, h.row.below hb, h.cap, h.nil⟩
/-- The document's example. -/
def ex8 : Om := ⟨1, 0, 0, 5, [104, 105], [], 0⟩
theorem ex8_fits : fitO ex8 = 0 := by decide
theorem ex8_bytes : bytesO ex8 = [1, 0, 0, 5, 2, 104, 105] := by
  show encN 1 ++ (encN 0 ++ (encN 0 ++ encN 5)) ++ (encN 2 ++ [104, 105]) = _
  rw [encN_small (n := 1) (by decide), encN_small (n := 0) (by decide), encN_small (n := 5) (by decide), encN_small (n := 2) (by decide)]
  rfl
end Go.Proofs.YtjkdcpalgfakhaaGreat
/-
  What the document's Bytes of layer 8 hands back, of an operation that fits. No conditions beyond what each theorem states.
-/
namespace Go.Proofs.YtjkdcpalgfakhaaGreat
open Go.ChangeShapes Go.WideShapes Go.ChangeAt Go.RowKit Go.Lib
set_option linter.unusedVariables false
set_option linter.unusedSimpArgs false

theorem owns_mono {w : World} {B B' n size : Nat} {e : TypeId} {v : Value} {xs : List Value} (h : w.ownsRow B e size v n xs) (hB : B' ≤ B) : w.ownsRow B' e size v n xs := by
  refine ⟨h.1, ?_⟩
  rcases h.2 with h0 | ⟨g, cap, cur, a, b, rest⟩
  · exact Or.inl h0
  · exact Or.inr ⟨g, cap, cur, a, Nat.le_trans hB b, rest⟩
theorem encT_pos (s : List UInt8) : 1 ≤ (encT s).length := by unfold encT; rw [List.length_append]; have := encN_pos s.length; omega
theorem bytesL_pos (l : List Sp) : 1 ≤ (bytesL l).length := by unfold bytesL; rw [List.length_append]; have := encN_pos l.length; omega
theorem OB.fresh {w w0 wr : World} {v : Value} {bs : List UInt8} (h : OB w0 v bs wr) (hb : Below w.heap.size w w0) : Fresh bs w (.returned v) wr := ⟨v, rfl, owns_mono h.1 hb.size, below_step hb h.2⟩
end Go.Proofs.YtjkdcpalgfakhaaGreat
