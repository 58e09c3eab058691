
/-
  What the document's Plain, Atoms, numbered, placeless and Fit of layer 8 hand back. No conditions beyond what each theorem states.
-/
import Derived.Test.YtedlmngfkkpmgaaOpMath
import Derived.Test.YtedlmngfkkpmgaaSpanProg1
import Derived.Lib.QuietBelow
namespace Go.Proofs.Ytedlmngfkkpmgaa
open Go.ChangeShapes Go.WideShapes Go.ChangeAt Go.RowKit Go.Lib
set_option linter.unusedVariables false
set_option linter.unusedSimpArgs false

theorem bytes_getD (s : ByteArray) {k : Nat} (h : k < s.size) : s.data.toList.getD k 0 = s[k] := by
  have h' : k < s.data.toList.length := h
  rw [List.getD_eq_getElem?_getD, List.getElem?_eq_getElem h']
  rfl
theorem plain_walks (s : ByteArray) {k : Nat} (h : k < s.size) (hx : plain1 s[k] = false) : plainB s.data.toList = false := plainB_no (k := k) h (by rw [bytes_getD s h]; exact hx)
set_option maxHeartbeats 1600000 in
theorem refplain_at (s : ByteArray) (hs : s.size ≤ 1000000) (w : World) :
    Calls Try.prog 45 #[.string s] w fun e w' => e = .returned (.bool (plainB s.data.toList)) ∧ w' = w := by
  go_enter Try.func45, Try.ntmps45
  go_wp2
  go_loopg [3] s.size (fun g i wr => ∃ k : Nat, k ≤ s.size ∧ s.size - k ≤ g ∧ i = .int .i64 (k : Int) ∧ plainB (s.data.toList.take k) = true ∧ wr = w)
  case atStart => exact ⟨0, Nat.zero_le _, by omega, rfl, rfl, rfl⟩
  case round =>
    obtain ⟨k, hk, hg, rfl, hp, rfl⟩ := hrel
    have HP := Lib.hid hp
    clear hp
    by_cases hlt : k < s.size
    · have HNX : Hid (plainB (s.data.toList.take (k + 1)) = plain1 s[k]) := by
        show _ = _
        rw [plainB_take (s := s.data.toList) hlt, HP.out, bytes_getD s hlt]
        rfl
      have HNO : Hid (plain1 s[k] = false → plainB s.data.toList = false) := plain_walks s hlt
      have HX : Hid (plain1 s[k] = (s[k].toNat == 10 || (decide (32 ≤ s[k].toNat) && decide (s[k].toNat ≤ 126)))) := rfl
      have hb := s[k].toNat_lt
      clear HP
      by_cases h10 : s[k].toNat = 10
      · have h10' : ((s[k].toNat : Int) == 10) = true := by rw [h10]; rfl
        have HT : Hid (plainB (s.data.toList.take (k + 1)) = true) := by show _ = _; rw [HNX.out, HX.out, h10]; rfl
        go_wp2
        go_roundg (s.size - (k + 1))
        case measure => omega
        case rel => exact ⟨k + 1, by omega, Nat.le_refl _, by go_num, HT.out, rfl⟩
      · have h10' : ((s[k].toNat : Int) == 10) = false := by rw [beq_eq_false_iff_ne]; omega
        by_cases h32 : s[k].toNat < 32
        · have h32' : ((s[k].toNat : Nat) : Int) < 32 := by omega
          have HT : Hid (plainB s.data.toList = false) := HNO.out (by rw [HX.out, decide_eq_false (by omega : ¬ 32 ≤ s[k].toNat)]; simp [h10])
          go_wp2
          go_ret
          exact ⟨by rw [HT.out]; rfl, rfl⟩
        · have h32' : ¬ ((s[k].toNat : Nat) : Int) < 32 := by omega
          by_cases h126 : 126 < s[k].toNat
          · have h126' : 126 < ((s[k].toNat : Nat) : Int) := by omega
            have HT : Hid (plainB s.data.toList = false) := HNO.out (by rw [HX.out, decide_eq_false (by omega : ¬ s[k].toNat ≤ 126)]; simp [h10])
            go_wp2
            go_ret
            exact ⟨by rw [HT.out]; rfl, rfl⟩
          · have h126' : ¬ 126 < ((s[k].toNat : Nat) : Int) := by omega
            have HT : Hid (plainB (s.data.toList.take (k + 1)) = true) := by show _ = _; rw [HNX.out, HX.out, decide_eq_true (by omega : 32 ≤ s[k].toNat), decide_eq_true (by omega : s[k].toNat ≤ 126)]; simp
            go_wp2
            go_roundg (s.size - (k + 1))
            case measure => omega
            case rel => exact ⟨k + 1, by omega, Nat.le_refl _, by go_num, HT.out, rfl⟩
    · have : k = s.size := by omega
      subst this
      have HT : Hid (plainB s.data.toList = true) := by have := HP.out; rwa [List.take_of_length_le (show s.data.toList.length ≤ s.size from Nat.le_refl _)] at this
      go_wp2
      go_ret
      exact ⟨by rw [HT.out]; rfl, rfl⟩
theorem refplain_any (s : List UInt8) (hs : s.length ≤ 1000000) (w : World) :
    Calls Try.prog 45 #[.string ⟨s.toArray⟩] w fun e w' => e = .returned (.bool (plainB s)) ∧ w' = w := refplain_at ⟨s.toArray⟩ hs w

theorem seven_cells {w : World} {B : Nat} {a b c d e f g : Value} {t : TypeId} (h : w.heap[B]? = some (.cells #[a, b, c, d, e, f, g] t (0, 0))) : w.cell? ⟨B, 0, none⟩ = some a ∧ w.cell? ⟨B, 1, none⟩ = some b ∧ w.cell? ⟨B, 2, none⟩ = some c ∧ w.cell? ⟨B, 3, none⟩ = some d ∧ w.cell? ⟨B, 4, none⟩ = some e ∧ w.cell? ⟨B, 5, none⟩ = some f ∧ w.cell? ⟨B, 6, none⟩ = some g :=
  ⟨by rw [cell_of_block h]; rfl, by rw [cell_of_block h]; rfl, by rw [cell_of_block h]; rfl, by rw [cell_of_block h]; rfl, by rw [cell_of_block h]; rfl, by rw [cell_of_block h]; rfl, by rw [cell_of_block h]; rfl⟩
/-- What Atoms asks for: spans that are right, where it counts them. -/
def Counts (o : Om) : Prop := o.kind = 3 → RightS o.spans ∧ totalL o.spans ≤ 100000
set_option maxHeartbeats 1600000 in
theorem refatoms_any (o : Om) (p : Option Addr) (c : Nat) (w : World) (hR : GRow layS w p o.spans) (hc : Counts o) (hl : o.spans.length ≤ 100000) (ht : o.text.length ≤ 1000000) :
    Calls Try.prog 28 #[ov o p c] w fun e w' => e = .returned (.int .i64 (atomsO o)) ∧ Below w.heap.size w w' := by
  have HI : Hid (o.kind = 3 → ∀ W, Below w.heap.size w W → Calls Try.prog 49 #[.slice p o.spans.length c] W (Made layI 46 W (idsL o.spans))) := fun h W hb => refids_any o.spans p c W (hR.below hb) (hc h).1 hl (hc h).2
  have HA : Hid (atomsO o = if o.kind = 1 then (o.text.length : Int) else if o.kind = 3 then (totalL o.spans : Int) else 0) := rfl
  have hsz : (⟨o.text.toArray⟩ : ByteArray).size = o.text.length := rfl
  clear hR hc
  obtain ⟨kind, r, n, num, text, spans, seq⟩ := o
  unfold ov
  simp only at *
  by_cases h1 : kind = 1
  · subst h1
    have HE : Hid (atomsO ⟨1, r, n, num, text, spans, seq⟩ = (text.length : Int)) := by show _ = _; rw [HA.out, if_pos rfl]
    generalize (⟨text.toArray⟩ : ByteArray) = bt at hsz ⊢
    go_enter Try.func28, Try.ntmps28
    go_wp2
    go_ret
    exact ⟨by rw [HE.out, ← hsz]; rfl, below_alloc (Below.refl _ _) _⟩
  · have h1' : (kind == 1) = false := by rw [beq_eq_false_iff_ne]; exact h1
    by_cases h3 : kind = 3
    · subst h3
      have HE : Hid (atomsO ⟨3, r, n, num, text, spans, seq⟩ = (totalL spans : Int)) := by show _ = _; rw [HA.out, if_neg (by decide), if_pos rfl]
      have HI3 : Hid (∀ W, Below w.heap.size w W → Calls Try.prog 49 #[.slice p spans.length c] W (Made layI 46 W (idsL spans))) := HI.out rfl
      clear HI
      go_enter Try.func28, Try.ntmps28
      go_wp2_with fail
      refine (HI3.out _ (below_alloc (Below.refl _ _) _)).mono ?_
      intro e w1 hm
      obtain ⟨p1, c1, rfl, -, -, -, hb⟩ := hm.gave layI_pos
      have HB : Hid (Below w.heap.size w w1) := below_step (below_alloc (Below.refl _ _) _) hb
      clear hm hb HI3
      go_wp2
      go_ret
      exact ⟨by rw [HE.out]; rfl, HB.out⟩
    · have h3' : (kind == 3) = false := by rw [beq_eq_false_iff_ne]; exact h3
      have HE : Hid (atomsO ⟨kind, r, n, num, text, spans, seq⟩ = 0) := by show _ = _; rw [HA.out, if_neg h1, if_neg h3]
      go_enter Try.func28, Try.ntmps28
      go_wp2
      go_ret
      exact ⟨by rw [HE.out]; rfl, below_alloc (Below.refl _ _) _⟩
set_option maxHeartbeats 1600000 in
theorem refplaceless_any (o : Om) (p : Option Addr) (c : Nat) (w : World) :
    Calls Try.prog 47 #[ov o p c] w fun e w' => e = .returned (.bool (placelessO o)) ∧ Below w.heap.size w w' := by
  obtain ⟨kind, r, n, num, text, spans, seq⟩ := o
  have HE : Hid (placelessO ⟨kind, r, n, num, text, spans, seq⟩ = decide (r = 0 ∧ n = 0 ∧ num = 0)) := rfl
  unfold ov
  simp only
  by_cases h1 : r = 0
  · subst h1
    by_cases h2 : n = 0
    · subst h2
      by_cases h3 : num = 0
      · subst h3
        have HT : Hid (placelessO ⟨kind, 0, 0, 0, text, spans, seq⟩ = true) := by show _ = _; rw [HE.out]; rfl
        go_enter Try.func47, Try.ntmps47
        go_wp2
        go_ret
        exact ⟨by rw [HT.out]; rfl, below_alloc (Below.refl _ _) _⟩
      · have h3' : (num == 0) = false := by rw [beq_eq_false_iff_ne]; exact h3
        have HT : Hid (placelessO ⟨kind, 0, 0, num, text, spans, seq⟩ = false) := by show _ = _; rw [HE.out]; exact decide_eq_false fun h => h3 h.2.2
        go_enter Try.func47, Try.ntmps47
        go_wp2
        go_ret
        exact ⟨by rw [HT.out]; rfl, below_alloc (Below.refl _ _) _⟩
    · have h2' : (n == 0) = false := by rw [beq_eq_false_iff_ne]; exact h2
      have HT : Hid (placelessO ⟨kind, 0, n, num, text, spans, seq⟩ = false) := by show _ = _; rw [HE.out]; exact decide_eq_false fun h => h2 h.2.1
      go_enter Try.func47, Try.ntmps47
      go_wp2
      go_ret
      exact ⟨by rw [HT.out]; rfl, below_alloc (Below.refl _ _) _⟩
  · have h1' : (r == 0) = false := by rw [beq_eq_false_iff_ne]; exact h1
    have HT : Hid (placelessO ⟨kind, r, n, num, text, spans, seq⟩ = false) := by show _ = _; rw [HE.out]; exact decide_eq_false fun h => h1 h.1
    go_enter Try.func47, Try.ntmps47
    go_wp2
    go_ret
    exact ⟨by rw [HT.out]; rfl, below_alloc (Below.refl _ _) _⟩
/-- May the anchor be? -/
def anchB (o : Om) : Bool := decide (o.r = 0 ∧ o.n = 0 ∨ 1 ≤ o.n ∧ o.n ≤ 268435456)
theorem numbered_no {o : Om} (h : anchB o = false) : numberedO o = false := by
  have h := of_decide_eq_false h
  exact decide_eq_false fun g => h g.1
theorem numbered_yes {o : Om} (h : anchB o = true) : numberedO o = decide (1 ≤ o.num ∧ o.num ≤ 268435456 ∧ o.num + atomsO o - 1 ≤ 268435456) := by
  have h := of_decide_eq_true h
  unfold numberedO
  apply decide_eq_decide.2
  exact ⟨fun g => g.2, fun g => ⟨h, g⟩⟩
end Go.Proofs.Ytedlmngfkkpmgaa
