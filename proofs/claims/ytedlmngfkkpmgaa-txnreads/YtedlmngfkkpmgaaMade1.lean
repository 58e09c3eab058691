
/-
  What the laws' own copyistmade.Spans hands back. No conditions beyond what each theorem states.
-/
import Derived.Test.YtedlmngfkkpmgaaSpanSpec
namespace Go.Proofs.Ytedlmngfkkpmgaa
open Go.ChangeShapes Go.WideShapes Go.ChangeAt Go.RowKit Go.Lib
set_option linter.unusedVariables false
set_option linter.unusedSimpArgs false

set_option maxHeartbeats 1600000 in
theorem mspans_any (l : List Sp) (p : Option Addr) (c : Nat) (w : World) (hR : GRow layS w p l) (hl : l.length ≤ 8796093021952) :
    Calls Try.prog 44 #[.slice p l.length c] w (Made layS 101 w l) := by
  obtain ⟨i0, hi, hz0, hz1, hz2⟩ := info_parts infoRS
  have HR := Lib.hid hR
  clear hR
  go_enter Try.func44, Try.ntmps44
  go_wp2
  go_loopg [3, 8] l.length (fun g v i wr => ∃ k : Nat, k ≤ l.length ∧ l.length - k ≤ g ∧ i = .int .i64 (k : Int) ∧ Hold layS w 101 v (l.take k) wr)
  case atStart => exact ⟨0, Nat.zero_le _, by omega, rfl, Hold.nil _ _ _⟩
  case round =>
    obtain ⟨k, hk, hg, rfl, hO⟩ := hrel
    have HO := Lib.hid hO
    clear hO
    by_cases hlt : k < l.length
    · obtain ⟨b, o, rfl, c0', c1', c2'⟩ := srow_at HR.out hlt
      have c0 := cellU c0' HO.out.2
      have c1 := cellU c1' HO.out.2
      have c2 := cellU c2' HO.out.2
      clear c0' c1' c2'
      have HNX := Lib.hid (take_getD s0 hlt)
      generalize l.getD k s0 = s at c0 c1 c2 HNX
      obtain ⟨r, n, m⟩ := s
      simp only at c0 c1 c2
      have hkl : (l.take k).length = k := by rw [List.length_take]; omega
      have HW : Hid (∀ o o', ((wr.alloc o).alloc o').ownsRow w.heap.size 101 3 u3 k (layS.flat (l.take k))) := fun o o' => by
        have := ((HO.out.alloc o).alloc o').1
        rw [hkl] at this; exact this
      go_wp2_with (first
        | (at_builtin; refine wpList_append_own _ rfl (.tmp 12) (.tmp 18) 47 rfl w.heap.size 101 i0 (.agg #[.int .u16 0, .int .u32 0, .int .i64 0]) 3 16 Try.underlying47 hi hz0 hz1 hz2 rfl (by decide) _ k (layS.flat (l.take k)) rfl (HW.out _ _) ⟨wr.heap.size + 1, 0, none⟩ 1 1 [.int .u16 r, .int .u32 n, .int .i64 m] rfl rfl (by have := cells_new (W := wr.alloc (.cells #[.int .u16 r, .int .u32 n, .int .i64 m] 114)) (cs := [.int .u16 r, .int .u32 n, .int .i64 m]) (t := 101); simpa using this) (layS.one (r, n, m)) (by unfold maxLen; omega) (by omega) (by have := HO.out.2.size; simp; omega) ?_))
      intro v' w1 hown' hgrow _
      have HO2 : Hid (Hold layS w 101 v' (l.take (k + 1)) w1) := by
        rw [HNX.out]
        exact ((HO.out.alloc _).alloc _).onto rfl (by rw [hkl]; rfl) hown' hgrow
      clear hown' hgrow hkl
      go_wp2
      go_roundg (l.length - (k + 1))
      case measure => omega
      case rel => exact ⟨k + 1, by omega, Nat.le_refl _, by go_num, HO2.out⟩
    · have : k = l.length := by omega
      subst this
      rw [List.take_length] at HO
      go_wp2
      go_ret
      exact ⟨_, rfl, HO.out⟩


end Go.Proofs.Ytedlmngfkkpmgaa
