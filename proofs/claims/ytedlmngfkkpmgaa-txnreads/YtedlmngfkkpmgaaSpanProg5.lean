
/-
  What the program's Of, Total and IDs of layer 7 hand back. No conditions beyond what each theorem states.
-/
import Derived.Test.YtedlmngfkkpmgaaSpanProg4
import Derived.Lib.OwnKind
namespace Go.Proofs.Ytedlmngfkkpmgaa
open Go.ChangeShapes Go.WideShapes Go.ChangeAt Go.RowKit Go.Lib
set_option linter.unusedVariables false
set_option linter.unusedSimpArgs false

theorem RightN.take {xs : List Nm} (h : RightN xs) (n : Nat) : RightN (xs.take n) := fun x hx => h x (List.mem_of_mem_take hx)
set_option maxHeartbeats 1600000 in
set_option maxRecDepth 20000 in
theorem total_spec : TotalSpec := by
  intro l p c w hR hr hf hl ht hc hp
  have HR := Lib.hid hR
  have HRT := Lib.hid hr
  have HF := Lib.hid hf
  have HT := Lib.hid ht
  clear hR hr hf hp hc ht
  go_enter Try.func51, Try.ntmps51
  go_wp2
  go_loopg [3, 8] l.length (fun g v i wr => ∃ k : Nat, k ≤ l.length ∧ l.length - k ≤ g ∧ i = .int .i64 (k : Int) ∧ v = .int .i64 (totalL (l.take k) : Int) ∧ Below w.heap.size w wr)
  case atStart => exact ⟨0, Nat.zero_le _, by omega, rfl, rfl, Below.refl _ _⟩
  case round =>
    obtain ⟨k, hk, hg, rfl, rfl, hB⟩ := hrel
    have HB := Lib.hid hB
    clear hB
    by_cases hlt : k < l.length
    · obtain ⟨b, o, rfl, c0', c1', c2'⟩ := srow_at HR.out hlt
      have c0 := cellU c0' HB.out
      have c1 := cellU c1' HB.out
      have c2 := cellU c2' HB.out
      have HS := Lib.hid (fun (W : World) => size_any (l.getD k s0) W (HRT.out.at hlt) (HF.out.at hlt))
      have hr2 := rightS_iff.1 (HRT.out.at hlt)
      have hTK : totalL (l.take (k + 1)) = totalL (l.take k) + (l.getD k s0).2.2.toNat := totalL_take hlt
      have hTL : totalL (l.take (k + 1)) ≤ 3000 := Nat.le_trans (totalL_take_le _ _) HT.out
      unfold sv at HS
      generalize (l.getD k s0) = s at c0 c1 c2 hTK HS hr2
      obtain ⟨r, n, m⟩ := s
      simp only at c0 c1 c2 HS hTK hr2
      generalize hT' : totalL (l.take (k + 1)) = T' at hTK hTL
      generalize totalL (l.take k) = T at hTK
      have hsum : (T : Int) + m = (T' : Int) := by omega
      have hz : IntKind.i64.wrap ((T : Int) + m) = (T' : Int) := by rw [hsum, IntKind.wrap_i64]; omega
      clear c0' c1' c2'
      go_wp2_with fail
      refine (HS.out _).mono ?_
      rintro e w1 ⟨rfl, hb⟩
      have HB2 : Hid (Below w.heap.size w w1) := below_step (below_alloc HB.out _) hb
      clear hb HS
      go_wp2
      go_roundg (l.length - (k + 1))
      case measure => omega
      case rel => exact ⟨k + 1, by omega, Nat.le_refl _, by go_num, by rw [hT']; go_num, HB2.out⟩
    · have : k = l.length := by omega
      subst this
      rw [List.take_length]
      go_wp2
      go_ret
      exact ⟨rfl, HB.out⟩
theorem box_grown {w w' : World} {B base size n : Nat} {cs : Array Value} {t e : TypeId} {v : Value} {xs : List Value} (hne : t ≠ e) (h : w.heap[B]? = some (.cells cs t (0, 0))) (hown : w.ownsRow base e size v n xs) (hg : w.grownBy w' v.ownBlock) : w'.heap[B]? = some (.cells cs t (0, 0)) := by
  rw [hg.block B (lt_of_block h) (fun ee => ?_)]
  · exact h
  · obtain ⟨c, fz, hc⟩ := Lib.ownsRow_kind hown B ee.symm
    rw [h] at hc
    injection hc with hc
    injection hc with h1 h2 h3
    exact hne h2
end Go.Proofs.Ytedlmngfkkpmgaa
