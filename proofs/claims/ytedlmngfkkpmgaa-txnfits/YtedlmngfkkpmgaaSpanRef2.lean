
/-
  What the document's Has and IDs of layer 7 hand back. No conditions beyond what each theorem states.
-/
import Derived.Test.YtedlmngfkkpmgaaSpanRef1
import Derived.Deep.RegionLaw
namespace Go.Proofs.Ytedlmngfkkpmgaa
open Go.ChangeShapes Go.WideShapes Go.ChangeAt Go.RowKit Go.Lib
set_option linter.unusedVariables false
set_option linter.unusedSimpArgs false

theorem drewN_cell (w : World) (n : Nat) (a : Addr) : (w.drewN n).cell? a = w.cell? a := rfl
/-- append onto a row of the call's own, as one step of a region that draws. -/
theorem step_append_own {P : Program} {ops : Array Oper} {o : Oper} {a : Act} {w : World} {K : Act → World → Prop} {Q : Exit → Act → World → Prop} {E : Prop}
    (hg : o.guard = none) (s x : Operand) (t : TypeId) (hop : o.op = Op.call { callee := Callee.builtin Builtin.append, args := #[s, x], argTypes := #[t, t] })
    (base : Nat) (e : TypeId) (i : TypeInfo) (z : Value) (size bytes : Nat) (h1 : P.underlying t = some (.slice e)) (h2 : P.info? e = some i) (h3 : i.zero = some z) (h4 : i.size = size) (h5 : i.bytes = bytes) (h6 : z.cells.size = size) (h7 : 0 < size)
    (v : Value) (n : Nat) (xs : List Value) (hs : a.eval s = v) (hown : w.ownsRow base e size v n xs)
    (ad : Addr) (m c : Nat) (news : List Value) (hx : a.eval x = .slice (some ad) m c) (hn : news.length = m * size) (hc : ∀ j u, news[j]? = some u → w.cell? (ad.add j) = some u) (h1c : ∀ u ∈ news, u.oneCell' = true)
    (b1 : n + m ≤ maxLen) (b2 : (n + m) * bytes ≤ 140737488355328) (hbase : base ≤ w.heap.size)
    (hK : ∀ v' w', w'.ownsRow base e size v' (n + m) (xs ++ news) → w.grownBy w' v.ownBlock → K (a.put o.dst v') w') :
    if Region.wanted o (yielded ops a.tmps) = true then Oper.wp P o a w K Q else E := by
  have hw : Region.wanted o (yielded ops a.tmps) = true := by simp [Region.wanted, hg]
  rw [if_pos hw]
  obtain ⟨v', w', hrun, r1, r2, _⟩ := run_append_own (P := P) w base t o.type e i z size bytes h1 h2 h3 h4 h5 h6 h7 v n xs hown ad m c news hn hc h1c b1 b2 hbase
  unfold Oper.wp
  simp [execOp, hop, resolve, invoke, builtin, hs, hx, hrun, Result.andThen]
  exact hK v' w' r1 r2

set_option maxHeartbeats 3200000 in
set_option maxRecDepth 20000 in
theorem refids_any (l : List Sp) (p : Option Addr) (c : Nat) (w : World) (hR : GRow layS w p l) (hr : RightS l) (hl : l.length ≤ 100000) (ht : totalL l ≤ 100000) :
    Calls Try.prog 49 #[.slice p l.length c] w (Made layI 46 w (idsL l)) := by
  obtain ⟨i0, hi, hz0, hz1, hz2⟩ := info_parts infoRI
  have HR := Lib.hid hR
  have HT := Lib.hid ht
  have HRT := Lib.hid hr
  clear hR ht hr
  go_enter Try.func49, Try.ntmps49
  go_wp2
  go_loopg [3, 4] l.length (fun g v i wr => ∃ k : Nat, k ≤ l.length ∧ l.length - k ≤ g ∧ i = .int .i64 (k : Int) ∧ Hold layI w 46 v (idsL (l.take k)) wr)
  case atStart => exact ⟨0, Nat.zero_le _, by omega, rfl, Hold.nil _ _ _⟩
  case round =>
    obtain ⟨k, hk, hg, rfl, hO⟩ := hrel
    have HO := Lib.hid hO
    clear hO
    by_cases hlt : k < l.length
    · have hri := rightS_iff.1 (HRT.out.at hlt)
      have HTK : Hid (totalL (l.take k) + (l.getD k s0).2.2.toNat ≤ 100000) := by
        show totalL (l.take k) + (l.getD k s0).2.2.toNat ≤ 100000
        rw [← totalL_take hlt]; exact Nat.le_trans (totalL_take_le _ _) HT.out
      have HIT : Hid (idsL (l.take (k + 1)) = idsL (l.take k) ++ idsN (l.getD k s0) (l.getD k s0).2.2.toNat) := idsL_take hlt
      have hc := srow_at HR.out hlt
      obtain ⟨r, n, m, hs⟩ : ∃ r n m, l.getD k s0 = (r, n, m) := ⟨_, _, _, rfl⟩
      rw [hs] at hri HTK HIT hc
      simp only at hri HTK HIT hc
      obtain ⟨b, o, rfl, c0, c1, c2⟩ := hc
      obtain ⟨M, rfl⟩ : ∃ M : Nat, m = (M : Int) := ⟨m.toNat, by omega⟩
      rw [Int.toNat_natCast] at HTK HIT
      have HS := Lib.hid hs
      have HTL : Hid (totalL (l.take k) = (idsL (l.take k)).length) := rfl
      generalize idsL (l.take k) = A at HO HIT HTL
      rw [HTL.out] at HTK
      obtain ⟨hr1, hr2, hr3, hr4, hr5⟩ := hri
      clear hs
      go_wp2
      go_loopg [3, 5] M (fun g v i wq => ∃ j : Nat, j ≤ M ∧ M - j ≤ g ∧ i = .int .i64 (j : Int) ∧ Hold layI w 46 v (A ++ idsN (r, n, (M : Int)) j) wq)
      case atStart => exact ⟨0, Nat.zero_le _, by omega, rfl, by rw [show idsN (r, n, (M : Int)) 0 = [] from rfl, List.append_nil]; exact HO.out⟩
      case round =>
        clear HO
        obtain ⟨j, hj, hgj, rfl, hO⟩ := hrel
        have HO := Lib.hid hO
        clear hO
        have d0 := cellU c0 HO.out.2
        have d1 := cellU c1 HO.out.2
        have d2 := cellU c2 HO.out.2
        by_cases hjm : j < M
        · have hll : (A ++ idsN (r, n, (M : Int)) j).length ≤ 100000 := by
            rw [List.length_append, idsN_length]; have := HTK.out; omega
          have HNX : Hid (A ++ idsN (r, n, (M : Int)) (j + 1) = (A ++ idsN (r, n, (M : Int)) j) ++ [(r, n + (j : Int))]) := by
            show _ = _
            rw [idsN_succ, List.append_assoc]
          generalize A ++ idsN (r, n, (M : Int)) j = C at HO HNX hll
          have q1 : IntKind.u32.wrap (j : Int) = (j : Int) := by rw [IntKind.wrap_u32]; omega
          have q2 : IntKind.u32.wrap (n + (j : Int)) = n + (j : Int) := by rw [IntKind.wrap_u32]; omega
          go_wp2_with fail
          go_region_law (refine step_append_own rfl (.tmp 21) (.tmp 38) 91 rfl w.heap.size 46 i0 (.agg #[.int .u16 0, .int .u32 0]) 2 8 Try.underlying91 hi hz0 hz1 hz2 rfl (by decide) u3 C.length (layI.flat C) (by simp [Act.eval, Act.put]) (by first | exact (HO.out.alloc _).1 | exact ((HO.out.drewN 1).alloc _).1) ⟨wr.heap.size, 0, none⟩ 1 1 [.int .u16 r, .int .u32 (n + (j : Int))] (by simp [Act.eval, Act.put]) rfl (cells_new (cs := [.int .u16 r, .int .u32 (n + (j : Int))])) (layI.one (r, n + (j : Int))) (by unfold maxLen; omega) (by omega) (by have := HO.out.2.size; simp; omega) ?_; intro v' w1 hown' hgrow)
          all_goals
            have HO2 : Hid (Hold layI w 46 v' (A ++ idsN (r, n, (M : Int)) (j + 1)) w1) := by
              rw [HNX.out]
              first | exact (HO.out.alloc _).onto rfl rfl hown' hgrow | exact ((HO.out.drewN 1).alloc _).onto rfl rfl hown' hgrow
            clear hown' hgrow
            go_wp2
            go_roundg (M - (j + 1))
            case measure => omega
            case rel => exact ⟨j + 1, by omega, Nat.le_refl _, by go_num, HO2.out⟩
        · have : j = M := by omega
          subst this
          rw [← HIT.out] at HO
          go_wp2
          go_roundg (l.length - (k + 1))
          case measure => omega
          case rel => exact ⟨k + 1, by omega, Nat.le_refl _, by go_num, HO.out⟩
    · have : k = l.length := by omega
      subst this
      rw [List.take_length] at HO
      go_wp2
      go_ret
      exact ⟨_, rfl, HO.out⟩

end Go.Proofs.Ytedlmngfkkpmgaa
