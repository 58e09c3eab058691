/-
  slices.CompactFunc, walked: what it hands back behind Join. No conditions beyond what each theorem states.
-/
import Derived.Test.YthihfigphedomaaDoorCompact
namespace Go.Proofs.YthihfigphedomaaDoor
open Go.ChangeShapes Go.WideShapes Go.ChangeAt Go.RowKit Go.Lib
open Go.Sort
set_option linter.unusedVariables false
set_option linter.unusedSimpArgs false

/-- A slice of the call's own that holds these entries; below B all is as it was. -/
def Cut (B : Nat) (w : World) (xs : List En) (e : Ending) (w' : World) : Prop := ∃ p c, e = .returned (.slice p xs.length c) ∧ p ≠ none ∧ Row w' p xs ∧ Below B w w'

theorem eq_regrown (x y u v : Int) (W : World) (d : Nat) (os : Array Obj) : Calls Tryd.prog 32 #[.agg #[.int .u16 x, .int .u32 y], .agg #[.int .u16 u, .int .u32 v]] (grow (redrawn W d) os) fun e w'' => e = .returned (.bool (x == u)) ∧ ∃ p : Regrown, w'' = grow (redrawn W p.d) p.os :=
  Calls.regrown_of (eq_any x y u v _)

theorem eq_said {x u : Int} {b : Bool} (h : (x == u) = b) (y v : Int) (W : World) (d : Nat) (os : Array Obj) : Calls Tryd.prog 32 #[.agg #[.int .u16 x, .int .u32 y], .agg #[.int .u16 u, .int .u32 v]] (grow (redrawn W d) os) fun e w'' => e = .returned (.bool b) ∧ ∃ p : Regrown, w'' = grow (redrawn W p.d) p.os := by
  subst h; exact eq_regrown x y u v W d os

set_option maxHeartbeats 3200000 in
set_option maxRecDepth 100000 in
theorem compact_any (B g o cap : Nat) (xs : List En) (w : World) (hF : Free w g o xs) (hg : g < w.heap.size) (hB : B ≤ g) (hcap : xs.length ≤ cap) (hl : xs.length ≤ 4000) :
    Calls Tryd.prog 31 #[.slice (some ⟨g, o, none⟩) xs.length cap, .func (.func 32) #[] #[]] w (Cut B w (compL xs)) := by
  have HF : Hid (Free w g o xs) := hF
  have HG : Hid (g < w.heap.size ∧ B ≤ g) := ⟨hg, hB⟩
  clear hF hg hB
  by_cases h2 : xs.length < 2
  · rw [compL_small h2]
    have h2' : ((xs.length : Nat) : Int) < 2 := by omega
    go_enter Tryd.func31, Tryd.ntmps31
    go_wp2
    go_ret
    exact ⟨_, _, rfl, by simp, HF.out.row, Below.refl _ _⟩
  · have h2' : ¬ ((xs.length : Nat) : Int) < 2 := by omega
    go_enter Tryd.func31, Tryd.ntmps31
    go_wp2
    go_loopg [5] xs.length (fun n s wr => ∃ k : Nat, 1 ≤ k ∧ k ≤ xs.length ∧ xs.length - k ≤ n ∧ s = .int .i64 k ∧ Below w.heap.size w wr ∧ ∀ j, j < k → keepsL xs j = true)
    case atStart => exact ⟨1, Nat.le_refl _, by omega, by omega, rfl, Below.refl _ _, fun j hj => by
      have : j = 0 := by omega
      subst this; exact keeps_zero xs⟩
    case round =>
      obtain ⟨k, hk1, hk, hgk, rfl, hb, hall⟩ := hrel
      have HB : Hid (Below w.heap.size w wr) := hb
      have HA : Hid (∀ j, j < k → keepsL xs j = true) := hall
      clear hb hall
      by_cases hlt : k < xs.length
      · obtain ⟨⟨c0, c1⟩, -⟩ := (HF.out.below HG.out.1 HB.out) k hlt
        obtain ⟨⟨d0, d1⟩, -⟩ := (HF.out.below HG.out.1 HB.out) (k - 1) (by omega)
        generalize hx : (atL xs k).1 = x at c0
        generalize hy : (atL xs k).2 = y at c1
        generalize hu : (atL xs (k - 1)).1 = u at d0
        generalize hv : (atL xs (k - 1)).2 = v at d1
        have E : Hid ((atL xs k).1 = x ∧ (atL xs (k - 1)).1 = u) := ⟨hx, hu⟩
        clear hx hy hu hv
        have c0' := cell_regrown c0
        have c1' := cell_regrown c1
        have d0' := cell_regrown d0
        have d1' := cell_regrown d1
        clear c0 c1 d0 d1
        have hlt1 : k - 1 < xs.length := by omega
        have hk1' : (k : Int) - 1 = ((k - 1 : Nat) : Int) := by omega
        have hwk : IntKind.i64.wrap ((k - 1 : Nat) : Int) = ((k - 1 : Nat) : Int) := by rw [IntKind.wrap_i64]; omega
        go_wp2_with fail
        refine wp_region_quiet_below (by kernel_rfl) (by kernel_rfl) ?_
        repeat (first | go_big_quiet_step ((go_at_call 32; exact eq_regrown _ _ _ _ _ _ _)) | quiet_step ((go_at_call 32; exact eq_regrown _ _ _ _ _ _ _)))
        refine wpQuiet_nil ?_
        intro w3 hw'
        have HB3 : Hid (Below w.heap.size w w3) := by obtain ⟨⟨dq, osq⟩, rfl⟩ := hw'; exact below_step HB.out (below_regrown _ _ _)
        clear hw' c0' c1' d0' d1' hk1'
        by_cases hdup : x = u
        · have hdup' : (x == u) = true := by simp [hdup]
          have HCI : Hid (CI xs (k + 1) k xs) := CI.start hlt hk1 HA.out (keeps_neg (by omega) (by rw [E.out.1, E.out.2]; exact hdup))
          have HFX : Hid (Free w3 g o xs ∧ Below B w w3 ∧ g < w3.heap.size) := ⟨HF.out.below HG.out.1 HB3.out, HB3.out.mono (by have := HG.out; omega), by have := HB3.out.size; have := HG.out; omega⟩
          clear HB HB3
          go_wp2_with fail
          clear hdup' hdup
          go_loopg [5, 7] xs.length (fun n s t wr => ∃ (kk k2 : Nat) (ys : List En), s = .int .i64 kk ∧ t = .int .i64 k2 ∧ 1 ≤ k2 ∧ k + k2 ≤ xs.length ∧ xs.length - (k + k2) ≤ n ∧ CI xs (k + k2) kk ys ∧ Free wr g o ys ∧ Below B w wr ∧ g < wr.heap.size)
          case atStart => exact ⟨k, 1, xs, rfl, rfl, Nat.le_refl _, by omega, by omega, HCI.out, HFX.out⟩
          case round =>
            clear HCI HFX
            obtain ⟨kk, k2, ys, rfl, rfl, hk2, hkk, hgap, hci, hfr, hbe, hgw⟩ := hrel
            have HC : Hid (CI xs (k + k2) kk ys) := hci
            have HF2 : Hid (Free wr g o ys) := hfr
            have HB2 : Hid (Below B w wr ∧ g < wr.heap.size) := ⟨hbe, hgw⟩
            have hkl := hci.lt
            have hsz := hci.size
            have HSZ : Hid (ys.length = xs.length) := hsz
            clear hci hfr hbe hgw hsz
            by_cases hlt2 : k + k2 < xs.length
            · have hy1 : k + k2 < ys.length := by rw [HSZ.out]; exact hlt2
              obtain ⟨⟨c0, c1⟩, -⟩ := HF2.out (k + k2) hy1
              obtain ⟨⟨d0, d1⟩, -⟩ := HF2.out (k + k2 - 1) (by omega)
              have e1 := HC.out.high (k + k2) (by omega) hlt2
              have e2 := HC.out.high (k + k2 - 1) (by omega) (by omega)
              rw [e1, show o + (k + k2) * 2 = o + k * 2 + k2 * 2 by omega] at c0
              rw [e1, show o + (k + k2) * 2 + 1 = o + k * 2 + k2 * 2 + 1 by omega] at c1
              rw [e2, show o + (k + k2 - 1) * 2 = o + k * 2 + (k2 - 1) * 2 by omega] at d0
              rw [e2, show o + (k + k2 - 1) * 2 + 1 = o + k * 2 + (k2 - 1) * 2 + 1 by omega] at d1
              clear e1 e2 hy1
              generalize hx : (atL xs (k + k2)).1 = x2 at c0
              generalize hy : (atL xs (k + k2)).2 = y2 at c1
              generalize hu : (atL xs (k + k2 - 1)).1 = u2 at d0
              generalize hv : (atL xs (k + k2 - 1)).2 = v2 at d1
              have E2 : Hid (atL xs (k + k2) = (x2, y2) ∧ (atL xs (k + k2 - 1)).1 = u2) := ⟨Prod.ext hx hy, hu⟩
              clear hx hy hu hv
              have C0 : Hid (wr.cell? ⟨g, o + k * 2 + k2 * 2, none⟩ = some (.int .u16 x2) ∧ wr.cell? ⟨g, o + k * 2 + k2 * 2 + 1, none⟩ = some (.int .u32 y2)) := ⟨c0, c1⟩
              have c0' := cell_regrown c0
              have c1' := cell_regrown c1
              have d0' := cell_regrown d0
              have d1' := cell_regrown d1
              clear c0 c1 d0 d1
              have hlt3 : k2 - 1 < xs.length - k := by omega
              have hlt4 : k2 < xs.length - k := by omega
              have hk2' : (k2 : Int) - 1 = ((k2 - 1 : Nat) : Int) := by omega
              have hwk2 : IntKind.i64.wrap ((k2 - 1 : Nat) : Int) = ((k2 - 1 : Nat) : Int) := by rw [IntKind.wrap_i64]; omega
              have hb01 : ∃ b : Bool, (x2 == u2) = b := ⟨_, rfl⟩
              obtain ⟨b, hb⟩ := hb01
              have HQ : Hid ((x2 == u2) = b) := hb
              clear hb
              cases b
              all_goals
                go_wp2_with fail
                refine wp_region_quiet_below (by kernel_rfl) (by kernel_rfl) ?_
                repeat (first | go_big_quiet_step ((go_at_call 32; exact eq_said HQ.out _ _ _ _ _)) | quiet_step ((go_at_call 32; exact eq_said HQ.out _ _ _ _ _)))
                refine wpQuiet_nil ?_
                intro w4 hw'
                have HB4 : Hid (Below wr.heap.size wr w4) := by obtain ⟨⟨dq, osq⟩, rfl⟩ := hw'; exact below_regrown _ _ _
                clear hw' c0' c1' d0' d1' hk2'
                have c0 := cellU C0.out.1 HB4.out
                have c1 := cellU C0.out.2 HB4.out
                have HF4 : Hid (Free w4 g o ys) := HF2.out.below HB2.out.2 HB4.out
                have HB5 : Hid (Below B w w4 ∧ g < w4.heap.size) := ⟨HB2.out.1.trans (HB4.out.mono (by have := HB2.out.2; have := HG.out; omega)), by have := HB4.out.size; have := HB2.out.2; omega⟩
                clear C0 HF2 HB2 HB4
              · have hd2 : x2 ≠ u2 := by simpa using HQ.out
                have HD2 : Hid (x2 ≠ u2) := hd2
                clear HQ hd2
                obtain ⟨⟨k0, k1⟩, f0, f1⟩ := HF4.out kk (by rw [HSZ.out]; omega)
                generalize (atL ys kk).1 = ox at k0
                generalize (atL ys kk).2 = oy at k1
                have hkx : kk < xs.length := by omega
                go_wp2_with fail
                go_roundg (xs.length - (k + (k2 + 1)))
                case measure => omega
                case rel =>
                  have hst := HF4.out.store (k := kk) (by rw [HSZ.out]; omega) x2 y2
                  have hkp := HC.out.keep hlt2 (keeps_pos (by rw [E2.out.1, E2.out.2]; exact HD2.out))
                  rw [E2.out.1] at hkp
                  have hgB := HG.out.2
                  exact ⟨kk + 1, k2 + 1, ys.set kk (x2, y2), by go_num, by go_num, by omega, by omega, Nat.le_refl _, hkp, hst, (HB5.out.1.setCell hgB _).setCell hgB _, by have := HB5.out.2; simp [World.setCell]; exact this⟩
              · have hd2 : x2 = u2 := by simpa using HQ.out
                have HD2 : Hid (x2 = u2) := hd2
                clear HQ hd2
                go_wp2_with fail
                go_roundg (xs.length - (k + (k2 + 1)))
                case measure => omega
                case rel => exact ⟨kk, k2 + 1, ys, rfl, by go_num, by omega, by omega, Nat.le_refl _, HC.out.skip (keeps_neg (by omega) (by rw [E2.out.1, E2.out.2]; exact HD2.out)), HF4.out, HB5.out.1, HB5.out.2⟩
            · have hend : k + k2 = xs.length := by omega
              have hcl : ∀ ty, (Builtin.clear_ #[23] ty #[.slice (some ⟨g, o + kk * 2, none⟩) (xs.length - kk) (cap - kk)]).run Tryd.prog wr = .ok (.tuple #[]) (wr.setCells g (o + kk * 2) (Builtin.zeroCells (Value.agg #[.int .u16 0, .int .u32 0]).cells (xs.length - kk)).toList) := fun ty =>
                run_clear2 wr 23 55 ty (.agg #[.int .u16 0, .int .u32 0]) Tryd.underlying23 Tryd.zeroValue55 zero_one rfl g (o + kk * 2) (xs.length - kk) (cap - kk) (by omega)
                  (fun j hj => by
                    obtain ⟨⟨h1, h2⟩, -⟩ := HF2.out (kk + j / 2) (by rw [HSZ.out]; omega)
                    rcases Nat.mod_two_eq_zero_or_one j with e | e
                    · rw [show o + kk * 2 + j = o + (kk + j / 2) * 2 by omega, h1]; rfl
                    · rw [show o + kk * 2 + j = o + (kk + j / 2) * 2 + 1 by omega, h2]; rfl)
                  (fun j hj => by
                    obtain ⟨-, h1, h2⟩ := HF2.out (kk + j / 2) (by rw [HSZ.out]; omega)
                    rcases Nat.mod_two_eq_zero_or_one j with e | e
                    · rw [show o + kk * 2 + j = o + (kk + j / 2) * 2 by omega]; exact h1
                    · rw [show o + kk * 2 + j = o + (kk + j / 2) * 2 + 1 by omega]; exact h2)
              have hkx : kk < xs.length := by omega
              have hlt5 : ¬ k2 < xs.length - k := by omega
              go_wp2
              go_ret
              have hci := HC.out
              rw [hend] at hci
              have hlen : kk = (compL xs).length := hci.len
              have hlow : ys.take kk = compL xs := hci.low
              refine ⟨some ⟨g, o, none⟩, cap, by rw [← hlen]; rfl, by simp, fun i hi => ?_, below_cells HG.out.2 _ _ _ _ HB2.out.1⟩
              rw [← hlen] at hi
              obtain ⟨⟨h1, h2⟩, -⟩ := HF2.out i (by rw [HSZ.out]; omega)
              have e : atL (compL xs) i = atL ys i := by rw [← hlow, atL_take _ _ _ hi]
              rw [e]
              refine ⟨g, o, rfl, ?_, ?_⟩
              · rw [World.cell?_setCells_out _ _ _ _ _ (by intro _ _; left; show o + i * 2 < _; omega)]; exact h1
              · rw [World.cell?_setCells_out _ _ _ _ _ (by intro _ _; left; show o + i * 2 + 1 < _; omega)]; exact h2
        · have hdup' : (x == u) = false := by simp [hdup]
          go_wp2_with fail
          go_roundg (xs.length - (k + 1))
          case measure => omega
          case rel => exact ⟨k + 1, by omega, by omega, Nat.le_refl _, by go_num, HB3.out, fun j hj => by
            by_cases e : j = k
            · subst e; exact keeps_pos (by rw [E.out.1, E.out.2]; exact hdup)
            · exact HA.out j (by omega)⟩
      · have : k = xs.length := by omega
        subst this
        go_wp2
        go_ret
        rw [compL_all HA.out]
        exact ⟨_, _, rfl, by simp, (HF.out.below HG.out.1 HB.out).row, HB.out.mono (by have := HG.out; omega)⟩

set_option maxHeartbeats 400000 in
/-- The same of no entry. -/
theorem compact_none (c : Nat) (p : Option Addr) (fv : Value) (w : World) :
    Calls Tryd.prog 31 #[.slice p 0 c, fv] w fun e w' => e = .returned (.slice p 0 c) ∧ w' = w := by
  go_enter Tryd.func31, Tryd.ntmps31
  go_wp2
  go_ret
  exact ⟨rfl, rfl⟩

end Go.Proofs.YthihfigphedomaaDoor
