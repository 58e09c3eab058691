
/-
  What the landed log's Put hands back. No conditions beyond what each theorem states.
-/
import Derived.Test.YtafhjccghbpbbaaLogProg2
namespace Go.Proofs.Ytafhjccghbpbbaa
open Go.ChangeShapes Go.WideShapes Go.ChangeAt Go.RowKit Go.Lib
set_option linter.unusedVariables false
set_option linter.unusedSimpArgs false

theorem two_cellsG {w : World} {B : Nat} {a b : Value} {t : TypeId} (h : w.heap[B]? = some (.cells #[a, b] t (0, 0))) : w.cell? ⟨B, 0, none⟩ = some a ∧ w.cell? ⟨B, 1, none⟩ = some b :=
  ⟨by rw [cell_of_block h]; rfl, by rw [cell_of_block h]; rfl⟩
set_option maxHeartbeats 6400000 in
set_option maxRecDepth 20000 in
theorem put_anyL (S : Nat → Prop) (K : Nat) (l : List Lm) (w : World) (x : Lm) (p : Option Addr) (c : Nat) (h : Lgg S K l w) (hf : FirmG S w (fun W => BRow W p x.b)) (hr : 0 ≤ x.r ∧ x.r ≤ 65535) (hs : 0 ≤ x.s ∧ x.s ≤ 4294967295) (hbl : x.b.length ≤ 500) (hc : x.b.length ≤ c) (hp : p = none → c = 0) (hl : l.length ≤ 200) :
    Calls Try.prog 6 #[.pointer (some ⟨K, 0, none⟩), .agg #[.int .u16 x.r, .int .u32 x.s], .slice p x.b.length c] w fun e w' => e = .returned (.int .i64 (if keptL l x.r x.s = true then 16 else 0)) ∧ ∃ S', Lgg S' K (putG l x) w' ∧ StepG S S' w w' := by
  obtain ⟨xr, xs, xb⟩ := x
  simp only at hf hr hs hbl hc ⊢
  obtain ⟨mo, v, h⟩ := h
  obtain ⟨q, d, rfl⟩ := owns_slice h.names
  obtain ⟨pl, dl, -, -, hlook⟩ := look_any h.map h.fit h.one hr hs true
  have HB : Hid (Below w.heap.size w (w.alloc (.cells #[.int .u16 xr, .int .u32 xs] 26))) := below_alloc (Below.refl _ _) _
  have HX := Lib.hid (heap_alloc_new w (.cells #[.int .u16 xr, .int .u32 xs] 26))
  have h1 := h.below HB.out
  obtain ⟨k0, k1, k2⟩ := three_cellsG h1.head
  have kf0 : (w.alloc (.cells #[.int .u16 xr, .int .u32 xs] 26)).frozen? ⟨K, 0, none⟩ = false := frozen_of_block h1.head
  have hlk : ∀ n, (Instr.lookup 28 (.map mo) (.agg #[.int .u16 xr, .int .u32 xs]) true).run Try.prog ((w.alloc (.cells #[.int .u16 xr, .int .u32 xs] 26)).drewN n) = .ok (.tuple #[.slice pl (gotL l xr xs).length dl, .bool (keptL l xr xs)]) ((w.alloc (.cells #[.int .u16 xr, .int .u32 xs] 26)).drewN n) := fun n => hlook _ (fun M e => by
    subst e
    show (w.alloc _).heap[M]? = _
    exact HB.out.block M (MapL.lt h.map))
  generalize gotL l xr xs = G at hlk
  have HF := Lib.hid hf
  have HH := Lib.hid h
  have HFX : Hid (FitL ⟨xr, xs, xb⟩) := ⟨hr, hs, hbl⟩
  have HHB : Hid (¬ S w.heap.size) := fun e => by have := HH.out.lt _ e; omega
  have hmn := eql_mapL
  have hmm := @run_makeMap Try.prog
  obtain ⟨i0, hi, hz0, hz1, hz2⟩ := info_parts infoN12
  clear h h1 hlook hf hr hs
  cases hk : keptL l xr xs with
  | true =>
    rw [hk] at hlk
    have HE : Hid (∀ n, Lgg S K (putG l ⟨xr, xs, xb⟩) ((w.alloc (.cells #[.int .u16 xr, .int .u32 xs] 26)).drewN n) ∧ StepG S S w ((w.alloc (.cells #[.int .u16 xr, .int .u32 xs] 26)).drewN n)) := fun n => by
      unfold putG
      rw [if_pos hk]
      exact ⟨⟨mo, _, HH.out.below (below_drewN HB.out n)⟩, StepG.ofBelow (below_drewN HB.out n)⟩
    clear hk HF HH hmm hmn
    go_enter Try.func6, Try.ntmps6
    go_wp2_with fail
    go_quiet (fail)
    go_wp2
    go_ret
    exact ⟨rfl, S, (HE.out _).1, (HE.out _).2⟩
  | false =>
    rw [hk] at hlk
    have HK := Lib.hid hk
    have hnl3 : decide ((65536 : Int) ≤ (l.length : Int)) = false := decide_eq_false (by omega)
    have HL2 := Lib.hid hl
    clear hk hl
    clear hmm hmn
    go_enter Try.func6, Try.ntmps6
    go_wp2_with fail
    go_quiet (fail)
    have hmn := eql_mapL
    go_upto_if 29 with fail
    go_cut [29] from 30 to 33 (fun s29 wx => ∃ M S1, LgM S1 K l (some M) (.slice q l.length d) wx ∧ StepG S S1 w wx ∧ wx.heap[w.heap.size]? = some (.cells #[.int .u16 xr, .int .u32 xs] 26 (0, 0)))
    case first =>
      cases mo with
      | none =>
        have HE : Hid (∀ n, ∃ S1, LgM S1 K l (some (w.heap.size + 1)) (.slice q l.length d) ((((w.alloc (.cells #[.int .u16 xr, .int .u32 xs] 26)).drewN n).alloc (.map #[] 0)).setCell ⟨K, 0, none⟩ (.map (some (w.heap.size + 1)))) ∧ StepG S S1 w ((((w.alloc (.cells #[.int .u16 xr, .int .u32 xs] 26)).drewN n).alloc (.map #[] 0)).setCell ⟨K, 0, none⟩ (.map (some (w.heap.size + 1)))) ∧ ((((w.alloc (.cells #[.int .u16 xr, .int .u32 xs] 26)).drewN n).alloc (.map #[] 0)).setCell ⟨K, 0, none⟩ (.map (some (w.heap.size + 1)))).heap[w.heap.size]? = some (.cells #[.int .u16 xr, .int .u32 xs] 26 (0, 0))) := fun n => by
          have h1 := put_map (HH.out.below (below_drewN HB.out n))
          have hsz : ((w.alloc (.cells #[.int .u16 xr, .int .u32 xs] 26)).drewN n).heap.size = w.heap.size + 1 := by
            show (w.alloc _).heap.size = _
            simp
          rw [hsz] at h1
          exact ⟨_, h1.1, (StepG.ofBelow (below_drewN HB.out n)).trans h1.2, h1.2.kept.stays (show ((w.alloc (.cells #[.int .u16 xr, .int .u32 xs] 26)).drewN n).heap[w.heap.size]? = _ from HX.out) HHB.out⟩
        have hda : ∀ n, (((w.alloc (.cells #[.int .u16 xr, .int .u32 xs] 26)).drewN n).alloc (.map #[] 0)).heap[K]? = some (.cells #[.map none, .slice q l.length d, .int .i64 (sizeL l : Int)] 31 (0, 0)) := fun n => kept_boxG (HH.out.below (below_drewN HB.out n)).head (below_alloc (Below.refl _ _) _)
        have k0a : ∀ n, (((w.alloc (.cells #[.int .u16 xr, .int .u32 xs] 26)).drewN n).alloc (.map #[] 0)).cell? ⟨K, 0, none⟩ = some (.map none) := fun n => (three_cellsG (hda n)).1
        have kf0a : ∀ n, (((w.alloc (.cells #[.int .u16 xr, .int .u32 xs] 26)).drewN n).alloc (.map #[] 0)).frozen? ⟨K, 0, none⟩ = false := fun n => frozen_of_block (hda n)
        have hmm := @run_makeMap Try.prog
        clear hda
        go_wp2_with fail
        go_meet
        case rel =>
          obtain ⟨S1, e1, e2, e3⟩ := HE.out nq
          exact ⟨_, S1, e1, e2, e3⟩
      | some M =>
        have HE : Hid (∀ n, LgM S K l (some M) (.slice q l.length d) ((w.alloc (.cells #[.int .u16 xr, .int .u32 xs] 26)).drewN n) ∧ StepG S S w ((w.alloc (.cells #[.int .u16 xr, .int .u32 xs] 26)).drewN n)) := fun n => ⟨HH.out.below (below_drewN HB.out n), StepG.ofBelow (below_drewN HB.out n)⟩
        go_wp2_with fail
        go_meet
        case rel => exact ⟨M, S, (HE.out _).1, (HE.out _).2, HX.out⟩
    case rest =>
    obtain ⟨M, S1, hL1, hS1, hbx⟩ := hcut
    have HL1 := Lib.hid hL1
    have HS1 := Lib.hid hS1
    have HBX := Lib.hid hbx
    have HFW : Hid (BRow wc p xb) := HF.out _ hS1.kept
    clear hL1 hS1 hbx HF HH HX HB k0 k1 k2 kf0 hlk hmn
    obtain ⟨k0, k1, k2⟩ := three_cellsG HL1.out.head
    obtain ⟨z0, z1⟩ := two_cellsG HBX.out
    have k0r := cell_regrown k0
    have z0r := cell_regrown z0
    have z1r := cell_regrown z1
    have HCL : Hid (∀ W, Below wc.heap.size wc W → Calls Try.prog 14 #[.slice p xb.length c] W fun e w' => ∃ p' c', e = .returned (.slice p' xb.length c') ∧ RowB w' p' c' xb ∧ Below W.heap.size W w') := fun W hb => cloneL_any _ _ _ W (HFW.out.below hb) hp (by omega)
    clear k0 z0 z1 HFW
    go_wp2_with fail
    refine wp_region_mix_below [0, 1, 2, 3, 4, 5] [6] [7] (by kernel_rfl) (by kernel_rfl) (fun _ _ d _ _ h => by cases d <;> exact h) ?_
    simp only [pickOps, List.filterMap_cons, List.filterMap_nil, List.getElem?_cons_zero, List.getElem?_cons_succ]
    repeat (first | go_big_quiet_step (fail) | quiet_step (fail))
    refine wpQuiet_nil ?_
    clear k0r z0r z1r
    refine seqM_step fun K2 hK2 => ?_
    go_wp2_with fail
    refine (HCL.out _ (by first | exact Below.refl _ _ | exact (Below.refl _ _).drew)).mono ?_
    rintro e w5 ⟨p5, c5, rfl, hr5, hb5⟩
    have HB5 : Hid (Below wc.heap.size wc w5) := below_of_drew hb5
    have HR5 := Lib.hid hr5
    clear hr5 hb5 HCL
    go_wp2_with fail
    refine hK2 _ _ (regrown_of_below HB5.out) ?_
    clear hK2 K2
    refine seqM_nil ?_
    have HL5 := Lib.hid (HL1.out.below HB5.out)
    obtain ⟨w6, hrun, hm6, hk6, hs6⟩ := store_any (HL5.out.map : MapL w5 M l) HL5.out.fit HFX.out HK.out (by have := HL2.out; omega) HR5.out
    have HM6 := Lib.hid hm6
    have HK6 := Lib.hid hk6
    unfold keyL at hrun
    simp only at hrun
    have k6 : w6.heap[K]? = some (.cells #[.map (some M), .slice q l.length d, .int .i64 (sizeL l : Int)] 31 (0, 0)) := hk6.stays HL5.out.head (fun e => by
      obtain ⟨es, n, hm, -⟩ := (HL5.out.map : MapL w5 M l)
      rw [← e, HL5.out.head] at hm
      cases hm)
    have z6 : w6.heap[w.heap.size]? = some (.cells #[.int .u16 xr, .int .u32 xs] 26 (0, 0)) := hk6.stays (kept_boxG HBX.out HB5.out) (fun e => by
      obtain ⟨es, n, hm, -⟩ := (HL5.out.map : MapL w5 M l)
      rw [← e, kept_boxG HBX.out HB5.out] at hm
      cases hm)
    have HNW : Hid (w6.ownsRow K 26 2 (.slice q l.length d) l.length (layN.flat l)) := own_kept HL5.out.names hk6 (fun j hj e => by
      obtain ⟨cs, f, hc⟩ := own_kind HL5.out.names j hj
      obtain ⟨es, n, hm, -⟩ := (HL5.out.map : MapL w5 M l)
      rw [e, hm] at hc
      cases hc)
    obtain ⟨k0, k1, k2⟩ := three_cellsG k6
    have kf1 : w6.frozen? ⟨K, 1, none⟩ = false := frozen_of_block k6
    obtain ⟨z0, z1⟩ := two_cellsG z6
    have HBK : Hid (K ≤ w6.heap.size) := Nat.le_of_lt (lt_of_block k6)
    clear hm6 hk6 k6 z6
    have HLO : Hid (l.length + 1 ≤ maxLen ∧ (l.length + 1) * 8 ≤ 140737488355328) := by have := HL2.out; refine ⟨?_, ?_⟩ <;> (try unfold maxLen) <;> omega
    have k1a : (w6.alloc (.cells #[.int .u16 xr, .int .u32 xs] 26)).cell? ⟨K, 1, none⟩ = some (.slice q l.length d) := cellU k1 (below_alloc (Below.refl _ _) _)
    have z0a : (w6.alloc (.cells #[.int .u16 xr, .int .u32 xs] 26)).cell? ⟨w.heap.size, 0, none⟩ = some (.int .u16 xr) := cellU z0 (below_alloc (Below.refl _ _) _)
    have z1a : (w6.alloc (.cells #[.int .u16 xr, .int .u32 xs] 26)).cell? ⟨w.heap.size, 1, none⟩ = some (.int .u32 xs) := cellU z1 (below_alloc (Below.refl _ _) _)
    go_wp2_with fail
    go_region_law (refine step_append_ownAt rfl (.tmp 45) (.tmp 47) 29 rfl K 26 i0 (.agg #[.int .u16 0, .int .u32 0]) 2 8 Try.underlying29 hi hz0 hz1 hz2 rfl (by decide) (.slice q l.length d) l.length (layN.flat l) (by simp [Act.eval, Act.put]) (by first | exact HNW.out.alloc _ | exact (show (w6.drewN 1).ownsRow K 26 2 (.slice q l.length d) l.length (layN.flat l) from HNW.out).alloc _) ⟨w6.heap.size, 0, none⟩ 1 1 [.int .u16 xr, .int .u32 xs] (by simp [Act.eval, Act.put]) rfl (cells_new (cs := [.int .u16 xr, .int .u32 xs])) (layN.one ⟨xr, xs, xb⟩) HLO.out.1 HLO.out.2 (by have := HBK.out; simp; omega) ?_; intro v' w7 hown' hgrow hloc; obtain ⟨q', d', rfl⟩ := owns_slice hown'; have H7 := Lib.hid (put_end HL5.out HFX.out HK.out HM6.out HK6.out (by first | exact below_alloc (Below.refl _ _) _ | exact below_alloc (below_drewN (Below.refl _ _) 1) _) hown' hgrow hloc); clear hown' hgrow hloc; have y0 := (three_cellsG H7.out.1).2.1; have y1 := (three_cellsG H7.out.1).2.2; have f0 := frozen_of_block (o := 1) H7.out.1; have f1 := frozen_of_block (o := 2) H7.out.1)
    all_goals
      have e9 : (sizeL (l ++ [(⟨xr, xs, xb⟩ : Lm)]) : Int) = (sizeL l : Int) + (xb.length : Int) := by rw [sizeG_add]; simp
      have hsl : sizeL l ≤ 100000 := by have h1 := sizeG_le HL5.out.fit; have h2 := HL2.out; omega
      have HE : Hid (∃ S', Lgg S' K (putG l ⟨xr, xs, xb⟩) ((w7.setCell ⟨K, 1, none⟩ (.slice q' (l.length + 1) d')).setCell ⟨K, 2, none⟩ (.int .i64 ((sizeL l : Int) + (xb.length : Int)))) ∧ StepG S S' w ((w7.setCell ⟨K, 1, none⟩ (.slice q' (l.length + 1) d')).setCell ⟨K, 2, none⟩ (.int .i64 ((sizeL l : Int) + (xb.length : Int))))) := by
        obtain ⟨-, h8, h9⟩ := H7.out
        rw [e9] at h8 h9
        refine ⟨_, ?_, (HS1.out.trans (StepG.ofBelow HB5.out)).trans h9⟩
        unfold putG
        rw [if_neg (by simp only [HK.out]; exact Bool.false_ne_true)]
        exact ⟨some M, _, h8⟩
      clear H7 e9 HL1 HS1 HBX HL5 HB5 HR5 HM6 HK6 HNW HBK k0 k1 k2 kf1 z0 z1 k1a z0a z1a hrun hs6 HFX HK hi hz0 hz1 hz2
      generalize sizeL l = Z at *
      go_wp2
      go_ret
      exact ⟨rfl, HE.out⟩
end Go.Proofs.Ytafhjccghbpbbaa
