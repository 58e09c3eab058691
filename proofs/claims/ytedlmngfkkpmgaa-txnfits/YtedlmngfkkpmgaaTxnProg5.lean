
/-
  What the program's Undoes of layer 9 hands back. No conditions beyond what each theorem states.
-/
import Derived.Test.YtedlmngfkkpmgaaTxnProg1
import Derived.Test.YtedlmngfkkpmgaaTxnProg4
namespace Go.Proofs.Ytedlmngfkkpmgaa
open Go.ChangeShapes Go.WideShapes Go.ChangeAt Go.RowKit Go.Lib
set_option linter.unusedVariables false
set_option linter.unusedSimpArgs false

theorem results_ct {P : Program} {fn : Func} {p t : Tmp} {ty : TypeId} (h : fn.results = #[.cell p ty, .tmp t]) (tmps : Array Value) (w : World) (a : Addr) (va : Value)
    (hp : tmps.getD p undef = .pointer (some a)) (la : (loadVar ty a).run P w = .ok va w) :
    (results fn tmps).run P w = .ok (.tuple #[va, tmps.getD t undef]) w := by
  have hp' : tmps[p]?.getD undef = .pointer (some a) := by simpa using hp
  simp [results, h, hp', asAddr, la]
theorem loadTI {w : World} {B : Nat} {cs : Array Value} {t : TypeId} (h : w.heap[B]? = some (.cells cs t (0, 0))) (hs : cs.size = 2) : (loadVar 38 ⟨B, 0, none⟩).run Try.prog w = .ok (.agg cs) w :=
  run_loadVar_row w B t 38 _ (0, 0) _ h Try.underlying38 rfl (by rw [hs]; exact szTI)
set_option maxHeartbeats 6400000 in
set_option maxRecDepth 20000 in
theorem undoes_spec : UndoesSpec := by
  intro t xs p c w H hs h0
  have hlen : t.ops.length = xs.length := by rw [H.ops, List.length_map]
  obtain ⟨g1, g2, g3, g4, g5, g6, g7, g8, g9⟩ := fitT_ok h0
  have HOK := fitOs_ok t.ops (-1) g9
  have h00 : t.ops.getD 0 o0 = (xs.getD 0 ov0).1 := by rw [H.ops, getD_map1 xs (by omega)]
  have hm : (xs.getD 0 ov0).1 ∈ t.ops := by rw [H.ops]; exact List.mem_map.2 ⟨_, getD_mem ov0 (by omega), rfl⟩
  obtain ⟨ho1, ho2⟩ := HOK _ hm
  have hk15 : 1 ≤ (xs.getD 0 ov0).1.kind ∧ (xs.getD 0 ov0).1.kind ≤ 5 := by rcases fitO_cases ho1 with c | c | c | c <;> omega
  have HUR : Hid (undR t = if 3 < (xs.getD 0 ov0).1.kind then t.r else 0) := by show _ = _; unfold undR; rw [h00]
  have HUS : Hid (undS t = if 3 < (xs.getD 0 ov0).1.kind then (xs.getD 0 ov0).1.seq else 0) := by show _ = _; unfold undS; rw [h00]
  have HUB : Hid (undB t = decide (3 < (xs.getD 0 ov0).1.kind)) := by show _ = _; unfold undB; rw [h00]
  have hx0 : 0 < xs.length := by omega
  have HR := Lib.hid H.row.row
  unfold tv
  rw [hlen] at ho2 g7 g8 ⊢
  clear H hs h0 h00 hm HOK g9 hlen ho1
  generalize undR t = UR at HUR ⊢
  generalize undS t = US at HUS ⊢
  generalize undB t = UB at HUB ⊢
  have HBA := Lib.hid (below_alloc (below_alloc (Below.refl w.heap.size w) (.cells #[.int .u16 t.r, .int .u32 t.seq, .int .u64 t.clock, .int .i64 t.user, .slice p xs.length c] 27)) (.cells #[.int .u16 0, .int .u32 0] 38))
  have HX := Lib.hid (kept_box (heap_alloc_new w (.cells #[.int .u16 t.r, .int .u32 t.seq, .int .u64 t.clock, .int .i64 t.user, .slice p xs.length c] 27)) (below_alloc (Below.refl _ _) (.cells #[.int .u16 0, .int .u32 0] 38)))
  have HY := Lib.hid (heap_alloc2_new w (.cells #[.int .u16 t.r, .int .u32 t.seq, .int .u64 t.clock, .int .i64 t.user, .slice p xs.length c] 27) (.cells #[.int .u16 0, .int .u32 0] 38))
  by_cases n1 : xs.length = 1
  case neg =>
    have k3 : ¬ 3 < (xs.getD 0 ov0).1.kind := fun h => n1 (ho2 h).1
    rw [if_neg k3] at HUR HUS
    rw [decide_eq_false k3] at HUB
    have n1' : ((xs.length : Int) != 1) = true := bne_int (by omega)
    obtain ⟨z0, z1, z2, z3, z4⟩ := five_cells HX.out
    clear HR k3
    go_enter Try.func13, Try.ntmps13
    go_wp2
    (try simp only [Exit.inBlock, Exit.then])
    refine bodyPost_ret (results_ct rfl _ _ ⟨w.heap.size + 1, 0, none⟩ (.agg #[.int .u16 0, .int .u32 0]) rfl (loadTI (heap_alloc2_new w _ _) rfl)) rfl ?_
    exact ⟨by rw [HUR.out, HUS.out, HUB.out]; rfl, HBA.out⟩
  obtain ⟨z0, z1, z2, z3, z4⟩ := five_cells HX.out
  have n1' : ((xs.length : Int) != 1) = false := by rw [n1]; rfl
  have n0' : (0 : Int) < (xs.length : Int) := by omega
  have HR1 := Lib.hid (fun (W : World) (hb : Below w.heap.size w W) => orow_at (HR.out.below hb) hx0)
  have N1 := Lib.hid n1
  obtain ⟨b, o, rfl, d0, d1, d2, d3, d4, d5, d6⟩ := HR1.out _ HBA.out
  simp only [Nat.zero_mul, Nat.add_zero] at HR1 d0 d1 d2 d3 d4 d5 d6
  have HRW : Hid (∀ (W : World), Below w.heap.size w W → W.cell? ⟨b, o + 6, none⟩ = some (.int .u32 (xs.getD 0 ov0).1.seq)) := fun W hb => by
    obtain ⟨b', o', e', -, -, -, -, -, -, hh⟩ := HR1.out W hb
    cases e'
    exact hh
  clear HR HR1 n1
  generalize xs.getD 0 ov0 = x at d0 d1 d2 d3 d4 d5 d6 HUR HUS HUB hk15 ho2 HRW
  obtain ⟨om, px, cx⟩ := x
  simp only at d0 d1 d2 d3 d4 d5 d6 HUR HUS HUB hk15 ho2 HRW
  generalize (⟨om.text.toArray⟩ : ByteArray) = bt at d4
  by_cases k3 : 3 < om.kind
  · rw [if_pos k3] at HUR HUS
    rw [decide_eq_true k3] at HUB
    have HT := Lib.hid (tturns_yes om.kind om.r om.n om.num om.seq bt px om.spans.length cx (by omega))
    clear k3 ho2 hk15
    go_enter Try.func13, Try.ntmps13
    go_wp2_with fail
    refine (HT.out _).mono ?_
    rintro e w1 ⟨rfl, hb1⟩
    have HB1 := Lib.hid (below_step HBA.out hb1)
    have HX1 := Lib.hid (kept_box HX.out hb1)
    have HY1 := Lib.hid (kept_box HY.out hb1)
    clear hb1 z0 z1 z2 z3 z4 d0 d1 d2 d3 d4 d5 d6
    obtain ⟨z0, z1, z2, z3, z4⟩ := five_cells HX1.out
    obtain ⟨y0, y1⟩ := two_cells HY1.out
    have f1 : ∀ o, w1.frozen? ⟨w.heap.size + 1, o, none⟩ = false := fun o => frozen_of_block HY1.out
    have d6 := HRW.out _ HB1.out
    have hS := Lib.hid (only_two w1 (w.heap.size + 1) (.int .u16 t.r) (.int .u32 om.seq))
    go_wp2_with fail
    go_region
    all_goals
      go_wp2
      (try simp only [Exit.inBlock, Exit.then])
      refine bodyPost_ret (results_ct rfl _ _ ⟨w.heap.size + 1, 0, none⟩ (.agg #[.int .u16 t.r, .int .u32 om.seq]) rfl (loadTI (box_two HY1.out) rfl)) rfl ?_
      exact ⟨by rw [HUR.out, HUS.out, HUB.out]; rfl, below_drewN (only_new (X := w.heap.size + 1) HB1.out hS.out (by omega)) 1⟩
  · rw [if_neg k3] at HUR HUS
    rw [decide_eq_false k3] at HUB
    have HT := Lib.hid (tturns_no om.kind om.r om.n om.num om.seq bt px om.spans.length cx (by omega) (by omega))
    clear k3 ho2 hk15
    go_enter Try.func13, Try.ntmps13
    go_wp2_with fail
    refine (HT.out _).mono ?_
    rintro e w1 ⟨rfl, hb1⟩
    have HB1 := Lib.hid (below_step HBA.out hb1)
    have HY1 := Lib.hid (kept_box HY.out hb1)
    clear hb1 z0 z1 z2 z3 z4 d0 d1 d2 d3 d4 d5 d6
    obtain ⟨y0, y1⟩ := two_cells HY1.out
    have f1 : ∀ o, w1.frozen? ⟨w.heap.size + 1, o, none⟩ = false := fun o => frozen_of_block HY1.out
    have hS := Lib.hid (only_two w1 (w.heap.size + 1) (.int .u16 0) (.int .u32 0))
    go_wp2
    (try simp only [Exit.inBlock, Exit.then])
    refine bodyPost_ret (results_ct rfl _ _ ⟨w.heap.size + 1, 0, none⟩ (.agg #[.int .u16 0, .int .u32 0]) rfl (loadTI (box_two HY1.out) rfl)) rfl ?_
    exact ⟨by rw [HUR.out, HUS.out, HUB.out]; rfl, only_new (X := w.heap.size + 1) HB1.out hS.out (by omega)⟩
end Go.Proofs.Ytedlmngfkkpmgaa
