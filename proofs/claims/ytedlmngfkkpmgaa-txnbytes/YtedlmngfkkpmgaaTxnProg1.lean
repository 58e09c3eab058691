
/-
  What the program's ID, Key, Undoes and Atoms of layer 9 hand back. No conditions beyond what each theorem states.
-/
import Derived.Test.YtedlmngfkkpmgaaTxnSpec
import Derived.Test.YtedlmngfkkpmgaaOpProg3
namespace Go.Proofs.Ytedlmngfkkpmgaa
open Go.ChangeShapes Go.WideShapes Go.ChangeAt Go.RowKit Go.Lib
set_option linter.unusedVariables false
set_option linter.unusedSimpArgs false

theorem szTI : (Try.prog.info? 38).map (·.size) = some 2 := by kernel_rfl
theorem szTK : (Try.prog.info? 41).map (·.size) = some 3 := by kernel_rfl
theorem only_two (w : World) (B : Nat) (a b : Value) : Only B w ((w.setCell ⟨B, 0, none⟩ a).setCell ⟨B, 1, none⟩ b) := (only_set w B 0 a).trans (only_set _ B 1 b)
theorem only_new {w W W' : World} {X : Nat} (hb : Below w.heap.size w W) (ho : Only X W W') (hX : w.heap.size ≤ X) : Below w.heap.size w W' := hb.trans (ho.below hb.size (fun k ek => by have ek : k = X := ek; omega))
set_option maxHeartbeats 800000 in
theorem idT_spec : IDTSpec := by
  intro t p c w
  unfold tv
  generalize t.ops.length = L
  have HX := Lib.hid (heap_alloc2_new w (.cells #[.int .u16 t.r, .int .u32 t.seq, .int .u64 t.clock, .int .i64 t.user, .slice p L c] 27) (.cells #[.int .u16 0, .int .u32 0] 38))
  go_enter Try.func11, Try.ntmps11
  go_wp2
  (try simp only [Exit.inBlock, Exit.then])
  refine bodyPost_ret (results_cell_row rfl _ _ (w.heap.size + 1) 38 #[.int .u16 t.r, .int .u32 t.seq] (0, 0) _ rfl (heap_alloc2_new w _ _) Try.underlying38 rfl szTI) rfl ?_
  exact ⟨rfl, below_alloc (below_alloc (Below.refl _ _) _) _⟩
set_option maxHeartbeats 800000 in
theorem keyT_spec : KeyTSpec := by
  intro t p c n w
  unfold tv
  generalize t.ops.length = L
  have HX := Lib.hid (heap_alloc2_new w (.cells #[.int .u16 t.r, .int .u32 t.seq, .int .u64 t.clock, .int .i64 t.user, .slice p L c] 27) (.cells #[.int .u64 0, .int .u16 0, .int .u32 0] 41))
  go_enter Try.func12, Try.ntmps12
  go_wp2
  (try simp only [Exit.inBlock, Exit.then])
  refine bodyPost_ret (results_cell_row rfl _ _ (w.heap.size + 1) 41 #[.int .u64 t.clock, .int .u16 t.r, .int .u32 n] (0, 0) _ rfl (heap_alloc2_new w _ _) Try.underlying41 rfl szTK) rfl ?_
  exact ⟨rfl, below_alloc (below_alloc (Below.refl _ _) _) _⟩
set_option maxHeartbeats 6400000 in
set_option maxRecDepth 20000 in
theorem atomsT_any (t : Tm) (xs : List OV) (p : Option Addr) (c : Nat) (w : World) (H : InT t xs p c w) (hs : SmallX xs) (h0 : fitT t = 0) :
    Calls Try.prog 14 #[tv t p c] w fun e w' => e = .returned (.int .i64 (atomsL t.ops)) ∧ Below w.heap.size w w' := by
  have hlen : t.ops.length = xs.length := by rw [H.ops, List.length_map]
  have HR := Lib.hid H.row.row
  have HDR : Hid (∀ k, k < xs.length → t.ops.drop k = (xs.getD k ov0).1 :: t.ops.drop (k + 1)) := fun k hk => drop_ops H.ops hk
  have HFI : Hid (∀ k, k < xs.length → FitOm (xs.getD k ov0).1) := fun k hk => (H.row.at hk).fit
  have HTV : Hid (∀ p c, tv t p c = .agg #[.int .u16 t.r, .int .u32 t.seq, .int .u64 t.clock, .int .i64 t.user, .slice p xs.length c]) := fun p c => by unfold tv; rw [hlen]
  have HOK := fitOs_ok t.ops (-1) (fitT_ok h0).2.2.2.2.2.2.2.2
  have hl16 : xs.length ≤ 16 := by have := (fitT_ok h0).2.2.2.2.2.2.2.1; omega
  have HFO : Hid (∀ k, k < xs.length → fitO (xs.getD k ov0).1 = 0) := fun k hk => (HOK _ (by rw [H.ops]; exact List.mem_map.2 ⟨_, getD_mem ov0 hk, rfl⟩)).1
  have HAT : Hid (∀ k, k < xs.length → ∀ W, Below w.heap.size w W → Calls Try.prog 32 #[ov (xs.getD k ov0).1 (xs.getD k ov0).2.1 (xs.getD k ov0).2.2] W fun e w' => e = .returned (.int .i64 (atomsO (xs.getD k ov0).1)) ∧ Below W.heap.size W w') := fun k hk W hb => atoms_spec _ _ _ W ((H.row.at hk).below hb) (hs.at hk).1 (hs.at hk).2 (HFO.out k hk)
  have HTK : Hid (∀ k, k < xs.length → atomsL (t.ops.take (k + 1)) = atomsL (t.ops.take k) + atomsO (xs.getD k ov0).1) := fun k hk => by
    have hk' : k < t.ops.length := by omega
    rw [take_getD o0 hk', atomsL_append, H.ops, getD_map1 xs hk, atomsL_cons, atomsL_nil, Int.add_zero]
  have HRG : Hid (∀ k, k ≤ xs.length → 0 ≤ atomsL (t.ops.take k) ∧ atomsL (t.ops.take k) ≤ k * 1024) := fun k => by
    induction k with
    | zero => intro _; rw [List.take_zero, atomsL_nil]; exact ⟨Int.le_refl _, by omega⟩
    | succ k ih =>
      intro hk
      have i := ih (by omega)
      have r := atoms_range (HFO.out k (by omega)) (HFI.out k (by omega))
      rw [HTK.out k (by omega)]
      omega
  clear H HOK h0
  rw [HTV.out]
  go_enter Try.func14, Try.ntmps14
  go_wp2
  have HX := Lib.hid (heap_alloc_new w (.cells #[.int .u16 t.r, .int .u32 t.seq, .int .u64 t.clock, .int .i64 t.user, .slice p xs.length c] 27))
  go_loopg [3, 9] xs.length (fun g a i wr => ∃ k : Nat, k ≤ xs.length ∧ xs.length - k ≤ g ∧ i = .int .i64 (k : Int) ∧ a = .int .i64 (atomsL (t.ops.take k)) ∧ Below (w.alloc (.cells #[.int .u16 t.r, .int .u32 t.seq, .int .u64 t.clock, .int .i64 t.user, .slice p xs.length c] 27)).heap.size (w.alloc (.cells #[.int .u16 t.r, .int .u32 t.seq, .int .u64 t.clock, .int .i64 t.user, .slice p xs.length c] 27)) wr)
  case atStart => exact ⟨0, Nat.zero_le _, by omega, rfl, by rw [List.take_zero, atomsL_nil], Below.refl _ _⟩
  case round =>
    obtain ⟨k, hk, hg, rfl, rfl, hB⟩ := hrel
    have HB := Lib.hid hB
    have HBW : Hid (Below w.heap.size w wr) := below_step (below_alloc (Below.refl _ _) _) HB.out
    obtain ⟨z0, z1, z2, z3, z4⟩ := five_cells (kept_box HX.out HB.out)
    clear hB
    have hrg := HRG.out k hk
    by_cases hlt : k < xs.length
    · have hkl : (k : Int) < (xs.length : Int) := by omega
      have HTKk := Lib.hid (HTK.out k hlt)
      have HATk := Lib.hid (fun (A : Obj) => HAT.out k hlt (wr.alloc A) (below_alloc HBW.out A))
      have hrk := atoms_range (HFO.out k hlt) (HFI.out k hlt)
      obtain ⟨b, o, rfl, c0, c1, c2, c3, c4, c5, c6⟩ := orow_at (HR.out.below HBW.out) hlt
      generalize atomsL (t.ops.take k) = A at HTKk hrg
      generalize xs.getD k ov0 = x at c0 c1 c2 c3 c4 c5 c6 HTKk HATk hrk
      obtain ⟨om, px, cx⟩ := x
      simp only at c0 c1 c2 c3 c4 c5 c6 HTKk HATk hrk
      have HOM : Hid (∀ p c, ov om p c = .agg #[.int .i64 om.kind, .int .u16 om.r, .int .u32 om.n, .int .u32 om.num, .string ⟨om.text.toArray⟩, .slice p om.spans.length c, .int .u32 om.seq]) := fun p c => rfl
      rw [HOM.out] at HATk
      generalize (⟨om.text.toArray⟩ : ByteArray) = bt at c4 HATk HOM
      have hw : IntKind.i64.wrap (A + atomsO om) = A + atomsO om := by rw [IntKind.wrap_i64]; omega
      generalize atomsO om = AO at HTKk HATk hrk hw
      go_wp2_with fail
      refine (HATk.out _).mono ?_
      rintro e w1 ⟨rfl, hb1⟩
      have HB1 := Lib.hid (below_step (below_alloc HB.out _) hb1)
      clear hb1
      go_wp2
      go_roundg (xs.length - (k + 1))
      case measure => omega
      case rel => exact ⟨k + 1, by omega, Nat.le_refl _, by go_num, by rw [HTKk.out], HB1.out⟩
    · have : k = xs.length := by omega
      subst this
      have hkl : ¬ (xs.length : Int) < (xs.length : Int) := by omega
      have HLA : Hid (t.ops.take xs.length = t.ops) := by show _ = _; rw [← hlen, List.take_length]
      rw [HLA.out]
      go_wp2
      go_ret
      exact ⟨rfl, HBW.out⟩

theorem atomsT_spec : AtomsTSpec := fun t xs p c w H hs h0 => atomsT_any t xs p c w H hs h0
end Go.Proofs.Ytedlmngfkkpmgaa
