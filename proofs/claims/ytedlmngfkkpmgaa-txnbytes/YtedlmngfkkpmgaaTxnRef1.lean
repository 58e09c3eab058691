
/-
  What the document's Atoms and Fit of layer 9 hand back. No conditions beyond what each theorem states.
-/
import Derived.Test.YtedlmngfkkpmgaaMade3
import Derived.Test.YtedlmngfkkpmgaaOpRef3
namespace Go.Proofs.Ytedlmngfkkpmgaa
open Go.ChangeShapes Go.WideShapes Go.ChangeAt Go.RowKit Go.Lib
set_option linter.unusedVariables false
set_option linter.unusedSimpArgs false

/-- Operations that are few, and short. -/
def SmallX (xs : List OV) : Prop := ∀ x ∈ xs, x.1.text.length ≤ 300 ∧ x.1.spans.length ≤ 60
theorem SmallX.at {xs : List OV} (h : SmallX xs) {k : Nat} (hk : k < xs.length) : (xs.getD k ov0).1.text.length ≤ 300 ∧ (xs.getD k ov0).1.spans.length ≤ 60 := h _ (getD_mem ov0 hk)
theorem bne_int {a b : Int} (h : ¬ a = b) : (a != b) = true := by simpa using h
theorem atoms_range {o : Om} (h : fitO o = 0) (hf : FitOm o) : 0 ≤ atomsO o ∧ atomsO o ≤ 1024 ∧ (3 < o.kind → atomsO o = 0) ∧ (0 < atomsO o → o.kind = 1 ∨ o.kind = 3) ∧ (o.kind = 1 ∨ o.kind = 3 → 1 ≤ o.num ∧ o.num ≤ 268435456 ∧ o.num + atomsO o - 1 ≤ 268435456) := by
  rcases fitO_cases h with c | c | c | c
  · obtain ⟨k, -, -, ht, -, hl, hn⟩ := c
    have hn := of_decide_eq_true hn
    have ha : atomsO o = (o.text.length : Int) := by unfold atomsO; rw [if_pos k]
    rw [ha] at hn ⊢
    refine ⟨by omega, by omega, fun h => by omega, fun h => by omega, fun _ => by omega⟩
  · obtain ⟨k, -, -, -, -⟩ := c
    have ha : atomsO o = 0 := by unfold atomsO; rw [if_neg (by omega), if_neg (by omega)]
    rw [ha]
    refine ⟨by omega, by omega, fun h => by omega, fun h => by omega, fun _ => by omega⟩
  · obtain ⟨k, -, -, hfl, hn⟩ := c
    have hn := of_decide_eq_true hn
    have ha : atomsO o = (totalL o.spans : Int) := by unfold atomsO; rw [if_neg (by omega), if_pos k]
    have := (fitL_ok hfl).2.1
    rw [ha] at hn ⊢
    refine ⟨by omega, by omega, fun h => by omega, fun h => by omega, fun _ => by omega⟩
  · obtain ⟨k, -, -, -, -⟩ := c
    have ha : atomsO o = 0 := by unfold atomsO; rw [if_neg (by omega), if_neg (by omega)]
    rw [ha]
    refine ⟨by omega, by omega, fun h => by omega, fun h => by omega, fun _ => by omega⟩
theorem counts_of_fit {o : Om} (h : fitO o = 0) : Counts o := fun hk => by
  rcases fitO_cases h with c | c | c | c
  · have := c.1; omega
  · have := c.1; omega
  · exact counts_fit c.2.2.2.1 hk
  · have := c.1; omega
theorem getD_map1 (xs : List OV) {k : Nat} (h : k < xs.length) : (xs.map (·.1)).getD k o0 = (xs.getD k ov0).1 := by
  rw [List.getD_eq_getElem?_getD, List.getD_eq_getElem?_getD, List.getElem?_map, List.getElem?_eq_getElem h]; rfl
theorem drop_ops {t : Tm} {xs : List OV} (h : t.ops = xs.map (·.1)) {k : Nat} (hk : k < xs.length) : t.ops.drop k = (xs.getD k ov0).1 :: t.ops.drop (k + 1) := by
  have hk' : k < t.ops.length := by rw [h, List.length_map]; exact hk
  rw [drop_getD o0 hk', h, getD_map1 xs hk]

set_option maxHeartbeats 6400000 in
set_option maxRecDepth 20000 in
theorem refatomsT_any (t : Tm) (xs : List OV) (p : Option Addr) (c : Nat) (w : World) (H : InT t xs p c w) (hs : SmallX xs) (h0 : fitT t = 0) :
    Calls Try.prog 15 #[tv t p c] w fun e w' => e = .returned (.int .i64 (atomsL t.ops)) ∧ Below w.heap.size w w' := by
  have hlen : t.ops.length = xs.length := by rw [H.ops, List.length_map]
  have HR := Lib.hid H.row.row
  have HDR : Hid (∀ k, k < xs.length → t.ops.drop k = (xs.getD k ov0).1 :: t.ops.drop (k + 1)) := fun k hk => drop_ops H.ops hk
  have HFI : Hid (∀ k, k < xs.length → FitOm (xs.getD k ov0).1) := fun k hk => (H.row.at hk).fit
  have HTV : Hid (∀ p c, tv t p c = .agg #[.int .u16 t.r, .int .u32 t.seq, .int .u64 t.clock, .int .i64 t.user, .slice p xs.length c]) := fun p c => by unfold tv; rw [hlen]
  have HOK := fitOs_ok t.ops (-1) (fitT_ok h0).2.2.2.2.2.2.2.2
  have hl16 : xs.length ≤ 16 := by have := (fitT_ok h0).2.2.2.2.2.2.2.1; omega
  have HFO : Hid (∀ k, k < xs.length → fitO (xs.getD k ov0).1 = 0) := fun k hk => (HOK _ (by rw [H.ops]; exact List.mem_map.2 ⟨_, getD_mem ov0 hk, rfl⟩)).1
  have HAT : Hid (∀ k, k < xs.length → ∀ W, Below w.heap.size w W → Calls Try.prog 28 #[ov (xs.getD k ov0).1 (xs.getD k ov0).2.1 (xs.getD k ov0).2.2] W fun e w' => e = .returned (.int .i64 (atomsO (xs.getD k ov0).1)) ∧ Below W.heap.size W w') := fun k hk W hb => refatoms_any _ _ _ W ((H.row.at hk).row.below hb) (counts_of_fit (HFO.out k hk)) (by have := (hs.at hk).2; omega) (by have := (hs.at hk).1; omega)
  have HTK : Hid (∀ k, k < xs.length → atomsL (t.ops.take (k + 1)) = atomsL (t.ops.take k) + atomsO (xs.getD k ov0).1) := fun k hk => by
    have hk' : k < t.ops.length := by omega
    rw [take_getD o0 hk', atomsL_append, H.ops, getD_map1 xs hk, atomsL_cons, atomsL_nil, Int.add_zero]
  have HRG : Hid (∀ k, k ≤ xs.length → 0 ≤ atomsL (t.ops.take k) ∧ atomsL (t.ops.take k) ≤ k * 1024) := fun k => by
    induction k with
    | zero => intro _; rw [List.take_zero, atomsL_nil]; exact ⟨Int.le_refl _, by omega⟩
    | succ k ih =>
      intro hk
      have i := ih (by omega)
      have r := atoms_range (HFO.out k (by omega)) (HFI.out k (by omega))
      rw [HTK.out k (by omega)]
      omega
  clear H HOK h0
  rw [HTV.out]
  go_enter Try.func15, Try.ntmps15
  go_wp2
  have HX := Lib.hid (heap_alloc_new w (.cells #[.int .u16 t.r, .int .u32 t.seq, .int .u64 t.clock, .int .i64 t.user, .slice p xs.length c] 32))
  go_loopg [3, 4] xs.length (fun g a i wr => ∃ k : Nat, k ≤ xs.length ∧ xs.length - k ≤ g ∧ i = .int .i64 (k : Int) ∧ a = .int .i64 (atomsL (t.ops.take k)) ∧ Below (w.alloc (.cells #[.int .u16 t.r, .int .u32 t.seq, .int .u64 t.clock, .int .i64 t.user, .slice p xs.length c] 32)).heap.size (w.alloc (.cells #[.int .u16 t.r, .int .u32 t.seq, .int .u64 t.clock, .int .i64 t.user, .slice p xs.length c] 32)) wr)
  case atStart => exact ⟨0, Nat.zero_le _, by omega, rfl, by rw [List.take_zero, atomsL_nil], Below.refl _ _⟩
  case round =>
    obtain ⟨k, hk, hg, rfl, rfl, hB⟩ := hrel
    have HB := Lib.hid hB
    have HBW : Hid (Below w.heap.size w wr) := below_step (below_alloc (Below.refl _ _) _) HB.out
    obtain ⟨z0, z1, z2, z3, z4⟩ := five_cells (kept_box HX.out HB.out)
    clear hB
    have hrg := HRG.out k hk
    by_cases hlt : k < xs.length
    · have hkl : (k : Int) < (xs.length : Int) := by omega
      have HTKk := Lib.hid (HTK.out k hlt)
      have HATk := Lib.hid (HAT.out k hlt wr HBW.out)
      have hrk := atoms_range (HFO.out k hlt) (HFI.out k hlt)
      obtain ⟨b, o, rfl, c0, c1, c2, c3, c4, c5, c6⟩ := orow_at (HR.out.below HBW.out) hlt
      generalize atomsL (t.ops.take k) = A at HTKk hrg
      generalize xs.getD k ov0 = x at c0 c1 c2 c3 c4 c5 c6 HTKk HATk hrk
      obtain ⟨om, px, cx⟩ := x
      simp only at c0 c1 c2 c3 c4 c5 c6 HTKk HATk hrk
      have HOM : Hid (∀ p c, ov om p c = .agg #[.int .i64 om.kind, .int .u16 om.r, .int .u32 om.n, .int .u32 om.num, .string ⟨om.text.toArray⟩, .slice p om.spans.length c, .int .u32 om.seq]) := fun p c => rfl
      rw [HOM.out] at HATk
      generalize (⟨om.text.toArray⟩ : ByteArray) = bt at c4 HATk HOM
      have hw : IntKind.i64.wrap (A + atomsO om) = A + atomsO om := by rw [IntKind.wrap_i64]; omega
      generalize atomsO om = AO at HTKk HATk hrk hw
      go_wp2_with fail
      refine HATk.out.mono ?_
      rintro e w1 ⟨rfl, hb1⟩
      have HB1 := Lib.hid (below_step HB.out hb1)
      clear hb1
      go_wp2
      go_roundg (xs.length - (k + 1))
      case measure => omega
      case rel => exact ⟨k + 1, by omega, Nat.le_refl _, by go_num, by rw [HTKk.out], HB1.out⟩
    · have : k = xs.length := by omega
      subst this
      have hkl : ¬ (xs.length : Int) < (xs.length : Int) := by omega
      have HLA : Hid (t.ops.take xs.length = t.ops) := by show _ = _; rw [← hlen, List.take_length]
      rw [HLA.out]
      go_wp2
      go_ret
      exact ⟨rfl, HBW.out⟩

end Go.Proofs.Ytedlmngfkkpmgaa
