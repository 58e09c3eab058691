/-
  Several texts of one proof, joined: each part says at its head what it proves. No conditions beyond what each theorem states.
-/
import Derived.Test.YtjkdcpalgfakhaaGreatZ16
import Derived.Test.YtjkdcpalgfakhaaGreatZ11
import Derived.Test.YtjkdcpalgfakhaaGreatZ03
import Derived.Test.YtjkdcpalgfakhaaGreatZ08
/-
  What slices.IndexFunc and slices.DeleteFunc come to at envelopes, for any test of an envelope. No conditions beyond what each theorem states.
-/
namespace Go.Proofs.YtjkdcpalgfakhaaGreat
open Go.ChangeShapes Go.WideShapes Go.ChangeAt Go.RowKit Go.Lib
set_option linter.unusedVariables false
set_option linter.unusedSimpArgs false

/-- A test of an envelope, whatever is written into block B. -/
def TestE (B : Nat) (w : World) (g : Nat) (lb : Array Value) (f : EV → Bool) (x : EV) : Prop := ∀ W, Kept (fun k => k = B) w W → Calls Tryz.prog g (#[ev x.e x.p x.c x.q x.d] ++ lb) W fun e w' => e = .returned (.bool (f x)) ∧ Below W.heap.size W w'
/-- The first place of which the test says yes. -/
def FirstE (f : EV → Bool) (xs : List EV) (r : Int) : Prop := (r = -1 ∧ ∀ j, j < xs.length → f (xs.getD j x0E) = false) ∨ ∃ k : Nat, r = (k : Int) ∧ k < xs.length ∧ f (xs.getD k x0E) = true ∧ ∀ j, j < k → f (xs.getD j x0E) = false
set_option maxHeartbeats 6400000 in
set_option maxRecDepth 100000 in
theorem indexFunc_any (B g : Nat) (b : Addr) (f : EV → Bool) (xs : List EV) (p : Option Addr) (c : Nat) (w : World) (eg : ∀ args w, (callFunc g args).run Tryz.prog w = .ok (.enter g args) w) (hR : GRow layE w p xs) (hl : xs.length ≤ 100000) (hT : ∀ x ∈ xs, TestE B w g #[.pointer (some b)] f x) :
    Calls Tryz.prog 61 #[.slice p xs.length c, .func (.func g) #[] #[.pointer (some b)]] w fun e w' => ∃ r, e = .returned (.int .i64 r) ∧ FirstE f xs r ∧ Below w.heap.size w w' := by
  have HR := Lib.hid hR
  have HT : Hid (∀ k, k < xs.length → TestE B w g #[.pointer (some b)] f (xs.getD k x0E)) := fun k hk => hT _ (getD_mem x0E hk)
  clear hR hT
  unfold TestE ev at HT
  go_enter Tryz.func61, Tryz.ntmps61
  go_wp2
  go_loopg [5, 8] xs.length (fun n s i wr => ∃ k : Nat, k ≤ xs.length ∧ xs.length - k ≤ n ∧ i = .int .i64 (k : Int) ∧ (∀ j, j < k → f (xs.getD j x0E) = false) ∧ Below w.heap.size w wr)
  case atStart => exact ⟨0, Nat.zero_le _, by omega, rfl, fun j hj => by omega, Below.refl _ _⟩
  case round =>
    obtain ⟨k, hk, hg, rfl, hno, hb⟩ := hrel
    have HB := Lib.hid hb
    have HN := Lib.hid hno
    clear hb hno
    by_cases hlt : k < xs.length
    · have hkl : (k : Int) < (xs.length : Int) := by omega
      obtain ⟨o1, o2, rfl, c0, c1, c2, c3, c4, c5⟩ := erow_at (HR.out.below HB.out) hlt
      have HTK := Lib.hid (HT.out k hlt wr (Kept.ofBelow HB.out))
      have HNK : Hid (f (xs.getD k x0E) = false → ∀ j, j < k + 1 → f (xs.getD j x0E) = false) := fun h j hj => by
        by_cases e : j = k
        · subst e; exact h
        · exact HN.out j (by omega)
      have HY : Hid (f (xs.getD k x0E) = true → FirstE f xs (k : Int)) := fun h => Or.inr ⟨k, rfl, hlt, h, HN.out⟩
      generalize xs.getD k x0E = X1 at c0 c1 c2 c3 c4 c5 HTK HNK HY
      generalize hF : f X1 = F at HTK HNK HY
      clear hF
      obtain ⟨⟨xd, ⟨xr, xq, xc, xu, xo⟩⟩, xys, xp, xcc, xqq, xdd⟩ := X1
      simp only at c0 c1 c2 c3 c4 c5 HTK
      go_wp2_with fail
      refine HTK.out.mono ?_
      rintro e w5 ⟨rfl, hb5⟩
      have HB5 := Lib.hid (below_step HB.out hb5)
      clear hb5 HTK HB c0 c1 c2 c3 c4 c5
      cases F with
      | true =>
        have HYY := Lib.hid (HY.out rfl)
        go_wp2
        go_ret
        exact ⟨_, rfl, HYY.out, HB5.out⟩
      | false =>
        have HNN := Lib.hid (HNK.out rfl)
        go_wp2
        go_roundg (xs.length - (k + 1))
        case measure => omega
        case rel => exact ⟨k + 1, by omega, Nat.le_refl _, by go_num, HNN.out, HB5.out⟩
    · have : k = xs.length := by omega
      subst this
      have hkl : ¬ (xs.length : Int) < (xs.length : Int) := by omega
      go_wp2
      go_ret
      exact ⟨_, rfl, Or.inl ⟨rfl, HN.out⟩, HB.out⟩
theorem filt_all {f : EV → Bool} {xs : List EV} (h : ∀ j, j < xs.length → f (xs.getD j x0E) = false) : xs.filter (fun x => !f x) = xs := List.filter_eq_self.2 fun x hx => by
  obtain ⟨i, hi, rfl⟩ := mem_getD x0E hx
  rw [h i hi]; rfl
theorem filt_step {f : EV → Bool} {xs : List EV} {j : Nat} (h : j < xs.length) : (xs.take (j + 1)).filter (fun x => !f x) = (xs.take j).filter (fun x => !f x) ++ (if f (xs.getD j x0E) = true then [] else [xs.getD j x0E]) := by
  rw [take_getD x0E h, List.filter_append]
  congr 1
  cases hf : f (xs.getD j x0E) with
  | true => rw [if_pos rfl, List.filter_cons, hf]; rfl
  | false => rw [if_neg (by simp), List.filter_cons, hf]; rfl
theorem six_store {w : World} {B o : Nat} (a b c d e f : Value) : (((((w.setCell ⟨B, o, none⟩ a).setCell ⟨B, o + 1, none⟩ b).setCell ⟨B, o + 2, none⟩ c).setCell ⟨B, o + 3, none⟩ d).setCell ⟨B, o + 4, none⟩ e).setCell ⟨B, o + 5, none⟩ f = w.setCells B o [a, b, c, d, e, f] := rfl
set_option maxHeartbeats 3200000 in
set_option maxRecDepth 100000 in
theorem deleteFunc_any (g : Nat) (b : Addr) (f : EV → Bool) (xs : List EV) (p : Option Addr) (c : Nat) (w : World) (eg : ∀ args w, (callFunc g args).run Tryz.prog w = .ok (.enter g args) w) (hR : RoomE layE w p c xs) (hl : xs.length ≤ 100000) (hT : ∀ x ∈ xs, ∀ B, (∀ a, p = some a → a.block = B) → TestE B w g #[.pointer (some b)] f x) :
    Calls Tryz.prog 36 #[.slice p xs.length c, .func (.func g) #[] #[.pointer (some b)]] w fun e w' => e = .returned (.slice p (xs.filter fun x => !f x).length c) ∧ RoomE layE w' p c (xs.filter fun x => !f x) ∧ Kept (fun k => ∃ a, p = some a ∧ k = a.block) w w' := by
  rcases hR.block with ⟨rfl, rfl, rfl⟩ | ⟨B, rest, rfl, hB, hrl, hnc, hm⟩
  · have HI := Lib.hid (indexFunc_any 0 g b f [] none 0 w eg (GRow.nil _ _ _) (by simp) (fun x hx => by cases hx))
    clear hR hT
    go_enter Tryz.func36, Tryz.ntmps36
    go_wp2_with fail
    refine HI.out.mono ?_
    rintro e w1 ⟨r, rfl, hf, hb1⟩
    have : r = -1 := by
      rcases hf with ⟨h, -⟩ | ⟨k, -, h, -⟩
      · exact h
      · simp at h
    subst this
    have HB1 := Lib.hid hb1
    clear hb1 hf HI
    go_wp2
    go_ret
    exact ⟨rfl, RoomE.zero _ _, Kept.ofBelow HB1.out⟩
  have hrl : xs.length * 6 + rest.length = c * 6 := hrl
  have HI := Lib.hid (indexFunc_any B g b f xs (some ⟨B, 0, none⟩) c w eg (hR.row layE_pos) hl (fun x hx => hT x hx B (fun a e => by cases e; rfl)))
  have HT : Hid (∀ k, k < xs.length → TestE B w g #[.pointer (some b)] f (xs.getD k x0E)) := fun k hk => hT _ (getD_mem x0E hk) B (fun a e => by cases e; rfl)
  have HR := Lib.hid hR
  have HBB := Lib.hid hB
  clear hR hT hB
  unfold TestE ev at HT
  go_enter Tryz.func36, Tryz.ntmps36
  go_wp2_with fail
  refine HI.out.mono ?_
  rintro e w1 ⟨r, rfl, hf, hb1⟩
  have HB1 := Lib.hid hb1
  clear hb1 HI
  rcases hf with ⟨rfl, hall⟩ | ⟨k0, rfl, hk0, hy0, hn0⟩
  · have HFA := Lib.hid (filt_all hall)
    clear hall
    go_wp2
    go_ret
    rw [HFA.out]
    exact ⟨rfl, HR.out.below HB1.out, Kept.ofBelow HB1.out⟩
  · have hc63 : c ≤ 9223372036854775807 := by unfold maxLen at hm; omega
    have hne1 : ((k0 : Int) == -1) = false := beq_eq_false_iff_ne.2 (by omega)
    have HK0 : Hid ((xs.take (k0 + 1)).filter (fun x => !f x) = xs.take k0) := by
      show _ = _
      rw [filt_step hk0, hy0, if_pos rfl, List.append_nil]
      refine filt_all fun j hj => ?_
      rw [List.length_take] at hj
      have := hn0 j (by omega)
      rw [List.getD_eq_getElem?_getD, List.getElem?_take, if_pos (by omega), ← List.getD_eq_getElem?_getD]
      exact this
    clear hy0 hn0
    go_wp2_with fail
    go_loopg [5, 6, 7] xs.length (fun n u v s7 wr => ∃ (j : Nat) (ys mid : List EV), ys = (xs.take j).filter (fun x => !f x) ∧ j ≤ xs.length ∧ xs.length - j ≤ n ∧ u = .int .i64 (ys.length : Int) ∧ v = .int .i64 (j : Int) ∧ 0 < mid.length ∧ ys.length + mid.length = j ∧ wr.heap[B]? = some (.cells (layE.flat (ys ++ mid ++ xs.drop j) ++ rest).toArray 38 (0, 0)) ∧ Kept (fun k => k = B) w wr)
    case atStart =>
      refine ⟨k0 + 1, xs.take k0, [xs.getD k0 x0E], HK0.out.symm, by omega, by omega, by rw [List.length_take, Nat.min_eq_left (by omega)], by go_num, by simp, by simp; omega, ?_, Kept.ofBelow HB1.out⟩
      rw [← take_getD x0E hk0, List.take_append_drop]
      exact kept_box HBB.out HB1.out
    case round =>
      obtain ⟨j, ys, mid, hys, hj, hg, rfl, rfl, hmid, hlen, hblk, hkept⟩ := hrel
      have HYS := Lib.hid hys
      have HBK := Lib.hid hblk
      have HKP := Lib.hid hkept
      clear hys hblk hkept HB1 HR HBB HK0
      by_cases hlt : j < xs.length
      · have hkl : (j : Int) < (xs.length : Int) := by omega
        have hrow : GRow layE wr (some ⟨B, 0, none⟩) (ys ++ mid ++ xs.drop j) := fun m u hm => ⟨B, 0, rfl, by
          rw [Nat.zero_add, cell_of_block HBK.out]
          simp only [List.getElem?_toArray]
          rw [List.getElem?_append_left (List.getElem?_eq_some_iff.1 hm).1]; exact hm⟩
        have hjx : (ys ++ mid ++ xs.drop j).getD j x0E = xs.getD j x0E := by
          rw [List.getD_eq_getElem?_getD, List.getElem?_append_right (by rw [List.length_append]; omega), List.length_append, hlen, Nat.sub_self, List.getElem?_drop, Nat.add_zero, ← List.getD_eq_getElem?_getD]
        obtain ⟨o1, o2, e0, c0, c1, c2, c3, c4, c5⟩ := erow_at hrow (i := j) (by simp; omega)
        cases e0
        rw [hjx] at c0 c1 c2 c3 c4 c5
        simp only [Nat.zero_add] at c0 c1 c2 c3 c4 c5
        have HTK := Lib.hid (fun W h => HT.out j hlt W (HKP.out.trans h (fun _ _ e => e)))
        have HSY : Hid (f (xs.getD j x0E) = true → (xs.take (j + 1)).filter (fun x => !f x) = ys) := fun h => by
          have := filt_step (f := f) hlt
          rw [← HYS.out, if_pos h, List.append_nil] at this
          exact this
        have HSN : Hid (f (xs.getD j x0E) = false → (xs.take (j + 1)).filter (fun x => !f x) = ys ++ [xs.getD j x0E]) := fun h => by
          have := filt_step (f := f) hlt
          rw [← HYS.out, if_neg (by rw [h]; exact Bool.false_ne_true)] at this
          exact this
        have hdj : xs.drop j = xs.getD j x0E :: xs.drop (j + 1) := by
          rw [List.getD_eq_getElem?_getD, List.getElem?_eq_getElem hlt]
          exact List.drop_eq_getElem_cons hlt
        obtain ⟨m0, mid', rfl⟩ : ∃ m0 mid', mid = m0 :: mid' := by
          cases mid with
          | nil => simp at hmid
          | cons a l => exact ⟨a, l, rfl⟩
        have HD := Lib.hid hdj
        clear hdj hjx hrow HYS
        have HEX : Hid (layE.enc (xs.getD j x0E) = layE.enc (xs.getD j x0E)) := rfl
        generalize xs.getD j x0E = X1 at c0 c1 c2 c3 c4 c5 HTK HSY HSN HD HEX
        generalize hF : f X1 = F at HTK HSY HSN
        clear hF
        have HXE : Hid (layE.enc X1 = [.slice X1.p X1.e.deps.length X1.c, .int .u16 X1.e.txn.r, .int .u32 X1.e.txn.seq, .int .u64 X1.e.txn.clock, .int .i64 X1.e.txn.user, .slice X1.q X1.e.txn.ops.length X1.d]) := rfl
        generalize X1.p = xp at c0 HTK HXE
        generalize X1.e.deps.length = xdl at c0 HTK HXE
        generalize X1.c = xcc at c0 HTK HXE
        generalize X1.e.txn.r = xr at c1 HTK HXE
        generalize X1.e.txn.seq = xq at c2 HTK HXE
        generalize X1.e.txn.clock = xc at c3 HTK HXE
        generalize X1.e.txn.user = xu at c4 HTK HXE
        generalize X1.q = xqq at c5 HTK HXE
        generalize X1.e.txn.ops.length = xol at c5 HTK HXE
        generalize X1.d = xdd at c5 HTK HXE
        clear HEX
        have HBX : Hid (Below wr.heap.size wr (wr.alloc (.cells #[.slice xp xdl xcc, .int .u16 xr, .int .u32 xq, .int .u64 xc, .int .i64 xu, .slice xqq xol xdd] 38))) := below_alloc (Below.refl _ _) _
        have HZX := Lib.hid (heap_alloc_new wr (.cells #[.slice xp xdl xcc, .int .u16 xr, .int .u32 xq, .int .u64 xc, .int .i64 xu, .slice xqq xol xdd] 38))
        go_wp2_with fail
        refine (HTK.out _ (Kept.ofBelow HBX.out)).mono ?_
        rintro e w5 ⟨rfl, hb5⟩
        have HB5 := Lib.hid (below_step HBX.out hb5)
        obtain ⟨y0, y1, y2, y3, y4, y5⟩ := six_cells (kept_box HZX.out hb5)
        clear hb5 HTK HBX HZX c0 c1 c2 c3 c4 c5
        have HK5 := Lib.hid (HKP.out.trans (Kept.ofBelow HB5.out) (T := fun k => k = B) (fun _ _ e => e))
        have hblk5 := kept_box HBK.out HB5.out
        clear HKP HBK
        cases F with
        | true =>
          have HB6 := Lib.hid hblk5
          clear hblk5
          go_wp2
          go_roundg (xs.length - (j + 1))
          case measure => omega
          case rel =>
            refine ⟨j + 1, ys, m0 :: mid' ++ [X1], (HSY.out (by first | rfl | trivial)).symm, by omega, Nat.le_refl _, rfl, by go_num, by simp, by rw [List.length_append, ← Nat.add_assoc, hlen]; rfl, ?_, HK5.out⟩
            rw [HB6.out, HD.out]
            simp only [List.append_assoc, List.singleton_append]
        | false =>
          have hfr : ∀ o, w5.frozen? ⟨B, o, none⟩ = false := fun o => frozen_of_block hblk5
          have hss : ∀ t, t < 6 → ∃ v, w5.cell? ⟨B, ys.length * 6 + t, none⟩ = some v := fun t ht => by
            refine Option.isSome_iff_exists.1 (isSome_block hblk5 ?_)
            rw [List.size_toArray, List.length_append, layE.flat_length, List.length_append, List.length_append, List.length_cons]
            have : layE.k = 6 := rfl
            rw [this]
            omega
          obtain ⟨v0, z0⟩ := hss 0 (by omega)
          obtain ⟨v1, z1⟩ := hss 1 (by omega)
          obtain ⟨v2, z2⟩ := hss 2 (by omega)
          obtain ⟨v3, z3⟩ := hss 3 (by omega)
          obtain ⟨v4, z4⟩ := hss 4 (by omega)
          obtain ⟨v5, z5⟩ := hss 5 (by omega)
          simp only [Nat.add_zero] at z0
          have g0 := hfr (ys.length * 6)
          have g1 := hfr (ys.length * 6 + 1)
          have g2 := hfr (ys.length * 6 + 2)
          have g3 := hfr (ys.length * 6 + 3)
          have g4 := hfr (ys.length * 6 + 4)
          have g5 := hfr (ys.length * 6 + 5)
          have HB6 := Lib.hid hblk5
          have hil : (ys.length : Int) < (xs.length : Int) := by rw [List.length_cons] at hlen; omega
          clear hss hfr hblk5
          go_wp2_with fail
          go_roundg (xs.length - (j + 1))
          case measure => omega
          case rel =>
            rw [six_store, ← HXE.out]
            refine ⟨j + 1, ys ++ [X1], mid' ++ [X1], (HSN.out (by first | rfl | trivial)).symm, by omega, Nat.le_refl _, by rw [List.length_append]; rfl, by go_num, by simp, by rw [List.length_append, List.length_append]; rw [List.length_cons] at hlen; simp only [List.length_singleton]; omega, ?_, Kept.cells (S := fun k => k = B) rfl (layE.enc X1) (ys.length * 6) _ _ HK5.out⟩
            have h1 := HB6.out
            rw [HD.out, show ys ++ m0 :: mid' ++ X1 :: xs.drop (j + 1) = ys ++ (m0 :: mid' ++ X1 :: xs.drop (j + 1)) by simp, layE.flat_append, List.append_assoc] at h1
            have h2 := setCells_at (layE.enc X1) _ _ w5 (ys.length * 6) h1 (by rw [layE.len, List.length_append, layE.flat_length, List.cons_append, List.length_cons]; have : layE.k = 6 := rfl; rw [this]; omega) (by rw [layE.flat_length]; rfl)
            rw [show layE.flat (ys ++ [X1] ++ (mid' ++ [X1]) ++ xs.drop (j + 1)) ++ rest = layE.flat ys ++ layE.enc X1 ++ (layE.flat (m0 :: mid' ++ X1 :: xs.drop (j + 1)) ++ rest).drop (layE.enc X1).length by
              rw [List.cons_append, layE.flat_cons, List.append_assoc (layE.enc m0), List.drop_left' (by rw [layE.len, layE.len])]
              simp only [layE.flat_append, layE.flat_cons, layE.flat_one, layE.flat_nil, List.append_assoc, List.nil_append, List.append_nil]]
            exact h2
      · have : j = xs.length := by omega
        subst this
        have hkl : ¬ (xs.length : Int) < (xs.length : Int) := by omega
        rw [List.take_length] at HYS
        have hyl : ys.length < xs.length := by omega
        have hml : mid.length = xs.length - ys.length := by omega
        have hblk := HBK.out
        rw [List.drop_length, List.append_nil] at hblk
        have hcl : ∀ ty, (Builtin.clear_ #[27] ty #[.slice (some ⟨B, ys.length * 6, none⟩) (xs.length - ys.length) (c - ys.length)]).run Tryz.prog wr = .ok (.tuple #[]) (wr.setCells B (ys.length * 6) (Builtin.zeroCells zE (xs.length - ys.length)).toList) := fun ty =>
          run_clear6 wr 27 38 ty _ Tryz.underlying27 Tryz.zeroValue38 zE_one rfl B _ _ _ (by omega) (fun j hj => isSome_block hblk (by rw [List.size_toArray, List.length_append, layE.flat_length, List.length_append]; have : layE.k = 6 := rfl; rw [this]; omega)) (fun j hj => frozen_of_block hblk)
        have HF : Hid (RoomE layE (wr.setCells B (ys.length * 6) (Builtin.zeroCells zE (xs.length - ys.length)).toList) (some ⟨B, 0, none⟩) c ys ∧ Kept (fun k => ∃ a, some (⟨B, 0, none⟩ : Addr) = some a ∧ k = a.block) w (wr.setCells B (ys.length * 6) (Builtin.zeroCells zE (xs.length - ys.length)).toList)) := by
          refine ⟨RoomE.of (rest := (Builtin.zeroCells zE (xs.length - ys.length)).toList ++ rest) ?_ (by rw [List.length_append, zE_len]; have : layE.k = 6 := rfl; rw [this]; omega) (by omega) hm, Kept.cells ⟨_, rfl, rfl⟩ _ _ _ _ (HKP.out.mono fun k _ e => ⟨_, rfl, e⟩)⟩
          rw [layE.flat_append, List.append_assoc] at hblk
          have hfm : (layE.flat mid).length = (xs.length - ys.length) * 6 := by rw [layE.flat_length, hml]; rfl
          rw [setCells_at _ _ _ wr _ hblk (by rw [zE_len, List.length_append, hfm]; omega) (by rw [layE.flat_length]; rfl), zE_len, List.drop_left' hfm, List.append_assoc]
        have hyc : ys.length ≤ c := by omega
        have hne : ¬ c = ys.length := by omega
        have hyi : (ys.length : Int) ≤ (xs.length : Int) := by omega
        clear hblk hml HBK HKP
        go_wp2_with fail
        go_ret
        rw [← HYS.out]
        exact ⟨rfl, HF.out.1, by simpa using HF.out.2⟩
end Go.Proofs.YtjkdcpalgfakhaaGreat
/-
  What the program's makes, names, turns, Root, Take, Plain, fitText and hasMore of layer 8 hand back. No conditions beyond what each theorem states.
-/
namespace Go.Proofs.YtjkdcpalgfakhaaGreat
open Go.ChangeShapes Go.WideShapes Go.ChangeAt Go.RowKit Go.Lib
set_option linter.unusedVariables false
set_option linter.unusedSimpArgs false

/-- Take's error. -/
def tookE (num a : Int) : Int := if num = 0 then 10 else if 268435457 < num + a then 20 else 0
def tookN (num a : Int) : Int := if num = 0 then 0 else if 268435457 < num + a then 0 else num + a
def textE (s : List UInt8) : Int := if s = [] ∨ plainB s = false then 11 else if 64 < s.length then 15 else 0
end Go.Proofs.YtjkdcpalgfakhaaGreat
/-
  What the program's hasMore of layer 8 hands back. No conditions beyond what each theorem states.
-/
namespace Go.Proofs.YtjkdcpalgfakhaaGreat
open Go.ChangeShapes Go.WideShapes Go.ChangeAt Go.RowKit Go.Lib
set_option linter.unusedVariables false
set_option linter.unusedSimpArgs false

/-- Has it what its kind has not? -/
def moreO (o : Om) : Bool :=
  if o.kind = 1 then decide (0 < o.spans.length ∨ o.seq ≠ 0)
  else if o.kind = 2 then decide (placelessO o = false ∨ o.text ≠ [] ∨ o.seq ≠ 0)
  else if o.kind = 3 then decide (o.text ≠ [] ∨ o.seq ≠ 0)
  else decide (placelessO o = false ∨ o.text ≠ [] ∨ 0 < o.spans.length)
theorem bne_no {a b : Int} (h : ¬ a = b) : (a != b) = true := by simpa using h
theorem bytes_bne {a b : List UInt8} (h : (a == b) = false) : (a != b) = true := by unfold bne; rw [h]; rfl

end Go.Proofs.YtjkdcpalgfakhaaGreat
/-
  What the program's Atoms, placed, fitContent and Fit of layer 8 hand back. No conditions beyond what each theorem states.
-/
namespace Go.Proofs.YtjkdcpalgfakhaaGreat
open Go.ChangeShapes Go.WideShapes Go.ChangeAt Go.RowKit Go.Lib
set_option linter.unusedVariables false
set_option linter.unusedSimpArgs false

/-- What Atoms asks for: spans that are right, where it counts them. -/
def CountsP (o : Om) : Prop := o.kind = 3 → RightS o.spans ∧ totalL o.spans ≤ 3000
theorem total_pos {l : List Sp} (h : fitL l = 0) : 1 ≤ totalL l := by
  obtain ⟨a1, a2, a3⟩ := fitL_ok h
  cases l with
  | nil => unfold fitL at h; rw [if_pos (show ([] : List Sp).length = 0 from rfl)] at h; cases h
  | cons s l =>
    have hr := rightS_iff.1 (a1 s (by simp))
    rw [totalL_cons]
    omega
theorem took_numbered {o : Om} (h1 : 1 ≤ atomsO o) (h0 : 0 ≤ o.num) : numberedO o = (decide (tookE o.num (atomsO o) = 0) && anchB o) := by
  unfold numberedO anchB tookE
  by_cases hm : o.num = 0
  · rw [if_pos hm, decide_eq_false (by omega), decide_eq_false (by omega)]; rfl
  · rw [if_neg hm]
    by_cases hg : 268435457 < o.num + atomsO o
    · rw [if_pos hg, decide_eq_false (by omega), decide_eq_false (by omega)]; rfl
    · rw [if_neg hg, decide_eq_true (rfl : (0 : Int) = 0), Bool.true_and]
      apply decide_eq_decide.2
      omega

/-- What comes, goes, or is undone: its error. -/
def contE (o : Om) : Int := if o.kind = 1 then textE o.text else if o.kind = 2 ∨ o.kind = 3 then fitL o.spans else if o.seq < 1 ∨ 268435456 < o.seq then 11 else 0

theorem fitO_steps (o : Om) : fitO o = if o.kind < 1 ∨ 5 < o.kind then 11 else if moreO o = true then 11 else if contE o ≠ 0 then contE o else if o.kind = 1 ∨ o.kind = 3 then (if numberedO o = false then 11 else 0) else 0 := by
  unfold fitO moreO contE
  by_cases k1 : o.kind = 1
  · simp only [if_pos k1]
    rw [if_neg (show ¬ (o.kind < 1 ∨ 5 < o.kind) by omega)]
    unfold textE
    by_cases a : 0 < o.spans.length ∨ o.seq ≠ 0
    · rw [if_pos (show 0 < o.spans.length ∨ o.seq ≠ 0 ∨ o.text = [] ∨ plainB o.text = false by rcases a with a | a; exact Or.inl a; exact Or.inr (Or.inl a)), if_pos (decide_eq_true a)]
    · rw [if_neg (show ¬ decide (0 < o.spans.length ∨ o.seq ≠ 0) = true by rw [decide_eq_false a]; simp)]
      by_cases b : o.text = [] ∨ plainB o.text = false
      · rw [if_pos (show 0 < o.spans.length ∨ o.seq ≠ 0 ∨ o.text = [] ∨ plainB o.text = false from Or.inr (Or.inr b))]
        simp only [if_pos b]
        rfl
      · rw [if_neg (show ¬ (0 < o.spans.length ∨ o.seq ≠ 0 ∨ o.text = [] ∨ plainB o.text = false) by rintro (x | x | x); exact a (Or.inl x); exact a (Or.inr x); exact b x)]
        simp only [if_neg b]
        by_cases d : 64 < o.text.length
        · simp only [if_pos d]
          rfl
        · simp only [if_neg d]
          rw [if_neg (show ¬ (0 : Int) ≠ 0 by simp), if_pos (show o.kind = 1 ∨ o.kind = 3 from Or.inl k1)]
  · simp only [if_neg k1]
    by_cases k2 : o.kind = 2
    · simp only [if_pos k2, if_pos (show o.kind = 2 ∨ o.kind = 3 from Or.inl k2)]
      rw [if_neg (show ¬ (o.kind < 1 ∨ 5 < o.kind) by omega)]
      by_cases a : placelessO o = false ∨ o.text ≠ [] ∨ o.seq ≠ 0
      · rw [if_pos (by rcases a with a | a | a; exact Or.inr (Or.inr a); exact Or.inl a; exact Or.inr (Or.inl a)), if_pos (decide_eq_true a)]
      · rw [if_neg (by rintro (x | x | x); exact a (Or.inr (Or.inl x)); exact a (Or.inr (Or.inr x)); exact a (Or.inl x)), if_neg (show ¬ decide _ = true by rw [decide_eq_false a]; simp)]
        by_cases b : fitL o.spans = 0
        · rw [if_neg (show ¬ fitL o.spans ≠ 0 by simpa using b), if_neg (show ¬ (o.kind = 1 ∨ o.kind = 3) by omega), b]
        · rw [if_pos b]
    · simp only [if_neg k2]
      by_cases k3 : o.kind = 3
      · simp only [if_pos k3, if_pos (show o.kind = 2 ∨ o.kind = 3 from Or.inr k3)]
        rw [if_neg (show ¬ (o.kind < 1 ∨ 5 < o.kind) by omega)]
        by_cases a : o.text ≠ [] ∨ o.seq ≠ 0
        · rw [if_pos a, if_pos (decide_eq_true a)]
        · rw [if_neg a, if_neg (show ¬ decide _ = true by rw [decide_eq_false a]; simp)]
          by_cases b : fitL o.spans ≠ 0
          · simp only [if_pos b]
          · simp only [if_neg b]
            rw [if_pos (show o.kind = 1 ∨ o.kind = 3 from Or.inr k3)]
      · simp only [if_neg k3, if_neg (show ¬ (o.kind = 2 ∨ o.kind = 3) by omega), if_neg (show ¬ (o.kind = 1 ∨ o.kind = 3) by omega)]
        by_cases k4 : o.kind = 4 ∨ o.kind = 5
        · rw [if_pos k4, if_neg (show ¬ (o.kind < 1 ∨ 5 < o.kind) by omega)]
          by_cases a : placelessO o = false ∨ o.text ≠ [] ∨ 0 < o.spans.length
          · rw [if_pos (by rcases a with a | a | a; exact Or.inr (Or.inr (Or.inl a)); exact Or.inl a; exact Or.inr (Or.inl a)), if_pos (decide_eq_true a)]
          · rw [if_neg (show ¬ decide _ = true by rw [decide_eq_false a]; simp)]
            by_cases b : o.seq < 1 ∨ 268435456 < o.seq
            · rw [if_pos (Or.inr (Or.inr (Or.inr b)))]
              simp only [if_pos b]
              rfl
            · rw [if_neg (by rintro (x | x | x | x); exact a (Or.inr (Or.inl x)); exact a (Or.inr (Or.inr x)); exact a (Or.inl x); exact b x)]
              simp only [if_neg b]
              rfl
        · rw [if_neg k4, if_pos (show o.kind < 1 ∨ 5 < o.kind by omega)]

end Go.Proofs.YtjkdcpalgfakhaaGreat
/-
  What the program's ID, Key, Undoes and Atoms of layer 9 hand back. No conditions beyond what each theorem states.
-/
namespace Go.Proofs.YtjkdcpalgfakhaaGreat
open Go.ChangeShapes Go.WideShapes Go.ChangeAt Go.RowKit Go.Lib
set_option linter.unusedVariables false
set_option linter.unusedSimpArgs false

theorem szTI : (Tryz.prog.info? 79).map (·.size) = some 2 := by kernel_rfl
theorem only_two (w : World) (B : Nat) (a b : Value) : Only B w ((w.setCell ⟨B, 0, none⟩ a).setCell ⟨B, 1, none⟩ b) := (only_set w B 0 a).trans (only_set _ B 1 b)
theorem only_new {w W W' : World} {X : Nat} (hb : Below w.heap.size w W) (ho : Only X W W') (hX : w.heap.size ≤ X) : Below w.heap.size w W' := hb.trans (ho.below hb.size (fun k ek => by have ek : k = X := ek; omega))
set_option maxHeartbeats 800000 in
/-- Function 26. -/
theorem idT_spec : IDTSpec := by
  intro t p c w
  unfold tv
  generalize t.ops.length = L
  have HX := Lib.hid (heap_alloc2_new w (.cells #[.int .u16 t.r, .int .u32 t.seq, .int .u64 t.clock, .int .i64 t.user, .slice p L c] 36) (.cells #[.int .u16 0, .int .u32 0] 79))
  go_enter Tryz.func26, Tryz.ntmps26
  go_wp2
  (try simp only [Exit.inBlock, Exit.then])
  refine bodyPost_ret (results_cell_row rfl _ _ (w.heap.size + 1) 79 #[.int .u16 t.r, .int .u32 t.seq] (0, 0) _ rfl (heap_alloc2_new w _ _) Tryz.underlying79 rfl szTI) rfl ?_
  exact ⟨rfl, below_alloc (below_alloc (Below.refl _ _) _) _⟩
end Go.Proofs.YtjkdcpalgfakhaaGreat
/-
  What hold's less and find hand back: the place of a name among envelopes in order. No conditions beyond what each theorem states.
-/
namespace Go.Proofs.YtjkdcpalgfakhaaGreat
open Go.ChangeShapes Go.WideShapes Go.ChangeAt Go.RowKit Go.Lib
set_option linter.unusedVariables false
set_option linter.unusedSimpArgs false

/-- In order, of unlike names. -/
def SrtE (es : List EV) : Prop := ∀ i j, i < j → j < es.length → aheadM (es.getD i x0E).e (es.getD j x0E).e = true
def lowE (es : List EV) (e : Em) (i : Nat) : Bool := !aheadM (es.getD i x0E).e e
theorem aheadM_iff {a b : Em} : aheadM a b = true ↔ a.txn.r < b.txn.r ∨ a.txn.r = b.txn.r ∧ a.txn.seq < b.txn.seq := by unfold aheadM; exact decide_eq_true_iff
theorem lowE_false {es : List EV} {e : Em} {i : Nat} : lowE es e i = false ↔ aheadM (es.getD i x0E).e e = true := by unfold lowE; cases aheadM (es.getD i x0E).e e <;> simp
theorem lowE_true {es : List EV} {e : Em} {i : Nat} : lowE es e i = true ↔ ¬ aheadM (es.getD i x0E).e e = true := by unfold lowE; cases aheadM (es.getD i x0E).e e <;> simp
theorem lowE_mono {es : List EV} (h : SrtE es) (e : Em) {i j : Nat} (hij : i ≤ j) (hj : j < es.length) (hi : lowE es e i = true) : lowE es e j = true := by
  rcases Nat.eq_or_lt_of_le hij with he | he
  · subst he; exact hi
  · have h1 := aheadM_iff.1 (h i j he hj)
    rw [lowE_true, aheadM_iff] at hi ⊢
    omega
/-- The place at which a name would come. -/
structure PlaceE (es : List EV) (e : Em) (k : Nat) : Prop where
  le : k ≤ es.length
  low : ∀ t, t < k → lowE es e t = false
  high : ∀ t, k ≤ t → t < es.length → lowE es e t = true
theorem PlaceE.has {es : List EV} {e : Em} {k : Nat} (h : PlaceE es e k) (hs : SrtE es) : hasM (es.map (·.e)) e = decide (k < es.length ∧ ((es.getD k x0E).e.txn.r = e.txn.r ∧ (es.getD k x0E).e.txn.seq = e.txn.seq)) := by
  apply Bool.eq_iff_iff.2
  rw [decide_eq_true_iff, hasM_iff]
  constructor
  · rintro ⟨x, hx, h1, h2⟩
    obtain ⟨y, hy, rfl⟩ := List.mem_map.1 hx
    obtain ⟨m, hm, rfl⟩ := mem_getD x0E hy
    have hlow : lowE es e m = true := by rw [lowE_true, aheadM_iff]; omega
    have hkm : k ≤ m := by
      rcases Nat.lt_or_ge m k with he | he
      · rw [h.low m he] at hlow; cases hlow
      · exact he
    rcases Nat.eq_or_lt_of_le hkm with he | he
    · subst he; exact ⟨hm, h1, h2⟩
    · have h3 := aheadM_iff.1 (hs k m he hm)
      have h4 := h.high k (Nat.le_refl _) (by omega)
      rw [lowE_true, aheadM_iff] at h4
      omega
  · rintro ⟨hk, h1, h2⟩
    exact ⟨_, List.mem_map.2 ⟨_, getD_mem x0E hk, rfl⟩, h1, h2⟩
set_option maxHeartbeats 800000 in
theorem less_any (a b x y : Int) (w : World) : Calls Tryz.prog 51 #[.agg #[.int .u16 a, .int .u32 b], .agg #[.int .u16 x, .int .u32 y]] w fun e w' => e = .returned (.bool (decide (a < x ∨ a = x ∧ b < y))) ∧ Below w.heap.size w w' := by
  by_cases h : a = x
  · subst h
    have hd : decide (a < a ∨ a = a ∧ b < y) = decide (b < y) := by apply decide_eq_decide.2; omega
    rw [hd]
    go_enter Tryz.func51, Tryz.ntmps51
    go_wp2
    go_ret
    exact ⟨rfl, below_alloc (below_alloc (Below.refl _ _) _) _⟩
  · have hd : decide (a < x ∨ a = x ∧ b < y) = decide (a < x) := by apply decide_eq_decide.2; omega
    have hb : (a == x) = false := beq_eq_false_iff_ne.2 h
    rw [hd]
    go_enter Tryz.func51, Tryz.ntmps51
    go_wp2
    go_ret
    exact ⟨rfl, below_alloc (below_alloc (Below.refl _ _) _) _⟩
set_option maxHeartbeats 1600000 in
/-- The test of one place. -/
theorem findc_any (es : List EV) (e : Em) (K bx ba i : Nat) (p : Option Addr) (c : Nat) (W : World) (h1 : W.cell? ⟨bx, 0, none⟩ = some (.pointer (some ⟨K, 0, none⟩))) (h2 : W.cell? ⟨ba, 0, none⟩ = some (.int .u16 e.txn.r)) (h3 : W.cell? ⟨ba, 1, none⟩ = some (.int .u32 e.txn.seq)) (h4 : W.cell? ⟨K, 0, none⟩ = some (.slice p es.length c)) (hR : GRow layE W p es) (hi : i < es.length) (hl : es.length ≤ 100000) :
    Calls Tryz.prog 50 #[.int .i64 (i : Int), .pointer (some ⟨bx, 0, none⟩), .pointer (some ⟨ba, 0, none⟩)] W fun r w' => r = .returned (.bool (lowE es e i)) ∧ Below W.heap.size W w' := by
  obtain ⟨b, o, rfl, c0, c1, c2, c3, c4, c5⟩ := erow_at hR hi
  have HE : Hid (lowE es e i = !decide ((es.getD i x0E).e.txn.r < e.txn.r ∨ (es.getD i x0E).e.txn.r = e.txn.r ∧ (es.getD i x0E).e.txn.seq < e.txn.seq)) := rfl
  have HIDA : Hid (∀ a b c d p l n W, Calls Tryz.prog 26 #[.agg #[.int .u16 a, .int .u32 b, .int .u64 c, .int .i64 d, .slice p l n]] W fun r w' => r = .returned (.agg #[.int .u16 a, .int .u32 b]) ∧ Below W.heap.size W w') := fun a b c d p l n W => by
    have := idT_spec ⟨a, b, c, d, List.replicate l ⟨0, 0, 0, 0, [], [], 0⟩⟩ p n W
    unfold tv at this
    simp only [List.length_replicate] at this
    exact this
  rw [HE.out]
  generalize (es.getD i x0E).e.txn.r = xr at c1 ⊢
  generalize (es.getD i x0E).e.txn.seq = xq at c2 ⊢
  generalize (es.getD i x0E).e.txn.clock = xc at c3 ⊢
  generalize (es.getD i x0E).e.txn.user = xu at c4 ⊢
  generalize (es.getD i x0E).e.txn.ops.length = xo at c5 ⊢
  generalize (es.getD i x0E).q = xqq at c5 ⊢
  generalize (es.getD i x0E).d = xdd at c5 ⊢
  generalize e.txn.r = er at h2 ⊢
  generalize e.txn.seq = eq at h3 ⊢
  have HLE := Lib.hid (fun W => less_any xr xq er eq W)
  generalize decide (xr < er ∨ xr = er ∧ xq < eq) = V at HLE ⊢
  have hil : (i : Int) < (es.length : Int) := by omega
  have hi0 : (0 : Int) ≤ (i : Int) := by omega
  have q1 := cell_regrown c1
  have q2 := cell_regrown c2
  have q3 := cell_regrown c3
  have q4 := cell_regrown c4
  have q5 := cell_regrown c5
  have r1 := cell_regrown h1
  have r2 := cell_regrown h2
  have r3 := cell_regrown h3
  have r4 := cell_regrown h4
  clear hR HE c0 c1 c2 c3 c4 c5 h1 h2 h3 h4
  go_enter Tryz.func50, Tryz.ntmps50
  go_wp2_with fail
  refine wp_region_quiet_below (by kernel_rfl) (by kernel_rfl) ?_
  repeat (first | go_big_quiet_step (first | (go_at_call 26; exact Calls.regrown_of (HIDA.out _ _ _ _ _ _ _ _)) | (go_at_call 51; exact Calls.regrown_of (HLE.out _))) | quiet_step (first | (go_at_call 26; exact Calls.regrown_of (HIDA.out _ _ _ _ _ _ _ _)) | (go_at_call 51; exact Calls.regrown_of (HLE.out _))))
  refine wpQuiet_nil ?_
  intro _ hw'
  obtain ⟨⟨dq, osq⟩, hw''⟩ := hw'
  subst hw''
  go_wp2
  go_ret
  exact ⟨rfl, below_regrown _ _ _⟩
def FoundE (n : Nat) (f : Nat → Bool) (w : World) (e : Ending) (w' : World) : Prop := ∃ k : Nat, k ≤ n ∧ e = .returned (.int .i64 (k : Int)) ∧ (∀ t, t < k → f t = false) ∧ (∀ t, k ≤ t → t < n → f t = true) ∧ Below w.heap.size w w'
set_option maxHeartbeats 1600000 in
theorem esearch_any (n : Nat) (f : Nat → Bool) (p1 p2 : Value) (w : World) (hn : n ≤ 3000) (hm : ∀ i j, i ≤ j → j < n → f i = true → f j = true)
    (hf : ∀ W i, i < n → Below w.heap.size w W → Calls Tryz.prog 50 #[.int .i64 (i : Int), p1, p2] W fun e w' => e = .returned (.bool (f i)) ∧ Below W.heap.size W w') :
    Calls Tryz.prog 49 #[.int .i64 (n : Int), .func (.func 50) #[] #[p1, p2]] w (FoundE n f w) := by
  have HM := Lib.hid hm
  have HF := Lib.hid hf
  clear hm hf
  go_enter Tryz.func49, Tryz.ntmps49
  go_wp2
  go_loopg [5, 6] n (fun g a b wr => ∃ i j : Nat, i ≤ j ∧ j ≤ n ∧ j - i ≤ g ∧ a = .int .i64 (i : Int) ∧ b = .int .i64 (j : Int) ∧ (∀ t, t < i → f t = false) ∧ (∀ t, j ≤ t → t < n → f t = true) ∧ Below w.heap.size w wr)
  case atStart => exact ⟨0, n, Nat.zero_le _, Nat.le_refl _, by omega, rfl, rfl, fun t h => absurd h (by omega), fun t h1 h2 => absurd h1 (by omega), Below.refl _ _⟩
  case round =>
    obtain ⟨i, j, hij, hjn, hg, rfl, rfl, hlo, hhi, hB⟩ := hrel
    have HB := Lib.hid hB
    have HLO := Lib.hid hlo
    have HHI := Lib.hid hhi
    clear hB hlo hhi
    by_cases hlt : i < j
    · have hlt' : (i : Int) < (j : Int) := by omega
      obtain ⟨H, hH, h1, h2⟩ : ∃ H : Nat, ((i : Int) + (j : Int)) / 2 = (H : Int) ∧ i ≤ H ∧ H < j := ⟨(i + j) / 2, by omega, by omega, by omega⟩
      have HC := Lib.hid (HF.out wr H (by omega) HB.out)
      cases hfv : f H with
      | false =>
        rw [hfv] at HC
        have HLO2 : Hid (∀ t, t < H + 1 → f t = false) := fun t ht => by
          by_cases e : t = H
          · rw [e]; exact hfv
          · cases hft : f t with
            | false => rfl
            | true => rw [HM.out t H (by omega) (by omega) hft] at hfv; cases hfv
        clear hfv HLO
        go_wp2_with fail
        refine HC.out.mono ?_
        rintro e w1 ⟨rfl, hb1⟩
        have HB1 : Hid (RowKit.Below w.heap.size w w1) := below_step HB.out hb1
        clear hb1 HC
        go_wp2
        go_roundg (j - (H + 1))
        case measure => omega
        case rel => exact ⟨H + 1, j, by omega, hjn, Nat.le_refl _, by go_num, rfl, HLO2.out, HHI.out, HB1.out⟩
      | true =>
        rw [hfv] at HC
        have HHI2 : Hid (∀ t, H ≤ t → t < n → f t = true) := fun t ht htn => HM.out H t ht htn hfv
        clear hfv HHI
        go_wp2_with fail
        refine HC.out.mono ?_
        rintro e w1 ⟨rfl, hb1⟩
        have HB1 : Hid (RowKit.Below w.heap.size w w1) := below_step HB.out hb1
        clear hb1 HC
        go_wp2
        go_roundg (H - i)
        case measure => omega
        case rel => exact ⟨i, H, h1, by omega, Nat.le_refl _, rfl, rfl, HLO.out, HHI2.out, HB1.out⟩
    · have : i = j := by omega
      subst this
      have hlt' : ¬ (i : Int) < (i : Int) := by omega
      go_wp2
      go_ret
      exact ⟨i, hjn, rfl, HLO.out, HHI.out, HB.out⟩
set_option maxHeartbeats 3200000 in
set_option maxRecDepth 20000 in
theorem find_any (es : List EV) (e : Em) (K : Nat) (p : Option Addr) (c : Nat) (w : World) (hS : SrtE es) (hK : w.heap[K]? = some (.cells #[.slice p es.length c] 29 (0, 0))) (hR : GRow layE w p es) (hl : es.length ≤ 3000) :
    Calls Tryz.prog 25 #[.pointer (some ⟨K, 0, none⟩), .agg #[.int .u16 e.txn.r, .int .u32 e.txn.seq]] w fun r w' => ∃ k : Nat, r = .returned (.tuple #[.int .i64 (k : Int), .bool (hasM (es.map (·.e)) e)]) ∧ PlaceE es e k ∧ Below w.heap.size w w' := by
  have HKB : Hid (∀ W, Below w.heap.size w W → W.cell? ⟨K, 0, none⟩ = some (.slice p es.length c)) := fun W hb => by rw [cell_of_block (kept_box hK hb)]; rfl
  have HR := Lib.hid hR
  have HIDA : Hid (∀ a b c d p l n W, Calls Tryz.prog 26 #[.agg #[.int .u16 a, .int .u32 b, .int .u64 c, .int .i64 d, .slice p l n]] W fun r w' => r = .returned (.agg #[.int .u16 a, .int .u32 b]) ∧ Below W.heap.size W w') := fun a b c d p l n W => by
    have := idT_spec ⟨a, b, c, d, List.replicate l ⟨0, 0, 0, 0, [], [], 0⟩⟩ p n W
    unfold tv at this
    simp only [List.length_replicate] at this
    exact this
  have HP : Hid (∀ k : Nat, k ≤ es.length → (∀ t, t < k → lowE es e t = false) → (∀ t, k ≤ t → t < es.length → lowE es e t = true) → PlaceE es e k ∧ hasM (es.map (·.e)) e = decide (k < es.length ∧ ((es.getD k x0E).e.txn.r = e.txn.r ∧ (es.getD k x0E).e.txn.seq = e.txn.seq))) := fun k h1 h2 h3 => ⟨⟨h1, h2, h3⟩, PlaceE.has ⟨h1, h2, h3⟩ hS⟩
  have HSR : Hid (∀ W bx ba, Below w.heap.size w W → W.cell? ⟨bx, 0, none⟩ = some (.pointer (some ⟨K, 0, none⟩)) → W.cell? ⟨ba, 0, none⟩ = some (.int .u16 e.txn.r) → W.cell? ⟨ba, 1, none⟩ = some (.int .u32 e.txn.seq) → Calls Tryz.prog 49 #[.int .i64 (es.length : Int), .func (.func 50) #[] #[.pointer (some ⟨bx, 0, none⟩), .pointer (some ⟨ba, 0, none⟩)]] W (FoundE es.length (lowE es e) W)) := fun W bx ba hb h1 h2 h3 =>
    esearch_any es.length (lowE es e) _ _ W hl (fun i j hij hj hi => lowE_mono hS e hij hj hi) (fun W' i hi hb' => findc_any es e K bx ba i p c W' (cellU h1 hb') (cellU h2 hb') (cellU h3 hb') (HKB.out _ (below_step hb hb')) (hR.below (below_step hb hb')) hi (by omega))
  clear hS hK hR
  generalize hasM (es.map (·.e)) e = HV at HP ⊢
  generalize lowE es e = LE at HSR HP
  generalize e.txn.r = er at HSR HP ⊢
  generalize e.txn.seq = eq at HSR HP ⊢
  have hb0 : Below w.heap.size w ((w.alloc (.cells #[.pointer (some ⟨K, 0, none⟩)] 63)).alloc (.cells #[.int .u16 er, .int .u32 eq] 79)) := below_alloc (below_alloc (Below.refl _ _) _) _
  have g1 : ((w.alloc (.cells #[.pointer (some ⟨K, 0, none⟩)] 63)).alloc (.cells #[.int .u16 er, .int .u32 eq] 79)).cell? ⟨w.heap.size, 0, none⟩ = some (.pointer (some ⟨K, 0, none⟩)) := by simp
  have g2 : ((w.alloc (.cells #[.pointer (some ⟨K, 0, none⟩)] 63)).alloc (.cells #[.int .u16 er, .int .u32 eq] 79)).cell? ⟨w.heap.size + 1, 0, none⟩ = some (.int .u16 er) := by simp
  have g3 : ((w.alloc (.cells #[.pointer (some ⟨K, 0, none⟩)] 63)).alloc (.cells #[.int .u16 er, .int .u32 eq] 79)).cell? ⟨w.heap.size + 1, 1, none⟩ = some (.int .u32 eq) := by simp
  have g4 := HKB.out _ hb0
  have HB0 := Lib.hid hb0
  have HS0 := Lib.hid (HSR.out _ _ _ hb0 g1 g2 g3)
  have G1 := Lib.hid g1
  have G2 := Lib.hid g2
  have G3 := Lib.hid g3
  clear hb0 HSR
  go_enter Tryz.func25, Tryz.ntmps25
  go_wp2_with fail
  generalize (w.alloc (.cells #[.pointer (some ⟨K, 0, none⟩)] 63)).alloc (.cells #[.int .u16 er, .int .u32 eq] 79) = W0 at HS0 HB0 G1 G2 G3 g1 g2 g3 g4 ⊢
  refine HS0.out.mono ?_
  rintro r w3 ⟨k, hk, rfl, hlo, hhi, hb3⟩
  have HPK := Lib.hid (HP.out k hk hlo hhi)
  have HB3 := Lib.hid (below_step HB0.out hb3)
  have q1 := cell_regrown (cellU g1 hb3)
  have q2 := cell_regrown (cellU g2 hb3)
  have q3 := cell_regrown (cellU g3 hb3)
  have q4 := cell_regrown (HKB.out _ HB3.out)
  have q1' := cellU g1 hb3
  have q4' := HKB.out _ HB3.out
  clear hb3 HP HS0 hlo hhi g1 g2 g3 g4 G1 G2 G3
  by_cases hlt : k < es.length
  · have hkl : (k : Int) < (es.length : Int) := by omega
    obtain ⟨b, o, rfl, c0, c1, c2, c3, c4, c5⟩ := erow_at (HR.out.below HB3.out) hlt
    have HHV : Hid (PlaceE es e k ∧ ∀ b : Bool, (b = true ↔ ((es.getD k x0E).e.txn.r = er ∧ (es.getD k x0E).e.txn.seq = eq)) → HV = b) := ⟨HPK.out.1, fun b hb => by
      rw [HPK.out.2]
      apply Bool.eq_iff_iff.2
      rw [decide_eq_true_iff, hb]
      exact ⟨fun h => h.2, fun h => ⟨hlt, h⟩⟩⟩
    clear HPK
    generalize (es.getD k x0E).e.txn.r = xr at c1 HHV
    generalize (es.getD k x0E).e.txn.seq = xq at c2 HHV
    generalize (es.getD k x0E).e.txn.clock = xc at c3
    generalize (es.getD k x0E).e.txn.user = xu at c4
    generalize (es.getD k x0E).e.txn.ops.length = xo at c5
    generalize (es.getD k x0E).q = xqq at c5
    generalize (es.getD k x0E).d = xdd at c5
    have r1 := cell_regrown c1
    have r2 := cell_regrown c2
    have r3 := cell_regrown c3
    have r4 := cell_regrown c4
    have r5 := cell_regrown c5
    clear c0 c1 c2 c3 c4 c5
    by_cases h1 : xr = er
    · subst h1
      by_cases h2 : xq = eq
      · subst h2
        have HVT : Hid (PlaceE es e k ∧ HV = true) := ⟨HHV.out.1, HHV.out.2 true (by simp)⟩
        clear HHV
        go_wp2_with fail
        refine wp_region_quiet_below (by kernel_rfl) (by kernel_rfl) ?_
        repeat (first | go_big_quiet_step ((go_at_call 26; exact Calls.regrown_of (HIDA.out _ _ _ _ _ _ _ _))) | quiet_step ((go_at_call 26; exact Calls.regrown_of (HIDA.out _ _ _ _ _ _ _ _))))
        refine wpQuiet_nil ?_
        intro w4 hw'
        have hb13 : Below w3.heap.size w3 w4 := by obtain ⟨⟨dq, osq⟩, rfl⟩ := hw'; exact below_regrown _ _ _
        have HB4 := Lib.hid (below_step HB3.out hb13)
        clear hw' hb13 r1 r2 r3 r4 r5 q1 q2 q3 q4 q1' q4'
        go_wp2
        go_ret2
        rw [HVT.out.2]
        exact ⟨k, rfl, HVT.out.1, HB4.out⟩
      · have t2 : (xq == eq) = false := beq_no h2
        have HVT : Hid (PlaceE es e k ∧ HV = false) := ⟨HHV.out.1, HHV.out.2 false (by simp [h2])⟩
        clear HHV
        go_wp2_with fail
        refine wp_region_quiet_below (by kernel_rfl) (by kernel_rfl) ?_
        repeat (first | go_big_quiet_step ((go_at_call 26; exact Calls.regrown_of (HIDA.out _ _ _ _ _ _ _ _))) | quiet_step ((go_at_call 26; exact Calls.regrown_of (HIDA.out _ _ _ _ _ _ _ _))))
        refine wpQuiet_nil ?_
        intro w4 hw'
        have hb13 : Below w3.heap.size w3 w4 := by obtain ⟨⟨dq, osq⟩, rfl⟩ := hw'; exact below_regrown _ _ _
        have HB4 := Lib.hid (below_step HB3.out hb13)
        clear hw' hb13 r1 r2 r3 r4 r5 q1 q2 q3 q4 q1' q4'
        go_wp2
        go_ret2
        rw [HVT.out.2]
        exact ⟨k, rfl, HVT.out.1, HB4.out⟩
    · have t1 : (xr == er) = false := beq_no h1
      have HVT : Hid (PlaceE es e k ∧ HV = false) := ⟨HHV.out.1, HHV.out.2 false (by simp [h1])⟩
      clear HHV
      go_wp2_with fail
      refine wp_region_quiet_below (by kernel_rfl) (by kernel_rfl) ?_
      repeat (first | go_big_quiet_step ((go_at_call 26; exact Calls.regrown_of (HIDA.out _ _ _ _ _ _ _ _))) | quiet_step ((go_at_call 26; exact Calls.regrown_of (HIDA.out _ _ _ _ _ _ _ _))))
      refine wpQuiet_nil ?_
      intro w4 hw'
      have hb13 : Below w3.heap.size w3 w4 := by obtain ⟨⟨dq, osq⟩, rfl⟩ := hw'; exact below_regrown _ _ _
      have HB4 := Lib.hid (below_step HB3.out hb13)
      clear hw' hb13 r1 r2 r3 r4 r5 q1 q2 q3 q4 q1' q4'
      go_wp2
      go_ret2
      rw [HVT.out.2]
      exact ⟨k, rfl, HVT.out.1, HB4.out⟩
  · have hke : k = es.length := by omega
    subst hke
    have hkn : ¬ (es.length : Int) < (es.length : Int) := by omega
    have hkd : decide ((es.length : Int) < (es.length : Int)) = false := decide_eq_false hkn
    have HVT : Hid (PlaceE es e es.length ∧ HV = false) := ⟨HPK.out.1, by rw [HPK.out.2]; exact decide_eq_false (fun h => hlt h.1)⟩
    clear HPK
    go_wp2_with fail
    refine wp_region_quiet_below (by kernel_rfl) (by kernel_rfl) ?_
    repeat (first | go_big_quiet_step ((go_at_call 26; exact Calls.regrown_of (HIDA.out _ _ _ _ _ _ _ _))) | quiet_step ((go_at_call 26; exact Calls.regrown_of (HIDA.out _ _ _ _ _ _ _ _))))
    refine wpQuiet_nil ?_
    intro w4 hw'
    have hb13 : Below w3.heap.size w3 w4 := by obtain ⟨⟨dq, osq⟩, rfl⟩ := hw'; exact below_regrown _ _ _
    have HB4 := Lib.hid (below_step HB3.out hb13)
    clear hw' hb13 q1 q2 q3 q4 q1' q4'
    go_wp2
    go_ret2
    rw [HVT.out.2]
    exact ⟨_, rfl, HVT.out.1, HB4.out⟩
end Go.Proofs.YtjkdcpalgfakhaaGreat
/-
  A region that draws its order, step by step: those marked true only read and may be taken now; the others come up alone; the last ones wait for all. One walk serves every order. Of no program. No conditions beyond what each theorem states.
-/
namespace Go.Proofs.YtjkdcpalgfakhaaGreat
open Go Go.Sort Go.RowKit
set_option linter.unusedVariables false
set_option linter.unusedSimpArgs false

def pickG (ops : List Oper) (is : List (Bool × Nat)) : List (Bool × Oper) := is.filterMap fun x => (ops[x.2]?).map fun o => (x.1, o)
theorem pickG_cons {ops : List Oper} {b : Bool} {j : Nat} {js : List (Bool × Nat)} {o : Oper} (h : ops[j]? = some o) : pickG ops ((b, j) :: js) = (b, o) :: pickG ops js := by
  unfold pickG
  rw [List.filterMap_cons_some (b := (b, o))]
  simp [h]
def seqG (P : Program) (ops : Array Oper) (Q : Exit → Act → World → Prop) (C : World → Prop) (t : List Oper) : List (Bool × Oper) → Act → World → Prop
  | [], a, w => wpList P ops Q t a w
  | (true, o) :: rest, a, w => wpQuiet P ops C (fun a' => seqG P ops Q C t rest a' w) [o] a
  | (false, o) :: rest, a, w => ∀ K : Act → World → Prop, (∀ a' w', C w' → seqG P ops Q C t rest a' w' → K a' w') → wpList P ops (Exit.then K Q) [o] a w
theorem seqG_nil {P : Program} {ops : Array Oper} {Q : Exit → Act → World → Prop} {C : World → Prop} {t : List Oper} {a : Act} {w : World} (h : wpList P ops Q t a w) : seqG P ops Q C t [] a w := h
theorem seqG_quiet {P : Program} {ops : Array Oper} {Q : Exit → Act → World → Prop} {C : World → Prop} {t : List Oper} {rest : List (Bool × Oper)} {o : Oper} {a : Act} {w : World} (h : wpQuiet P ops C (fun a' => seqG P ops Q C t rest a' w) [o] a) : seqG P ops Q C t ((true, o) :: rest) a w := h
theorem seqG_step {P : Program} {ops : Array Oper} {Q : Exit → Act → World → Prop} {C : World → Prop} {t : List Oper} {rest : List (Bool × Oper)} {o : Oper} {a : Act} {w : World}
    (h : ∀ K : Act → World → Prop, (∀ a' w', C w' → seqG P ops Q C t rest a' w' → K a' w') → wpList P ops (Exit.then K Q) [o] a w) : seqG P ops Q C t ((false, o) :: rest) a w := h
def mixG (md : Region.Mode) (ops : Array Oper) (T : Nat → Bool) (tail : List Nat) : List (Bool × Nat) → Array Bool → Bool
  | [], listed => (Region.ready md ops listed).all T && seqB md ops tail listed
  | (true, i) :: is, listed => (Region.ready md ops listed).contains i && Region.free md ops listed i && !T i && waitsT md ops T i && (match ops[i]? with | some o => pureB o | none => false) && mixG md ops T tail is (listed.setIfInBounds i true)
  | (false, j) :: js, listed => (Region.ready md ops listed == [j]) && decide (j < ops.size) && !T j && mixG md ops T tail js (listed.setIfInBounds j true)
theorem anyM_mixG {P : Program} {ops : List Oper} {md : Region.Mode} {C : World → Prop} {T : Nat → Bool} {Q : Exit → Act → World → Prop} {tail : List Nat} (hs : Region.noSelect ops.toArray = true) (hQ : ∀ c (a : Act) d v w, Q (.panic c) (a.put d v) w → Q (.panic c) a w) : ∀ (is : List (Bool × Nat)) (listed : Array Bool) (a : Act) (w : World), C w → mixG md ops.toArray T tail is listed = true →
    seqG P ops.toArray Q C (pickOps ops tail) (pickG ops is) a w → anyM P md ops.toArray C T Q tail.length is.length listed a w
  | [], listed, a, w, _, hB, h => by
    simp only [mixG, Bool.and_eq_true, List.all_eq_true] at hB
    exact ⟨hB.1, any_of_seq tail listed a w hB.2 h⟩
  | (false, j) :: js, listed, a, w, _, hB, h => by
    simp only [mixG, Bool.and_eq_true, beq_iff_eq, decide_eq_true_eq, Bool.not_eq_true'] at hB
    obtain ⟨⟨⟨hr, hj⟩, hT⟩, hB'⟩ := hB
    have hj' : j < ops.length := by simpa using hj
    have h0 : ops[j]? = some ops[j] := List.getElem?_eq_getElem hj'
    have h0' : ops.toArray[j]? = some ops[j] := by simp [hj']
    rw [pickG_cons h0] at h
    refine ⟨fun e => (by rw [hr] at e; cases e), fun i hi => ?_⟩
    rw [hr, List.mem_singleton] at hi
    subst hi
    exact ⟨hT, wpOp_of_one h0' (h _ fun a' w' hC hs' => ⟨hC, anyM_mixG hs hQ js _ a' w' hC hB' hs'⟩)⟩
  | (true, i) :: is, listed, a, w, hC, hB, h => by
    simp only [mixG, Bool.and_eq_true, Bool.not_eq_true'] at hB
    obtain ⟨⟨⟨⟨⟨hr, hf⟩, hT⟩, hw⟩, hp⟩, hB'⟩ := hB
    cases h0 : ops.toArray[i]? with
    | none => rw [h0] at hp; cases hp
    | some o =>
      rw [h0] at hp
      simp only at hp
      rw [pickG_cons (by simpa using h0)] at h
      have h : wpQuiet P ops.toArray C (fun a' => seqG P ops.toArray Q C (pickOps ops tail) (pickG ops is) a' w) [o] a := h
      have hst : qOp P ops.toArray C i (wpQuiet P ops.toArray C (fun a' => seqG P ops.toArray Q C (pickOps ops tail) (pickG ops is) a' w) []) a := by unfold qOp; simp only [h0]; exact h
      obtain ⟨v, hy, hK⟩ := yieldsIn_of_qOp h0 hst
      have hy' : YieldsIf P ops.toArray C o v a := hy.imp (fun ⟨h1, h2⟩ => ⟨h1, fun w hw => run_of_quiet hp (h2 w hw)⟩) id
      exact anyM_first h0 hT hw (Region.noSelect_spec hs) (fun c a w h => hQ c a _ _ w h) _ listed a w (Region.free_spec h0 hf) (by simpa using hr) hy' hC (anyM_mixG hs hQ is _ _ w hC hB' hK)
def Region.mixOkG (is : List (Bool × Nat)) (tail : List Nat) (ops : List Oper) : Bool := decide (is.length + tail.length = ops.length) && Region.noSelect ops.toArray && mixG .any ops.toArray (fun j => tail.contains j) tail is (Array.replicate ops.length false)
theorem wp_region_mixG_below {P : Program} {id : Nat} {Q : Exit → Act → World → Prop} {a : Act} {w : World} {ops : List Oper} (is : List (Bool × Nat)) (tail : List Nat) (hm : P.follows .mixedOrders = true) (hB : Region.mixOkG is tail ops = true) (hQ : ∀ c (a : Act) d v w, Q (.panic c) (a.put d v) w → Q (.panic c) a w)
    (h : seqG P ops.toArray Q (fun w' => ∃ p : Regrown, w' = grow (redrawn w p.d) p.os) (pickOps ops tail) (pickG ops is) a w.drew) : (Code.region id ops.toArray true).wp P Q a w := by
  simp only [Region.mixOkG, Bool.and_eq_true, decide_eq_true_eq] at hB
  obtain ⟨⟨hn, hs⟩, hl⟩ := hB
  refine wp_region_any hm ?_
  rw [show ops.toArray.size = is.length + tail.length by rw [hn]; simp]
  refine any_of_anyM (C := fun w' => ∃ p : Regrown, w' = grow (redrawn w p.d) p.os) (T := fun j => tail.contains j) _ _ _ _ ?_
  rw [hn]
  exact anyM_mixG hs hQ is _ a _ ⟨⟨w.drawn + 1, #[]⟩, by rw [grow_empty]; rfl⟩ hl h
end Go.Proofs.YtjkdcpalgfakhaaGreat
