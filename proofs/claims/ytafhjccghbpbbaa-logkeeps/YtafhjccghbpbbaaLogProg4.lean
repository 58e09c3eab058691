
/-
  What the landed log's Reply hands back. No conditions beyond what each theorem states.
-/
import Derived.Test.YtafhjccghbpbbaaLogProg1
namespace Go.Proofs.Ytafhjccghbpbbaa
open Go.ChangeShapes Go.WideShapes Go.ChangeAt Go.RowKit Go.Lib
set_option linter.unusedVariables false
set_option linter.unusedSimpArgs false

/-- Bytes in a row of rows. -/
abbrev ByV : Type := List UInt8 × Option Addr × Nat
def layB : Lay ByV := ⟨1, fun y => [.slice y.2.1 y.1.length y.2.2], fun _ => rfl, fun x u hu => by
  simp at hu
  rw [hu]; rfl⟩
theorem layB_pos : 0 < layB.k := by decide
theorem infoBB : (Try.prog.info? 33).map (fun i => (i.zero, i.size, i.bytes)) = some (some (.slice none 0 0), 1, 24) := by kernel_rfl
structure ManyB (w : World) (v : Value) (ys : List ByV) (wr : World) : Prop where
  hold : Hold layB w 33 v ys wr
  each : ∀ y ∈ ys, RowB wr y.2.1 y.2.2 y.1
theorem ManyB.below {w wr w1 : World} {v : Value} {ys : List ByV} (h : ManyB w v ys wr) (hb : Below wr.heap.size wr w1) : ManyB w v ys w1 := ⟨h.hold.below hb, fun y hy => (h.each y hy).below hb⟩
theorem ManyB.add {w wr w1 : World} {v v' : Value} {ys : List ByV} {y : ByV} (h : ManyB w v ys wr) (hy : RowB wr y.2.1 y.2.2 y.1) (hown : w1.ownsRow w.heap.size 33 1 v' (ys.length + 1) (layB.flat ys ++ layB.enc y)) (hg : wr.grownBy w1 v.ownBlock) : ManyB w v' (ys ++ [y]) w1 := by
  have hk : Kept (fun k => v.ownBlock = some k) wr w1 := Kept.ofGrown hg (fun k e => e)
  have hn : ∀ {p : Option Addr}, KindAt 5 wr p → ∀ q, p = some q → ¬ v.ownBlock = some q.block := fun hp q hq e => by
    obtain ⟨cs, f, hc⟩ := hp q hq
    obtain ⟨cs2, f2, hc2⟩ := own_kind h.hold.1 _ e
    rw [hc] at hc2
    simp at hc2
  refine ⟨h.hold.onto (ys := [y]) (by rw [layB.flat_one]) (by simp) hown hg, fun z hz => ?_⟩
  rcases List.mem_append.1 hz with hz | hz
  · exact (h.each z hz).kept hk (hn (h.each z hz).kind)
  · simp at hz
    subst hz
    exact hy.kept hk (hn hy.kind)
theorem ManyB.more {w wr : World} {v : Value} {ys : List ByV} (h : ManyB w v ys wr) : ∃ q d, v = .slice q (ys.map (·.1)).length d ∧ MoreB wr q (ys.map (·.1)) := by
  obtain ⟨q, d, rfl, hg, -, -⟩ := h.hold.gave layB_pos
  refine ⟨q, d, by rw [List.length_map], fun i hi => ?_⟩
  have hi' : i < ys.length := by simpa using hi
  obtain ⟨b, o, rfl, h0⟩ := hg.cell ([], none, 0) (j := 0) hi' rfl
  have hk : layB.k = 1 := rfl
  rw [hk, Nat.mul_one, Nat.add_zero] at h0
  have e : (ys.map (·.1)).getD i [] = (ys.getD i ([], none, 0)).1 := by simp [hi']
  rw [e]
  exact ⟨b, o, _, _, rfl, h0, (h.each _ (getD_mem _ hi')).row⟩
set_option maxHeartbeats 6400000 in
set_option maxRecDepth 20000 in
theorem reply_anyL (S : Nat → Prop) (K : Nat) (l : List Lm) (w : World) (r fr tu most : Int) (h : Lgg S K l w) (hr : 0 ≤ r ∧ r ≤ 65535) (hf : 0 ≤ fr ∧ fr ≤ 4294967295) (ht : 0 ≤ tu ∧ tu ≤ 4294967295) (hg : tu ≤ fr + 1000) :
    Calls Try.prog 12 #[.pointer (some ⟨K, 0, none⟩), .agg #[.int .u16 r, .int .u32 fr, .int .u32 tu], .int .i64 most] w fun e w' => ∃ q d, e = .returned (.slice q (replyL l r fr tu most).length d) ∧ MoreB w' q (replyL l r fr tu most) ∧ Below w.heap.size w w' := by
  have HB : Hid (Below w.heap.size w (w.alloc (.cells #[.int .u16 r, .int .u32 fr, .int .u32 tu] 48))) := below_alloc (Below.refl _ _) _
  have HX := Lib.hid (heap_alloc_new w (.cells #[.int .u16 r, .int .u32 fr, .int .u32 tu] 48))
  have HG : Hid (∀ s W, 0 ≤ s ∧ s ≤ 4294967295 → Below w.heap.size w W → Calls Try.prog 8 #[.pointer (some ⟨K, 0, none⟩), .agg #[.int .u16 r, .int .u32 s]] W fun e w' => ∃ p c, e = .returned (.tuple #[.slice p (gotL l r s).length c, .bool (keptL l r s)]) ∧ RowB w' p c (gotL l r s) ∧ Below W.heap.size W w') := fun s W hs hb => get_anyL S K l W r s (h.below hb) hr hs
  have HF := Lib.hid hf
  have HT := Lib.hid ht
  have HGP := Lib.hid hg
  obtain ⟨i0, hi, hz0, hz1, hz2⟩ := info_parts infoBB
  obtain ⟨z0, z1, z2⟩ := three_cellsG HX.out
  have e1 : IntKind.u64.wrap fr = fr := by rw [IntKind.wrap_u64]; omega
  have e2 : IntKind.u64.wrap tu = tu := by rw [IntKind.wrap_u64]; omega
  have e3 : IntKind.u64.wrap (fr + 1000) = fr + 1000 := by rw [IntKind.wrap_u64]; omega
  have e4 : min tu (fr + 1000) = tu := Int.min_eq_left hg
  clear h hr hf ht hg
  go_enter Try.func12, Try.ntmps12
  go_wp2_with fail
  refine wp_scope_loop 0 (fun a' w' => ∃ (k : Nat) (q : Int) (ys : List ByV) (v c10 c11 c12 c13 c14 c15 c16 c17 c18 c19 c20 c21 c22 c23 c24 c25 c26 c27 c28 c29 c30 c31 c32 c33 c34 c35 c36 c37 c38 c39 c40 c41 c42 c43 c44 c45 c46 c47 c48 c49 : Value), a' = { tmps := #[.pointer (some ⟨K, 0, none⟩), .agg #[.int .u16 r, .int .u32 fr, .int .u32 tu], .int .i64 most, undef, .pointer (some ⟨w.heap.size, 0, none⟩), undef, .slice none 0 0, v, .int .u64 q, .int .u64 tu, c10, c11, c12, c13, c14, c15, c16, c17, c18, c19, c20, c21, c22, c23, c24, c25, c26, c27, c28, c29, c30, c31, c32, c33, c34, c35, c36, c37, c38, c39, c40, c41, c42, c43, c44, c45, c46, c47, c48, c49], defers := [] } ∧ q = fr + (k : Int) ∧ k ≤ 1001 ∧ ys.length ≤ k ∧ ManyB w v ys w' ∧ w'.heap[w.heap.size]? = some (.cells #[.int .u16 r, .int .u32 fr, .int .u32 tu] 48 (0, 0)) ∧ replyL l r fr tu most = replyG l r fr tu most (1001 - k) k (ys.map (·.1))) (fun a' _ => 4294969000 - natOf (a'.tmps.getD 8 undef)) rfl ?_ ?_
  · intro hpass
    have HP := Lib.hid hpass
    clear hpass
    go_wp2_with fail
    go_quiet (fail)
    go_wp2_with fail
    go_step3
    rename_i KK hKK
    refine hKK _ _ (HP.out _ _ ⟨0, fr, [], _, _, _, _, _, _, _, _, _, _, _, _, _, _, _, _, _, _, _, _, _, _, _, _, _, _, _, _, _, _, _, _, _, _, _, _, _, _, _, _, _, rfl, by simp, by omega, by simp, ⟨⟨World.ownsRow_nil _ _ _ _, below_drewN HB.out _⟩, fun y hy => by simp at hy⟩, HX.out, rfl⟩)
  · rintro a' w' ⟨k, q, ys, v, c10, c11, c12, c13, c14, c15, c16, c17, c18, c19, c20, c21, c22, c23, c24, c25, c26, c27, c28, c29, c30, c31, c32, c33, c34, c35, c36, c37, c38, c39, c40, c41, c42, c43, c44, c45, c46, c47, c48, c49, rfl, hq, hk, hyl, hm, hbx, hrep⟩
    have HM := Lib.hid hm
    have HBX := Lib.hid hbx
    have HRP := Lib.hid hrep
    have hf := HF.out
    have ht := HT.out
    have hg := HGP.out
    have HGV : Hid (replyL l r fr tu most = ys.map (·.1) → ∃ q d, v = .slice q (replyL l r fr tu most).length d ∧ MoreB w' q (replyL l r fr tu most) ∧ Below w.heap.size w w') := fun he => by
      obtain ⟨q, d, e1, e2⟩ := HM.out.more
      rw [he]
      exact ⟨q, d, e1, e2, HM.out.hold.2⟩
    obtain ⟨vp, vd, hv⟩ := owns_slice HM.out.hold.1
    clear z0 z1 z2 hm hbx hrep e1 e2 e3 e4 HX
    by_cases hto : tu < q
    · have he : replyL l r fr tu most = ys.map (·.1) := by
        rw [HRP.out]
        by_cases hk1 : k ≤ 1000
        · have hstep : 1001 - k = (1001 - (k + 1)) + 1 := by omega
          rw [hstep, replyG, if_pos (Or.inl (by omega))]
        · have : 1001 - k = 0 := by omega
          rw [this]
          rfl
      have HE := Lib.hid (HGV.out he)
      clear HRP HGV he HM hv HBX hq hk hyl hf ht hg
      go_wp2
      simp only [Exit.jump]
      go_ret
      obtain ⟨q2, d2, e5, e6, e7⟩ := HE.out
      exact ⟨q2, d2, by rw [e5]; rfl, e6, e7⟩
    · have hstep : 1001 - k = (1001 - (k + 1)) + 1 := by omega
      rw [hstep, replyG] at HRP
      by_cases hmo : most ≤ (ys.length : Int)
      · rw [if_pos (Or.inr (by rw [List.length_map]; exact hmo))] at HRP
        have HE := Lib.hid (HGV.out HRP.out)
        subst hv
        clear HRP HGV HM HBX hq hk hyl hf ht hg
        go_wp2
        simp only [Exit.jump]
        go_ret
        obtain ⟨q2, d2, e5, e6, e7⟩ := HE.out
        exact ⟨q2, d2, by rw [e5]; rfl, e6, e7⟩
      · rw [if_neg (by rw [List.length_map]; rintro (h | h); exact hto (by omega); exact hmo h)] at HRP
        subst hv
        obtain ⟨z0, z1, z2⟩ := three_cellsG HBX.out
        have e6 : IntKind.u32.wrap q = q := by rw [IntKind.wrap_u32]; omega
        have e7 : IntKind.u64.wrap (q + 1) = q + 1 := by rw [IntKind.wrap_u64]; omega
        have HGT := Lib.hid (HG.out q w' (by omega) HM.out.hold.2)
        have HQ := Lib.hid hq
        have HNB : Hid (q = fr + (k : Int) ∧ ¬ tu < q ∧ k ≤ 1000 ∧ ys.length ≤ k ∧ 0 ≤ q ∧ q ≤ 4294967295) := ⟨hq, hto, by omega, hyl, by omega, by omega⟩
        clear HGV hf ht hg hk hyl hq hstep
        go_wp2_with fail
        refine HGT.out.mono ?_
        rintro e w1 ⟨p1, d1, rfl, hr1, hb1⟩
        have HR1 := Lib.hid hr1
        have HM1 := Lib.hid (HM.out.below hb1)
        have HBX1 := Lib.hid (kept_boxG HBX.out hb1)
        clear hr1 hb1 HGT HM HBX z0 z1 z2
        cases hp : placeL l r q with
        | none =>
          obtain ⟨hgl, hkl⟩ := gotL_none hp
          have hfo : foundL l r (fr + (k : Int)) = [] := by unfold foundL; rw [← HQ.out, hp]
          rw [hfo, List.append_nil] at HRP
          rw [hgl, hkl]
          clear hfo hp hgl hkl HR1
          go_wp2_with fail
          go_step3
          exact ⟨rfl, ⟨k + 1, q + 1, ys, _, _, _, _, _, _, _, _, _, _, _, _, _, _, _, _, _, _, _, _, _, _, _, _, _, _, _, _, _, _, _, _, _, _, _, _, _, _, _, _, _, rfl, by have := HNB.out.1; omega, by have := HNB.out; omega, by have := HNB.out; omega, HM1.out, HBX1.out, HRP.out⟩, by have := HNB.out; simp only [natOf]; simp; omega⟩
        | some i =>
          obtain ⟨hgl, hkl⟩ := gotL_some hp
          have hfo : foundL l r (fr + (k : Int)) = [(l.getD i l0L).b] := by unfold foundL; rw [← HQ.out, hp]
          rw [hfo] at HRP
          rw [hgl] at HR1
          rw [hgl, hkl]
          generalize (l.getD i l0L).b = bb at HRP HR1 ⊢
          clear hfo hp hgl hkl
          have HLO : Hid (ys.length + 1 ≤ maxLen ∧ (ys.length + 1) * 24 ≤ 140737488355328 ∧ w.heap.size ≤ w1.heap.size) := by have := HNB.out; have := HM1.out.hold.2.size; refine ⟨?_, ?_, ?_⟩ <;> (try unfold maxLen) <;> omega
          go_wp2_with (first
            | (at_builtin; refine wpList_append_own_at _ rfl (.tmp 44) (.tmp 46) 49 rfl w.heap.size 33 i0 (.slice none 0 0) 1 24 Try.underlying49 hi hz0 hz1 hz2 rfl (by decide) _ ys.length (layB.flat ys) rfl (HM1.out.hold.1.alloc _) ⟨w1.heap.size, 0, none⟩ 1 1 [.slice p1 bb.length d1] rfl rfl (cells_new (cs := [.slice p1 bb.length d1])) (layB.one (bb, p1, d1)) HLO.out.1 HLO.out.2.1 (by have := HLO.out.2.2; simp; omega) ?_))
          intro v2 w2 hown hgrow _ _
          have HM2 := Lib.hid ((HM1.out.below (below_alloc (Below.refl _ _) _)).add (y := (bb, p1, d1)) (HR1.out.below (below_alloc (Below.refl _ _) _)) hown hgrow)
          have HBX2 : Hid (w2.heap[w.heap.size]? = some (.cells #[.int .u16 r, .int .u32 fr, .int .u32 tu] 48 (0, 0))) := by
            have h1 := kept_boxG HBX1.out (below_alloc (Below.refl _ w1) (.cells #[.slice p1 bb.length d1] 33))
            refine (hgrow.block _ (lt_of_block h1) (fun e => ?_)).trans h1
            obtain ⟨cs, f, hc⟩ := own_kind (HM1.out.hold.1.alloc (.cells #[.slice p1 bb.length d1] 33)) _ e.symm
            rw [h1] at hc
            simp at hc
          clear hown hgrow HM1 HBX1 HR1
          go_wp2_with fail
          go_step3
          exact ⟨rfl, ⟨k + 1, q + 1, ys ++ [(bb, p1, d1)], _, _, _, _, _, _, _, _, _, _, _, _, _, _, _, _, _, _, _, _, _, _, _, _, _, _, _, _, _, _, _, _, _, _, _, _, _, _, _, _, _, rfl, by have := HNB.out.1; omega, by have := HNB.out; omega, by have := HNB.out; rw [List.length_append]; simp; omega, HM2.out, HBX2.out, by rw [List.map_append]; exact HRP.out⟩, by have := HNB.out; simp only [natOf]; simp; omega⟩
end Go.Proofs.Ytafhjccghbpbbaa
