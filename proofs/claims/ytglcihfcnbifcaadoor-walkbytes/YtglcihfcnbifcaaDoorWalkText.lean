
/-
  What walk's Text hands back, of any text of at most 2^22 bytes. No conditions beyond what each theorem states.
-/
import Derived.Test.YtglcihfcnbifcaaDoorWalk
import Derived.Test.YtglcihfcnbifcaaDoorMix
namespace Go.Proofs.YtglcihfcnbifcaaDoor
open Go.ChangeShapes Go.WideShapes Go.ChangeAt Go.RowKit Go.Sort
set_option linter.unusedVariables false
set_option linter.unusedSimpArgs false

theorem thens_one (a b : Ws) : thensW a [b] = wthenW a b := rfl
theorem thensOk_one {a b : Ws} (h : ThenOk a b) : ThensOk a [b] := fun k hk => by
  have : k = 0 := by simp at hk; omega
  subst this
  exact h
/-- One walk behind another one. -/
theorem then_one {a b : Ws} (h : ThenOk a b) (K c : Nat) (w : World) (hB : WBox K b w) :
    Calls Tryd.prog 14 #[wv a, .slice (some ⟨K, 0, none⟩) 1 c] w fun e w' => e = .returned (wv (wthenW a b)) ∧ Below w.heap.size w w' :=
  then_any a [b] _ c (thensOk_one h) (by simp) w (WRow.one hB)

theorem bcell {W w1 : World} (hb : Below W.heap.size W w1) : (∀ b o, b < W.heap.size → w1.cell? ⟨b, o, none⟩ = W.cell? ⟨b, o, none⟩) ∧ (∀ b o, b < W.heap.size → w1.frozen? ⟨b, o, none⟩ = W.frozen? ⟨b, o, none⟩) :=
  ⟨fun b o h => hb.cell (p := ⟨b, o, none⟩) h, fun b o h => hb.frozen (p := ⟨b, o, none⟩) h⟩
theorem byte_at {s : ByteArray} {k : Nat} (h : k < s.size) : s.data.toList.take (k + 1) = s.data.toList.take k ++ [s[k]] := List.take_succ_eq_append_getElem (l := s.data.toList) (i := k) h

set_option maxHeartbeats 3200000 in
set_option maxRecDepth 100000 in
theorem text_any (s : ByteArray) (hs : s.size ≤ 4194304) (w : World) :
    Calls Tryd.prog 7 #[.string s] w fun e w' => e = .returned (wv (wtextW s.data.toList)) ∧ Below w.heap.size w w' := by
  have H0 := Lib.hid stay_any
  go_enter Tryd.func7, Tryd.ntmps7
  go_wp2_with fail
  refine (H0.out _).mono ?_
  rintro e w1 ⟨rfl, hb1⟩
  have R1 := (WBox.new w ((0, 0), (0, 0))).below hb1
  have HB1 : Hid (Below w.heap.size w w1) := below_step (below_alloc (Below.refl _ _) _) hb1
  have HR1 : Hid (WBox w.heap.size ((0, 0), (0, 0)) w1) := R1
  have HL : Hid (w.heap.size < w1.heap.size) := R1.lt
  clear R1 hb1
  unfold wv
  go_wp2_with fail
  go_loopg [8] s.size (fun g i wr => ∃ k : Nat, k ≤ s.size ∧ s.size - k ≤ g ∧ i = .int .i64 k ∧ WBox w1.heap.size (wtextW (s.data.toList.take k)) wr ∧ WBox w.heap.size ((0, 0), (0, 0)) wr ∧ Below w.heap.size w wr)
  case atStart => exact ⟨0, Nat.zero_le _, by omega, rfl, WBox.new w1 wstayW, HR1.out.alloc _, below_alloc HB1.out _⟩
  case round =>
    obtain ⟨k, hk, hg, rfl, hA, hB, hb⟩ := hrel
    by_cases hlt : k < s.size
    · have HN := Lib.hid (congrArg wtextW (byte_at hlt))
      have hT := text_ok (s.data.toList.take k) s[k] (by simp; omega)
      rw [wtextW_snoc] at HN
      generalize wtextW (s.data.toList.take k) = A at hA HN hT
      have H1 := Lib.hid (fun W => wof_any s[k].toNat s[k].toNat_lt W)
      have H2 : Hid (∀ K c W, WBox K (wbyteW s[k].toNat) W → Calls Tryd.prog 14 #[wv A, .slice (some ⟨K, 0, none⟩) 1 c] W fun e w' => e = .returned (wv (wthenW A (wbyteW s[k].toNat))) ∧ Below W.heap.size W w') := fun K c W h => then_one hT K c W h
      clear hT
      generalize wbyteW s[k].toNat = B at H1 H2 HN
      generalize wthenW A B = C at H2 HN
      obtain ⟨⟨x, y⟩, ⟨u, v⟩⟩ := A
      obtain ⟨⟨s1, s2⟩, ⟨s3, s4⟩⟩ := B
      obtain ⟨⟨t1, t2⟩, ⟨t3, t4⟩⟩ := C
      unfold wv at H1 H2
      simp only at H1 H2
      have HA : Hid (WBox w1.heap.size ((x, y), (u, v)) wr) := hA
      have HB : Hid (WBox w.heap.size ((0, 0), (0, 0)) wr) := hB
      have HBB : Hid (Below w.heap.size w wr) := hb
      clear hA hB hb HR1 HB1 H0
      have a0 := cell_regrown HA.out.cell0
      have a1 := cell_regrown HA.out.cell1
      simp only at a0 a1
      go_wp2_with fail
      refine wp_region_mix_below [0, 1, 2, 3] [4, 5, 6] [7] (by kernel_rfl) (by kernel_rfl) (fun _ _ d _ _ h => by cases d <;> exact h) ?_
      simp only [pickOps, List.filterMap_cons, List.filterMap_nil, List.getElem?_cons_zero, List.getElem?_cons_succ]
      repeat (first | go_big_quiet_step (fail) | quiet_step (fail))
      refine wpQuiet_nil ?_
      clear a0 a1
      refine seqM_step fun K hK => ?_
      go_wp2_with fail
      refine (H1.out _).mono ?_
      rintro e w4 ⟨rfl, hb4⟩
      have HB4 : Hid (Below wr.heap.size wr w4) := below_of_drew hb4
      clear hb4
      go_wp2_with fail
      refine hK _ _ (regrown_of_below HB4.out) ?_
      clear hK K
      refine seqM_step fun K hK => ?_
      go_wp2_with fail
      have HB5 : Hid (Below wr.heap.size wr (w4.alloc (.cells #[.complex .f64 s1 s2, .complex .f64 s3 s4] 31))) := below_alloc HB4.out _
      have G5 : Hid (WBox w4.heap.size ((s1, s2), (s3, s4)) (w4.alloc (.cells #[.complex .f64 s1 s2, .complex .f64 s3 s4] 31))) := WBox.new w4 ((s1, s2), (s3, s4))
      clear HB4
      refine hK _ _ (regrown_of_below HB5.out) ?_
      clear hK K
      refine seqM_step fun K hK => ?_
      go_wp2_with fail
      refine (H2.out _ _ _ G5.out).mono ?_
      rintro e w6 ⟨rfl, hb6⟩
      have HB6 : Hid (Below wr.heap.size wr w6) := below_step HB5.out hb6
      clear hb6 HB5 G5
      go_wp2_with fail
      refine hK _ _ (regrown_of_below HB6.out) ?_
      clear hK K
      refine seqM_nil ?_
      have A6 : Hid (WBox w1.heap.size ((x, y), (u, v)) w6) := HA.out.below HB6.out
      have B6 : Hid (WBox w.heap.size ((0, 0), (0, 0)) w6) := HB.out.below HB6.out
      have HBB6 : Hid (Below w.heap.size w w6) := below_step HBB.out HB6.out
      clear HA HB HBB HB6 H1 H2
      have a0 := A6.out.cell0
      have a1 := A6.out.cell1
      have a2 := A6.out.frozen
      go_wp2_with fail
      go_roundg (s.size - (k + 1))
      case measure => omega
      case rel => exact ⟨k + 1, by omega, Nat.le_refl _, by go_num, by rw [HN.out]; exact A6.out.set _ _ _ _, B6.out.apart (Nat.ne_of_lt HL.out) _ _, below_set2 HBB6.out (Nat.le_of_lt HL.out) _ _⟩
    · have hkl : k = s.size := by omega
      subst hkl
      rw [show s.data.toList.take s.size = s.data.toList from List.take_of_length_le (by simp)] at hA
      generalize hT : wtextW s.data.toList = A at hA
      obtain ⟨⟨x, y⟩, ⟨u, v⟩⟩ := A
      have HT : Hid (wv (wtextW s.data.toList) = .agg #[.complex .f64 x y, .complex .f64 u v]) := by rw [hT]; rfl
      clear hT
      have a0 := hA.cell0
      have a1 := hA.cell1
      have b0 := hB.cell0
      have b1 := hB.cell1
      have b2 := hB.frozen
      have HB : Hid (WBox w.heap.size ((x, y), (u, v)) ((wr.setCell ⟨w.heap.size, 0, none⟩ (.complex .f64 x y)).setCell ⟨w.heap.size, 1, none⟩ (.complex .f64 u v))) := hB.set _ _ _ _
      have HBB : Hid (Below w.heap.size w wr) := hb
      clear hA hB hb
      go_wp2
      have e0 := HB.out.cell0
      have e1 := HB.out.cell1
      exact bodyPost_ret (v := .agg #[.complex .f64 x y, .complex .f64 u v]) (by simp [results, Tryd.results7, go_sem, e0, e1]) rfl ⟨by rw [HT.out], below_set2 HBB.out (Nat.le_refl _) _ _⟩

end Go.Proofs.YtglcihfcnbifcaaDoor
