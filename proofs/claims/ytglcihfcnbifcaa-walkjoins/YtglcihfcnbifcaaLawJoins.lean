
/-
  The function of WalkJoins hands back true, for every text and every place. No conditions.
-/
import Derived.Test.YtglcihfcnbifcaaWalkAnchor
namespace Go.Proofs.Ytglcihfcnbifcaa
open Go.ChangeShapes Go.WideShapes Go.ChangeAt Go.RowKit Go.Sort
set_option linter.unusedVariables false
set_option linter.unusedSimpArgs false

set_option maxHeartbeats 1600000 in
theorem joins_out (s : ByteArray) (at_ : Int) (hs : s.size ≤ 9223372036854775807) (h : 3000 < s.size ∨ at_ < 0 ∨ (s.size : Int) < at_) (w : World) :
    Calls Try.prog 3 #[.string s, .int .i64 at_] w fun e w' => e = .returned (.bool true) ∧ Below w.heap.size w w' := by
  have HA := Lib.hid (walk_anchor w)
  have h' : (3000 : Int) < s.size ∨ (¬ (3000 : Int) < s.size ∧ at_ < 0) ∨ (¬ (3000 : Int) < s.size ∧ ¬ at_ < 0 ∧ (s.size : Int) < at_) := by omega
  clear h
  rcases h' with h1 | ⟨h1, h2⟩ | ⟨h1, h2, h3⟩
  all_goals
    go_enter Try.func3, Try.ntmps3
    go_wp2_with fail
    refine HA.out.mono ?_
    rintro e w1 ⟨rfl, hb1⟩
    have HB1 : Hid (Below w.heap.size w w1) := hb1
    clear hb1
    go_wp2_with fail
    go_ret
    exact ⟨rfl, HB1.out⟩

theorem cut_joins (s : ByteArray) {k : Nat} (hk : k ≤ s.size) : (s.extract 0 k).data.toList ++ (s.extract k s.size).data.toList = s.data.toList := by
  have h : s.data.toList.length = s.size := by simp
  rw [ByteArray.data_extract, ByteArray.data_extract, Array.toList_extract, Array.toList_extract]
  unfold List.extract
  rw [List.drop_zero, Nat.sub_zero, List.take_of_length_le (l := s.data.toList.drop k) (by rw [List.length_drop]; omega)]
  exact List.take_append_drop k _
theorem joins_math (s : ByteArray) {k : Nat} (hs : s.size ≤ 3000) (hk : k ≤ s.size) :
    ThenOk (wtextW (s.extract 0 k).data.toList) (wtextW (s.extract k s.size).data.toList) ∧ eqW (wthenW (wtextW (s.extract 0 k).data.toList) (wtextW (s.extract k s.size).data.toList)) (wtextW s.data.toList) = true := by
  have l : s.data.toList.length = s.size := by simp
  have j := cut_joins s hk
  have l1 := congrArg List.length j
  rw [List.length_append, l] at l1
  have o1 := wok_text (s.extract 0 k).data.toList
  have o2 := wok_text (s.extract k s.size).data.toList
  have w1 := ww_text (s.extract 0 k).data.toList (by omega)
  have w2 := ww_text (s.extract k s.size).data.toList (by omega)
  have w3 := ww_text s.data.toList (by omega)
  obtain ⟨t1, t2⟩ := then_ok w1 w2 o1 o2 (by omega) (by omega)
  refine ⟨t1, ?_⟩
  rw [eqW_iff t2 w3, ← wtext_append, j]
  exact decide_eq_true rfl

set_option maxHeartbeats 3200000 in
set_option maxRecDepth 100000 in
theorem joins_in (s : ByteArray) (k : Nat) (hs : s.size ≤ 3000) (hk : k ≤ s.size) (w : World) :
    Calls Try.prog 3 #[.string s, .int .i64 k] w fun e w' => e = .returned (.bool true) ∧ Below w.heap.size w w' := by
  have HA := Lib.hid (walk_anchor w)
  have h1 : ¬ (3000 : Int) < s.size := by omega
  have h2 : ¬ (k : Int) < 0 := by omega
  have h3 : ¬ (s.size : Int) < k := by omega
  go_enter Try.func3, Try.ntmps3
  go_wp2_with fail
  refine HA.out.mono ?_
  rintro e w1 ⟨rfl, hb1⟩
  have HB1 : Hid (Below w.heap.size w w1) := hb1
  clear hb1 HA
  go_wp2_with fail
  refine wp_region_mix_below [0, 1, 2, 4, 5, 6, 10] [3, 7, 8, 9, 11, 12, 13] [] (by kernel_rfl) (by kernel_rfl) (fun _ _ d _ _ h => by cases d <;> exact h) ?_
  simp only [pickOps, List.filterMap_cons, List.filterMap_nil, List.getElem?_cons_zero, List.getElem?_cons_succ]
  repeat (first | go_big_quiet_step (fail) | quiet_step (fail))
  refine wpQuiet_nil ?_
  obtain ⟨hm, he⟩ := joins_math s hs hk
  have HX : Hid (∀ W, Calls Try.prog 5 #[.string (s.extract 0 k)] W fun e w' => e = .returned (wv (wtextW (s.extract 0 k).data.toList)) ∧ Below W.heap.size W w') := fun W => text_any _ (by simp; omega) W
  have HY : Hid (∀ W, Calls Try.prog 5 #[.string (s.extract k s.size)] W fun e w' => e = .returned (wv (wtextW (s.extract k s.size).data.toList)) ∧ Below W.heap.size W w') := fun W => text_any _ (by simp; omega) W
  have HZ : Hid (∀ W, Calls Try.prog 5 #[.string s] W fun e w' => e = .returned (wv (wtextW s.data.toList)) ∧ Below W.heap.size W w') := fun W => text_any s (by omega) W
  have HT : Hid (∀ K c W, WBox K (wtextW (s.extract k s.size).data.toList) W → Calls Try.prog 6 #[wv (wtextW (s.extract 0 k).data.toList), .slice (some ⟨K, 0, none⟩) 1 c] W fun e w' => e = .returned (wv (wthenW (wtextW (s.extract 0 k).data.toList) (wtextW (s.extract k s.size).data.toList))) ∧ Below W.heap.size W w') := fun K c W h => then_one hm K c W h
  clear hm
  generalize wthenW (wtextW (s.extract 0 k).data.toList) (wtextW (s.extract k s.size).data.toList) = C at HT he
  generalize wtextW (s.extract 0 k).data.toList = A at HX HT
  generalize wtextW (s.extract k s.size).data.toList = B at HY HT
  generalize wtextW s.data.toList = D at HZ he
  obtain ⟨⟨a1, a2⟩, ⟨a3, a4⟩⟩ := A
  obtain ⟨⟨b1, b2⟩, ⟨b3, b4⟩⟩ := B
  obtain ⟨⟨c1, c2⟩, ⟨c3, c4⟩⟩ := C
  obtain ⟨⟨d1, d2⟩, ⟨d3, d4⟩⟩ := D
  unfold eqW at he
  unfold wv at HX HY HZ HT
  simp only at he HX HY HZ HT
  rw [Bool.and_eq_true, Bool.and_eq_true, Bool.and_eq_true] at he
  obtain ⟨⟨p1, p2⟩, p3, p4⟩ := he
  refine seqM_step fun K hK => ?_
  go_wp2_with fail
  refine (HX.out _).mono ?_
  rintro e w2 ⟨rfl, hb2⟩
  have HB2 : Hid (Below w1.heap.size w1 w2) := below_of_drew hb2
  clear hb2
  go_wp2_with fail
  refine hK _ _ (regrown_of_below HB2.out) ?_
  clear hK K
  refine seqM_step fun K hK => ?_
  go_wp2_with fail
  refine (HY.out _).mono ?_
  rintro e w3 ⟨rfl, hb3⟩
  have HB3 : Hid (Below w1.heap.size w1 w3) := below_step HB2.out hb3
  clear hb3 HB2
  go_wp2_with fail
  refine hK _ _ (regrown_of_below HB3.out) ?_
  clear hK K
  refine seqM_step fun K hK => ?_
  go_wp2_with fail
  have HB4 : Hid (Below w1.heap.size w1 (w3.alloc (.cells #[.complex .f64 b1 b2, .complex .f64 b3 b4] 25))) := below_alloc HB3.out _
  have G4 : Hid (WBox w3.heap.size ((b1, b2), (b3, b4)) (w3.alloc (.cells #[.complex .f64 b1 b2, .complex .f64 b3 b4] 25))) := WBox.new w3 ((b1, b2), (b3, b4))
  clear HB3
  refine hK _ _ (regrown_of_below HB4.out) ?_
  clear hK K
  refine seqM_step fun K hK => ?_
  go_wp2_with fail
  refine (HT.out _ _ _ G4.out).mono ?_
  rintro e w5 ⟨rfl, hb5⟩
  have HB5 : Hid (Below w1.heap.size w1 w5) := below_step HB4.out hb5
  clear hb5 HB4 G4
  go_wp2_with fail
  refine hK _ _ (regrown_of_below HB5.out) ?_
  clear hK K
  refine seqM_step fun K hK => ?_
  go_wp2_with fail
  refine (HZ.out _).mono ?_
  rintro e w6 ⟨rfl, hb6⟩
  have HB6 : Hid (Below w1.heap.size w1 w6) := below_step HB5.out hb6
  clear hb6 HB5
  go_wp2_with fail
  refine hK _ _ (regrown_of_below HB6.out) ?_
  clear hK K
  refine seqM_step fun K hK => ?_
  go_wp2_with fail
  refine hK _ _ (regrown_of_below HB6.out) ?_
  clear hK K
  refine seqM_step fun K hK => ?_
  go_wp2_with fail
  refine hK _ _ (regrown_of_below HB6.out) ?_
  clear hK K
  refine seqM_nil ?_
  go_wp2_with fail
  go_ret
  exact ⟨rfl, below_step HB1.out HB6.out⟩

theorem law_joins (s : ByteArray) (at_ : Int) (hs : s.size ≤ 9223372036854775807) (w : World) :
    Calls Try.prog 3 #[.string s, .int .i64 at_] w fun e w' => e = .returned (.bool true) ∧ Below w.heap.size w w' := by
  by_cases h : 3000 < s.size ∨ at_ < 0 ∨ (s.size : Int) < at_
  · exact joins_out s at_ hs h w
  · obtain ⟨k, rfl⟩ : ∃ k : Nat, at_ = k := ⟨at_.toNat, by omega⟩
    exact joins_in s k (by omega) (by omega) w

end Go.Proofs.Ytglcihfcnbifcaa
