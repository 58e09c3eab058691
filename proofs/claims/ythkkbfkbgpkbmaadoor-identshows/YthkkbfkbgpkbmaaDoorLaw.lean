/-
  IdentShows returns true for any ID and any text, and writes nothing that was there. The condition: the library's own variables hold what they were laid with.
-/
import Derived.Test.YthkkbfkbgpkbmaaDoorMath
import Derived.Test.YthkkbfkbgpkbmaaDoorAnchor
namespace Go.Proofs.YthkkbfkbgpkbmaaDoor
open Go.ChangeShapes Go.WideShapes Go.ChangeAt Go.RowKit Go.Sort
set_option linter.unusedVariables false
set_option linter.unusedSimpArgs false

theorem showB_list (r n : Nat) : (showB r n).data.toList = showL r n := by simp [showB]
theorem showB_size (r n : Nat) (hr : r ≤ 65535) (hn : n ≤ 4294967295) : (showB r n).size ≤ 200 := by
  have h1 := dec_len r (by omega)
  have h2 := dec_len n hn
  show (showL r n).toArray.size ≤ 200
  simp only [showL, List.size_toArray, List.length_append, List.length_cons]
  omega

theorem read_yes (r n : Nat) (hr : r ≤ 65535) (hn : n ≤ 4294967295) (w : World) (hf : Fit w) :
    Calls Tryd.prog 6 #[.string (showB r n)] w fun e w' => e = .returned (.tuple #[.agg #[.int .u16 r, .int .u32 n], .int .i64 0]) ∧ Below w.heap.size w w' := by
  refine read_ok (showB r n) (showB_size r n hr hn) w hf r n ?_ ?_ rfl
  · rw [showB_list, fst_show]; exact parse_dec 16 r (by decide) hr
  · rw [showB_list, snd_show]; exact parse_dec 32 n (by decide) hn

theorem read_no (s : ByteArray) (hs : s.size ≤ 200) (h : refB s.data.toList = false) (w : World) (hf : Fit w) :
    Calls Tryd.prog 6 #[.string s] w fun e w' => e = .returned (.tuple #[.agg #[.int .u16 0, .int .u32 0], .int .i64 11]) ∧ Below w.heap.size w w' := by
  by_cases h1 : ∃ r, Lib.parseUintB 16 (fst s.data.toList) = .ok r
  · obtain ⟨r, h1⟩ := h1
    by_cases h2 : ∃ n, Lib.parseUintB 32 (snd s.data.toList) = .ok n
    · obtain ⟨n, h2⟩ := h2
      refine read_bad3 s hs w hf r n h1 h2 ?_
      intro e
      have := refB_show r n (Lib.parseUintB_le h1) (Lib.parseUintB_le h2)
      rw [← showB_list, e, h] at this
      cases this
    · exact read_bad2 s hs w hf r h1 (fun u hu => h2 ⟨u, hu⟩)
  · exact read_bad1 s hs w hf (fun u hu => h1 ⟨u, hu⟩)

set_option maxHeartbeats 1600000 in
set_option maxRecDepth 100000 in
theorem shows_walk (r n : Nat) (hr : r ≤ 65535) (hn : n ≤ 4294967295) (s : ByteArray) (hmax : s.size ≤ 9223372036854775807) (w : World) (hf : Fit w) :
    Calls Tryd.prog 3 #[.agg #[.int .u16 r, .int .u32 n], .string s] w fun e w' => e = .returned (.bool true) ∧ Below w.heap.size w w' := by
  have HA : Hid (∀ W, Calls Tryd.prog 4 #[] W fun e w' => e = .returned (.bool true) ∧ Below W.heap.size W w') := anchor_any
  have HB : Hid (Below w.heap.size w (w.alloc (.cells #[.int .u16 (r : Int), .int .u32 (n : Int)] 25))) := (Below.refl _ _).alloc (Nat.le_refl _) _
  by_cases h200 : 200 < s.size
  · have h200' : (200 : Int) < (s.size : Int) := by omega
    go_enter Tryd.func3, Tryd.ntmps3
    go_wp2_with (go_at_call 4; refine (HA.out _).mono ?_; rintro e w1 ⟨rfl, hb⟩)
    go_ret
    exact ⟨rfl, below_step HB.out hb⟩
  · have h200' : ¬ (200 : Int) < (s.size : Int) := by omega
    have hs : s.size ≤ 200 := by omega
    have HF : Hid (Fit w) := hf
    have H5 : Hid (∀ W, Fit W → Calls Tryd.prog 5 #[.agg #[.int .u16 r, .int .u32 n]] W fun e w' => e = .returned (.string (showB r n)) ∧ Below W.heap.size W w') := fun W h => show_any r n hr hn W h
    have H7 : Hid (∀ W, Calls Tryd.prog 7 #[.agg #[.int .u16 r, .int .u32 n]] W fun e w' => e = .returned (.string (showB r n)) ∧ Below W.heap.size W w') := fun W => refshow_any r n hr hn W
    have H6 : Hid (∀ W, Fit W → Calls Tryd.prog 6 #[.string (showB r n)] W fun e w' => e = .returned (.tuple #[.agg #[.int .u16 r, .int .u32 n], .int .i64 0]) ∧ Below W.heap.size W w') := fun W h => read_yes r n hr hn W h
    have H8 : Hid (∀ W, Calls Tryd.prog 8 #[.string s] W fun e w' => RefPost s.data.toList W e w') := fun W => refread_any s hs W
    have HR : Hid (∀ W, Fit W → Calls Tryd.prog 6 #[.string s] W fun e w' => (refB s.data.toList = true → e = .returned (.tuple #[.agg #[.int .u16 (numV (pre s.data.toList)), .int .u32 (numV (post s.data.toList))], .int .i64 0])) ∧ (refB s.data.toList = false → e = .returned (.tuple #[.agg #[.int .u16 0, .int .u32 0], .int .i64 11])) ∧ Below W.heap.size W w') := by
      intro W hW
      cases hB : refB s.data.toList
      · exact (read_no s hs hB W hW).mono fun e w' ⟨h1, h2⟩ => ⟨fun h => absurd h (by simp), fun _ => h1, h2⟩
      · obtain ⟨q1, q2, q3⟩ := refB_is _ hB
        have e : s = showB (numV (pre s.data.toList)) (numV (post s.data.toList)) := by
          apply ByteArray.ext
          apply Array.toList_inj.1
          rw [showB_list, q3]
        have := read_yes _ _ q1 q2 W hW
        rw [← e] at this
        exact this.mono fun e w' ⟨h1, h2⟩ => ⟨fun _ => h1, fun h => absurd h (by simp), h2⟩
    clear hf hmax h200 hs
    go_enter Tryd.func3, Tryd.ntmps3
    go_wp2_with fail
    refine (HA.out _).mono ?_
    rintro e w1 ⟨rfl, hb1⟩
    have x0 : w1.cell? ⟨w.heap.size, 0, none⟩ = some (.int .u16 r) := by rw [hb1.cell (show w.heap.size < _ by simp)]; simp
    have x1 : w1.cell? ⟨w.heap.size, 1, none⟩ = some (.int .u32 n) := by rw [hb1.cell (show w.heap.size < _ by simp)]; simp
    have HB1 : Hid (Below w.heap.size w w1) := below_step HB.out hb1
    clear hb1 HB
    go_wp2_with fail
    refine (H5.out _ (HF.out.below HB1.out)).mono ?_
    rintro e w2 ⟨rfl, hb2⟩
    go_wp2_with fail
    refine (H6.out _ ((HF.out.below HB1.out).below hb2)).mono ?_
    rintro e w3 ⟨rfl, hb3⟩
    have HB3 : Hid (Below w1.heap.size w1 w3) := below_step hb2 hb3
    have y0 : w3.cell? ⟨w.heap.size, 0, none⟩ = some (.int .u16 r) := by rw [HB3.out.cell (block_lt_of_cell x0)]; exact x0
    have y1 : w3.cell? ⟨w.heap.size, 1, none⟩ = some (.int .u32 n) := by rw [HB3.out.cell (block_lt_of_cell x1)]; exact x1
    clear x0 x1 hb2 hb3
    have hlt : w.heap.size < w3.heap.size := block_lt_of_cell y0
    go_wp2_with fail
    refine (H7.out _).mono ?_
    rintro e w4 ⟨rfl, hb4⟩
    have z0 : w4.cell? ⟨w.heap.size, 0, none⟩ = some (.int .u16 r) := by rw [hb4.cell (show w.heap.size < _ by simp; omega)]; go_simp
    have z1 : w4.cell? ⟨w.heap.size, 1, none⟩ = some (.int .u32 n) := by rw [hb4.cell (show w.heap.size < _ by simp; omega)]; go_simp
    have z2 : w4.cell? ⟨w3.heap.size, 0, none⟩ = some (.int .u16 r) := by rw [hb4.cell (show w3.heap.size < _ by simp)]; simp
    have z3 : w4.cell? ⟨w3.heap.size, 1, none⟩ = some (.int .u32 n) := by rw [hb4.cell (show w3.heap.size < _ by simp)]; simp
    have HB4 : Hid (Below w.heap.size w w4) := below_step (below_step HB1.out HB3.out) (below_step (below_alloc (Below.refl _ _) _) hb4)
    clear hb4 y0 y1 HB1 HB3
    go_wp2_with fail
    refine (HR.out _ (HF.out.below HB4.out)).mono ?_
    rintro e w5 ⟨he1, he2, hb5⟩
    have HB5 : Hid (Below w.heap.size w w5) := below_step HB4.out hb5
    clear z0 z1 z2 z3 hb5 HB4
    cases hB : refB s.data.toList
    · have he := he2 hB
      clear he1 he2
      subst he
      go_wp2_with fail
      refine (H8.out _).mono ?_
      rintro e w6 ⟨x, y, b, rfl, ⟨hb, hxy⟩, hb6⟩
      rw [hB] at hb
      subst hb
      have z0 : w6.cell? ⟨w5.heap.size, 0, none⟩ = some (.int .u16 0) := by rw [hb6.cell (show w5.heap.size < _ by simp)]; simp
      have z1 : w6.cell? ⟨w5.heap.size, 1, none⟩ = some (.int .u32 0) := by rw [hb6.cell (show w5.heap.size < _ by simp)]; simp
      have hz : w5.heap.size < w6.heap.size := block_lt_of_cell z0
      have HB6 : Hid (Below w.heap.size w w6) := below_step HB5.out (below_step (below_alloc (Below.refl _ _) _) hb6)
      clear hb6 hxy
      go_wp2_with fail
      go_ret
      exact ⟨rfl, below_alloc HB6.out _⟩
    · have he := he1 hB
      clear he1 he2
      subst he
      go_wp2_with fail
      refine (H8.out _).mono ?_
      rintro e w6 ⟨x, y, b, rfl, ⟨hb, hxy⟩, hb6⟩
      rw [hB] at hb
      subst hb
      obtain ⟨rfl, rfl⟩ := hxy rfl
      generalize numV (pre s.data.toList) = rr at *
      generalize numV (post s.data.toList) = nn at *
      have z0 : w6.cell? ⟨w5.heap.size, 0, none⟩ = some (.int .u16 rr) := by rw [hb6.cell (show w5.heap.size < _ by simp)]; simp
      have z1 : w6.cell? ⟨w5.heap.size, 1, none⟩ = some (.int .u32 nn) := by rw [hb6.cell (show w5.heap.size < _ by simp)]; simp
      have hz : w5.heap.size < w6.heap.size := block_lt_of_cell z0
      have HB6 : Hid (Below w.heap.size w w6) := below_step HB5.out (below_step (below_alloc (Below.refl _ _) _) hb6)
      clear hb6
      go_wp2_with fail
      go_ret
      exact ⟨rfl, below_alloc HB6.out _⟩

end Go.Proofs.YthkkbfkbgpkbmaaDoor
