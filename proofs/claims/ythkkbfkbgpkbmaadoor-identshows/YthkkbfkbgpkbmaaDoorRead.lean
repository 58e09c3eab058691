/-
  What ident.Read hands back, for every text of at most 200 bytes: the ID that it shows, or the zero ID and the number of ErrForm. The condition: the library's own variables hold what they were laid with.
-/
import Derived.Test.YthkkbfkbgpkbmaaDoorShow
import Derived.Lib.ParseIntBCases
namespace Go.Proofs.YthkkbfkbgpkbmaaDoor
open Go.ChangeShapes Go.WideShapes Go.ChangeAt Go.RowKit Go.Sort
set_option linter.unusedVariables false
set_option linter.unusedSimpArgs false

theorem pu16_ok (s : ByteArray) (hs : s.size ≤ 200) (u : Nat) (h : Lib.parseUintB 16 s.data.toList = .ok u) (w : World) :
    Calls Tryd.prog 13 #[.string s, .int .i64 10, .int .i64 16] w fun e w' => e = .returned (.tuple #[.int .u64 u, .nilIface]) ∧ Below w.heap.size w w' :=
  (Tryd.strconv_ParseUint_10_at16_ok s (by omega) u h w).mono fun e w' ⟨h1, h2⟩ => ⟨h1, by
    rcases h2 with h2 | h2
    · rw [h2]; exact Below.refl _ _
    · rw [h2]; exact Lib.bytesWorld_below _ _ _⟩
theorem pu32_ok (s : ByteArray) (hs : s.size ≤ 200) (u : Nat) (h : Lib.parseUintB 32 s.data.toList = .ok u) (w : World) :
    Calls Tryd.prog 13 #[.string s, .int .i64 10, .int .i64 32] w fun e w' => e = .returned (.tuple #[.int .u64 u, .nilIface]) ∧ Below w.heap.size w w' :=
  (Tryd.strconv_ParseUint_10_at32_ok s (by omega) u h w).mono fun e w' ⟨h1, h2⟩ => ⟨h1, by
    rcases h2 with h2 | h2
    · rw [h2]; exact Below.refl _ _
    · rw [h2]; exact Lib.bytesWorld_below _ _ _⟩
theorem pu16_bad (s : ByteArray) (hs : s.size ≤ 200) (h : ∀ u, Lib.parseUintB 16 s.data.toList ≠ .ok u) (w : World) (hf : Fit w) :
    Calls Tryd.prog 13 #[.string s, .int .i64 10, .int .i64 16] w fun e w' => (∃ x N, e = .returned (.tuple #[.int .u64 x, .iface 67 (.pointer (some ⟨N, 0, none⟩))])) ∧ Below w.heap.size w w' := by
  obtain ⟨e1, h3, k3⟩ := hf.syn
  obtain ⟨e2, h4, k4⟩ := hf.rng
  cases hp : Lib.parseUintB 16 s.data.toList with
  | ok u => exact absurd hp (h u)
  | range => exact (Tryd.strconv_ParseUint_10_at16_range s (by omega) hp e2 w h4 k4).mono fun e w' ⟨N, h1, _, _, h2⟩ => ⟨⟨_, N, h1⟩, h2⟩
  | _ => exact (Any.strconv_ParseUint_10_at16_syntax Tryd.laysPu14 s (by omega) hp e1 w h3 k3).mono fun e w' ⟨N, h1, _, _, h2⟩ => ⟨⟨_, N, h1⟩, h2⟩
theorem pu32_bad (s : ByteArray) (hs : s.size ≤ 200) (h : ∀ u, Lib.parseUintB 32 s.data.toList ≠ .ok u) (w : World) (hf : Fit w) :
    Calls Tryd.prog 13 #[.string s, .int .i64 10, .int .i64 32] w fun e w' => (∃ x N, e = .returned (.tuple #[.int .u64 x, .iface 67 (.pointer (some ⟨N, 0, none⟩))])) ∧ Below w.heap.size w w' := by
  obtain ⟨e1, h3, k3⟩ := hf.syn
  obtain ⟨e2, h4, k4⟩ := hf.rng
  cases hp : Lib.parseUintB 32 s.data.toList with
  | ok u => exact absurd hp (h u)
  | range => exact (Tryd.strconv_ParseUint_10_at32_range s (by omega) hp e2 w h4 k4).mono fun e w' ⟨N, h1, _, _, h2⟩ => ⟨⟨_, N, h1⟩, h2⟩
  | _ => exact (Any.strconv_ParseUint_10_at32_syntax Tryd.laysPu14 s (by omega) hp e1 w h3 k3).mono fun e w' ⟨N, h1, _, _, h2⟩ => ⟨⟨_, N, h1⟩, h2⟩

theorem toList_inj {a b : ByteArray} (h : a.toList = b.toList) : a = b := by
  apply ByteArray.ext
  rw [ByteArray.toList_eq, ByteArray.toList_eq] at h
  exact Array.toList_inj.1 h

/-- What stands ahead of the first colon, and what behind it. -/
def fst (l : List UInt8) : List UInt8 := (Lib.cut l [58]).1
def snd (l : List UInt8) : List UInt8 := (Lib.cut l [58]).2.1
theorem cut_any (s : ByteArray) (hs : s.size ≤ 200) (w : World) (hf : Fit w) :
    Calls Tryd.prog 12 #[.string s, .string ⟨#[58]⟩] w fun e w' => (∃ b : Bool, e = .returned (.tuple #[.string ⟨(fst s.data.toList).toArray⟩, .string ⟨(snd s.data.toList).toArray⟩, .bool b])) ∧ Below w.heap.size w w' := by
  obtain ⟨m, hm⟩ := hf.len
  exact (Tryd.strings_Cut s ⟨#[58]⟩ m w (by omega) hm).mono fun e w' ⟨h1, n, h2⟩ => ⟨⟨_, h1⟩, by rw [h2]; exact below_drewN (Below.refl _ _) n⟩

theorem fst_le (l : List UInt8) : (fst l).length ≤ l.length := by
  unfold fst Lib.cut
  split <;> simp <;> omega
theorem snd_le (l : List UInt8) : (snd l).length ≤ l.length := by
  unfold snd Lib.cut
  split <;> simp <;> omega

set_option maxHeartbeats 1600000 in
set_option maxRecDepth 100000 in
theorem read_bad1 (s : ByteArray) (hs : s.size ≤ 200) (w : World) (hf : Fit w) (hb : ∀ u, Lib.parseUintB 16 (fst s.data.toList) ≠ .ok u) :
    Calls Tryd.prog 6 #[.string s] w fun e w' => e = .returned (.tuple #[.agg #[.int .u16 0, .int .u32 0], .int .i64 11]) ∧ Below w.heap.size w w' := by
  have HB : Hid (Below w.heap.size w (w.alloc (.cells #[.int .u16 0, .int .u32 0] 25))) := (Below.refl _ _).alloc (Nat.le_refl _) _
  have hl : (⟨(fst s.data.toList).toArray⟩ : ByteArray).size ≤ 200 := by
    have := fst_le s.data.toList
    have e : s.data.toList.length = s.size := by simp
    show (fst s.data.toList).toArray.size ≤ 200
    simp only [List.size_toArray]
    omega
  have HF : Hid (Fit w) := hf
  have HC : Hid (∀ W, Fit W → Calls Tryd.prog 12 #[.string s, .string ⟨#[58]⟩] W fun e w' => (∃ b : Bool, e = .returned (.tuple #[.string ⟨(fst s.data.toList).toArray⟩, .string ⟨(snd s.data.toList).toArray⟩, .bool b])) ∧ Below W.heap.size W w') := fun W h => cut_any s hs W h
  have HP : Hid (∀ W, Fit W → Calls Tryd.prog 13 #[.string ⟨(fst s.data.toList).toArray⟩, .int .i64 10, .int .i64 16] W fun e w' => (∃ x N, e = .returned (.tuple #[.int .u64 x, .iface 67 (.pointer (some ⟨N, 0, none⟩))])) ∧ Below W.heap.size W w') := fun W h => pu16_bad _ hl (by simpa using hb) W h
  clear hb hl hs hf
  go_enter Tryd.func6, Tryd.ntmps6
  go_wp2_with fail
  refine (HC.out _ (HF.out.below HB.out)).mono ?_
  rintro e w1 ⟨⟨b, rfl⟩, hb1⟩
  go_wp2_with fail
  refine (HP.out _ ((HF.out.below HB.out).below hb1)).mono ?_
  rintro e w2 ⟨⟨x, N, rfl⟩, hb2⟩
  obtain ⟨hc, hfz⟩ := bcell (hb1.trans (hb2.mono hb1.size))
  go_wp2_with fail
  exact bodyPost_ret (v := .tuple #[.agg #[.int .u16 0, .int .u32 0], .int .i64 11]) (by simp [results, Tryd.results6, go_sem, hc]) rfl
    ⟨rfl, ((below_step (below_step HB.out hb1) hb2).setCell (Nat.le_refl _) _).setCell (Nat.le_refl _) _⟩

set_option maxHeartbeats 1600000 in
set_option maxRecDepth 100000 in
theorem read_bad2 (s : ByteArray) (hs : s.size ≤ 200) (w : World) (hf : Fit w) (r : Nat) (hr : Lib.parseUintB 16 (fst s.data.toList) = .ok r) (hb : ∀ u, Lib.parseUintB 32 (snd s.data.toList) ≠ .ok u) :
    Calls Tryd.prog 6 #[.string s] w fun e w' => e = .returned (.tuple #[.agg #[.int .u16 0, .int .u32 0], .int .i64 11]) ∧ Below w.heap.size w w' := by
  have HB : Hid (Below w.heap.size w (w.alloc (.cells #[.int .u16 0, .int .u32 0] 25))) := (Below.refl _ _).alloc (Nat.le_refl _) _
  have e : s.data.toList.length = s.size := by simp
  have hl : (⟨(fst s.data.toList).toArray⟩ : ByteArray).size ≤ 200 := by
    have := fst_le s.data.toList
    show (fst s.data.toList).toArray.size ≤ 200
    simp only [List.size_toArray]
    omega
  have hl2 : (⟨(snd s.data.toList).toArray⟩ : ByteArray).size ≤ 200 := by
    have := snd_le s.data.toList
    show (snd s.data.toList).toArray.size ≤ 200
    simp only [List.size_toArray]
    omega
  have HF : Hid (Fit w) := hf
  have HC : Hid (∀ W, Fit W → Calls Tryd.prog 12 #[.string s, .string ⟨#[58]⟩] W fun e w' => (∃ b : Bool, e = .returned (.tuple #[.string ⟨(fst s.data.toList).toArray⟩, .string ⟨(snd s.data.toList).toArray⟩, .bool b])) ∧ Below W.heap.size W w') := fun W h => cut_any s hs W h
  have HP : Hid (∀ W, Calls Tryd.prog 13 #[.string ⟨(fst s.data.toList).toArray⟩, .int .i64 10, .int .i64 16] W fun e w' => e = .returned (.tuple #[.int .u64 r, .nilIface]) ∧ Below W.heap.size W w') := fun W => pu16_ok _ hl r (by simpa using hr) W
  have HQ : Hid (∀ W, Fit W → Calls Tryd.prog 13 #[.string ⟨(snd s.data.toList).toArray⟩, .int .i64 10, .int .i64 32] W fun e w' => (∃ x N, e = .returned (.tuple #[.int .u64 x, .iface 67 (.pointer (some ⟨N, 0, none⟩))])) ∧ Below W.heap.size W w') := fun W h => pu32_bad _ hl2 (by simpa using hb) W h
  clear hb hl hs hf hr hl2 e
  go_enter Tryd.func6, Tryd.ntmps6
  go_wp2_with fail
  refine (HC.out _ (HF.out.below HB.out)).mono ?_
  rintro e w1 ⟨⟨b, rfl⟩, hb1⟩
  go_wp2_with fail
  refine (HP.out _).mono ?_
  rintro e w2 ⟨rfl, hb2⟩
  go_wp2_with fail
  refine (HQ.out _ (((HF.out.below HB.out).below hb1).below hb2)).mono ?_
  rintro e w3 ⟨⟨x, N, rfl⟩, hb3⟩
  obtain ⟨hc, hfz⟩ := bcell (below_step (below_step hb1 hb2) hb3)
  go_wp2_with fail
  exact bodyPost_ret (v := .tuple #[.agg #[.int .u16 0, .int .u32 0], .int .i64 11]) (by simp [results, Tryd.results6, go_sem, hc]) rfl
    ⟨rfl, ((below_step (below_step (below_step HB.out hb1) hb2) hb3).setCell (Nat.le_refl _) _).setCell (Nat.le_refl _) _⟩

set_option maxHeartbeats 1600000 in
set_option maxRecDepth 100000 in
theorem read_ok (s : ByteArray) (hs : s.size ≤ 200) (w : World) (hf : Fit w) (r n : Nat) (hr : Lib.parseUintB 16 (fst s.data.toList) = .ok r) (hn : Lib.parseUintB 32 (snd s.data.toList) = .ok n) (hE : showB r n = s) :
    Calls Tryd.prog 6 #[.string s] w fun e w' => e = .returned (.tuple #[.agg #[.int .u16 r, .int .u32 n], .int .i64 0]) ∧ Below w.heap.size w w' := by
  have HB : Hid (Below w.heap.size w (w.alloc (.cells #[.int .u16 0, .int .u32 0] 25))) := (Below.refl _ _).alloc (Nat.le_refl _) _
  have e : s.data.toList.length = s.size := by simp
  have hl : (⟨(fst s.data.toList).toArray⟩ : ByteArray).size ≤ 200 := by
    have := fst_le s.data.toList
    show (fst s.data.toList).toArray.size ≤ 200
    simp only [List.size_toArray]
    omega
  have hl2 : (⟨(snd s.data.toList).toArray⟩ : ByteArray).size ≤ 200 := by
    have := snd_le s.data.toList
    show (snd s.data.toList).toArray.size ≤ 200
    simp only [List.size_toArray]
    omega
  have hr1 : r ≤ 65535 := Lib.parseUintB_le hr
  have hn1 : n ≤ 4294967295 := Lib.parseUintB_le hn
  have HF : Hid (Fit w) := hf
  have HC : Hid (∀ W, Fit W → Calls Tryd.prog 12 #[.string s, .string ⟨#[58]⟩] W fun e w' => (∃ b : Bool, e = .returned (.tuple #[.string ⟨(fst s.data.toList).toArray⟩, .string ⟨(snd s.data.toList).toArray⟩, .bool b])) ∧ Below W.heap.size W w') := fun W h => cut_any s hs W h
  have HP : Hid (∀ W, Calls Tryd.prog 13 #[.string ⟨(fst s.data.toList).toArray⟩, .int .i64 10, .int .i64 16] W fun e w' => e = .returned (.tuple #[.int .u64 r, .nilIface]) ∧ Below W.heap.size W w') := fun W => pu16_ok _ hl r (by simpa using hr) W
  have HQ : Hid (∀ W, Calls Tryd.prog 13 #[.string ⟨(snd s.data.toList).toArray⟩, .int .i64 10, .int .i64 32] W fun e w' => e = .returned (.tuple #[.int .u64 n, .nilIface]) ∧ Below W.heap.size W w') := fun W => pu32_ok _ hl2 n (by simpa using hn) W
  have HS : Hid (∀ W, Fit W → Calls Tryd.prog 5 #[.agg #[.int .u16 r, .int .u32 n]] W fun e w' => e = .returned (.string (showB r n)) ∧ Below W.heap.size W w') := fun W h => show_any r n hr1 hn1 W h
  clear hl hs hf hr hn hl2 e
  have HE : Hid (showB r n = s) := hE
  clear hE
  go_enter Tryd.func6, Tryd.ntmps6
  go_wp2_with fail
  refine (HC.out _ (HF.out.below HB.out)).mono ?_
  rintro e w1 ⟨⟨b, rfl⟩, hb1⟩
  go_wp2_with fail
  refine (HP.out _).mono ?_
  rintro e w2 ⟨rfl, hb2⟩
  go_wp2_with fail
  refine (HQ.out _).mono ?_
  rintro e w3 ⟨rfl, hb3⟩
  go_wp2_with fail
  refine (HS.out _ ((((HF.out.below HB.out).below hb1).below hb2).below (below_alloc hb3 _))).mono ?_
  rintro e w4 ⟨rfl, hb4⟩
  have hbz := below_step (below_step hb1 hb2) hb3
  have hbq := below_step hbz (below_step (below_alloc (Below.refl _ _) _) hb4)
  have x0 : w4.cell? ⟨w.heap.size, 0, none⟩ = some (.int .u16 0) := by rw [hbq.cell (show w.heap.size < _ by simp)]; simp
  have x1 : w4.cell? ⟨w.heap.size, 1, none⟩ = some (.int .u32 0) := by rw [hbq.cell (show w.heap.size < _ by simp)]; simp
  have y0 : w4.frozen? ⟨w.heap.size, 0, none⟩ = false := by rw [hbq.frozen (show w.heap.size < _ by simp)]; simp
  have y1 : w4.frozen? ⟨w.heap.size, 1, none⟩ = false := by rw [hbq.frozen (show w.heap.size < _ by simp)]; simp
  have z0 : w4.cell? ⟨w3.heap.size, 0, none⟩ = some (.int .u16 r) := by rw [hb4.cell (show w3.heap.size < _ by simp)]; simp
  have z1 : w4.cell? ⟨w3.heap.size, 1, none⟩ = some (.int .u32 n) := by rw [hb4.cell (show w3.heap.size < _ by simp)]; simp
  have HQ4 : Hid (Below (w.alloc (.cells #[.int .u16 0, .int .u32 0] 25)).heap.size (w.alloc (.cells #[.int .u16 0, .int .u32 0] 25)) w4) := hbq
  clear hbq hbz hb4
  have hq : ((showB r n).toList == s.toList) = true := by rw [HE.out]; simp
  go_wp2_with fail
  exact bodyPost_ret (v := .tuple #[.agg #[.int .u16 r, .int .u32 n], .int .i64 0]) (by simp [results, Tryd.results6, go_sem, x0, x1]) rfl
    ⟨rfl, ((below_step HB.out HQ4.out).setCell (Nat.le_refl _) _).setCell (Nat.le_refl _) _⟩

set_option maxHeartbeats 1600000 in
set_option maxRecDepth 100000 in
theorem read_bad3 (s : ByteArray) (hs : s.size ≤ 200) (w : World) (hf : Fit w) (r n : Nat) (hr : Lib.parseUintB 16 (fst s.data.toList) = .ok r) (hn : Lib.parseUintB 32 (snd s.data.toList) = .ok n) (hE : ¬ showB r n = s) :
    Calls Tryd.prog 6 #[.string s] w fun e w' => e = .returned (.tuple #[.agg #[.int .u16 0, .int .u32 0], .int .i64 11]) ∧ Below w.heap.size w w' := by
  have HB : Hid (Below w.heap.size w (w.alloc (.cells #[.int .u16 0, .int .u32 0] 25))) := (Below.refl _ _).alloc (Nat.le_refl _) _
  have e : s.data.toList.length = s.size := by simp
  have hl : (⟨(fst s.data.toList).toArray⟩ : ByteArray).size ≤ 200 := by
    have := fst_le s.data.toList
    show (fst s.data.toList).toArray.size ≤ 200
    simp only [List.size_toArray]
    omega
  have hl2 : (⟨(snd s.data.toList).toArray⟩ : ByteArray).size ≤ 200 := by
    have := snd_le s.data.toList
    show (snd s.data.toList).toArray.size ≤ 200
    simp only [List.size_toArray]
    omega
  have hr1 : r ≤ 65535 := Lib.parseUintB_le hr
  have hn1 : n ≤ 4294967295 := Lib.parseUintB_le hn
  have HF : Hid (Fit w) := hf
  have HC : Hid (∀ W, Fit W → Calls Tryd.prog 12 #[.string s, .string ⟨#[58]⟩] W fun e w' => (∃ b : Bool, e = .returned (.tuple #[.string ⟨(fst s.data.toList).toArray⟩, .string ⟨(snd s.data.toList).toArray⟩, .bool b])) ∧ Below W.heap.size W w') := fun W h => cut_any s hs W h
  have HP : Hid (∀ W, Calls Tryd.prog 13 #[.string ⟨(fst s.data.toList).toArray⟩, .int .i64 10, .int .i64 16] W fun e w' => e = .returned (.tuple #[.int .u64 r, .nilIface]) ∧ Below W.heap.size W w') := fun W => pu16_ok _ hl r (by simpa using hr) W
  have HQ : Hid (∀ W, Calls Tryd.prog 13 #[.string ⟨(snd s.data.toList).toArray⟩, .int .i64 10, .int .i64 32] W fun e w' => e = .returned (.tuple #[.int .u64 n, .nilIface]) ∧ Below W.heap.size W w') := fun W => pu32_ok _ hl2 n (by simpa using hn) W
  have HS : Hid (∀ W, Fit W → Calls Tryd.prog 5 #[.agg #[.int .u16 r, .int .u32 n]] W fun e w' => e = .returned (.string (showB r n)) ∧ Below W.heap.size W w') := fun W h => show_any r n hr1 hn1 W h
  clear hl hs hf hr hn hl2 e
  have HE : Hid (¬ showB r n = s) := hE
  clear hE
  go_enter Tryd.func6, Tryd.ntmps6
  go_wp2_with fail
  refine (HC.out _ (HF.out.below HB.out)).mono ?_
  rintro e w1 ⟨⟨b, rfl⟩, hb1⟩
  go_wp2_with fail
  refine (HP.out _).mono ?_
  rintro e w2 ⟨rfl, hb2⟩
  go_wp2_with fail
  refine (HQ.out _).mono ?_
  rintro e w3 ⟨rfl, hb3⟩
  go_wp2_with fail
  refine (HS.out _ ((((HF.out.below HB.out).below hb1).below hb2).below (below_alloc hb3 _))).mono ?_
  rintro e w4 ⟨rfl, hb4⟩
  have hbz := below_step (below_step hb1 hb2) hb3
  have hbq := below_step hbz (below_step (below_alloc (Below.refl _ _) _) hb4)
  have x0 : w4.cell? ⟨w.heap.size, 0, none⟩ = some (.int .u16 0) := by rw [hbq.cell (show w.heap.size < _ by simp)]; simp
  have x1 : w4.cell? ⟨w.heap.size, 1, none⟩ = some (.int .u32 0) := by rw [hbq.cell (show w.heap.size < _ by simp)]; simp
  have y0 : w4.frozen? ⟨w.heap.size, 0, none⟩ = false := by rw [hbq.frozen (show w.heap.size < _ by simp)]; simp
  have y1 : w4.frozen? ⟨w.heap.size, 1, none⟩ = false := by rw [hbq.frozen (show w.heap.size < _ by simp)]; simp
  have z0 : w4.cell? ⟨w3.heap.size, 0, none⟩ = some (.int .u16 r) := by rw [hb4.cell (show w3.heap.size < _ by simp)]; simp
  have z1 : w4.cell? ⟨w3.heap.size, 1, none⟩ = some (.int .u32 n) := by rw [hb4.cell (show w3.heap.size < _ by simp)]; simp
  have HQ4 : Hid (Below (w.alloc (.cells #[.int .u16 0, .int .u32 0] 25)).heap.size (w.alloc (.cells #[.int .u16 0, .int .u32 0] 25)) w4) := hbq
  clear hbq hbz hb4
  have hq : ((showB r n).toList == s.toList) = false := by
    rw [beq_eq_false_iff_ne]
    intro h
    exact HE.out (toList_inj h)
  go_wp2_with fail
  exact bodyPost_ret (v := .tuple #[.agg #[.int .u16 0, .int .u32 0], .int .i64 11]) (by simp [results, Tryd.results6, go_sem, x0, x1]) rfl
    ⟨rfl, ((below_step HB.out HQ4.out).setCell (Nat.le_refl _) _).setCell (Nat.le_refl _) _⟩

end Go.Proofs.YthkkbfkbgpkbmaaDoor
