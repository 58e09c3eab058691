/-
  Several texts of one proof, joined: each part says at its head what it proves. No conditions beyond what each theorem states.
-/
import Derived.Test.YtjkdcpalgfakhaaZ14
import Derived.Test.YtjkdcpalgfakhaaZ11
import Derived.Test.YtjkdcpalgfakhaaZ03
/-
  What slices.Insert comes to at envelopes where a new row is made, and in all. No conditions beyond what each theorem states.
-/
namespace Go.Proofs.Ytjkdcpalgfakhaa
open Go.ChangeShapes Go.WideShapes Go.ChangeAt Go.RowKit Go.Lib
set_option linter.unusedVariables false
set_option linter.unusedSimpArgs false

def zE : Array Value := (Value.agg #[.slice none 0 0, .int .u16 0, .int .u32 0, .int .u64 0, .int .i64 0, .slice none 0 0]).cells
theorem zE_len (n : Nat) : (Builtin.zeroCells zE n).toList.length = n * 6 := by
  rw [Array.length_toList, size_zeroCells]; rfl
set_option maxHeartbeats 4000000 in
set_option maxRecDepth 100000 in
theorem insert_grow {α : Type} (L : Lay α) (hk : L.k = 6) (xs : List α) (x : α) (i B c V : Nat) (w : World) (hl : xs.length ≤ 100000) (hi : i < xs.length) (hc : c < xs.length + 1) (hR : RoomE L w (some ⟨B, 0, none⟩) c xs) (hV : w.heap[V]? = some (.cells (L.enc x).toArray 36 (0, 0))) :
    Calls Try.prog 28 #[.slice (some ⟨B, 0, none⟩) xs.length c, .int .i64 i, .slice (some ⟨V, 0, none⟩) 1 1] w (Inserted L (some ⟨B, 0, none⟩) (xs.take i ++ [x] ++ xs.drop i) w) := by
  obtain ⟨i0, hi0, hz0, hzs, hzb⟩ := info_parts infoEnv
  obtain ⟨rest, hB, hrl, hnc, hm⟩ : ∃ rest, w.heap[B]? = some (.cells (L.flat xs ++ rest).toArray 36 (0, 0)) ∧ xs.length * 6 + rest.length = c * 6 ∧ xs.length ≤ c ∧ c ≤ maxLen := by
    rcases hR.block with ⟨h, -⟩ | ⟨B', rest, e, hB, h1, h2, h3⟩
    · cases h
    · cases e
      rw [hk] at h1
      exact ⟨rest, hB, h1, h2, h3⟩
  have hbw : B < w.heap.size := lt_of_block hB
  have hvw : V < w.heap.size := lt_of_block hV
  have hel : (L.enc x).length = 6 := by have := L.len x; rw [hk] at this; exact this
  have hfl : (L.flat xs).length = xs.length * 6 := by have := L.flat_length xs; rw [hk] at this; exact this
  have hdl : (L.flat (xs.drop i)).length = (xs.length - i) * 6 := by have := L.flat_length (xs.drop i); rw [hk, List.length_drop] at this; exact this
  have htl : (L.flat (xs.take i)).length = i * 6 := by have := L.flat_length (xs.take i); rw [hk, List.length_take, Nat.min_eq_left (by omega)] at this; exact this
  have hsz : (Try.prog.info? 36).map (·.size) = some 6 := by kernel_rfl
  have hz1 : ¬ ((i : Int) = (xs.length : Int)) := by omega
  have hz3 : (c : Int) < (xs.length : Int) + 1 := by omega
  have hkk : (xs.length : Int) + 1 - (i : Int) = ((xs.length + 1 - i : Nat) : Int) := by omega
  have hik : i + (xs.length + 1 - i) = xs.length + 1 := by omega
  have hcell : ∀ j, j < xs.length * 6 → w.cell? ⟨B, j, none⟩ = (L.flat xs)[j]? := fun j hj => by
    rw [cell_of_block hB]; simp only [List.getElem?_toArray]; rw [List.getElem?_append_left (by omega)]
  have hold : (Builtin.firstCells i0.size i (.slice (some ⟨B, 0, none⟩) i c)).run Try.prog w.drew = .ok (L.flat (xs.take i)).toArray w.drew := by
    rw [hzs]
    exact run_firstCells_some w.drew 6 i ⟨B, 0, none⟩ i c (L.flat (xs.take i)) htl (fun j v hj => by
      have hjl := (List.getElem?_eq_some_iff.1 hj).1
      rw [Addr.add_lit, Nat.zero_add]
      show w.cell? _ = _
      rw [hcell j (by omega), flat_split L xs i, List.getElem?_append_left hjl]
      exact hj)
  have hrz : ∀ ty, (Builtin.append_ #[22, 3] ty #[.slice (some ⟨B, 0, none⟩) i c, .int .i64 ((xs.length : Int) + 1 - (i : Int))]).run Try.prog w =
      .ok (.slice (some ⟨w.heap.size, 0, none⟩) (xs.length + 1) (grownCap w (xs.length + 1) c 36)) (w.drew.alloc (.cells ((L.flat (xs.take i)).toArray ++ Builtin.zeroCells zE (xs.length + 1 - i) ++ Builtin.zeroCells zE (grownCap w (xs.length + 1) c 36 - (xs.length + 1))) 36)) := fun ty => by
    have h := Lib.run_append_grow_zeros w 22 3 ty 36 i0 _ .i64 .i64 Try.underlying22 Try.underlying3 hi0 hz0 (some ⟨B, 0, none⟩) i c _ hold (xs.length + 1 - i) (by omega) (by omega) (by omega) (by omega) (by rw [hzb]; omega) (by rw [hzb, hik]; exact growslice_fits hc (by omega))
    rw [hik] at h
    rw [hkk]
    exact h
  obtain ⟨G, hG⟩ : ∃ G, G = grownCap w (xs.length + 1) c 36 := ⟨_, rfl⟩
  have hGn : xs.length + 1 ≤ G := by rw [hG]; exact grownCap_ge w _ _ _
  have hGm : G ≤ maxLen := by rw [hG]; exact grownCap_le_maxLen w _ _ _ (by unfold maxLen; omega)
  rw [← hG] at hrz
  obtain ⟨Z, hZ⟩ : ∃ Z, Z = (Builtin.zeroCells zE (xs.length + 1 - i)).toList ++ (Builtin.zeroCells zE (G - (xs.length + 1))).toList := ⟨_, rfl⟩
  have hZl : Z.length = (xs.length + 1 - i) * 6 + (G - (xs.length + 1)) * 6 := by rw [hZ, List.length_append, zE_len, zE_len]
  obtain ⟨W1, hW1⟩ : ∃ W1, W1 = w.drew.alloc (.cells (L.flat (xs.take i) ++ Z).toArray 36) := ⟨_, rfl⟩
  have hrow : (L.flat (xs.take i)).toArray ++ Builtin.zeroCells zE (xs.length + 1 - i) ++ Builtin.zeroCells zE (G - (xs.length + 1)) = (L.flat (xs.take i) ++ Z).toArray := by
    apply Array.toList_inj.1
    rw [hZ]; simp
  rw [hrow, ← hW1] at hrz
  have hK1 : Below w.heap.size w W1 := by
    rw [hW1]
    exact below_alloc (Below.refl _ _).drew _
  have hN1 : W1.heap[w.heap.size]? = some (.cells (L.flat (xs.take i) ++ Z).toArray 36 (0, 0)) := by
    rw [hW1]; exact heap_alloc_new w.drew _
  have hV1 : W1.heap[V]? = some (.cells (L.enc x).toArray 36 (0, 0)) := by rw [hK1.block V hvw]; exact hV
  have hB1 : W1.heap[B]? = some (.cells (L.flat xs ++ rest).toArray 36 (0, 0)) := by rw [hK1.block B hbw]; exact hB
  have hcpA : ∀ (W : World), W.heap = W1.heap → ∀ ty dc, (Builtin.copy_ #[22, 22] ty #[.slice (some ⟨w.heap.size, i * 6, none⟩) (xs.length + 1 - i) dc, .slice (some ⟨V, 0, none⟩) 1 1]).run Try.prog W = .ok (goInt (Nat.min 1 (xs.length + 1 - i))) (W.setCells w.heap.size (i * 6) (L.enc x)) := fun W hW ty dc =>
    run_copy_size W _ _ ty 36 6 w.heap.size (i * 6) _ dc ⟨V, 0, none⟩ 1 1 (L.enc x) Try.underlying22 hsz (by rw [hel]; simp only [Nat.min_def]; split <;> omega)
      (fun j v hj => by
        rw [Addr.add_lit, Nat.zero_add, cell_of_block (by rw [hW]; exact hV1)]
        simpa using hj)
      (fun j hj => isSome_block (by rw [hW]; exact hN1) (by rw [List.size_toArray, List.length_append, htl, hZl]; omega)) (fun j hj => frozen_of_block (by rw [hW]; exact hN1)) (L.one x)
  obtain ⟨W2, hW2⟩ : ∃ W2, W2 = W1.setCells w.heap.size (i * 6) (L.enc x) := ⟨_, rfl⟩
  have hN2 : W2.heap[w.heap.size]? = some (.cells (L.flat (xs.take i) ++ L.enc x ++ Z.drop 6).toArray 36 (0, 0)) := by
    rw [hW2, setCells_at (L.enc x) _ _ W1 (i * 6) hN1 (by rw [hel, hZl]; omega) htl.symm, hel]
  have hK2 : Kept (fun k => k = w.heap.size) W1 W2 := by rw [hW2]; exact Kept.cells (S := fun k => k = w.heap.size) rfl _ _ _ _ (Kept.refl _ _)
  have hB2 : W2.heap[B]? = some (.cells (L.flat xs ++ rest).toArray 36 (0, 0)) := hK2.stays hB1 (by omega)
  have hcpB : ∀ (W : World), W.heap = W2.heap → ∀ ty dc sc, (Builtin.copy_ #[22, 22] ty #[.slice (some ⟨w.heap.size, (i + 1) * 6, none⟩) (xs.length - i) dc, .slice (some ⟨B, i * 6, none⟩) (xs.length - i) sc]).run Try.prog W = .ok (goInt (Nat.min (xs.length - i) (xs.length - i))) (W.setCells w.heap.size ((i + 1) * 6) (L.flat (xs.drop i))) := fun W hW ty dc sc =>
    run_copy_size W _ _ ty 36 6 w.heap.size ((i + 1) * 6) _ dc ⟨B, i * 6, none⟩ _ sc (L.flat (xs.drop i)) Try.underlying22 hsz (by rw [hdl, show (xs.length - i).min (xs.length - i) = xs.length - i from Nat.min_self _])
      (fun j v hj => by
        have hjl := (List.getElem?_eq_some_iff.1 hj).1
        rw [Addr.add_lit, cell_of_block (by rw [hW]; exact hB2)]
        rw [flat_split L xs i]
        simp only [List.getElem?_toArray]
        rw [List.append_assoc, List.getElem?_append_right (by omega), htl, Nat.add_sub_cancel_left, List.getElem?_append_left hjl]
        exact hj)
      (fun j hj => isSome_block (by rw [hW]; exact hN2) (by rw [List.size_toArray, List.length_append, List.length_append, List.length_drop, htl, hZl, hel]; omega)) (fun j hj => frozen_of_block (by rw [hW]; exact hN2)) (L.flat_one' _)
  have HF : Hid (∀ W, W.heap = W2.heap → Kept (fun _ => False) W2 W → Inserted L (some ⟨B, 0, none⟩) (xs.take i ++ [x] ++ xs.drop i) w (.returned (.slice (some ⟨w.heap.size, 0, none⟩) (xs.length + 1) G)) (W.setCells w.heap.size ((i + 1) * 6) (L.flat (xs.drop i)))) := fun W hW hWk => by
    have hln : (xs.take i ++ [x] ++ xs.drop i).length = xs.length + 1 := by simp; omega
    refine ⟨some ⟨w.heap.size, 0, none⟩, G, by rw [hln], RoomE.of (rest := (Z.drop 6).drop ((xs.length - i) * 6)) ?_ (by rw [hln, hk, List.length_drop, List.length_drop, hZl]; omega) (by rw [hln]; exact hGn) hGm, ?_, fun a e => Or.inl (by cases e; exact Nat.le_refl _)⟩
    · rw [setCells_at (L.flat (xs.drop i)) _ _ W ((i + 1) * 6) (by rw [hW]; exact hN2) (by rw [hdl, List.length_drop, hZl]; omega) (by rw [List.length_append, htl, hel]; omega), L.flat_append, L.flat_append, L.flat_one, hdl]
    · refine Kept.mono (S := fun k => k = w.heap.size) ?_ (fun k hk e => absurd e (by omega))
      exact Kept.cells (S := fun k => k = w.heap.size) rfl _ _ _ _ (((Kept.ofBelow hK1).trans hK2 (fun _ _ h => h)).trans hWk (fun _ _ h => h.elim))
  have hc63 : c ≤ 9223372036854775807 := by unfold maxLen at hm; omega
  have hG63 : G ≤ 9223372036854775807 := by unfold maxLen at hGm; omega
  have hGi : ¬ (G = i) := by omega
  have hGim : ¬ (G = i + 1) := by omega
  have hci : ¬ (c = i) := by omega
  have mixed : Try.prog.follows Departure.mixedOrders = true := by kernel_rfl
  have hw1 : IntKind.i64.wrap ((i : Int) + 1) = (i : Int) + 1 := by rw [IntKind.wrap_i64]; omega
  have hb1 : (0 : Int) ≤ (i : Int) + 1 := by omega
  have hin : i ≤ xs.length := by omega
  have htn : ((i : Int) + 1).toNat = i + 1 := by omega
  have hb3 : (i : Int) ≤ (xs.length : Int) := by omega
  have hb5 : (i : Int) ≤ (xs.length : Int) + 1 := by omega
  have hb6 : (i : Int) + 1 ≤ (xs.length : Int) + 1 := by omega
  have HW1 := Lib.hid hW1
  have hcpA1 := fun ty dc => hcpA W1 rfl ty dc
  simp only [← hW2] at hcpA1
  clear hcpA
  clear hW2 hold hrow hZl hZ hG hkk hik hcell hB hV hB1 hV1 hN1 hN2 hB2 hK1 hK2 hR hW1 hrl
  go_enter Try.func28, Try.ntmps28
  go_wp2_with (first
    | (at_builtin; refine Lib.wpList_append_run _ rfl _ _ _ _ rfl _ _ rfl rfl _ _ (hrz _) ?_)
    | (at_builtin; refine wpList_copy_runE _ rfl _ _ 22 22 rfl _ _ rfl rfl (hcpA1 _ _) ?_))
  go_region_law_o (refine step_copy_runE rfl _ _ 22 22 rfl (.slice (some ⟨w.heap.size, (i + 1) * 6, none⟩) (xs.length - i) (G - (i + 1))) (.slice (some ⟨B, i * 6, none⟩) (xs.length - i) (c - i)) (by simp [Act.eval, Act.put]) (by simp [Act.eval, Act.put]) (hcpB W2.drew rfl 3 (G - (i + 1)) (c - i)) ?_)
  go_wp2
  go_ret
  exact HF.out _ rfl (Kept.refl _ _).drew
theorem insert_any {α : Type} (L : Lay α) (hk : L.k = 6) (xs : List α) (x : α) (i : Nat) (p : Option Addr) (c V : Nat) (w : World) (hl : xs.length ≤ 100000) (hi : i ≤ xs.length) (hR : RoomE L w p c xs) (hV : w.heap[V]? = some (.cells (L.enc x).toArray 36 (0, 0))) (hne : ∀ a, p = some a → V ≠ a.block) :
    Calls Try.prog 28 #[.slice p xs.length c, .int .i64 i, .slice (some ⟨V, 0, none⟩) 1 1] w (Inserted L p (xs.take i ++ [x] ++ xs.drop i) w) := by
  by_cases he : i = xs.length
  · subst he
    rw [List.take_length, List.drop_length, List.append_nil]
    exact insert_end L hk xs x p c V w hl hR hV
  · rcases hR.block with ⟨rfl, rfl, rfl⟩ | ⟨B, rest, rfl, -, -, hnc, -⟩
    · simp at hi he; omega
    · by_cases hc : xs.length + 1 ≤ c
      · exact insert_shift L hk xs x i B c V w hl (by omega) hc hR hV (hne _ rfl)
      · exact insert_grow L hk xs x i B c V w hl (by omega) (by omega) hR hV

/-- clear, of things of six cells. -/
theorem run_clear6 {P : Program} (w : World) (t e ty : TypeId) (z : Value) (ht : P.underlying t = some (.slice e)) (hv : ∀ w, (zeroValue e).run P w = .ok z w) (hz : ∀ n, ∀ v ∈ (Builtin.zeroCells z.cells n).toList, v.oneCell' = true) (hzl : z.cells.size = 6) (b o n c : Nat) (hn : 0 < n)
    (hc : ∀ j, j < n * 6 → (w.cell? ⟨b, o + j, none⟩).isSome = true) (hf : ∀ j, j < n * 6 → w.frozen? ⟨b, o + j, none⟩ = false) :
    (Builtin.clear_ #[t] ty #[.slice (some ⟨b, o, none⟩) n c]).run P w = .ok (.tuple #[]) (w.setCells b o (Builtin.zeroCells z.cells n).toList) := by
  have hl : (Builtin.zeroCells z.cells n).toList.length = n * 6 := by simp [Builtin.zeroCells, hzl]
  have hst := run_storeCells_cells (P := P) b o (Builtin.zeroCells z.cells n).toList 0 w (by rw [hl]; simpa using hc) (by rw [hl]; simpa using hf) (hz n)
  simp only [Nat.add_zero] at hst
  obtain ⟨m, rfl⟩ : ∃ m, n = m + 1 := ⟨n - 1, by omega⟩
  simp [Builtin.clear_, run_underlying ht, hv, hst]
theorem zE_one (n : Nat) : ∀ v ∈ (Builtin.zeroCells zE n).toList, v.oneCell' = true := by
  intro v hv
  simp only [Builtin.zeroCells, Array.toList_map, List.mem_map] at hv
  obtain ⟨i, _, rfl⟩ := hv
  have hs : zE.size = 6 := rfl
  rw [hs]
  have : i % 6 < 6 := Nat.mod_lt _ (by decide)
  generalize i % 6 = m at this ⊢
  match m, this with
  | 0, _ => rfl
  | 1, _ => rfl
  | 2, _ => rfl
  | 3, _ => rfl
  | 4, _ => rfl
  | 5, _ => rfl
set_option maxHeartbeats 4000000 in
set_option maxRecDepth 100000 in
theorem delete_any {α : Type} (L : Lay α) (hk : L.k = 6) (xs : List α) (i : Nat) (p : Option Addr) (c : Nat) (w : World) (hl : xs.length ≤ 100000) (hi : i < xs.length) (hR : RoomE L w p c xs) :
    Calls Try.prog 31 #[.slice p xs.length c, .int .i64 i, .int .i64 ((i : Int) + 1)] w fun e w' => e = .returned (.slice p (xs.length - 1) c) ∧ RoomE L w' p c (xs.take i ++ xs.drop (i + 1)) ∧ Kept (fun k => ∃ a, p = some a ∧ k = a.block) w w' := by
  obtain ⟨i0, hi0, hz0, hzs, hzb⟩ := info_parts infoEnv
  rcases hR.block with ⟨-, -, rfl⟩ | ⟨B, rest, rfl, hB, hrl, hnc, hm⟩
  · simp at hi
  rw [hk] at hrl
  have hc63 : c ≤ 9223372036854775807 := by unfold maxLen at hm; omega
  have hfl : (L.flat xs).length = xs.length * 6 := by have := L.flat_length xs; rw [hk] at this; exact this
  have hdl : (L.flat (xs.drop (i + 1))).length = (xs.length - (i + 1)) * 6 := by have := L.flat_length (xs.drop (i + 1)); rw [hk, List.length_drop] at this; exact this
  have htl : (L.flat (xs.take i)).length = i * 6 := by have := L.flat_length (xs.take i); rw [hk, List.length_take, Nat.min_eq_left (by omega)] at this; exact this
  have htl1 : (L.flat (xs.take (i + 1))).length = (i + 1) * 6 := by have := L.flat_length (xs.take (i + 1)); rw [hk, List.length_take, Nat.min_eq_left (by omega)] at this; exact this
  obtain ⟨X, hX⟩ : ∃ X, X = (L.flat xs ++ rest).drop (i * 6) := ⟨_, rfl⟩
  have hXl : X.length = (c - i) * 6 := by rw [hX, List.length_drop, List.length_append, hfl]; omega
  have hB0 : w.heap[B]? = some (.cells (L.flat (xs.take i) ++ X).toArray 36 (0, 0)) := by
    rw [hB]
    congr 3
    rw [hX, flat_split L xs i, List.append_assoc, List.drop_left' htl]
  obtain ⟨A, hA, hsrc⟩ : ∃ A : Addr, (if c = i + 1 then (some ⟨B, 0, none⟩ : Option Addr) else some ⟨B, (i + 1) * 6, none⟩) = some A ∧ Hid (∀ t u, (L.flat (xs.drop (i + 1)))[t]? = some u → w.drew.cell? (A.add t) = some u) := by
    by_cases h : c = i + 1
    · refine ⟨⟨B, 0, none⟩, by simp [h], fun t u hu => ?_⟩
      have := (List.getElem?_eq_some_iff.1 hu).1
      rw [hdl] at this; omega
    · refine ⟨⟨B, (i + 1) * 6, none⟩, by simp [h], fun t u hu => ?_⟩
      have hjl := (List.getElem?_eq_some_iff.1 hu).1
      rw [Addr.add_lit]
      show w.cell? _ = _
      rw [cell_of_block hB, flat_split L xs (i + 1)]
      simp only [List.getElem?_toArray]
      rw [List.append_assoc, List.getElem?_append_right (by omega), htl1, Nat.add_sub_cancel_left, List.getElem?_append_left hjl]
      exact hu
  have s1 : Hid ((L.flat (xs.drop (i + 1))).length = (xs.length - (i + 1)) * 6) := hdl
  have s2 : Hid (∀ u ∈ L.flat (xs.drop (i + 1)), u.oneCell' = true) := L.flat_one' _
  have s3 : Hid (∀ t, t < (L.flat (xs.drop (i + 1))).length → (w.drew.cell? ⟨B, 0 + i * 6 + t, none⟩).isSome = true ∧ w.drew.frozen? ⟨B, 0 + i * 6 + t, none⟩ = false) := fun t ht =>
    ⟨isSome_block (w := w.drew) hB (by rw [List.size_toArray, List.length_append, hfl]; omega), frozen_of_block (w := w.drew) hB⟩
  obtain ⟨W1, hW1⟩ : ∃ W1, W1 = w.drew.setCells B (0 + i * 6) (L.flat (xs.drop (i + 1))) := ⟨_, rfl⟩
  have hB1 : W1.heap[B]? = some (.cells (L.flat (xs.take i ++ xs.drop (i + 1)) ++ X.drop ((xs.length - (i + 1)) * 6)).toArray 36 (0, 0)) := by
    rw [hW1, setCells_at _ _ _ w.drew (0 + i * 6) hB0 (by rw [hdl, hXl]; omega) (by rw [htl]; omega), L.flat_append, hdl]
  have hdl1 : (L.flat (xs.take i ++ xs.drop (i + 1))).length = (xs.length - 1) * 6 := by rw [L.flat_append, List.length_append, htl, hdl]; omega
  have hln : (xs.take i ++ xs.drop (i + 1)).length = xs.length - 1 := by simp; omega
  have hcl : ∀ ty, (Builtin.clear_ #[22] ty #[.slice (some ⟨B, (xs.length - 1) * 6, none⟩) 1 (c - (xs.length - 1))]).run Try.prog W1 = .ok (.tuple #[]) (W1.setCells B ((xs.length - 1) * 6) (Builtin.zeroCells zE 1).toList) := fun ty =>
    run_clear6 W1 22 36 ty _ Try.underlying22 Try.zeroValue36 zE_one rfl B _ 1 _ (by decide) (fun j hj => isSome_block hB1 (by rw [List.size_toArray, List.length_append, hdl1, List.length_drop, hXl]; omega)) (fun j hj => frozen_of_block hB1)
  have HF : Hid (RoomE L (W1.setCells B ((xs.length - 1) * 6) (Builtin.zeroCells zE 1).toList) (some ⟨B, 0, none⟩) c (xs.take i ++ xs.drop (i + 1)) ∧ Kept (fun k => ∃ a, some (⟨B, 0, none⟩ : Addr) = some a ∧ k = a.block) w (W1.setCells B ((xs.length - 1) * 6) (Builtin.zeroCells zE 1).toList)) := by
    refine ⟨RoomE.of (rest := (Builtin.zeroCells zE 1).toList ++ (X.drop ((xs.length - (i + 1)) * 6)).drop 6) ?_ (by rw [hln, hk, List.length_append, zE_len, List.length_drop, List.length_drop, hXl]; omega) (by rw [hln]; omega) hm, ?_⟩
    · rw [setCells_at _ _ _ W1 _ hB1 (by rw [zE_len, List.length_drop, hXl]; omega) hdl1.symm, zE_len, List.append_assoc]
    · refine Kept.cells ⟨_, rfl, rfl⟩ _ _ _ _ ?_
      rw [hW1]
      exact Kept.cells ⟨_, rfl, rfl⟩ _ _ _ _ (Kept.refl _ _).drew
  have hW : Hid (W1 = w.drew.setCells B (0 + i * 6) (L.flat (xs.drop (i + 1)))) := hW1
  have hic : i ≤ c := by omega
  have hjc : i + 1 ≤ c := by omega
  have hjn : i + 1 ≤ xs.length := by omega
  have hb1 : (0 : Int) ≤ (i : Int) + 1 := by omega
  have hb2 : (i : Int) + 1 ≤ (xs.length : Int) := by omega
  have hone : xs.length - (xs.length - 1) = 1 := by omega
  have hsum : i + (xs.length - (i + 1)) = xs.length - 1 := by omega
  have mixed : Try.prog.follows Departure.mixedOrders = true := by kernel_rfl
  clear hW1 hB1 hB0 hB hR hX hrl hfl hdl1 htl htl1 hXl hdl
  go_enter Try.func31, Try.ntmps31
  go_wp2_with fail
  go_region_law_o (refine step_append_room rfl (.tmp 22) (.tmp 25) 22 rfl 36 i0 6 Try.underlying22 hi0 hzs B 0 i c (by simp [Act.eval, Act.put]) A (xs.length - (i + 1)) (c - (i + 1)) (L.flat (xs.drop (i + 1))) (by simp [Act.eval, Act.put]) s1.out hsrc.out s2.out (by omega) s3.out ?_; rw [← hW.out])
  go_wp2
  go_ret
  exact ⟨rfl, HF.out⟩
end Go.Proofs.Ytjkdcpalgfakhaa
/-
  What slices.IndexFunc and slices.DeleteFunc come to at envelopes, for any test of an envelope. No conditions beyond what each theorem states.
-/
namespace Go.Proofs.Ytjkdcpalgfakhaa
open Go.ChangeShapes Go.WideShapes Go.ChangeAt Go.RowKit Go.Lib
set_option linter.unusedVariables false
set_option linter.unusedSimpArgs false

/-- A test of an envelope, whatever is written into block B. -/
def TestE (B : Nat) (w : World) (g : Nat) (lb : Array Value) (f : EV → Bool) (x : EV) : Prop := ∀ W, Kept (fun k => k = B) w W → Calls Try.prog g (#[ev x.e x.p x.c x.q x.d] ++ lb) W fun e w' => e = .returned (.bool (f x)) ∧ Below W.heap.size W w'
/-- The first place of which the test says yes. -/
def FirstE (f : EV → Bool) (xs : List EV) (r : Int) : Prop := (r = -1 ∧ ∀ j, j < xs.length → f (xs.getD j x0E) = false) ∨ ∃ k : Nat, r = (k : Int) ∧ k < xs.length ∧ f (xs.getD k x0E) = true ∧ ∀ j, j < k → f (xs.getD j x0E) = false
set_option maxHeartbeats 6400000 in
set_option maxRecDepth 100000 in
theorem indexFunc_any (B g : Nat) (b : Addr) (f : EV → Bool) (xs : List EV) (p : Option Addr) (c : Nat) (w : World) (eg : ∀ args w, (callFunc g args).run Try.prog w = .ok (.enter g args) w) (hR : GRow layE w p xs) (hl : xs.length ≤ 100000) (hT : ∀ x ∈ xs, TestE B w g #[.pointer (some b)] f x) :
    Calls Try.prog 60 #[.slice p xs.length c, .func (.func g) #[] #[.pointer (some b)]] w fun e w' => ∃ r, e = .returned (.int .i64 r) ∧ FirstE f xs r ∧ Below w.heap.size w w' := by
  have HR := Lib.hid hR
  have HT : Hid (∀ k, k < xs.length → TestE B w g #[.pointer (some b)] f (xs.getD k x0E)) := fun k hk => hT _ (getD_mem x0E hk)
  clear hR hT
  unfold TestE ev at HT
  go_enter Try.func60, Try.ntmps60
  go_wp2
  go_loopg [5, 8] xs.length (fun n s i wr => ∃ k : Nat, k ≤ xs.length ∧ xs.length - k ≤ n ∧ i = .int .i64 (k : Int) ∧ (∀ j, j < k → f (xs.getD j x0E) = false) ∧ Below w.heap.size w wr)
  case atStart => exact ⟨0, Nat.zero_le _, by omega, rfl, fun j hj => by omega, Below.refl _ _⟩
  case round =>
    obtain ⟨k, hk, hg, rfl, hno, hb⟩ := hrel
    have HB := Lib.hid hb
    have HN := Lib.hid hno
    clear hb hno
    by_cases hlt : k < xs.length
    · have hkl : (k : Int) < (xs.length : Int) := by omega
      obtain ⟨o1, o2, rfl, c0, c1, c2, c3, c4, c5⟩ := erow_at (HR.out.below HB.out) hlt
      have HTK := Lib.hid (HT.out k hlt wr (Kept.ofBelow HB.out))
      have HNK : Hid (f (xs.getD k x0E) = false → ∀ j, j < k + 1 → f (xs.getD j x0E) = false) := fun h j hj => by
        by_cases e : j = k
        · subst e; exact h
        · exact HN.out j (by omega)
      have HY : Hid (f (xs.getD k x0E) = true → FirstE f xs (k : Int)) := fun h => Or.inr ⟨k, rfl, hlt, h, HN.out⟩
      generalize xs.getD k x0E = X1 at c0 c1 c2 c3 c4 c5 HTK HNK HY
      generalize hF : f X1 = F at HTK HNK HY
      clear hF
      obtain ⟨⟨xd, ⟨xr, xq, xc, xu, xo⟩⟩, xys, xp, xcc, xqq, xdd⟩ := X1
      simp only at c0 c1 c2 c3 c4 c5 HTK
      go_wp2_with fail
      refine HTK.out.mono ?_
      rintro e w5 ⟨rfl, hb5⟩
      have HB5 := Lib.hid (below_step HB.out hb5)
      clear hb5 HTK HB c0 c1 c2 c3 c4 c5
      cases F with
      | true =>
        have HYY := Lib.hid (HY.out rfl)
        go_wp2
        go_ret
        exact ⟨_, rfl, HYY.out, HB5.out⟩
      | false =>
        have HNN := Lib.hid (HNK.out rfl)
        go_wp2
        go_roundg (xs.length - (k + 1))
        case measure => omega
        case rel => exact ⟨k + 1, by omega, Nat.le_refl _, by go_num, HNN.out, HB5.out⟩
    · have : k = xs.length := by omega
      subst this
      have hkl : ¬ (xs.length : Int) < (xs.length : Int) := by omega
      go_wp2
      go_ret
      exact ⟨_, rfl, Or.inl ⟨rfl, HN.out⟩, HB.out⟩
theorem filt_all {f : EV → Bool} {xs : List EV} (h : ∀ j, j < xs.length → f (xs.getD j x0E) = false) : xs.filter (fun x => !f x) = xs := List.filter_eq_self.2 fun x hx => by
  obtain ⟨i, hi, rfl⟩ := mem_getD x0E hx
  rw [h i hi]; rfl
theorem filt_step {f : EV → Bool} {xs : List EV} {j : Nat} (h : j < xs.length) : (xs.take (j + 1)).filter (fun x => !f x) = (xs.take j).filter (fun x => !f x) ++ (if f (xs.getD j x0E) = true then [] else [xs.getD j x0E]) := by
  rw [take_getD x0E h, List.filter_append]
  congr 1
  cases hf : f (xs.getD j x0E) with
  | true => rw [if_pos rfl, List.filter_cons, hf]; rfl
  | false => rw [if_neg (by simp), List.filter_cons, hf]; rfl
theorem six_store {w : World} {B o : Nat} (a b c d e f : Value) : (((((w.setCell ⟨B, o, none⟩ a).setCell ⟨B, o + 1, none⟩ b).setCell ⟨B, o + 2, none⟩ c).setCell ⟨B, o + 3, none⟩ d).setCell ⟨B, o + 4, none⟩ e).setCell ⟨B, o + 5, none⟩ f = w.setCells B o [a, b, c, d, e, f] := rfl
set_option maxHeartbeats 3200000 in
set_option maxRecDepth 100000 in
theorem deleteFunc_any (g : Nat) (b : Addr) (f : EV → Bool) (xs : List EV) (p : Option Addr) (c : Nat) (w : World) (eg : ∀ args w, (callFunc g args).run Try.prog w = .ok (.enter g args) w) (hR : RoomE layE w p c xs) (hl : xs.length ≤ 100000) (hT : ∀ x ∈ xs, ∀ B, (∀ a, p = some a → a.block = B) → TestE B w g #[.pointer (some b)] f x) :
    Calls Try.prog 38 #[.slice p xs.length c, .func (.func g) #[] #[.pointer (some b)]] w fun e w' => e = .returned (.slice p (xs.filter fun x => !f x).length c) ∧ RoomE layE w' p c (xs.filter fun x => !f x) ∧ Kept (fun k => ∃ a, p = some a ∧ k = a.block) w w' := by
  rcases hR.block with ⟨rfl, rfl, rfl⟩ | ⟨B, rest, rfl, hB, hrl, hnc, hm⟩
  · have HI := Lib.hid (indexFunc_any 0 g b f [] none 0 w eg (GRow.nil _ _ _) (by simp) (fun x hx => by cases hx))
    clear hR hT
    go_enter Try.func38, Try.ntmps38
    go_wp2_with fail
    refine HI.out.mono ?_
    rintro e w1 ⟨r, rfl, hf, hb1⟩
    have : r = -1 := by
      rcases hf with ⟨h, -⟩ | ⟨k, -, h, -⟩
      · exact h
      · simp at h
    subst this
    have HB1 := Lib.hid hb1
    clear hb1 hf HI
    go_wp2
    go_ret
    exact ⟨rfl, RoomE.zero _ _, Kept.ofBelow HB1.out⟩
  have hrl : xs.length * 6 + rest.length = c * 6 := hrl
  have HI := Lib.hid (indexFunc_any B g b f xs (some ⟨B, 0, none⟩) c w eg (hR.row layE_pos) hl (fun x hx => hT x hx B (fun a e => by cases e; rfl)))
  have HT : Hid (∀ k, k < xs.length → TestE B w g #[.pointer (some b)] f (xs.getD k x0E)) := fun k hk => hT _ (getD_mem x0E hk) B (fun a e => by cases e; rfl)
  have HR := Lib.hid hR
  have HBB := Lib.hid hB
  clear hR hT hB
  unfold TestE ev at HT
  go_enter Try.func38, Try.ntmps38
  go_wp2_with fail
  refine HI.out.mono ?_
  rintro e w1 ⟨r, rfl, hf, hb1⟩
  have HB1 := Lib.hid hb1
  clear hb1 HI
  rcases hf with ⟨rfl, hall⟩ | ⟨k0, rfl, hk0, hy0, hn0⟩
  · have HFA := Lib.hid (filt_all hall)
    clear hall
    go_wp2
    go_ret
    rw [HFA.out]
    exact ⟨rfl, HR.out.below HB1.out, Kept.ofBelow HB1.out⟩
  · have hc63 : c ≤ 9223372036854775807 := by unfold maxLen at hm; omega
    have hne1 : ((k0 : Int) == -1) = false := beq_eq_false_iff_ne.2 (by omega)
    have HK0 : Hid ((xs.take (k0 + 1)).filter (fun x => !f x) = xs.take k0) := by
      show _ = _
      rw [filt_step hk0, hy0, if_pos rfl, List.append_nil]
      refine filt_all fun j hj => ?_
      rw [List.length_take] at hj
      have := hn0 j (by omega)
      rw [List.getD_eq_getElem?_getD, List.getElem?_take, if_pos (by omega), ← List.getD_eq_getElem?_getD]
      exact this
    clear hy0 hn0
    go_wp2_with fail
    go_loopg [5, 6, 7] xs.length (fun n u v s7 wr => ∃ (j : Nat) (ys mid : List EV), ys = (xs.take j).filter (fun x => !f x) ∧ j ≤ xs.length ∧ xs.length - j ≤ n ∧ u = .int .i64 (ys.length : Int) ∧ v = .int .i64 (j : Int) ∧ 0 < mid.length ∧ ys.length + mid.length = j ∧ wr.heap[B]? = some (.cells (layE.flat (ys ++ mid ++ xs.drop j) ++ rest).toArray 36 (0, 0)) ∧ Kept (fun k => k = B) w wr)
    case atStart =>
      refine ⟨k0 + 1, xs.take k0, [xs.getD k0 x0E], HK0.out.symm, by omega, by omega, by rw [List.length_take, Nat.min_eq_left (by omega)], by go_num, by simp, by simp; omega, ?_, Kept.ofBelow HB1.out⟩
      rw [← take_getD x0E hk0, List.take_append_drop]
      exact kept_box HBB.out HB1.out
    case round =>
      obtain ⟨j, ys, mid, hys, hj, hg, rfl, rfl, hmid, hlen, hblk, hkept⟩ := hrel
      have HYS := Lib.hid hys
      have HBK := Lib.hid hblk
      have HKP := Lib.hid hkept
      clear hys hblk hkept HB1 HR HBB HK0
      by_cases hlt : j < xs.length
      · have hkl : (j : Int) < (xs.length : Int) := by omega
        have hrow : GRow layE wr (some ⟨B, 0, none⟩) (ys ++ mid ++ xs.drop j) := fun m u hm => ⟨B, 0, rfl, by
          rw [Nat.zero_add, cell_of_block HBK.out]
          simp only [List.getElem?_toArray]
          rw [List.getElem?_append_left (List.getElem?_eq_some_iff.1 hm).1]; exact hm⟩
        have hjx : (ys ++ mid ++ xs.drop j).getD j x0E = xs.getD j x0E := by
          rw [List.getD_eq_getElem?_getD, List.getElem?_append_right (by rw [List.length_append]; omega), List.length_append, hlen, Nat.sub_self, List.getElem?_drop, Nat.add_zero, ← List.getD_eq_getElem?_getD]
        obtain ⟨o1, o2, e0, c0, c1, c2, c3, c4, c5⟩ := erow_at hrow (i := j) (by simp; omega)
        cases e0
        rw [hjx] at c0 c1 c2 c3 c4 c5
        simp only [Nat.zero_add] at c0 c1 c2 c3 c4 c5
        have HTK := Lib.hid (fun W h => HT.out j hlt W (HKP.out.trans h (fun _ _ e => e)))
        have HSY : Hid (f (xs.getD j x0E) = true → (xs.take (j + 1)).filter (fun x => !f x) = ys) := fun h => by
          have := filt_step (f := f) hlt
          rw [← HYS.out, if_pos h, List.append_nil] at this
          exact this
        have HSN : Hid (f (xs.getD j x0E) = false → (xs.take (j + 1)).filter (fun x => !f x) = ys ++ [xs.getD j x0E]) := fun h => by
          have := filt_step (f := f) hlt
          rw [← HYS.out, if_neg (by rw [h]; exact Bool.false_ne_true)] at this
          exact this
        have hdj : xs.drop j = xs.getD j x0E :: xs.drop (j + 1) := by
          rw [List.getD_eq_getElem?_getD, List.getElem?_eq_getElem hlt]
          exact List.drop_eq_getElem_cons hlt
        obtain ⟨m0, mid', rfl⟩ : ∃ m0 mid', mid = m0 :: mid' := by
          cases mid with
          | nil => simp at hmid
          | cons a l => exact ⟨a, l, rfl⟩
        have HD := Lib.hid hdj
        clear hdj hjx hrow HYS
        have HEX : Hid (layE.enc (xs.getD j x0E) = layE.enc (xs.getD j x0E)) := rfl
        generalize xs.getD j x0E = X1 at c0 c1 c2 c3 c4 c5 HTK HSY HSN HD HEX
        generalize hF : f X1 = F at HTK HSY HSN
        clear hF
        have HXE : Hid (layE.enc X1 = [.slice X1.p X1.e.deps.length X1.c, .int .u16 X1.e.txn.r, .int .u32 X1.e.txn.seq, .int .u64 X1.e.txn.clock, .int .i64 X1.e.txn.user, .slice X1.q X1.e.txn.ops.length X1.d]) := rfl
        generalize X1.p = xp at c0 HTK HXE
        generalize X1.e.deps.length = xdl at c0 HTK HXE
        generalize X1.c = xcc at c0 HTK HXE
        generalize X1.e.txn.r = xr at c1 HTK HXE
        generalize X1.e.txn.seq = xq at c2 HTK HXE
        generalize X1.e.txn.clock = xc at c3 HTK HXE
        generalize X1.e.txn.user = xu at c4 HTK HXE
        generalize X1.q = xqq at c5 HTK HXE
        generalize X1.e.txn.ops.length = xol at c5 HTK HXE
        generalize X1.d = xdd at c5 HTK HXE
        clear HEX
        have HBX : Hid (Below wr.heap.size wr (wr.alloc (.cells #[.slice xp xdl xcc, .int .u16 xr, .int .u32 xq, .int .u64 xc, .int .i64 xu, .slice xqq xol xdd] 36))) := below_alloc (Below.refl _ _) _
        have HZX := Lib.hid (heap_alloc_new wr (.cells #[.slice xp xdl xcc, .int .u16 xr, .int .u32 xq, .int .u64 xc, .int .i64 xu, .slice xqq xol xdd] 36))
        go_wp2_with fail
        refine (HTK.out _ (Kept.ofBelow HBX.out)).mono ?_
        rintro e w5 ⟨rfl, hb5⟩
        have HB5 := Lib.hid (below_step HBX.out hb5)
        obtain ⟨y0, y1, y2, y3, y4, y5⟩ := six_cells (kept_box HZX.out hb5)
        clear hb5 HTK HBX HZX c0 c1 c2 c3 c4 c5
        have HK5 := Lib.hid (HKP.out.trans (Kept.ofBelow HB5.out) (T := fun k => k = B) (fun _ _ e => e))
        have hblk5 := kept_box HBK.out HB5.out
        clear HKP HBK
        cases F with
        | true =>
          have HB6 := Lib.hid hblk5
          clear hblk5
          go_wp2
          go_roundg (xs.length - (j + 1))
          case measure => omega
          case rel =>
            refine ⟨j + 1, ys, m0 :: mid' ++ [X1], (HSY.out (by first | rfl | trivial)).symm, by omega, Nat.le_refl _, rfl, by go_num, by simp, by rw [List.length_append, ← Nat.add_assoc, hlen]; rfl, ?_, HK5.out⟩
            rw [HB6.out, HD.out]
            simp only [List.append_assoc, List.singleton_append]
        | false =>
          have hfr : ∀ o, w5.frozen? ⟨B, o, none⟩ = false := fun o => frozen_of_block hblk5
          have hss : ∀ t, t < 6 → ∃ v, w5.cell? ⟨B, ys.length * 6 + t, none⟩ = some v := fun t ht => by
            refine Option.isSome_iff_exists.1 (isSome_block hblk5 ?_)
            rw [List.size_toArray, List.length_append, layE.flat_length, List.length_append, List.length_append, List.length_cons]
            have : layE.k = 6 := rfl
            rw [this]
            omega
          obtain ⟨v0, z0⟩ := hss 0 (by omega)
          obtain ⟨v1, z1⟩ := hss 1 (by omega)
          obtain ⟨v2, z2⟩ := hss 2 (by omega)
          obtain ⟨v3, z3⟩ := hss 3 (by omega)
          obtain ⟨v4, z4⟩ := hss 4 (by omega)
          obtain ⟨v5, z5⟩ := hss 5 (by omega)
          simp only [Nat.add_zero] at z0
          have g0 := hfr (ys.length * 6)
          have g1 := hfr (ys.length * 6 + 1)
          have g2 := hfr (ys.length * 6 + 2)
          have g3 := hfr (ys.length * 6 + 3)
          have g4 := hfr (ys.length * 6 + 4)
          have g5 := hfr (ys.length * 6 + 5)
          have HB6 := Lib.hid hblk5
          have hil : (ys.length : Int) < (xs.length : Int) := by rw [List.length_cons] at hlen; omega
          clear hss hfr hblk5
          go_wp2_with fail
          go_roundg (xs.length - (j + 1))
          case measure => omega
          case rel =>
            rw [six_store, ← HXE.out]
            refine ⟨j + 1, ys ++ [X1], mid' ++ [X1], (HSN.out (by first | rfl | trivial)).symm, by omega, Nat.le_refl _, by rw [List.length_append]; rfl, by go_num, by simp, by rw [List.length_append, List.length_append]; rw [List.length_cons] at hlen; simp only [List.length_singleton]; omega, ?_, Kept.cells (S := fun k => k = B) rfl (layE.enc X1) (ys.length * 6) _ _ HK5.out⟩
            have h1 := HB6.out
            rw [HD.out, show ys ++ m0 :: mid' ++ X1 :: xs.drop (j + 1) = ys ++ (m0 :: mid' ++ X1 :: xs.drop (j + 1)) by simp, layE.flat_append, List.append_assoc] at h1
            have h2 := setCells_at (layE.enc X1) _ _ w5 (ys.length * 6) h1 (by rw [layE.len, List.length_append, layE.flat_length, List.cons_append, List.length_cons]; have : layE.k = 6 := rfl; rw [this]; omega) (by rw [layE.flat_length]; rfl)
            rw [show layE.flat (ys ++ [X1] ++ (mid' ++ [X1]) ++ xs.drop (j + 1)) ++ rest = layE.flat ys ++ layE.enc X1 ++ (layE.flat (m0 :: mid' ++ X1 :: xs.drop (j + 1)) ++ rest).drop (layE.enc X1).length by
              rw [List.cons_append, layE.flat_cons, List.append_assoc (layE.enc m0), List.drop_left' (by rw [layE.len, layE.len])]
              simp only [layE.flat_append, layE.flat_cons, layE.flat_one, layE.flat_nil, List.append_assoc, List.nil_append, List.append_nil]]
            exact h2
      · have : j = xs.length := by omega
        subst this
        have hkl : ¬ (xs.length : Int) < (xs.length : Int) := by omega
        rw [List.take_length] at HYS
        have hyl : ys.length < xs.length := by omega
        have hml : mid.length = xs.length - ys.length := by omega
        have hblk := HBK.out
        rw [List.drop_length, List.append_nil] at hblk
        have hcl : ∀ ty, (Builtin.clear_ #[22] ty #[.slice (some ⟨B, ys.length * 6, none⟩) (xs.length - ys.length) (c - ys.length)]).run Try.prog wr = .ok (.tuple #[]) (wr.setCells B (ys.length * 6) (Builtin.zeroCells zE (xs.length - ys.length)).toList) := fun ty =>
          run_clear6 wr 22 36 ty _ Try.underlying22 Try.zeroValue36 zE_one rfl B _ _ _ (by omega) (fun j hj => isSome_block hblk (by rw [List.size_toArray, List.length_append, layE.flat_length, List.length_append]; have : layE.k = 6 := rfl; rw [this]; omega)) (fun j hj => frozen_of_block hblk)
        have HF : Hid (RoomE layE (wr.setCells B (ys.length * 6) (Builtin.zeroCells zE (xs.length - ys.length)).toList) (some ⟨B, 0, none⟩) c ys ∧ Kept (fun k => ∃ a, some (⟨B, 0, none⟩ : Addr) = some a ∧ k = a.block) w (wr.setCells B (ys.length * 6) (Builtin.zeroCells zE (xs.length - ys.length)).toList)) := by
          refine ⟨RoomE.of (rest := (Builtin.zeroCells zE (xs.length - ys.length)).toList ++ rest) ?_ (by rw [List.length_append, zE_len]; have : layE.k = 6 := rfl; rw [this]; omega) (by omega) hm, Kept.cells ⟨_, rfl, rfl⟩ _ _ _ _ (HKP.out.mono fun k _ e => ⟨_, rfl, e⟩)⟩
          rw [layE.flat_append, List.append_assoc] at hblk
          have hfm : (layE.flat mid).length = (xs.length - ys.length) * 6 := by rw [layE.flat_length, hml]; rfl
          rw [setCells_at _ _ _ wr _ hblk (by rw [zE_len, List.length_append, hfm]; omega) (by rw [layE.flat_length]; rfl), zE_len, List.drop_left' hfm, List.append_assoc]
        have hyc : ys.length ≤ c := by omega
        have hne : ¬ c = ys.length := by omega
        have hyi : (ys.length : Int) ≤ (xs.length : Int) := by omega
        clear hblk hml HBK HKP
        go_wp2_with fail
        go_ret
        rw [← HYS.out]
        exact ⟨rfl, HF.out.1, by simpa using HF.out.2⟩
end Go.Proofs.Ytjkdcpalgfakhaa
/-
  What the program's makes, names, turns, Root, Take, Plain, fitText and hasMore of layer 8 hand back. No conditions beyond what each theorem states.
-/
namespace Go.Proofs.Ytjkdcpalgfakhaa
open Go.ChangeShapes Go.WideShapes Go.ChangeAt Go.RowKit Go.Lib
set_option linter.unusedVariables false
set_option linter.unusedSimpArgs false

/-- Take's error. -/
def tookE (num a : Int) : Int := if num = 0 then 10 else if 268435457 < num + a then 20 else 0
def tookN (num a : Int) : Int := if num = 0 then 0 else if 268435457 < num + a then 0 else num + a
def textE (s : List UInt8) : Int := if s = [] ∨ plainB s = false then 11 else if 64 < s.length then 15 else 0
end Go.Proofs.Ytjkdcpalgfakhaa
/-
  What the program's hasMore of layer 8 hands back. No conditions beyond what each theorem states.
-/
namespace Go.Proofs.Ytjkdcpalgfakhaa
open Go.ChangeShapes Go.WideShapes Go.ChangeAt Go.RowKit Go.Lib
set_option linter.unusedVariables false
set_option linter.unusedSimpArgs false

/-- Has it what its kind has not? -/
def moreO (o : Om) : Bool :=
  if o.kind = 1 then decide (0 < o.spans.length ∨ o.seq ≠ 0)
  else if o.kind = 2 then decide (placelessO o = false ∨ o.text ≠ [] ∨ o.seq ≠ 0)
  else if o.kind = 3 then decide (o.text ≠ [] ∨ o.seq ≠ 0)
  else decide (placelessO o = false ∨ o.text ≠ [] ∨ 0 < o.spans.length)
theorem bne_no {a b : Int} (h : ¬ a = b) : (a != b) = true := by simpa using h
theorem bytes_bne {a b : List UInt8} (h : (a == b) = false) : (a != b) = true := by unfold bne; rw [h]; rfl

end Go.Proofs.Ytjkdcpalgfakhaa
/-
  What the program's Atoms, placed, fitContent and Fit of layer 8 hand back. No conditions beyond what each theorem states.
-/
namespace Go.Proofs.Ytjkdcpalgfakhaa
open Go.ChangeShapes Go.WideShapes Go.ChangeAt Go.RowKit Go.Lib
set_option linter.unusedVariables false
set_option linter.unusedSimpArgs false

/-- What Atoms asks for: spans that are right, where it counts them. -/
def CountsP (o : Om) : Prop := o.kind = 3 → RightS o.spans ∧ totalL o.spans ≤ 3000
theorem total_pos {l : List Sp} (h : fitL l = 0) : 1 ≤ totalL l := by
  obtain ⟨a1, a2, a3⟩ := fitL_ok h
  cases l with
  | nil => unfold fitL at h; rw [if_pos (show ([] : List Sp).length = 0 from rfl)] at h; cases h
  | cons s l =>
    have hr := rightS_iff.1 (a1 s (by simp))
    rw [totalL_cons]
    omega
theorem took_numbered {o : Om} (h1 : 1 ≤ atomsO o) (h0 : 0 ≤ o.num) : numberedO o = (decide (tookE o.num (atomsO o) = 0) && anchB o) := by
  unfold numberedO anchB tookE
  by_cases hm : o.num = 0
  · rw [if_pos hm, decide_eq_false (by omega), decide_eq_false (by omega)]; rfl
  · rw [if_neg hm]
    by_cases hg : 268435457 < o.num + atomsO o
    · rw [if_pos hg, decide_eq_false (by omega), decide_eq_false (by omega)]; rfl
    · rw [if_neg hg, decide_eq_true (rfl : (0 : Int) = 0), Bool.true_and]
      apply decide_eq_decide.2
      omega

/-- What comes, goes, or is undone: its error. -/
def contE (o : Om) : Int := if o.kind = 1 then textE o.text else if o.kind = 2 ∨ o.kind = 3 then fitL o.spans else if o.seq < 1 ∨ 268435456 < o.seq then 11 else 0

theorem fitO_steps (o : Om) : fitO o = if o.kind < 1 ∨ 5 < o.kind then 11 else if moreO o = true then 11 else if contE o ≠ 0 then contE o else if o.kind = 1 ∨ o.kind = 3 then (if numberedO o = false then 11 else 0) else 0 := by
  unfold fitO moreO contE
  by_cases k1 : o.kind = 1
  · simp only [if_pos k1]
    rw [if_neg (show ¬ (o.kind < 1 ∨ 5 < o.kind) by omega)]
    unfold textE
    by_cases a : 0 < o.spans.length ∨ o.seq ≠ 0
    · rw [if_pos (show 0 < o.spans.length ∨ o.seq ≠ 0 ∨ o.text = [] ∨ plainB o.text = false by rcases a with a | a; exact Or.inl a; exact Or.inr (Or.inl a)), if_pos (decide_eq_true a)]
    · rw [if_neg (show ¬ decide (0 < o.spans.length ∨ o.seq ≠ 0) = true by rw [decide_eq_false a]; simp)]
      by_cases b : o.text = [] ∨ plainB o.text = false
      · rw [if_pos (show 0 < o.spans.length ∨ o.seq ≠ 0 ∨ o.text = [] ∨ plainB o.text = false from Or.inr (Or.inr b))]
        simp only [if_pos b]
        rfl
      · rw [if_neg (show ¬ (0 < o.spans.length ∨ o.seq ≠ 0 ∨ o.text = [] ∨ plainB o.text = false) by rintro (x | x | x); exact a (Or.inl x); exact a (Or.inr x); exact b x)]
        simp only [if_neg b]
        by_cases d : 64 < o.text.length
        · simp only [if_pos d]
          rfl
        · simp only [if_neg d]
          rw [if_neg (show ¬ (0 : Int) ≠ 0 by simp), if_pos (show o.kind = 1 ∨ o.kind = 3 from Or.inl k1)]
  · simp only [if_neg k1]
    by_cases k2 : o.kind = 2
    · simp only [if_pos k2, if_pos (show o.kind = 2 ∨ o.kind = 3 from Or.inl k2)]
      rw [if_neg (show ¬ (o.kind < 1 ∨ 5 < o.kind) by omega)]
      by_cases a : placelessO o = false ∨ o.text ≠ [] ∨ o.seq ≠ 0
      · rw [if_pos (by rcases a with a | a | a; exact Or.inr (Or.inr a); exact Or.inl a; exact Or.inr (Or.inl a)), if_pos (decide_eq_true a)]
      · rw [if_neg (by rintro (x | x | x); exact a (Or.inr (Or.inl x)); exact a (Or.inr (Or.inr x)); exact a (Or.inl x)), if_neg (show ¬ decide _ = true by rw [decide_eq_false a]; simp)]
        by_cases b : fitL o.spans = 0
        · rw [if_neg (show ¬ fitL o.spans ≠ 0 by simpa using b), if_neg (show ¬ (o.kind = 1 ∨ o.kind = 3) by omega), b]
        · rw [if_pos b]
    · simp only [if_neg k2]
      by_cases k3 : o.kind = 3
      · simp only [if_pos k3, if_pos (show o.kind = 2 ∨ o.kind = 3 from Or.inr k3)]
        rw [if_neg (show ¬ (o.kind < 1 ∨ 5 < o.kind) by omega)]
        by_cases a : o.text ≠ [] ∨ o.seq ≠ 0
        · rw [if_pos a, if_pos (decide_eq_true a)]
        · rw [if_neg a, if_neg (show ¬ decide _ = true by rw [decide_eq_false a]; simp)]
          by_cases b : fitL o.spans ≠ 0
          · simp only [if_pos b]
          · simp only [if_neg b]
            rw [if_pos (show o.kind = 1 ∨ o.kind = 3 from Or.inr k3)]
      · simp only [if_neg k3, if_neg (show ¬ (o.kind = 2 ∨ o.kind = 3) by omega), if_neg (show ¬ (o.kind = 1 ∨ o.kind = 3) by omega)]
        by_cases k4 : o.kind = 4 ∨ o.kind = 5
        · rw [if_pos k4, if_neg (show ¬ (o.kind < 1 ∨ 5 < o.kind) by omega)]
          by_cases a : placelessO o = false ∨ o.text ≠ [] ∨ 0 < o.spans.length
          · rw [if_pos (by rcases a with a | a | a; exact Or.inr (Or.inr (Or.inl a)); exact Or.inl a; exact Or.inr (Or.inl a)), if_pos (decide_eq_true a)]
          · rw [if_neg (show ¬ decide _ = true by rw [decide_eq_false a]; simp)]
            by_cases b : o.seq < 1 ∨ 268435456 < o.seq
            · rw [if_pos (Or.inr (Or.inr (Or.inr b)))]
              simp only [if_pos b]
              rfl
            · rw [if_neg (by rintro (x | x | x | x); exact a (Or.inr (Or.inl x)); exact a (Or.inr (Or.inr x)); exact a (Or.inl x); exact b x)]
              simp only [if_neg b]
              rfl
        · rw [if_neg k4, if_pos (show o.kind < 1 ∨ 5 < o.kind by omega)]

end Go.Proofs.Ytjkdcpalgfakhaa
/-
  What the program's ID, Key, Undoes and Atoms of layer 9 hand back. No conditions beyond what each theorem states.
-/
namespace Go.Proofs.Ytjkdcpalgfakhaa
open Go.ChangeShapes Go.WideShapes Go.ChangeAt Go.RowKit Go.Lib
set_option linter.unusedVariables false
set_option linter.unusedSimpArgs false

theorem szTI : (Try.prog.info? 57).map (·.size) = some 2 := by kernel_rfl
theorem only_two (w : World) (B : Nat) (a b : Value) : Only B w ((w.setCell ⟨B, 0, none⟩ a).setCell ⟨B, 1, none⟩ b) := (only_set w B 0 a).trans (only_set _ B 1 b)
theorem only_new {w W W' : World} {X : Nat} (hb : Below w.heap.size w W) (ho : Only X W W') (hX : w.heap.size ≤ X) : Below w.heap.size w W' := hb.trans (ho.below hb.size (fun k ek => by have ek : k = X := ek; omega))
set_option maxHeartbeats 800000 in
/-- Function 16. -/
theorem idT_spec : IDTSpec := by
  intro t p c w
  unfold tv
  generalize t.ops.length = L
  have HX := Lib.hid (heap_alloc2_new w (.cells #[.int .u16 t.r, .int .u32 t.seq, .int .u64 t.clock, .int .i64 t.user, .slice p L c] 34) (.cells #[.int .u16 0, .int .u32 0] 57))
  go_enter Try.func16, Try.ntmps16
  go_wp2
  (try simp only [Exit.inBlock, Exit.then])
  refine bodyPost_ret (results_cell_row rfl _ _ (w.heap.size + 1) 57 #[.int .u16 t.r, .int .u32 t.seq] (0, 0) _ rfl (heap_alloc2_new w _ _) Try.underlying57 rfl szTI) rfl ?_
  exact ⟨rfl, below_alloc (below_alloc (Below.refl _ _) _) _⟩
end Go.Proofs.Ytjkdcpalgfakhaa
