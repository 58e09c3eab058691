/-
  What the document's Digits and Show hand back, for every list of entries that lies in memory. No conditions beyond what each theorem states.
-/
import Derived.Test.YthihfigphedomaaDoorShow
import Derived.Deep.RegionHeld3
import Derived.Deep.DrawnRows
namespace Go.Proofs.YthihfigphedomaaDoor
open Go.ChangeShapes Go.WideShapes Go.ChangeAt Go.RowKit Go.Lib
open Go.Sort
set_option linter.unusedVariables false
set_option linter.unusedSimpArgs false

theorem bcell {W w1 : World} (hb : Below W.heap.size W w1) : (∀ b o, b < W.heap.size → w1.cell? ⟨b, o, none⟩ = W.cell? ⟨b, o, none⟩) ∧ (∀ b o, b < W.heap.size → w1.frozen? ⟨b, o, none⟩ = W.frozen? ⟨b, o, none⟩) :=
  ⟨fun b o h => hb.cell (p := ⟨b, o, none⟩) h, fun b o h => hb.frozen (p := ⟨b, o, none⟩) h⟩
theorem ret_str {a b : ByteArray} (h : a = b) : Ending.returned (.string a) = .returned (.string b) := by rw [h]
theorem dig_small {u : Nat} (h : u < 10) : (⟨(Lib.decDigits u).toArray⟩ : ByteArray) = ⟨#[48 + UInt8.ofNat u]⟩ := by rw [Lib.decDigits_one h]; simp
theorem dig_big {u : Nat} (h : ¬ u < 10) : (⟨(Lib.decDigits u).toArray⟩ : ByteArray) = ⟨(Lib.decDigits (u / 10)).toArray⟩ ++ ⟨#[48 + UInt8.ofNat (u % 10)]⟩ := by
  rw [Lib.decDigits, dif_neg h]
  apply ByteArray.ext
  simp

/-- A slice of one byte as a text. -/
theorem conv_one (n : Nat) (b : Nat) (hn : n < 256) (W : World) (hc : W.cell? ⟨b, 0, none⟩ = some (.int .u8 (n : Int))) :
    (convert 64 9 (.slice (some ⟨b, 0, none⟩) 1 1)).run Tryd.prog W = .ok (.string ⟨#[UInt8.ofNat n]⟩) W := by
  have h := run_convert_bytes_back (P := Tryd.prog) W 64 9 5 ⟨b, 0, none⟩ 1 [UInt8.ofNat n] Tryd.underlying64 Tryd.underlying5 Tryd.underlying9 (fun j hj => by
    have : j = 0 := by simp at hj; omega
    subst this
    rw [Lib.add_plain]
    simpa [Nat.mod_eq_of_lt hn] using hc)
  exact h

set_option maxHeartbeats 1600000 in
set_option maxRecDepth 100000 in
theorem digits_any (u : Nat) : u < 18446744073709551616 → ∀ (w : World), Calls Tryd.prog 34 #[.int .u64 u] w fun e w' => e = .returned (.string ⟨(Lib.decDigits u).toArray⟩) ∧ Below w.heap.size w w' := by
  induction u using Nat.strongRecOn with
  | ind u ih =>
    intro h64 w
    by_cases hs : u < 10
    · have hs' : (u : Int) < 10 := by omega
      clear ih
      have hcv : (convert 64 9 (.slice (some ⟨w.heap.size, 0, none⟩) 1 1)).run Tryd.prog (w.alloc (.cells #[.int .u8 (48 + (u : Int))] 5)) = .ok (.string ⟨#[UInt8.ofNat (48 + u)]⟩) (w.alloc (.cells #[.int .u8 (48 + (u : Int))] 5)) :=
        conv_one (48 + u) _ (by omega) _ (by simp)
      go_enter Tryd.func34, Tryd.ntmps34
      go_wp2
      go_ret
      exact ⟨ret_str (dig_small hs).symm, (Below.refl _ _).alloc (Nat.le_refl _) _⟩
    · have hs' : ¬ (u : Int) < 10 := by omega
      have hi : Hid (∀ W, Calls Tryd.prog 34 #[.int .u64 ((u : Int) / 10)] W fun e w' => e = .returned (.string ⟨(Lib.decDigits (u / 10)).toArray⟩) ∧ Below W.heap.size W w') := by
        have := ih (u / 10) (by omega) (by omega)
        rw [show ((u / 10 : Nat) : Int) = (u : Int) / 10 from rfl] at this
        exact this
      clear ih
      have hq : IntKind.u64.wrap ((u : Int) / 10) = (u : Int) / 10 := by rw [IntKind.wrap_u64]; omega
      have hr : (u : Int).tmod 10 = (u : Int) % 10 := Int.tmod_eq_emod_of_nonneg (by omega)
      have ha : IntKind.u64.wrap (48 + (u : Int) % 10) = 48 + (u : Int) % 10 := by rw [IntKind.wrap_u64]; omega
      have hb : IntKind.u8.wrap (48 + (u : Int) % 10) = 48 + (u : Int) % 10 := by rw [IntKind.wrap_u8]; omega
      have hcv : ∀ (b : Nat) (W : World), W.cell? ⟨b, 0, none⟩ = some (.int .u8 (48 + (u : Int) % 10)) → (convert 64 9 (.slice (some ⟨b, 0, none⟩) 1 1)).run Tryd.prog W = .ok (.string ⟨#[UInt8.ofNat (48 + u % 10)]⟩) W :=
        fun b W h => conv_one (48 + u % 10) b (by omega) W (by rw [h]; rfl)
      have hl0 := nd_le (u / 10) (by omega)
      have hl1 : ¬ 9223372036854775807 < (Lib.decDigits (u / 10)).length + 1 := by omega
      go_enter Tryd.func34, Tryd.ntmps34
      go_wp2_with fail
      go_region_with (first | (go_at_call 34; refine (hi.out _).mono ?_; rintro e w4 ⟨rfl, hb4⟩; obtain ⟨hc4, hf4⟩ := bcell hb4))
      all_goals
        clear hc4 hf4 hcv
        go_wp2
        go_ret
        exact ⟨ret_str (dig_big hs).symm, by first | exact below_alloc (below_step (Below.drew (Below.refl _ _)) hb4) _ | exact below_step (Below.drew (below_alloc (Below.refl _ _) _)) hb4⟩

theorem show_text (T : List UInt8) (r s : Nat) : (⟨T.toArray⟩ : ByteArray) ++ ⟨(Lib.decDigits r).toArray⟩ ++ ⟨#[58]⟩ ++ ⟨(Lib.decDigits s).toArray⟩ = ⟨(T ++ (Lib.decDigits r ++ 58 :: Lib.decDigits s)).toArray⟩ := by
  apply ByteArray.ext
  simp

set_option maxHeartbeats 3200000 in
set_option maxRecDepth 100000 in
theorem refshow_any (xs : List En) (p : Option Addr) (c : Nat) (w : World) (hR : Row w p xs) (hf : Fits xs) (hl : xs.length ≤ 4000) :
    Calls Tryd.prog 21 #[.slice p xs.length c] w fun e w' => e = .returned (.string ⟨(showL xs).toArray⟩) ∧ Below w.heap.size w w' := by
  have HR : Hid (Row w p xs) := hR
  have HF : Hid (Fits xs) := hf
  clear hR hf
  go_enter Tryd.func21, Tryd.ntmps21
  go_wp2
  go_loopg [3, 4] xs.length (fun n s i wr => ∃ (k : Nat) (T : List UInt8), k ≤ xs.length ∧ xs.length - k ≤ n ∧ i = .int .i64 k ∧ s = .string ⟨T.toArray⟩ ∧ T = showTo xs k ∧ Below w.heap.size w wr)
  case atStart => exact ⟨0, [], Nat.zero_le _, by omega, rfl, rfl, rfl, Below.refl _ _⟩
  case round =>
    obtain ⟨k, T0, hk, hg, rfl, rfl, hT0, hb⟩ := hrel
    have HT0 : Hid (T0 = showTo xs k) := hT0
    have HB : Hid (Below w.heap.size w wr) := hb
    have hle : T0.length ≤ 168000 := by have := showTo_le xs HF.out k hk; rw [hT0]; omega
    clear hT0 hb
    by_cases hlt : k < xs.length
    · obtain ⟨b, o, rfl, c0', c1'⟩ := HR.out k hlt
      have c0 := cellU c0' HB.out
      have c1 := cellU c1' HB.out
      obtain ⟨x0, x1, y0, y1⟩ := HF.out.at hlt
      clear c0' c1'
      have HE : Hid (showE (atL xs k) = Lib.decDigits (atL xs k).1.toNat ++ 58 :: Lib.decDigits (atL xs k).2.toNat) := rfl
      obtain ⟨r, hr⟩ : ∃ r : Nat, (atL xs k).1 = (r : Int) := ⟨(atL xs k).1.toNat, by omega⟩
      obtain ⟨s, hs⟩ : ∃ s : Nat, (atL xs k).2 = (s : Int) := ⟨(atL xs k).2.toNat, by omega⟩
      rw [hr] at c0 x0 x1 HE
      rw [hs] at c1 y0 y1 HE
      rw [Int.toNat_natCast, Int.toNat_natCast] at HE
      clear hr hs
      have hr6 : r ≤ 65535 := by omega
      have hs6 : s ≤ 4294967295 := by omega
      have w1 : IntKind.u64.wrap (r : Int) = r := by rw [IntKind.wrap_u64]; omega
      have w2 : IntKind.u64.wrap (s : Int) = s := by rw [IntKind.wrap_u64]; omega
      have n1 := nd_le r (by omega)
      have n2 := nd_le s (by omega)
      obtain ⟨T, hTe⟩ : ∃ T, T = T0 ++ (if 0 < k then [32] else []) := ⟨_, rfl⟩
      have HTe : Hid (T = T0 ++ (if 0 < k then [32] else [])) := hTe
      have hTl : T.length ≤ 168001 := by rw [hTe, List.length_append]; split <;> simp <;> omega
      have HNX : Hid (showTo xs (k + 1) = T ++ (Lib.decDigits r ++ 58 :: Lib.decDigits s)) := by
        rw [show showTo xs (k + 1) = showTo xs k ++ ((if 0 < k then [32] else []) ++ showE (atL xs k)) from rfl, HE.out, ← HT0.out, ← List.append_assoc, ← hTe]; exact rfl
      clear hTe HE
      have s1 : ¬ 9223372036854775807 < T.length + (Lib.decDigits r).length := by omega
      have s2 : ¬ 9223372036854775807 < T.length + (Lib.decDigits r).length + 1 := by omega
      have s3 : ¬ 9223372036854775807 < T.length + (Lib.decDigits r).length + 1 + (Lib.decDigits s).length := by omega
      have s0 : ¬ 9223372036854775807 < T0.length + 1 := by omega
      have g0 := cell_regrown c0
      have g1 := cell_regrown c1
      by_cases h0 : 0 < k
      case' pos =>
        have h0' : (0 : Int) < (k : Int) := by omega
        have hTT : (⟨T0.toArray⟩ : ByteArray) ++ ⟨#[32]⟩ = ⟨T.toArray⟩ := by rw [HTe.out, if_pos h0]; apply ByteArray.ext; simp
        go_wp2_with fail
      case' neg =>
        have hk0 : k = 0 := by omega
        subst hk0
        have e : T0 = T := by rw [HTe.out, if_neg h0, List.append_nil]
        subst e
        simp only [Nat.zero_mul, Nat.add_zero] at g0 g1
        go_wp2_with fail
      all_goals
        refine wp_region_quiet_below (by kernel_rfl) (by kernel_rfl) ?_
        repeat (first | go_big_quiet_step ((go_at_call 34; exact Calls.regrown_of (digits_any _ (by omega) _))) | quiet_step ((go_at_call 34; exact Calls.regrown_of (digits_any _ (by omega) _))))
        refine wpQuiet_nil ?_
        intro w3 hw'
        have HB3 : Hid (Below w.heap.size w w3) := by obtain ⟨⟨dq, osq⟩, rfl⟩ := hw'; exact below_step HB.out (below_regrown _ _ _)
        clear hw' g0 g1 c0 c1
        go_wp2_with fail
      · go_roundg (xs.length - (0 + 1))
        case measure => omega
        case rel => exact ⟨1, _, by omega, Nat.le_refl _, by go_num, by rw [show_text], HNX.out.symm, HB3.out⟩
      · go_roundg (xs.length - (k + 1))
        case measure => omega
        case rel => exact ⟨k + 1, _, by omega, Nat.le_refl _, by go_num, by rw [show_text], HNX.out.symm, HB3.out⟩
    · have : k = xs.length := by omega
      subst this
      go_wp2
      go_ret
      exact ⟨ret_str (by rw [HT0.out]; rfl), HB.out⟩

end Go.Proofs.YthihfigphedomaaDoor
