
/-
  What the document's own Num and Text of layer 5 hand back: the bytes of any number and of any short text, in new memory. No conditions beyond what each theorem states.
-/
import Derived.Test.YtedlmngfkkpmgaaPackRefText
namespace Go.Proofs.Ytedlmngfkkpmgaa
open Go.ChangeShapes Go.WideShapes Go.ChangeAt Go.RowKit Go.Lib
set_option linter.unusedVariables false
set_option linter.unusedSimpArgs false

/-- Bytes in new memory of the call's own. -/
def Fresh (bs : List UInt8) (w : World) (e : Ending) (w' : World) : Prop := ∃ v, e = .returned v ∧ w'.ownsRow w.heap.size 5 1 v bs.length (byteCells bs) ∧ Below w.heap.size w w'
theorem owns_one (w : World) (x : UInt8) : (w.alloc (.cells #[.int .u8 (x.toNat : Int)] 5)).ownsRow w.heap.size 5 1 (.slice (some ⟨w.heap.size, 0, none⟩) 1 1) 1 (byteCells [x]) :=
  World.ownsRow_lit w #[.int .u8 (x.toNat : Int)] 1 (Nat.le_refl _) (by decide) rfl
/-- A row of some bytes has an address. -/
theorem owns_some {w : World} {B n : Nat} {v : Value} {e : TypeId} {bs : List UInt8} (h : w.ownsRow B e 1 v n (byteCells bs)) (hn : 1 ≤ bs.length) : ∃ g c, v = .slice (some ⟨g, 0, none⟩) bs.length c ∧ BRow w (some ⟨g, 0, none⟩) bs := by
  obtain ⟨p, c, rfl, rfl, hr, _⟩ := brow_owns h
  rcases h.2 with ⟨hv, h0⟩ | ⟨g, cap, cur, hv, _⟩
  · omega
  · cases hv
    exact ⟨g, c, rfl, hr⟩

set_option maxHeartbeats 1600000 in
set_option maxRecDepth 20000 in
theorem refnum_any (n : Nat) : n < 18446744073709551616 → ∀ w : World, Calls Try.prog 36 #[.int .u64 (n : Int)] w (Fresh (encN (n % 9223372036854775808)) w) := by
  induction n using Nat.strongRecOn with
  | ind n ih =>
    intro h64 w
    obtain ⟨i0, hi, hz0, hz1, hz2⟩ := info_parts infoB
    obtain ⟨N, hN⟩ : ∃ N, N = n % 9223372036854775808 := ⟨_, rfl⟩
    have hm : (n : Int) % 9223372036854775808 = (N : Int) := by omega
    have hNb : N < 9223372036854775808 := by omega
    have hNn : N ≤ n := by omega
    rw [← hN]
    by_cases hs : N < 128
    · have hs' : (N : Int) < 128 := by omega
      have HX := Lib.hid (encN_small hs)
      clear ih hN
      go_enter Try.func36, Try.ntmps36
      go_wp2
      go_ret
      have h1 := owns_one w (UInt8.ofNat N)
      rw [u8_nat (by omega)] at h1
      exact ⟨_, rfl, by rw [HX.out]; exact h1, below_alloc (Below.refl _ _) _⟩
    · have hs' : ¬ (N : Int) < 128 := by omega
      have H := ih (N / 128) (by omega) (by omega)
      rw [Nat.mod_eq_of_lt (by omega : N / 128 < 9223372036854775808), show ((N / 128 : Nat) : Int) = (N : Int) / 128 from rfl] at H
      have H := Lib.hid H
      obtain ⟨y, hy⟩ : ∃ y, y = UInt8.ofNat (N % 128 + 128) := ⟨_, rfl⟩
      have hX := encN_big hs
      rw [← hy] at hX
      have HX := Lib.hid hX
      have HL : Hid ((encN (N / 128)).length ≤ 9 ∧ 1 ≤ (encN (N / 128)).length) := ⟨encN_len (by omega), encN_pos _⟩
      have h1 := owns_one w y
      rw [show (y.toNat : Int) = (N : Int) % 128 + 128 by rw [hy, u8_nat (by omega)]; omega] at h1
      have H1 := Lib.hid h1
      clear ih hN h1 hX hy
      go_enter Try.func36, Try.ntmps36
      go_wp2_with fail
      refine (H.out _).mono ?_
      rintro e w2 ⟨v, rfl, hown, hb⟩
      obtain ⟨g, c, rfl, hr⟩ := owns_some hown HL.out.2
      have HR := Lib.hid hr
      have HB := Lib.hid hb
      have HO1 := Lib.hid ((Kept.ofBelow (S := fun _ => False) hb).row H1.out (fun _ _ f => f))
      have hsz : w.heap.size + 1 ≤ w2.heap.size := by have := hb.size; simpa using this
      clear hown hb hr H1
      go_wp2_with (first
        | (at_builtin; refine wpList_append_own_at _ rfl (.tmp 16) (.tmp 19) 52 rfl w.heap.size 5 i0 (.int .u8 0) 1 1 Try.underlying52 hi hz0 hz1 hz2 rfl (by decide) _ _ _ rfl HO1.out ⟨g, 0, none⟩ (encN (N / 128)).length c (byteCells (encN (N / 128))) rfl (by rw [byteCells_length, Nat.mul_one]) (brow_news HR.out) (byteCells_one _) (by unfold maxLen; have := HL.out.1; omega) (by have := HL.out.1; omega) (by omega) ?_))
      intro v' w3 hown hgrow _ _
      have HO : Hid (w3.ownsRow w.heap.size 5 1 v' (encN N).length (byteCells (encN N))) := by
        show w3.ownsRow w.heap.size 5 1 v' (encN N).length (byteCells (encN N))
        rw [HX.out, List.length_cons, Nat.add_comm]
        exact hown
      have HB3 : Hid (Below w.heap.size w w3) := (below_step (below_alloc (Below.refl _ _) _) HB.out).grown hgrow (by omega) (by intro k e; cases e; exact Nat.le_refl _)
      clear hown hgrow HO1 HR
      go_wp2
      go_ret
      exact ⟨_, rfl, HO.out, HB3.out⟩

theorem bytes_conv (s : List UInt8) (w : World) : ∃ w' c, (convert 9 52 (.string ⟨s.toArray⟩)).run Try.prog w = .ok (.slice (some ⟨w.heap.size, 0, none⟩) s.length c) w' ∧ BRow w' (some ⟨w.heap.size, 0, none⟩) s ∧ Below w.heap.size w w' := by
  refine ⟨_, _, run_bytes_of_string (P := Try.prog) w 9 52 5 ⟨s.toArray⟩ Try.underlying9 Try.underlying52 Try.underlying5, fun i hi => ⟨w.heap.size, 0, rfl, ?_⟩, (Below.drew (Below.refl _ _)).alloc (Nat.le_refl _) _⟩
  rw [Nat.zero_add]
  have := World.cell?_alloc_mark w.drew (bytesRow ⟨s.toArray⟩ (grownCap w (⟨s.toArray⟩ : ByteArray).size 0 5)) 5 ((bytesRow ⟨s.toArray⟩ (grownCap w (⟨s.toArray⟩ : ByteArray).size 0 5)).size, (bytesRow ⟨s.toArray⟩ (grownCap w (⟨s.toArray⟩ : ByteArray).size 0 5)).size + 1) i
  rw [show (w.drew).heap.size = w.heap.size from rfl] at this
  rw [this]
  unfold bytesRow
  rw [Array.getElem?_append_left (by simpa using hi)]
  simp [atB, hi]

set_option maxHeartbeats 1600000 in
set_option maxRecDepth 20000 in
theorem reftext_any (s : List UInt8) (hs : s.length ≤ 90000) (w : World) : Calls Try.prog 58 #[.string ⟨s.toArray⟩] w (Fresh (encT s) w) := by
  obtain ⟨i0, hi, hz0, hz1, hz2⟩ := info_parts infoB
  have H := refnum_any s.length (by omega) w
  rw [Nat.mod_eq_of_lt (by omega)] at H
  have H := Lib.hid H
  have HL : Hid ((encN s.length).length ≤ 9) := encN_len (by omega)
  have hw : IntKind.u64.wrap (s.length : Int) = s.length := by rw [IntKind.wrap_u64]; omega
  go_enter Try.func58, Try.ntmps58
  go_wp2_with fail
  refine H.out.mono ?_
  rintro e w1 ⟨v, rfl, hown, hb⟩
  obtain ⟨p1, c1, rfl⟩ := owns_slice hown
  obtain ⟨w2, c2, hcv, hr, hb2⟩ := bytes_conv s w1
  have HR := Lib.hid hr
  have HO := Lib.hid ((Kept.ofBelow (S := fun _ => False) hb2).row hown (fun _ _ f => f))
  have HB : Hid (Below w.heap.size w w2) := below_step hb hb2
  obtain ⟨m, hm⟩ : ∃ m, m = (encN s.length).length := ⟨_, rfl⟩
  have hmb : m ≤ 9 := by rw [hm]; exact HL.out
  have HM := Lib.hid hm
  rw [← hm] at HO
  clear hown hb hr hb2 H hm
  rw [← HM.out]
  go_wp2_with (first
    | (at_builtin; refine wpList_append_own_at _ rfl (.tmp 6) (.tmp 8) 52 rfl w.heap.size 5 i0 (.int .u8 0) 1 1 Try.underlying52 hi hz0 hz1 hz2 rfl (by decide) _ _ _ rfl HO.out ⟨w1.heap.size, 0, none⟩ s.length c2 (byteCells s) rfl (by rw [byteCells_length, Nat.mul_one]) (brow_news HR.out) (byteCells_one _) (by unfold maxLen; omega) (by omega) HB.out.size ?_))
  intro v' w3 hown hgrow _ _
  have HO3 : Hid (w3.ownsRow w.heap.size 5 1 v' (encT s).length (byteCells (encT s))) := by
    show w3.ownsRow w.heap.size 5 1 v' (encT s).length (byteCells (encT s))
    unfold encT
    rw [byteCells_append, List.length_append, ← HM.out]
    exact hown
  have HB3 : Hid (Below w.heap.size w w3) := HB.out.grown hgrow HB.out.size (fun k e => (HO.out.lt k e).1)
  clear hown hgrow HO HR
  go_wp2
  go_ret
  exact ⟨_, rfl, HO3.out, HB3.out⟩

end Go.Proofs.Ytedlmngfkkpmgaa
