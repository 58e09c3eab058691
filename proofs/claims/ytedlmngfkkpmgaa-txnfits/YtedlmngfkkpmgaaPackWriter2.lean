
/-
  What the writer's Text, Raw, Len and Bytes, and copied, do, for every writer that lies in memory and all that is written. No conditions beyond what each theorem states (what is written stays below a million bytes).
-/
import Derived.Test.YtedlmngfkkpmgaaPackWriter
namespace Go.Proofs.Ytedlmngfkkpmgaa
open Go.ChangeShapes Go.WideShapes Go.ChangeAt Go.RowKit Go.Lib
set_option linter.unusedVariables false
set_option linter.unusedSimpArgs false

theorem str_cells (s : List UInt8) : strCells ⟨s.toArray⟩ = byteCells s := rfl
theorem str_size (s : List UInt8) : (⟨s.toArray⟩ : ByteArray).size = s.length := rfl

set_option maxHeartbeats 800000 in
theorem wtext_any (B K : Nat) (v : Value) (bs s : List UInt8) (w : World) (hW : Wr B K v bs w) (hl : bs.length ≤ 800000) (hs : s.length ≤ 90000) :
    Calls Try.prog 54 #[.pointer (some ⟨K, 0, none⟩), .string ⟨s.toArray⟩] w fun e w' => e = .returned (.tuple #[]) ∧ Wrote B K v bs (encT s) w w' := by
  obtain ⟨i0, hi, hz0, hz1, hz2⟩ := info_parts infoB
  have hN : s.length % 9223372036854775808 = s.length := Nat.mod_eq_of_lt (by omega)
  have H := wnum_any B K v bs s.length (by omega) w hW (by omega)
  rw [hN] at H
  have H := Lib.hid H
  have HLN : Hid ((encN s.length).length ≤ 9) := encN_len (by omega)
  have hw : IntKind.u64.wrap (s.length : Int) = s.length := by rw [IntKind.wrap_u64]; omega
  clear hW hN
  go_enter Try.func54, Try.ntmps54
  go_wp2_with fail
  refine H.out.mono ?_
  rintro e w1 ⟨rfl, v1, k1, k2, k3⟩
  obtain ⟨bs1, hb1⟩ : ∃ b, b = bs ++ encN s.length := ⟨_, rfl⟩
  have hb2 : bs1.length ≤ 800009 := by rw [hb1, List.length_append]; have := HLN.out; omega
  rw [← hb1] at k1
  obtain ⟨p1, c1, rfl⟩ := owns_slice k1.row
  have hc : w1.cell? ⟨K, 0, none⟩ = some (.slice p1 bs1.length c1) := by rw [cell_of_block k1.box]; rfl
  have HB1 := Lib.hid hb1
  clear hb1
  have K1 := Lib.hid k1
  have K2 := Lib.hid k2
  have K3 := Lib.hid k3
  clear k1 k2 k3 H
  go_wp2_with (first
    | (at_builtin; refine wpList_app_str _ rfl (.tmp 13) (.tmp 14) 52 9 rfl B 5 i0 Try.underlying52 Try.underlying9 hi hz0 hz1 hz2 _ _ _ rfl K1.out.row ⟨s.toArray⟩ rfl (by rw [str_size]; omega) K1.out.room ?_))
  intro v' w2 hown hgrow hat
  obtain ⟨p', c', rfl⟩ := owns_slice hown
  obtain ⟨hbox, hw⟩ := K1.out.wrote (cs := s) (Below.refl _ _) hown hgrow hat
  have HWR : Hid (Wrote B K v bs (encT s) w _) := Wr.step K3.out K2.out (by rw [← HB1.out]; exact hw)
  have c2 : w2.cell? ⟨K, 0, none⟩ = some (.slice p1 bs1.length c1) := by rw [cell_of_block hbox]; rfl
  have f2 : w2.frozen? ⟨K, 0, none⟩ = false := frozen_of_block hbox
  clear hown hgrow hat hbox hw hc
  go_wp2
  go_end0
  exact ⟨rfl, HWR.out⟩

theorem splice_all {L cs : List Value} (h : L.length = cs.length) : splice L 0 cs = cs := by simp [splice, h]
theorem infoS : (Try.prog.info? 5).map (·.size) = some 1 := by kernel_rfl

theorem copy_eq (bs : List UInt8) (p : Option Addr) (c g : Nat) (w1 : World) (cur : List Value) (hcs : cur.length = bs.length) (hh : w1.heap[g]? = some (.cells cur.toArray 5 (0, 0)))
    (hp : 0 < (byteCells bs).length → ∃ ad, p = some ad ∧ ∀ j v, (byteCells bs)[j]? = some v → w1.cell? (ad.add j) = some v) (w : World) (hb : Below g w w1) :
    ∃ w2, (Builtin.copy_ #[52, 52] 3 #[.slice (some ⟨g, 0, none⟩) bs.length bs.length, .slice p bs.length c]).run Try.prog w1 = .ok (goInt bs.length) w2 ∧ w2.heap[g]? = some (.cells (byteCells bs).toArray 5 (0, 0)) ∧ Below g w w2 := by
  have hl := byteCells_length bs
  have hm : Nat.min bs.length bs.length = bs.length := Nat.min_self _
  by_cases h0 : bs.length = 0
  · refine ⟨w1, ?_, ?_, hb⟩
    · rw [run_copy_none (P := Try.prog) w1 52 52 3 5 _ p bs.length bs.length bs.length c Try.underlying52 infoS (by rw [hm]; exact h0), h0]; rfl
    · rw [hh, List.eq_nil_of_length_eq_zero (l := cur) (by rw [hcs]; exact h0), List.eq_nil_of_length_eq_zero (l := byteCells bs) (by rw [hl]; exact h0)]
  · obtain ⟨ad, rfl, hc⟩ := hp (by omega)
    have hr := run_copy_row (P := Try.prog) w1 52 52 3 5 g 0 bs.length bs.length ad bs.length c cur.toArray 5 (byteCells bs) Try.underlying52 infoS hh (by rw [hm]; exact hl) hc (by simp; omega) (byteCells_one bs)
    rw [show goInt ((byteCells bs).length : Int) = goInt (bs.length : Int) by rw [hl]] at hr
    refine ⟨_, hr, ?_, below_setRow hb (Nat.le_refl _) _⟩
    rw [setRow_heap w1 g _ _ 5 _ hh]
    simp [hcs, hl]

/-- What copied leaves: the bytes in new memory. -/
def Copied (bs : List UInt8) (w : World) (e : Ending) (w' : World) : Prop := e = .returned (.slice (some ⟨w.heap.size, 0, none⟩) bs.length bs.length) ∧ w'.heap[w.heap.size]? = some (.cells (byteCells bs).toArray 5 (0, 0)) ∧ Below w.heap.size w w'

set_option maxHeartbeats 1600000 in
theorem copied_any (bs : List UInt8) (p : Option Addr) (c : Nat) (w : World) (hR : BRow w p bs) (hl : bs.length ≤ 1000000) :
    Calls Try.prog 35 #[.slice p bs.length c] w (Copied bs w) := by
  obtain ⟨i0, hi, hz0, hz1, hz2⟩ := info_parts infoB
  have HR := Lib.hid hR
  clear hR
  go_enter Try.func35, Try.ntmps35
  go_wp2_with (first
    | (at_make; refine wpList_make_full _ rfl _ _ 52 rfl w.heap.size 5 i0 (.int .u8 0) 1 Try.underlying52 hi hz0 hz1 _ _ _ _ bs.length rfl rfl rfl rfl (by rw [hz2]; omega) (by unfold maxLen; omega) (Nat.le_refl _) ?_))
  intro w1 hown hgrow
  obtain ⟨cur, hh, hcs⟩ : ∃ cur : List Value, w1.heap[w.heap.size]? = some (.cells cur.toArray 5 (0, 0)) ∧ cur.length = bs.length := by
    rcases hown.2 with ⟨h, _⟩ | ⟨g, cap, cur, h, _, hg, _, _, h3, _⟩
    · cases h
    · cases h
      exact ⟨cur.toList, by simpa using hg, by simpa using h3⟩
  have hb : Below w.heap.size w w1 := (Below.refl _ _).grown hgrow (Nat.le_refl _) (by intro k e; cases e)
  have HCP : Hid (0 < (byteCells bs).length → ∃ ad, p = some ad ∧ ∀ j v, (byteCells bs)[j]? = some v → w1.cell? (ad.add j) = some v) := fun h0 => by
    have hr1 := HR.out.below hb
    rw [byteCells_length] at h0
    obtain ⟨b, o, e, _⟩ := hr1 0 h0
    exact ⟨_, e, brow_news (e ▸ hr1)⟩
  have HH := Lib.hid hh
  have HB := Lib.hid hb
  obtain ⟨w2, hcp, hg2, hb2⟩ := copy_eq bs p c w.heap.size w1 cur hcs HH.out HCP.out w HB.out
  have HG2 := Lib.hid hg2
  have HB2 := Lib.hid hb2
  clear hown hgrow hh hb HR HCP HH HB hg2 hb2
  go_wp2
  go_ret
  exact ⟨rfl, HG2.out, HB2.out⟩

set_option maxHeartbeats 800000 in
theorem wbytes_any (B K : Nat) (v : Value) (bs : List UInt8) (w : World) (hW : Wr B K v bs w) (hl : bs.length ≤ 1000000) :
    Calls Try.prog 17 #[.pointer (some ⟨K, 0, none⟩)] w (Copied bs w) := by
  obtain ⟨p1, c1, rfl, _, hr, _⟩ := brow_owns hW.row
  have hc : w.cell? ⟨K, 0, none⟩ = some (.slice p1 bs.length c1) := by rw [cell_of_block hW.box]; rfl
  have H := Lib.hid (copied_any bs p1 c1 w hr hl)
  clear hW hr
  go_enter Try.func17, Try.ntmps17
  go_wp2_with fail
  refine H.out.mono ?_
  rintro e w1 ⟨rfl, h1, h2⟩
  have H1 := Lib.hid h1
  have H2 := Lib.hid h2
  clear h1 h2
  go_wp2
  go_ret
  exact ⟨rfl, H1.out, H2.out⟩

end Go.Proofs.Ytedlmngfkkpmgaa
