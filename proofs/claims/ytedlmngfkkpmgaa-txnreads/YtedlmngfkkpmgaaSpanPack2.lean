
/-
  What the document's Bytes and Read of layer 7 hand back. No conditions beyond what each theorem states.
-/
import Derived.Test.YtedlmngfkkpmgaaSpanPack
namespace Go.Proofs.Ytedlmngfkkpmgaa
open Go.ChangeShapes Go.WideShapes Go.ChangeAt Go.RowKit Go.Lib
set_option linter.unusedVariables false
set_option linter.unusedSimpArgs false

/-- Bytes that the call has made so far. -/
def OB (w : World) (v : Value) (bs : List UInt8) (wr : World) : Prop := wr.ownsRow w.heap.size 5 1 v bs.length (byteCells bs) ∧ Below w.heap.size w wr
theorem OB.below {w wr w1 : World} {v : Value} {bs : List UInt8} (h : OB w v bs wr) (hb : Below wr.heap.size wr w1) : OB w v bs w1 :=
  ⟨h.1.kept (row := none) ⟨hb.os, hb.tape, hb.output, hb.size, fun k hk _ => hb.block k hk⟩ (by cases v.ownBlock <;> simp), below_step h.2 hb⟩
theorem OB.onto {w wr w1 : World} {v v' : Value} {bs cs : List UInt8} (h : OB w v bs wr) (hown : w1.ownsRow w.heap.size 5 1 v' (bs.length + cs.length) (byteCells bs ++ byteCells cs)) (hg : wr.grownBy w1 v.ownBlock) : OB w v' (bs ++ cs) w1 :=
  ⟨by rw [byteCells_append, List.length_append]; exact hown, h.2.grown hg h.2.size (fun j hj => (h.1.lt j hj).1)⟩
theorem flatB_take {l : List Sp} {k : Nat} (h : k < l.length) : (l.take (k + 1)).flatMap bytesS = (l.take k).flatMap bytesS ++ bytesS (l.getD k s0) := by
  rw [take_getD s0 h, List.flatMap_append]; simp
theorem num_fresh (n : Nat) (hn : n < 9223372036854775808) (w : World) : Calls Try.prog 36 #[.int .u64 (n : Int)] w (Fresh (encN n) w) := by
  have := refnum_any n (by omega) w
  rwa [Nat.mod_eq_of_lt hn] at this

set_option maxHeartbeats 6400000 in
set_option maxRecDepth 20000 in
theorem refbytes_any (l : List Sp) (p : Option Addr) (c : Nat) (w : World) (hR : GRow layS w p l) (hr : RightS l) (hf : FitSs l) (hl : l.length ≤ 1024) :
    Calls Try.prog 59 #[.slice p l.length c] w (Fresh (bytesL l) w) := by
  obtain ⟨i0, hi, hz0, hz1, hz2⟩ := info_parts infoB
  have HR := Lib.hid hR
  have HRT := Lib.hid hr
  have HFT := Lib.hid hf
  have H0 := Lib.hid (num_fresh l.length (by omega) w)
  have HBL : Hid (bytesL l = encN l.length ++ l.flatMap bytesS) := rfl
  have HLN : Hid (∀ k, k ≤ l.length → (encN l.length ++ (l.take k).flatMap bytesS).length ≤ 9 + 27 * k) := fun k hk => by
    have h1 := encN_len (n := l.length) (by omega)
    have h2 : ((l.take k).flatMap bytesS).length ≤ 27 * (l.take k).length := by
      have : ∀ l : List Sp, FitSs l → (l.flatMap bytesS).length ≤ 27 * l.length := by
        intro l
        induction l with
        | nil => intro _; simp
        | cons s l ih =>
          intro hf
          have := ih (fun x hx => hf x (by simp [hx]))
          have := bytesS_len (hf s (by simp))
          rw [List.flatMap_cons, List.length_append, List.length_cons]; omega
      exact this _ (fun x hx => HFT.out x (List.mem_of_mem_take hx))
    rw [List.length_append]
    rw [List.length_take] at h2
    omega
  clear hR hr hf
  go_enter Try.func59, Try.ntmps59
  go_wp2_with fail
  refine H0.out.mono ?_
  rintro e w1 ⟨v1, rfl, ho1, hb1⟩
  have HO1 : Hid (OB w v1 (encN l.length ++ (l.take 0).flatMap bytesS) w1) := by
    show OB w v1 (encN l.length ++ []) w1
    rw [List.append_nil]; exact ⟨ho1, hb1⟩
  clear ho1 hb1 H0
  go_wp2_with fail
  go_loopg [3, 4] l.length (fun g v i wr => ∃ k : Nat, k ≤ l.length ∧ l.length - k ≤ g ∧ i = .int .i64 (k : Int) ∧ OB w v (encN l.length ++ (l.take k).flatMap bytesS) wr)
  case atStart => exact ⟨0, Nat.zero_le _, by omega, rfl, HO1.out⟩
  case round =>
    clear HO1
    obtain ⟨k, hk, hg, rfl, hO⟩ := hrel
    have HO := Lib.hid hO
    clear hO
    by_cases hlt : k < l.length
    · obtain ⟨b, o, rfl, c0', c1', c2'⟩ := srow_at HR.out hlt
      have hfs := HFT.out.at hlt
      have hrs := rightS_iff.1 (HRT.out.at hlt)
      have hln := HLN.out k hk
      have HNX : Hid (encN l.length ++ (l.take (k + 1)).flatMap bytesS = (encN l.length ++ (l.take k).flatMap bytesS) ++ bytesS (l.getD k s0)) := by
        show _ = _
        rw [flatB_take hlt, List.append_assoc]
      generalize encN l.length ++ (l.take k).flatMap bytesS = O0 at HO HNX hln
      generalize l.getD k s0 = s at *
      obtain ⟨r, n, m⟩ := s
      unfold FitS at hfs
      simp only at c0' c1' c2' hfs hrs
      obtain ⟨R, rfl⟩ : ∃ R : Nat, r = (R : Int) := ⟨r.toNat, by omega⟩
      obtain ⟨N, rfl⟩ : ∃ N : Nat, n = (N : Int) := ⟨n.toNat, by omega⟩
      obtain ⟨M, rfl⟩ : ∃ M : Nat, m = (M : Int) := ⟨m.toNat, by omega⟩
      have HBS : Hid (bytesS ((R : Int), (N : Int), (M : Int)) = encN R ++ encN N ++ encN M) := by show _ = _; unfold bytesS; simp
      have HNX : Hid (encN l.length ++ (l.take (k + 1)).flatMap bytesS = ((O0 ++ encN R) ++ encN N) ++ encN M) := by show _ = _; rw [HNX.out, HBS.out]; simp only [List.append_assoc]
      have HN := Lib.hid num_fresh
      have hR1 := encN_len (n := R) (by omega)
      have hN1 := encN_len (n := N) (by omega)
      have hM1 := encN_len (n := M) (by omega)
      have HCells : Hid (∀ W, Below w.heap.size w W → W.cell? ⟨b, o + k * 3, none⟩ = some (.int .u16 (R : Int)) ∧ W.cell? ⟨b, o + k * 3 + 1, none⟩ = some (.int .u32 (N : Int)) ∧ W.cell? ⟨b, o + k * 3 + 2, none⟩ = some (.int .i64 (M : Int))) := fun W hb => ⟨cellU c0' hb, cellU c1' hb, cellU c2' hb⟩
      clear c0' c1' c2' HBS
      -- R
      obtain ⟨c0, -, -⟩ := HCells.out _ HO.out.2
      go_wp2_with fail
      refine (HN.out R (by omega) _).mono ?_
      rintro e w2 ⟨v2, rfl, ho2, hb2⟩
      have HO2 : Hid (OB w u3 O0 w2) := HO.out.below hb2
      obtain ⟨g2, d2, rfl, hr2⟩ := owns_some ho2 (encN_pos R)
      have HR2 := Lib.hid hr2
      clear ho2 hb2 hr2 c0
      go_wp2_with (first
        | (at_builtin; refine wpList_append_own _ rfl (.tmp 15) (.tmp 23) 52 rfl w.heap.size 5 i0 (.int .u8 0) 1 1 Try.underlying52 hi hz0 hz1 hz2 rfl (by decide) _ O0.length (byteCells O0) rfl HO2.out.1 ⟨g2, 0, none⟩ (encN R).length d2 (byteCells (encN R)) rfl (by rw [byteCells_length, Nat.mul_one]) (brow_news HR2.out) (byteCells_one _) (by unfold maxLen; omega) (by omega) HO2.out.2.size ?_))
      intro v3 w3 hown hgrow _
      have HO3 : Hid (OB w v3 (O0 ++ encN R) w3) := HO2.out.onto hown hgrow
      have hl3 : (O0 ++ encN R).length ≤ 9 + 27 * k + 9 := by rw [List.length_append]; omega
      clear hown hgrow HO2 HR2
      -- N
      obtain ⟨-, c1, -⟩ := HCells.out _ HO3.out.2
      go_wp2_with fail
      refine (HN.out N (by omega) _).mono ?_
      rintro e w4 ⟨v4, rfl, ho4, hb4⟩
      have HO4 : Hid (OB w v3 (O0 ++ encN R) w4) := HO3.out.below hb4
      obtain ⟨g4, d4, rfl, hr4⟩ := owns_some ho4 (encN_pos N)
      have HR4 := Lib.hid hr4
      clear ho4 hb4 hr4 c1 HO3
      generalize O0 ++ encN R = O1 at *
      go_wp2_with (first
        | (at_builtin; refine wpList_append_own _ rfl (.tmp 25) (.tmp 33) 52 rfl w.heap.size 5 i0 (.int .u8 0) 1 1 Try.underlying52 hi hz0 hz1 hz2 rfl (by decide) _ O1.length (byteCells O1) rfl HO4.out.1 ⟨g4, 0, none⟩ (encN N).length d4 (byteCells (encN N)) rfl (by rw [byteCells_length, Nat.mul_one]) (brow_news HR4.out) (byteCells_one _) (by unfold maxLen; omega) (by omega) HO4.out.2.size ?_))
      intro v5 w5 hown hgrow _
      have HO5 : Hid (OB w v5 (O1 ++ encN N) w5) := HO4.out.onto hown hgrow
      have hl5 : (O1 ++ encN N).length ≤ 9 + 27 * k + 18 := by rw [List.length_append]; omega
      clear hown hgrow HO4 HR4
      -- Len
      obtain ⟨-, -, c2⟩ := HCells.out _ HO5.out.2
      go_wp2_with fail
      refine (HN.out M (by omega) _).mono ?_
      rintro e w6 ⟨v6, rfl, ho6, hb6⟩
      have HO6 : Hid (OB w v5 (O1 ++ encN N) w6) := HO5.out.below hb6
      obtain ⟨g6, d6, rfl, hr6⟩ := owns_some ho6 (encN_pos M)
      have HR6 := Lib.hid hr6
      clear ho6 hb6 hr6 c2 HO5
      generalize O1 ++ encN N = O2 at *
      go_wp2_with (first
        | (at_builtin; refine wpList_append_own _ rfl (.tmp 35) (.tmp 42) 52 rfl w.heap.size 5 i0 (.int .u8 0) 1 1 Try.underlying52 hi hz0 hz1 hz2 rfl (by decide) _ O2.length (byteCells O2) rfl HO6.out.1 ⟨g6, 0, none⟩ (encN M).length d6 (byteCells (encN M)) rfl (by rw [byteCells_length, Nat.mul_one]) (brow_news HR6.out) (byteCells_one _) (by unfold maxLen; omega) (by omega) HO6.out.2.size ?_))
      intro v7 w7 hown hgrow _
      have HO7 : Hid (OB w v7 (O2 ++ encN M) w7) := HO6.out.onto hown hgrow
      clear hown hgrow HO6 HR6
      go_wp2
      go_roundg (l.length - (k + 1))
      case measure => omega
      case rel => exact ⟨k + 1, by omega, Nat.le_refl _, by go_num, by rw [HNX.out]; exact HO7.out⟩
    · have : k = l.length := by omega
      subst this
      rw [List.take_length] at HO
      go_wp2
      go_ret
      exact ⟨_, rfl, HO.out.1, HO.out.2⟩

end Go.Proofs.Ytedlmngfkkpmgaa
