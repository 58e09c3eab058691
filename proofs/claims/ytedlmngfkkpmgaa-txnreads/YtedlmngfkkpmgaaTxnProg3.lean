
/-
  What the program's Put of layer 9 leaves. No conditions beyond what each theorem states.
-/
import Derived.Test.YtedlmngfkkpmgaaTxnSpec
import Derived.Test.YtedlmngfkkpmgaaTxnBytes1
import Derived.Test.YtedlmngfkkpmgaaOpProg4
namespace Go.Proofs.Ytedlmngfkkpmgaa
open Go.ChangeShapes Go.WideShapes Go.ChangeAt Go.RowKit Go.Lib
set_option linter.unusedVariables false
set_option linter.unusedSimpArgs false

theorem WBx.below {B K : Nat} {v : Value} {bs : List UInt8} {X : Nat} {o : Obj} {cs : List UInt8} {w wr W : World} (h : WBx B K v bs X o cs w wr) (hb : Below wr.heap.size wr W) : WBx B K v bs X o cs w W := by
  obtain ⟨hXK, hX, v', hXv, hW, hv, hk⟩ := h
  refine ⟨hXK, by rw [hb.block _ (lt_of_block hX)]; exact hX, v', hXv, hW.below hb, hv, hk.trans (T := fun _ => False) (Kept.ofBelow hb) (fun _ _ f => f.elim)⟩
/-- A row below the writer's memory stays. -/
theorem WBx.row {α : Type} {L : Lay α} {B K : Nat} {v : Value} {bs : List UInt8} {X : Nat} {o : Obj} {cs : List UInt8} {w wr : World} {p : Option Addr} {l : List α} (h : WBx B K v bs X o cs w wr) (hW : Wr B K v bs w) (hR : GRow L w p l) (hq : 0 < l.length → ∀ q, p = some q → q.block < B) : GRow L wr p l := by
  rcases Nat.eq_zero_or_pos l.length with e | e
  · rw [List.eq_nil_of_length_eq_zero e]; exact GRow.nil _ _ _
  · obtain ⟨_, _, v', _, _, _, hk⟩ := h
    exact hR.kept hk (fun q eq => by
      have hqB := hq e q eq
      have hbK := hW.base
      rintro (e' | e')
      · omega
      · have := (hW.row.lt _ e').1; omega)
set_option maxHeartbeats 6400000 in
set_option maxRecDepth 20000 in
theorem putT_spec : PutTSpec := by
  intro B K v bs t xs p c w hW H hB hs h0 hbs
  have hlen : t.ops.length = xs.length := by rw [H.ops, List.length_map]
  obtain ⟨g1, g2, g3, g4, g5, g6, g7, g8, g9⟩ := fitT_ok h0
  have HOK := fitOs_ok t.ops (-1) g9
  have HFO : ∀ k, k < xs.length → fitO (xs.getD k ov0).1 = 0 := fun k hk => (HOK _ (by rw [H.ops]; exact List.mem_map.2 ⟨_, getD_mem ov0 hk, rfl⟩)).1
  have HW := Lib.hid hW
  have HPO : Hid (∀ k, k < xs.length → ∀ (X : Nat) (o : Obj) (cs : List UInt8) (W : World), cs.length ≤ 40000 → WBx B K v bs X o cs w W → Calls Try.prog 34 #[ov (xs.getD k ov0).1 (xs.getD k ov0).2.1 (xs.getD k ov0).2.2, .pointer (some ⟨K, 0, none⟩)] W fun e w' => e = .returned (.tuple #[]) ∧ WBx B K v bs X o (cs ++ bytesO (xs.getD k ov0).1) w w') := fun k hk X o cs W hcs h => h.step fun v' hW' => by
    have hI := H.row.at hk
    have hqx := hB.2 _ (getD_mem ov0 hk)
    exact putO_spec B K v' (bs ++ cs) _ _ _ W hW' ⟨hI.fit, h.row HW.out hI.row hqx, hI.cap, hI.nil⟩ hqx (hs.at hk).1 (hs.at hk).2 (HFO k hk) (by rw [List.length_append]; omega)
  have HRO : Hid (∀ (X : Nat) (o : Obj) (cs : List UInt8) (W : World), WBx B K v bs X o cs w W → GRow layO W p xs) := fun X o cs W h => h.row HW.out H.row.row hB.1
  have HTK : Hid (∀ k, k < xs.length → (t.ops.take (k + 1)).flatMap bytesO = (t.ops.take k).flatMap bytesO ++ bytesO (xs.getD k ov0).1) := fun k hk => by
    rw [flatO_take (by omega), H.ops, getD_map1 xs hk]
  have HLE : Hid (∀ k, ((t.ops.take k).flatMap bytesO).length ≤ k * 2000) := flatO_len fun o ho => by
    rw [H.ops] at ho
    obtain ⟨x, hx, rfl⟩ := List.mem_map.1 ho
    exact (bytesO_range (H.row.each x hx).fit (HOK _ (by rw [H.ops]; exact List.mem_map.2 ⟨x, hx, rfl⟩)).1 (hs x hx).2).2
  have hfi := H.fit
  clear H HOK HFO hs h0 g9 hW hB
  unfold FitTm at hfi
  obtain ⟨f1, f2, f3, f4, f5, f6, f7, f8, -⟩ := hfi
  unfold tv bytesT
  obtain ⟨r, seq, clock, user, ops⟩ := t
  simp only at *
  obtain ⟨R, rfl⟩ : ∃ N : Nat, r = (N : Int) := ⟨r.toNat, by omega⟩
  obtain ⟨S, rfl⟩ : ∃ N : Nat, seq = (N : Int) := ⟨seq.toNat, by omega⟩
  obtain ⟨C, rfl⟩ : ∃ N : Nat, clock = (N : Int) := ⟨clock.toNat, by omega⟩
  obtain ⟨U, rfl⟩ : ∃ N : Nat, user = (N : Int) := ⟨user.toNat, by omega⟩
  simp only [Int.toNat_natCast]
  rw [hlen]
  generalize hXL : xs.length = L at *
  have hLL := hlen
  have eR := encN_len (n := R) (by omega)
  have eS := encN_len (n := S) (by omega)
  have eC := encN_len (n := C) (by omega)
  have eU := encN_len (n := U) (by omega)
  have eL := encN_len (n := L) (by omega)
  have kR : IntKind.u64.wrap (R : Int) = (R : Int) := by rw [IntKind.wrap_u64]; omega
  have kS : IntKind.u64.wrap (S : Int) = (S : Int) := by rw [IntKind.wrap_u64]; omega
  have kU : IntKind.u64.wrap (U : Int) = (U : Int) := by rw [IntKind.wrap_u64]; omega
  have kL : IntKind.u64.wrap (L : Int) = (L : Int) := by rw [IntKind.wrap_u64]; omega
  have H0 := Lib.hid (fun (o : Obj) => wnum_box R (by omega) (WBx.start HW.out o) (by omega) (by simp))
  simp only [List.nil_append] at H0
  go_enter Try.func16, Try.ntmps16
  go_wp2_with fail
  refine (H0.out _).mono ?_
  rintro e w1 ⟨rfl, hs1⟩
  have S1 := Lib.hid hs1
  obtain ⟨d0, d1, d2, d3, d4⟩ := five_cells hs1.2.1
  clear hs1
  have C2 := Lib.hid (wnum_box S (by omega) S1.out (by omega) (by first | omega | (simp only [List.length_append]; omega)))
  go_wp2_with fail
  refine C2.out.mono ?_
  rintro e w2 ⟨rfl, hs2⟩
  have S2 := Lib.hid hs2
  obtain ⟨d0, d1, d2, d3, d4⟩ := five_cells hs2.2.1
  clear hs2
  have C3 := Lib.hid (wnum_box C (by omega) S2.out (by omega) (by first | omega | (simp only [List.length_append]; omega)))
  go_wp2_with fail
  refine C3.out.mono ?_
  rintro e w3 ⟨rfl, hs3⟩
  have S3 := Lib.hid hs3
  obtain ⟨d0, d1, d2, d3, d4⟩ := five_cells hs3.2.1
  clear hs3
  have C4 := Lib.hid (wnum_box U (by omega) S3.out (by omega) (by first | omega | (simp only [List.length_append]; omega)))
  go_wp2_with fail
  refine C4.out.mono ?_
  rintro e w4 ⟨rfl, hs4⟩
  have S4 := Lib.hid hs4
  obtain ⟨d0, d1, d2, d3, d4⟩ := five_cells hs4.2.1
  clear hs4
  have C5 := Lib.hid (wnum_box L (by omega) S4.out (by omega) (by first | omega | (simp only [List.length_append]; omega)))
  go_wp2_with fail
  refine C5.out.mono ?_
  rintro e w5 ⟨rfl, hs5⟩
  have S5 := Lib.hid hs5
  obtain ⟨d0, d1, d2, d3, d4⟩ := five_cells hs5.2.1
  clear hs5
  have hO5 : (encN R ++ encN S ++ encN C ++ encN U ++ encN L).length ≤ 45 := by simp only [List.length_append]; omega
  generalize hO : encN R ++ encN S ++ encN C ++ encN U ++ encN L = O5 at S5 hO5
  go_wp2
  go_loopg [34] L (fun g i wr => ∃ k : Nat, k ≤ L ∧ L - k ≤ g ∧ i = .int .i64 (k : Int) ∧ WBx B K v bs w.heap.size (.cells #[.int .u16 (R : Int), .int .u32 (S : Int), .int .u64 (C : Int), .int .i64 (U : Int), .slice p L c] 27 (0, 0)) (O5 ++ (ops.take k).flatMap bytesO) w wr)
  case atStart => exact ⟨0, Nat.zero_le _, by omega, rfl, by simpa using S5.out⟩
  case round =>
    clear S1 S2 S3 S4 S5 C2 C3 C4 C5 H0
    obtain ⟨k, hk, hg, rfl, hS⟩ := hrel
    have HS := Lib.hid hS
    clear hS d0 d1 d2 d3 d4
    have hlk := HLE.out k
    by_cases hlt : k < L
    · have hkl : (k : Int) < (L : Int) := by omega
      have HPK := Lib.hid (fun (A : Obj) => HPO.out k hlt _ _ _ (wr.alloc A) (by rw [List.length_append]; omega) (HS.out.below (below_alloc (Below.refl _ _) A)))
      have HTKk := Lib.hid (HTK.out k hlt)
      obtain ⟨b, o, rfl, c0, c1, c2, c3, c4, c5, c6⟩ := orow_at (HRO.out _ _ _ _ HS.out) (by omega : k < xs.length)
      generalize xs.getD k ov0 = x at c0 c1 c2 c3 c4 c5 c6 HPK HTKk
      obtain ⟨om, px, cx⟩ := x
      simp only at c0 c1 c2 c3 c4 c5 c6 HPK HTKk
      unfold ov at HPK
      generalize (⟨om.text.toArray⟩ : ByteArray) = bt at c4 HPK
      go_wp2_with fail
      refine (HPK.out _).mono ?_
      rintro e w6 ⟨rfl, hs6⟩
      have HS6 : Hid (WBx B K v bs w.heap.size (.cells #[.int .u16 (R : Int), .int .u32 (S : Int), .int .u64 (C : Int), .int .i64 (U : Int), .slice (some ⟨b, o, none⟩) L c] 27 (0, 0)) (O5 ++ (ops.take (k + 1)).flatMap bytesO) w w6) := by
        have := hs6
        rwa [List.append_assoc, ← HTKk.out] at this
      clear hs6 c0 c1 c2 c3 c4 c5 c6
      go_wp2
      go_roundg (L - (k + 1))
      case measure => omega
      case rel => exact ⟨k + 1, by omega, Nat.le_refl _, by go_num, HS6.out⟩
    · have : k = L := by omega
      subst this
      have hkl : ¬ (k : Int) < (k : Int) := by omega
      have HF : Hid (WBx B K v bs w.heap.size (.cells #[.int .u16 (R : Int), .int .u32 (S : Int), .int .u64 (C : Int), .int .i64 (U : Int), .slice p k c] 27 (0, 0)) (O5 ++ ops.flatMap bytesO) w wr) := by have := HS.out; rwa [← hLL, List.take_length, hLL] at this
      clear HS
      go_wp2
      go_end0
      subst hO
      refine ⟨rfl, ?_⟩
      have := HF.out.wrote
      simpa [List.append_assoc] using this
end Go.Proofs.Ytedlmngfkkpmgaa
