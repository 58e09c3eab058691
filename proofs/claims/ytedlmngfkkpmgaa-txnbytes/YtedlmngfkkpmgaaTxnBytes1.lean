
/-
  What the document's Bytes of layer 9 hands back, of a transaction that fits. No conditions beyond what each theorem states.
-/
import Derived.Test.YtedlmngfkkpmgaaTxnRef1
import Derived.Test.YtedlmngfkkpmgaaOpBytes2
namespace Go.Proofs.Ytedlmngfkkpmgaa
open Go.ChangeShapes Go.WideShapes Go.ChangeAt Go.RowKit Go.Lib
set_option linter.unusedVariables false
set_option linter.unusedSimpArgs false

theorem bytesO_range {o : Om} (hf : FitOm o) (h : fitO o = 0) (hl : o.spans.length ≤ 60) : 1 ≤ (bytesO o).length ∧ (bytesO o).length ≤ 2000 := by
  have hc := fitO_cases h
  unfold FitOm at hf
  obtain ⟨f1, f2, f3, f4, f5, f6, f7, f8, f9, f10, f11⟩ := hf
  have e1 := encN_len (n := o.kind.toNat) (by omega)
  have e2 := encN_len (n := o.r.toNat) (by omega)
  have e3 := encN_len (n := o.n.toNat) (by omega)
  have e4 := encN_len (n := o.num.toNat) (by omega)
  have e5 := encN_len (n := o.seq.toNat) (by omega)
  have e6 := bytesL_len f9 (by omega)
  have e0 := encN_pos o.kind.toNat
  have e7 : o.kind = 1 → (encT o.text).length ≤ 73 := fun hk => by
    have ht : o.text.length ≤ 64 := by
      rcases hc with c | c | c | c
      · exact c.2.2.2.2.2.1
      · have := c.1; omega
      · have := c.1; omega
      · have := c.1; omega
    unfold encT
    rw [List.length_append]
    have := encN_len (n := o.text.length) (by omega)
    omega
  unfold bytesO
  simp only [List.length_append]
  by_cases h1 : o.kind = 1
  · have := e7 h1
    simp only [if_pos h1, if_pos (show o.kind = 1 ∨ o.kind = 3 from Or.inl h1), List.length_append]
    omega
  · simp only [if_neg h1]
    by_cases h3 : o.kind = 1 ∨ o.kind = 3
    · simp only [if_pos h3, List.length_append]
      split <;> omega
    · simp only [if_neg h3, List.length_nil]
      split <;> omega
theorem flatO_take {l : List Om} {k : Nat} (h : k < l.length) : (l.take (k + 1)).flatMap bytesO = (l.take k).flatMap bytesO ++ bytesO (l.getD k o0) := by
  rw [take_getD o0 h]; simp
theorem flatO_len {l : List Om} (h : ∀ o ∈ l, (bytesO o).length ≤ 2000) : ∀ k, ((l.take k).flatMap bytesO).length ≤ k * 2000 := by
  intro k
  induction k with
  | zero => simp
  | succ k ih =>
    by_cases hk : k < l.length
    · rw [flatO_take hk, List.length_append]
      have := h _ (getD_mem o0 hk)
      omega
    · rw [List.take_of_length_le (by omega)]
      rw [List.take_of_length_le (by omega)] at ih
      exact Nat.le_trans ih (Nat.mul_le_mul_right _ (Nat.le_succ k))
set_option maxHeartbeats 6400000 in
set_option maxRecDepth 20000 in
theorem refbytesT_any (t : Tm) (xs : List OV) (p : Option Addr) (c : Nat) (w : World) (H : InT t xs p c w) (hs : SmallX xs) (h0 : fitT t = 0) :
    Calls Try.prog 19 #[tv t p c] w (Fresh (bytesT t) w) := by
  obtain ⟨i0, hi, hz0, hz1, hz2⟩ := info_parts infoB
  have hlen : t.ops.length = xs.length := by rw [H.ops, List.length_map]
  obtain ⟨g1, g2, g3, g4, g5, g6, g7, g8, g9⟩ := fitT_ok h0
  have HOK := fitOs_ok t.ops (-1) g9
  have hfi := H.fit
  have HFO : ∀ k, k < xs.length → fitO (xs.getD k ov0).1 = 0 := fun k hk => (HOK _ (by rw [H.ops]; exact List.mem_map.2 ⟨_, getD_mem ov0 hk, rfl⟩)).1
  have HBO : Hid (∀ k, k < xs.length → ∀ W, Below w.heap.size w W → Calls Try.prog 37 #[ov (xs.getD k ov0).1 (xs.getD k ov0).2.1 (xs.getD k ov0).2.2] W (Fresh (bytesO (xs.getD k ov0).1) W)) := fun k hk W hb => refbytes8_any _ _ _ W ((H.row.at hk).below hb) (hs.at hk).2 (HFO k hk)
  have HBL : Hid (∀ k, k < xs.length → 1 ≤ (bytesO (xs.getD k ov0).1).length ∧ (bytesO (xs.getD k ov0).1).length ≤ 2000) := fun k hk => bytesO_range (H.row.at hk).fit (HFO k hk) (hs.at hk).2
  have HLE : Hid (∀ k, ((t.ops.take k).flatMap bytesO).length ≤ k * 2000) := flatO_len fun o ho => by
    rw [H.ops] at ho
    obtain ⟨x, hx, rfl⟩ := List.mem_map.1 ho
    exact (bytesO_range (H.row.each x hx).fit (HOK _ (by rw [H.ops]; exact List.mem_map.2 ⟨x, hx, rfl⟩)).1 (hs x hx).2).2
  have HTK : Hid (∀ k, k < xs.length → (t.ops.take (k + 1)).flatMap bytesO = (t.ops.take k).flatMap bytesO ++ bytesO (xs.getD k ov0).1) := fun k hk => by
    rw [flatO_take (by omega), H.ops, getD_map1 xs hk]
  have HR := Lib.hid H.row.row
  clear H HOK HFO hs h0 g9
  unfold FitTm at hfi
  obtain ⟨f1, f2, f3, f4, f5, f6, f7, f8, -⟩ := hfi
  unfold tv bytesT
  obtain ⟨r, seq, clock, user, ops⟩ := t
  simp only at *
  obtain ⟨R, rfl⟩ := nat_of f1
  obtain ⟨S, rfl⟩ := nat_of f3
  obtain ⟨C, rfl⟩ := nat_of f5
  obtain ⟨U, rfl⟩ := nat_of g5
  simp only [Int.toNat_natCast]
  rw [hlen]
  generalize hXL : xs.length = L at *
  have hLL := hlen
  have HC := Lib.hid (fun (W : World) (hb : Below (w.alloc (.cells #[.int .u16 (R : Int), .int .u32 (S : Int), .int .u64 (C : Int), .int .i64 (U : Int), .slice p L c] 32)).heap.size (w.alloc (.cells #[.int .u16 (R : Int), .int .u32 (S : Int), .int .u64 (C : Int), .int .i64 (U : Int), .slice p L c] 32)) W) => five_cells (kept_box (heap_alloc_new w _) hb))
  have HB0 : Hid (Below w.heap.size w (w.alloc (.cells #[.int .u16 (R : Int), .int .u32 (S : Int), .int .u64 (C : Int), .int .i64 (U : Int), .slice p L c] 32))) := below_alloc (Below.refl _ _) _
  have HN := Lib.hid num_fresh
  have eR := encN_len (n := R) (by omega)
  have eS := encN_len (n := S) (by omega)
  have eC := encN_len (n := C) (by omega)
  have eU := encN_len (n := U) (by omega)
  have eL := encN_len (n := L) (by omega)
  have kR : IntKind.u64.wrap (R : Int) = (R : Int) := by rw [IntKind.wrap_u64]; omega
  have kS : IntKind.u64.wrap (S : Int) = (S : Int) := by rw [IntKind.wrap_u64]; omega
  have kU : IntKind.u64.wrap (U : Int) = (U : Int) := by rw [IntKind.wrap_u64]; omega
  have kL : IntKind.u64.wrap (L : Int) = (L : Int) := by rw [IntKind.wrap_u64]; omega
  go_enter Try.func19, Try.ntmps19
  go_wp2_with fail
  generalize w.alloc (.cells #[.int .u16 (R : Int), .int .u32 (S : Int), .int .u64 (C : Int), .int .i64 (U : Int), .slice p L c] 32) = w0 at HC HB0 ⊢
  refine (HN.out R (by omega) _).mono ?_
  rintro e wz ⟨v0, rfl, ho, hb⟩
  have H0 : Hid (OB w0 v0 (encN R) wz) := ⟨ho, hb⟩
  clear ho hb
  obtain ⟨x0, x1, x2, x3, x4⟩ := HC.out _ H0.out.2
  generalize hO0 : encN R = O0 at H0 eR
  go_wp2_with fail
  refine (HN.out S (by omega) _).mono ?_
  rintro e wa1 ⟨va1, rfl, ho, hb⟩
  have HA1 : Hid (OB w0 v0 O0 wa1) := H0.out.below hb
  obtain ⟨g1', d1, rfl, hr⟩ := owns_some ho (encN_pos S)
  have HRR1 := Lib.hid hr
  clear ho hb hr H0 x0 x1 x2 x3 x4
  obtain ⟨x0, x1, x2, x3, x4⟩ := HC.out _ HA1.out.2
  go_wp2_with (first
    | (at_builtin; refine wpList_append_own _ rfl (.tmp 9) (.tmp 13) 52 rfl w0.heap.size 5 i0 (.int .u8 0) 1 1 Try.underlying52 hi hz0 hz1 hz2 rfl (by decide) _ O0.length (byteCells O0) rfl HA1.out.1 ⟨g1', 0, none⟩ (encN S).length d1 (byteCells (encN S)) rfl (by rw [byteCells_length, Nat.mul_one]) (brow_news HRR1.out) (byteCells_one _) (by unfold maxLen; omega) (by omega) HA1.out.2.size ?_))
  intro v1 w1 hown hgrow _
  have H1 : Hid (OB w0 v1 (O0 ++ (encN S)) w1) := HA1.out.onto hown hgrow
  have hl1 : (O0 ++ (encN S)).length ≤ 40 := by rw [List.length_append]; omega
  clear hown hgrow HA1 HRR1 x0 x1 x2 x3 x4
  obtain ⟨x0, x1, x2, x3, x4⟩ := HC.out _ H1.out.2
  generalize hO1 : O0 ++ (encN S) = O1 at H1 hl1
  go_wp2_with fail
  refine (HN.out C (by omega) _).mono ?_
  rintro e wa2 ⟨va2, rfl, ho, hb⟩
  have HA2 : Hid (OB w0 v1 O1 wa2) := H1.out.below hb
  obtain ⟨g2', d2, rfl, hr⟩ := owns_some ho (encN_pos C)
  have HRR2 := Lib.hid hr
  clear ho hb hr H1 x0 x1 x2 x3 x4
  obtain ⟨x0, x1, x2, x3, x4⟩ := HC.out _ HA2.out.2
  go_wp2_with (first
    | (at_builtin; refine wpList_append_own _ rfl (.tmp 15) (.tmp 18) 52 rfl w0.heap.size 5 i0 (.int .u8 0) 1 1 Try.underlying52 hi hz0 hz1 hz2 rfl (by decide) _ O1.length (byteCells O1) rfl HA2.out.1 ⟨g2', 0, none⟩ (encN C).length d2 (byteCells (encN C)) rfl (by rw [byteCells_length, Nat.mul_one]) (brow_news HRR2.out) (byteCells_one _) (by unfold maxLen; omega) (by omega) HA2.out.2.size ?_))
  intro v2 w2 hown hgrow _
  have H2 : Hid (OB w0 v2 (O1 ++ (encN C)) w2) := HA2.out.onto hown hgrow
  have hl2 : (O1 ++ (encN C)).length ≤ 60 := by rw [List.length_append]; omega
  clear hown hgrow HA2 HRR2 x0 x1 x2 x3 x4
  obtain ⟨x0, x1, x2, x3, x4⟩ := HC.out _ H2.out.2
  generalize hO2 : O1 ++ (encN C) = O2 at H2 hl2
  go_wp2_with fail
  refine (HN.out U (by omega) _).mono ?_
  rintro e wa3 ⟨va3, rfl, ho, hb⟩
  have HA3 : Hid (OB w0 v2 O2 wa3) := H2.out.below hb
  obtain ⟨g3', d3, rfl, hr⟩ := owns_some ho (encN_pos U)
  have HRR3 := Lib.hid hr
  clear ho hb hr H2 x0 x1 x2 x3 x4
  obtain ⟨x0, x1, x2, x3, x4⟩ := HC.out _ HA3.out.2
  go_wp2_with (first
    | (at_builtin; refine wpList_append_own _ rfl (.tmp 20) (.tmp 24) 52 rfl w0.heap.size 5 i0 (.int .u8 0) 1 1 Try.underlying52 hi hz0 hz1 hz2 rfl (by decide) _ O2.length (byteCells O2) rfl HA3.out.1 ⟨g3', 0, none⟩ (encN U).length d3 (byteCells (encN U)) rfl (by rw [byteCells_length, Nat.mul_one]) (brow_news HRR3.out) (byteCells_one _) (by unfold maxLen; omega) (by omega) HA3.out.2.size ?_))
  intro v3 w3 hown hgrow _
  have H3 : Hid (OB w0 v3 (O2 ++ (encN U)) w3) := HA3.out.onto hown hgrow
  have hl3 : (O2 ++ (encN U)).length ≤ 80 := by rw [List.length_append]; omega
  clear hown hgrow HA3 HRR3 x0 x1 x2 x3 x4
  obtain ⟨x0, x1, x2, x3, x4⟩ := HC.out _ H3.out.2
  generalize hO3 : O2 ++ (encN U) = O3 at H3 hl3
  go_wp2_with fail
  refine (HN.out L (by omega) _).mono ?_
  rintro e wa4 ⟨va4, rfl, ho, hb⟩
  have HA4 : Hid (OB w0 v3 O3 wa4) := H3.out.below hb
  obtain ⟨g4', d4, rfl, hr⟩ := owns_some ho (encN_pos L)
  have HRR4 := Lib.hid hr
  clear ho hb hr H3 x0 x1 x2 x3 x4
  obtain ⟨x0, x1, x2, x3, x4⟩ := HC.out _ HA4.out.2
  go_wp2_with (first
    | (at_builtin; refine wpList_append_own _ rfl (.tmp 26) (.tmp 31) 52 rfl w0.heap.size 5 i0 (.int .u8 0) 1 1 Try.underlying52 hi hz0 hz1 hz2 rfl (by decide) _ O3.length (byteCells O3) rfl HA4.out.1 ⟨g4', 0, none⟩ (encN L).length d4 (byteCells (encN L)) rfl (by rw [byteCells_length, Nat.mul_one]) (brow_news HRR4.out) (byteCells_one _) (by unfold maxLen; omega) (by omega) HA4.out.2.size ?_))
  intro v4 w4 hown hgrow _
  have H4 : Hid (OB w0 v4 (O3 ++ (encN L)) w4) := HA4.out.onto hown hgrow
  have hl4 : (O3 ++ (encN L)).length ≤ 100 := by rw [List.length_append]; omega
  clear hown hgrow HA4 HRR4 x0 x1 x2 x3 x4
  obtain ⟨x0, x1, x2, x3, x4⟩ := HC.out _ H4.out.2
  generalize hO4 : O3 ++ (encN L) = O4 at H4 hl4
  go_wp2
  go_loopg [3, 4] L (fun g a i wr => ∃ k : Nat, k ≤ L ∧ L - k ≤ g ∧ i = .int .i64 (k : Int) ∧ OB w0 a (O4 ++ (ops.take k).flatMap bytesO) wr)
  case atStart => exact ⟨0, Nat.zero_le _, by omega, rfl, by simpa using H4.out⟩
  case round =>
    clear H4
    obtain ⟨k, hk, hg, rfl, hO⟩ := hrel
    have HO := Lib.hid hO
    clear hO x0 x1 x2 x3 x4
    obtain ⟨x0, x1, x2, x3, x4⟩ := HC.out _ HO.out.2
    have hlk := HLE.out k
    by_cases hlt : k < L
    · have hkl : (k : Int) < (L : Int) := by omega
      have HBW : Hid (Below w.heap.size w wr) := below_step HB0.out HO.out.2
      have HBK := Lib.hid (HBO.out k (by omega) wr HBW.out)
      have hbl := HBL.out k (by omega)
      have HTKk := Lib.hid (HTK.out k (by omega))
      obtain ⟨b, o, rfl, c0, c1, c2, c3, c4, c5, c6⟩ := orow_at (HR.out.below HBW.out) (by omega : k < xs.length)
      generalize xs.getD k ov0 = x at c0 c1 c2 c3 c4 c5 c6 HBK hbl HTKk
      obtain ⟨om, px, cx⟩ := x
      simp only at c0 c1 c2 c3 c4 c5 c6 HBK hbl HTKk
      unfold ov at HBK
      generalize (⟨om.text.toArray⟩ : ByteArray) = bt at c4 HBK
      generalize bytesO om = BO at HBK hbl HTKk
      generalize (ops.take k).flatMap bytesO = cs at HO hlk HTKk
      have hcl : (O4 ++ cs).length ≤ 100 + 16 * 2000 := by rw [List.length_append]; omega
      generalize hQ : O4 ++ cs = Q at HO hcl
      go_wp2_with fail
      refine HBK.out.mono ?_
      rintro e wa5 ⟨va5, rfl, ho, hb⟩
      have HA5 : Hid (OB w0 u3 Q wa5) := HO.out.below hb
      obtain ⟨g5', d5, rfl, hr⟩ := owns_some ho (by omega)
      have HRR5 := Lib.hid hr
      clear ho hb hr c0 c1 c2 c3 c4 c5 c6
      go_wp2_with (first
        | (at_builtin; refine wpList_append_own _ rfl (.tmp 40) (.tmp 46) 52 rfl w0.heap.size 5 i0 (.int .u8 0) 1 1 Try.underlying52 hi hz0 hz1 hz2 rfl (by decide) _ Q.length (byteCells Q) rfl HA5.out.1 ⟨g5', 0, none⟩ BO.length d5 (byteCells BO) rfl (by rw [byteCells_length, Nat.mul_one]) (brow_news HRR5.out) (byteCells_one _) (by unfold maxLen; omega) (by omega) HA5.out.2.size ?_))
      intro v5 w5 hown hgrow _
      have H5 : Hid (OB w0 v5 (O4 ++ (ops.take (k + 1)).flatMap bytesO) w5) := by
        show OB _ _ _ _
        rw [HTKk.out, ← List.append_assoc, hQ]
        exact HA5.out.onto hown hgrow
      clear hown hgrow HA5 HRR5
      go_wp2
      go_roundg (L - (k + 1))
      case measure => omega
      case rel => exact ⟨k + 1, by omega, Nat.le_refl _, by go_num, H5.out⟩
    · have : k = L := by omega
      subst this
      have hkl : ¬ (k : Int) < (k : Int) := by omega
      have HF : Hid (OB w0 u3 (O4 ++ ops.flatMap bytesO) wr) := by have := HO.out; rwa [← hLL, List.take_length] at this
      clear HO
      go_wp2
      go_ret
      subst hO4 hO3 hO2 hO1 hO0
      have := HF.out.fresh HB0.out
      simpa [List.append_assoc] using this
end Go.Proofs.Ytedlmngfkkpmgaa
