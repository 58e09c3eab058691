/-
  Several texts of one proof, joined: each part says at its head what it proves. No conditions beyond what each theorem states.
-/
import Derived.Test.YtedlmngfkkpmgaaZ08
import Derived.Test.YtedlmngfkkpmgaaZ07
import Derived.Test.YtedlmngfkkpmgaaZ04
import Derived.Test.YtedlmngfkkpmgaaZ06
import Derived.Test.YtedlmngfkkpmgaaZ10
import Derived.Test.YtedlmngfkkpmgaaZ09
/-
  What the document's Bytes of layer 9 hands back, of a transaction that fits. No conditions beyond what each theorem states.
-/
namespace Go.Proofs.Ytedlmngfkkpmgaa
open Go.ChangeShapes Go.WideShapes Go.ChangeAt Go.RowKit Go.Lib
set_option linter.unusedVariables false
set_option linter.unusedSimpArgs false

theorem bytesO_range {o : Om} (hf : FitOm o) (h : fitO o = 0) (hl : o.spans.length ≤ 60) : 1 ≤ (bytesO o).length ∧ (bytesO o).length ≤ 2000 := by
  have hc := fitO_cases h
  unfold FitOm at hf
  obtain ⟨f1, f2, f3, f4, f5, f6, f7, f8, f9, f10, f11⟩ := hf
  have e1 := encN_len (n := o.kind.toNat) (by omega)
  have e2 := encN_len (n := o.r.toNat) (by omega)
  have e3 := encN_len (n := o.n.toNat) (by omega)
  have e4 := encN_len (n := o.num.toNat) (by omega)
  have e5 := encN_len (n := o.seq.toNat) (by omega)
  have e6 := bytesL_len f9 (by omega)
  have e0 := encN_pos o.kind.toNat
  have e7 : o.kind = 1 → (encT o.text).length ≤ 73 := fun hk => by
    have ht : o.text.length ≤ 64 := by
      rcases hc with c | c | c | c
      · exact c.2.2.2.2.2.1
      · have := c.1; omega
      · have := c.1; omega
      · have := c.1; omega
    unfold encT
    rw [List.length_append]
    have := encN_len (n := o.text.length) (by omega)
    omega
  unfold bytesO
  simp only [List.length_append]
  by_cases h1 : o.kind = 1
  · have := e7 h1
    simp only [if_pos h1, if_pos (show o.kind = 1 ∨ o.kind = 3 from Or.inl h1), List.length_append]
    omega
  · simp only [if_neg h1]
    by_cases h3 : o.kind = 1 ∨ o.kind = 3
    · simp only [if_pos h3, List.length_append]
      split <;> omega
    · simp only [if_neg h3, List.length_nil]
      split <;> omega
theorem flatO_take {l : List Om} {k : Nat} (h : k < l.length) : (l.take (k + 1)).flatMap bytesO = (l.take k).flatMap bytesO ++ bytesO (l.getD k o0) := by
  rw [take_getD o0 h]; simp
theorem flatO_len {l : List Om} (h : ∀ o ∈ l, (bytesO o).length ≤ 2000) : ∀ k, ((l.take k).flatMap bytesO).length ≤ k * 2000 := by
  intro k
  induction k with
  | zero => simp
  | succ k ih =>
    by_cases hk : k < l.length
    · rw [flatO_take hk, List.length_append]
      have := h _ (getD_mem o0 hk)
      omega
    · rw [List.take_of_length_le (by omega)]
      rw [List.take_of_length_le (by omega)] at ih
      exact Nat.le_trans ih (Nat.mul_le_mul_right _ (Nat.le_succ k))
set_option maxHeartbeats 6400000 in
set_option maxRecDepth 20000 in
theorem refbytesT_any (t : Tm) (xs : List OV) (p : Option Addr) (c : Nat) (w : World) (H : InT t xs p c w) (hs : SmallX xs) (h0 : fitT t = 0) :
    Calls Try.prog 19 #[tv t p c] w (Fresh (bytesT t) w) := by
  obtain ⟨i0, hi, hz0, hz1, hz2⟩ := info_parts infoB
  have hlen : t.ops.length = xs.length := by rw [H.ops, List.length_map]
  obtain ⟨g1, g2, g3, g4, g5, g6, g7, g8, g9⟩ := fitT_ok h0
  have HOK := fitOs_ok t.ops (-1) g9
  have hfi := H.fit
  have HFO : ∀ k, k < xs.length → fitO (xs.getD k ov0).1 = 0 := fun k hk => (HOK _ (by rw [H.ops]; exact List.mem_map.2 ⟨_, getD_mem ov0 hk, rfl⟩)).1
  have HBO : Hid (∀ k, k < xs.length → ∀ W, Below w.heap.size w W → Calls Try.prog 37 #[ov (xs.getD k ov0).1 (xs.getD k ov0).2.1 (xs.getD k ov0).2.2] W (Fresh (bytesO (xs.getD k ov0).1) W)) := fun k hk W hb => refbytes8_any _ _ _ W ((H.row.at hk).below hb) (hs.at hk).2 (HFO k hk)
  have HBL : Hid (∀ k, k < xs.length → 1 ≤ (bytesO (xs.getD k ov0).1).length ∧ (bytesO (xs.getD k ov0).1).length ≤ 2000) := fun k hk => bytesO_range (H.row.at hk).fit (HFO k hk) (hs.at hk).2
  have HLE : Hid (∀ k, ((t.ops.take k).flatMap bytesO).length ≤ k * 2000) := flatO_len fun o ho => by
    rw [H.ops] at ho
    obtain ⟨x, hx, rfl⟩ := List.mem_map.1 ho
    exact (bytesO_range (H.row.each x hx).fit (HOK _ (by rw [H.ops]; exact List.mem_map.2 ⟨x, hx, rfl⟩)).1 (hs x hx).2).2
  have HTK : Hid (∀ k, k < xs.length → (t.ops.take (k + 1)).flatMap bytesO = (t.ops.take k).flatMap bytesO ++ bytesO (xs.getD k ov0).1) := fun k hk => by
    rw [flatO_take (by omega), H.ops, getD_map1 xs hk]
  have HR := Lib.hid H.row.row
  clear H HOK HFO hs h0 g9
  unfold FitTm at hfi
  obtain ⟨f1, f2, f3, f4, f5, f6, f7, f8, -⟩ := hfi
  unfold tv bytesT
  obtain ⟨r, seq, clock, user, ops⟩ := t
  simp only at *
  obtain ⟨R, rfl⟩ := nat_of f1
  obtain ⟨S, rfl⟩ := nat_of f3
  obtain ⟨C, rfl⟩ := nat_of f5
  obtain ⟨U, rfl⟩ := nat_of g5
  simp only [Int.toNat_natCast]
  rw [hlen]
  generalize hXL : xs.length = L at *
  have hLL := hlen
  have HC := Lib.hid (fun (W : World) (hb : Below (w.alloc (.cells #[.int .u16 (R : Int), .int .u32 (S : Int), .int .u64 (C : Int), .int .i64 (U : Int), .slice p L c] 32)).heap.size (w.alloc (.cells #[.int .u16 (R : Int), .int .u32 (S : Int), .int .u64 (C : Int), .int .i64 (U : Int), .slice p L c] 32)) W) => five_cells (kept_box (heap_alloc_new w _) hb))
  have HB0 : Hid (Below w.heap.size w (w.alloc (.cells #[.int .u16 (R : Int), .int .u32 (S : Int), .int .u64 (C : Int), .int .i64 (U : Int), .slice p L c] 32))) := below_alloc (Below.refl _ _) _
  have HN := Lib.hid num_fresh
  have eR := encN_len (n := R) (by omega)
  have eS := encN_len (n := S) (by omega)
  have eC := encN_len (n := C) (by omega)
  have eU := encN_len (n := U) (by omega)
  have eL := encN_len (n := L) (by omega)
  have kR : IntKind.u64.wrap (R : Int) = (R : Int) := by rw [IntKind.wrap_u64]; omega
  have kS : IntKind.u64.wrap (S : Int) = (S : Int) := by rw [IntKind.wrap_u64]; omega
  have kU : IntKind.u64.wrap (U : Int) = (U : Int) := by rw [IntKind.wrap_u64]; omega
  have kL : IntKind.u64.wrap (L : Int) = (L : Int) := by rw [IntKind.wrap_u64]; omega
  go_enter Try.func19, Try.ntmps19
  go_wp2_with fail
  generalize w.alloc (.cells #[.int .u16 (R : Int), .int .u32 (S : Int), .int .u64 (C : Int), .int .i64 (U : Int), .slice p L c] 32) = w0 at HC HB0 ⊢
  refine (HN.out R (by omega) _).mono ?_
  rintro e wz ⟨v0, rfl, ho, hb⟩
  have H0 : Hid (OB w0 v0 (encN R) wz) := ⟨ho, hb⟩
  clear ho hb
  obtain ⟨x0, x1, x2, x3, x4⟩ := HC.out _ H0.out.2
  generalize hO0 : encN R = O0 at H0 eR
  go_wp2_with fail
  refine (HN.out S (by omega) _).mono ?_
  rintro e wa1 ⟨va1, rfl, ho, hb⟩
  have HA1 : Hid (OB w0 v0 O0 wa1) := H0.out.below hb
  obtain ⟨g1', d1, rfl, hr⟩ := owns_some ho (encN_pos S)
  have HRR1 := Lib.hid hr
  clear ho hb hr H0 x0 x1 x2 x3 x4
  obtain ⟨x0, x1, x2, x3, x4⟩ := HC.out _ HA1.out.2
  go_wp2_with (first
    | (at_builtin; refine wpList_append_own _ rfl (.tmp 9) (.tmp 13) 52 rfl w0.heap.size 5 i0 (.int .u8 0) 1 1 Try.underlying52 hi hz0 hz1 hz2 rfl (by decide) _ O0.length (byteCells O0) rfl HA1.out.1 ⟨g1', 0, none⟩ (encN S).length d1 (byteCells (encN S)) rfl (by rw [byteCells_length, Nat.mul_one]) (brow_news HRR1.out) (byteCells_one _) (by unfold maxLen; omega) (by omega) HA1.out.2.size ?_))
  intro v1 w1 hown hgrow _
  have H1 : Hid (OB w0 v1 (O0 ++ (encN S)) w1) := HA1.out.onto hown hgrow
  have hl1 : (O0 ++ (encN S)).length ≤ 40 := by rw [List.length_append]; omega
  clear hown hgrow HA1 HRR1 x0 x1 x2 x3 x4
  obtain ⟨x0, x1, x2, x3, x4⟩ := HC.out _ H1.out.2
  generalize hO1 : O0 ++ (encN S) = O1 at H1 hl1
  go_wp2_with fail
  refine (HN.out C (by omega) _).mono ?_
  rintro e wa2 ⟨va2, rfl, ho, hb⟩
  have HA2 : Hid (OB w0 v1 O1 wa2) := H1.out.below hb
  obtain ⟨g2', d2, rfl, hr⟩ := owns_some ho (encN_pos C)
  have HRR2 := Lib.hid hr
  clear ho hb hr H1 x0 x1 x2 x3 x4
  obtain ⟨x0, x1, x2, x3, x4⟩ := HC.out _ HA2.out.2
  go_wp2_with (first
    | (at_builtin; refine wpList_append_own _ rfl (.tmp 15) (.tmp 18) 52 rfl w0.heap.size 5 i0 (.int .u8 0) 1 1 Try.underlying52 hi hz0 hz1 hz2 rfl (by decide) _ O1.length (byteCells O1) rfl HA2.out.1 ⟨g2', 0, none⟩ (encN C).length d2 (byteCells (encN C)) rfl (by rw [byteCells_length, Nat.mul_one]) (brow_news HRR2.out) (byteCells_one _) (by unfold maxLen; omega) (by omega) HA2.out.2.size ?_))
  intro v2 w2 hown hgrow _
  have H2 : Hid (OB w0 v2 (O1 ++ (encN C)) w2) := HA2.out.onto hown hgrow
  have hl2 : (O1 ++ (encN C)).length ≤ 60 := by rw [List.length_append]; omega
  clear hown hgrow HA2 HRR2 x0 x1 x2 x3 x4
  obtain ⟨x0, x1, x2, x3, x4⟩ := HC.out _ H2.out.2
  generalize hO2 : O1 ++ (encN C) = O2 at H2 hl2
  go_wp2_with fail
  refine (HN.out U (by omega) _).mono ?_
  rintro e wa3 ⟨va3, rfl, ho, hb⟩
  have HA3 : Hid (OB w0 v2 O2 wa3) := H2.out.below hb
  obtain ⟨g3', d3, rfl, hr⟩ := owns_some ho (encN_pos U)
  have HRR3 := Lib.hid hr
  clear ho hb hr H2 x0 x1 x2 x3 x4
  obtain ⟨x0, x1, x2, x3, x4⟩ := HC.out _ HA3.out.2
  go_wp2_with (first
    | (at_builtin; refine wpList_append_own _ rfl (.tmp 20) (.tmp 24) 52 rfl w0.heap.size 5 i0 (.int .u8 0) 1 1 Try.underlying52 hi hz0 hz1 hz2 rfl (by decide) _ O2.length (byteCells O2) rfl HA3.out.1 ⟨g3', 0, none⟩ (encN U).length d3 (byteCells (encN U)) rfl (by rw [byteCells_length, Nat.mul_one]) (brow_news HRR3.out) (byteCells_one _) (by unfold maxLen; omega) (by omega) HA3.out.2.size ?_))
  intro v3 w3 hown hgrow _
  have H3 : Hid (OB w0 v3 (O2 ++ (encN U)) w3) := HA3.out.onto hown hgrow
  have hl3 : (O2 ++ (encN U)).length ≤ 80 := by rw [List.length_append]; omega
  clear hown hgrow HA3 HRR3 x0 x1 x2 x3 x4
  obtain ⟨x0, x1, x2, x3, x4⟩ := HC.out _ H3.out.2
  generalize hO3 : O2 ++ (encN U) = O3 at H3 hl3
  go_wp2_with fail
  refine (HN.out L (by omega) _).mono ?_
  rintro e wa4 ⟨va4, rfl, ho, hb⟩
  have HA4 : Hid (OB w0 v3 O3 wa4) := H3.out.below hb
  obtain ⟨g4', d4, rfl, hr⟩ := owns_some ho (encN_pos L)
  have HRR4 := Lib.hid hr
  clear ho hb hr H3 x0 x1 x2 x3 x4
  obtain ⟨x0, x1, x2, x3, x4⟩ := HC.out _ HA4.out.2
  go_wp2_with (first
    | (at_builtin; refine wpList_append_own _ rfl (.tmp 26) (.tmp 31) 52 rfl w0.heap.size 5 i0 (.int .u8 0) 1 1 Try.underlying52 hi hz0 hz1 hz2 rfl (by decide) _ O3.length (byteCells O3) rfl HA4.out.1 ⟨g4', 0, none⟩ (encN L).length d4 (byteCells (encN L)) rfl (by rw [byteCells_length, Nat.mul_one]) (brow_news HRR4.out) (byteCells_one _) (by unfold maxLen; omega) (by omega) HA4.out.2.size ?_))
  intro v4 w4 hown hgrow _
  have H4 : Hid (OB w0 v4 (O3 ++ (encN L)) w4) := HA4.out.onto hown hgrow
  have hl4 : (O3 ++ (encN L)).length ≤ 100 := by rw [List.length_append]; omega
  clear hown hgrow HA4 HRR4 x0 x1 x2 x3 x4
  obtain ⟨x0, x1, x2, x3, x4⟩ := HC.out _ H4.out.2
  generalize hO4 : O3 ++ (encN L) = O4 at H4 hl4
  go_wp2
  go_loopg [3, 4] L (fun g a i wr => ∃ k : Nat, k ≤ L ∧ L - k ≤ g ∧ i = .int .i64 (k : Int) ∧ OB w0 a (O4 ++ (ops.take k).flatMap bytesO) wr)
  case atStart => exact ⟨0, Nat.zero_le _, by omega, rfl, by simpa using H4.out⟩
  case round =>
    clear H4
    obtain ⟨k, hk, hg, rfl, hO⟩ := hrel
    have HO := Lib.hid hO
    clear hO x0 x1 x2 x3 x4
    obtain ⟨x0, x1, x2, x3, x4⟩ := HC.out _ HO.out.2
    have hlk := HLE.out k
    by_cases hlt : k < L
    · have hkl : (k : Int) < (L : Int) := by omega
      have HBW : Hid (Below w.heap.size w wr) := below_step HB0.out HO.out.2
      have HBK := Lib.hid (HBO.out k (by omega) wr HBW.out)
      have hbl := HBL.out k (by omega)
      have HTKk := Lib.hid (HTK.out k (by omega))
      obtain ⟨b, o, rfl, c0, c1, c2, c3, c4, c5, c6⟩ := orow_at (HR.out.below HBW.out) (by omega : k < xs.length)
      generalize xs.getD k ov0 = x at c0 c1 c2 c3 c4 c5 c6 HBK hbl HTKk
      obtain ⟨om, px, cx⟩ := x
      simp only at c0 c1 c2 c3 c4 c5 c6 HBK hbl HTKk
      unfold ov at HBK
      generalize (⟨om.text.toArray⟩ : ByteArray) = bt at c4 HBK
      generalize bytesO om = BO at HBK hbl HTKk
      generalize (ops.take k).flatMap bytesO = cs at HO hlk HTKk
      have hcl : (O4 ++ cs).length ≤ 100 + 16 * 2000 := by rw [List.length_append]; omega
      generalize hQ : O4 ++ cs = Q at HO hcl
      go_wp2_with fail
      refine HBK.out.mono ?_
      rintro e wa5 ⟨va5, rfl, ho, hb⟩
      have HA5 : Hid (OB w0 u3 Q wa5) := HO.out.below hb
      obtain ⟨g5', d5, rfl, hr⟩ := owns_some ho (by omega)
      have HRR5 := Lib.hid hr
      clear ho hb hr c0 c1 c2 c3 c4 c5 c6
      go_wp2_with (first
        | (at_builtin; refine wpList_append_own _ rfl (.tmp 40) (.tmp 46) 52 rfl w0.heap.size 5 i0 (.int .u8 0) 1 1 Try.underlying52 hi hz0 hz1 hz2 rfl (by decide) _ Q.length (byteCells Q) rfl HA5.out.1 ⟨g5', 0, none⟩ BO.length d5 (byteCells BO) rfl (by rw [byteCells_length, Nat.mul_one]) (brow_news HRR5.out) (byteCells_one _) (by unfold maxLen; omega) (by omega) HA5.out.2.size ?_))
      intro v5 w5 hown hgrow _
      have H5 : Hid (OB w0 v5 (O4 ++ (ops.take (k + 1)).flatMap bytesO) w5) := by
        show OB _ _ _ _
        rw [HTKk.out, ← List.append_assoc, hQ]
        exact HA5.out.onto hown hgrow
      clear hown hgrow HA5 HRR5
      go_wp2
      go_roundg (L - (k + 1))
      case measure => omega
      case rel => exact ⟨k + 1, by omega, Nat.le_refl _, by go_num, H5.out⟩
    · have : k = L := by omega
      subst this
      have hkl : ¬ (k : Int) < (k : Int) := by omega
      have HF : Hid (OB w0 u3 (O4 ++ ops.flatMap bytesO) wr) := by have := HO.out; rwa [← hLL, List.take_length] at this
      clear HO
      go_wp2
      go_ret
      subst hO4 hO3 hO2 hO1 hO0
      have := HF.out.fresh HB0.out
      simpa [List.append_assoc] using this
end Go.Proofs.Ytedlmngfkkpmgaa
/-
  What the program's Put of layer 7 leaves. No conditions beyond what each theorem states.
-/
namespace Go.Proofs.Ytedlmngfkkpmgaa
open Go.ChangeShapes Go.WideShapes Go.ChangeAt Go.RowKit Go.Lib
set_option linter.unusedVariables false
set_option linter.unusedSimpArgs false

theorem Wr.below {B K : Nat} {v : Value} {bs : List UInt8} {w w' : World} (h : Wr B K v bs w) (hb : Below w.heap.size w w') : Wr B K v bs w' :=
  ⟨h.base, Nat.le_trans h.room hb.size, by rw [hb.block K (lt_of_block h.box)]; exact h.box, h.row.kept (row := none) ⟨hb.os, hb.tape, hb.output, hb.size, fun k hk _ => hb.block k hk⟩ (by cases v.ownBlock <;> simp)⟩
/-- A step of a writer that leaves a variable as it was. -/
theorem box_wrote {K X : Nat} {v : Value} {w w' : World} {o : Obj} (h : w.heap[X]? = some o) (hK : X ≠ K) (hv : v.ownBlock ≠ some X) (hk : Kept (fun k => k = K ∨ v.ownBlock = some k) w w') : w'.heap[X]? = some o := hk.stays h (by rintro (e | e); exact hK e; exact hv e)
theorem own_wrote {X : Nat} {v v' : Value} {w : World} {o : Obj} (h : w.heap[X]? = some o) (hv : v.ownBlock ≠ some X) (hv' : v'.ownBlock = v.ownBlock ∨ ∃ g, v'.ownBlock = some g ∧ w.heap.size ≤ g) : v'.ownBlock ≠ some X := by
  rcases hv' with e | ⟨g, e, hg⟩
  · rw [e]; exact hv
  · rw [e]
    intro ee
    injection ee with ee
    have := lt_of_block h
    omega
/-- Put, for a writer that has up to 200,000 bytes already. -/
def PutWide : Prop := ∀ (B K : Nat) (v : Value) (bs : List UInt8) (l : List Sp) (p : Option Addr) (c : Nat) (w : World), Wr B K v bs w → GRow layS w p l → (0 < l.length → ∀ q, p = some q → q.block < B) → RightS l → FitSs l → l.length ≤ 1024 → bs.length ≤ 200000 → Calls Try.prog 56 #[.pointer (some ⟨K, 0, none⟩), .slice p l.length c] w fun e w' => e = .returned (.tuple #[]) ∧ Wrote B K v bs (bytesL l) w w'
set_option maxHeartbeats 3200000 in
set_option maxRecDepth 20000 in
theorem put_wide : PutWide := by
  intro B K v bs l p c w hW hR hq hr hf hl hb
  have HW := Lib.hid hW
  have HR := Lib.hid hR
  have HQ := Lib.hid hq
  have HRT := Lib.hid hr
  have HF := Lib.hid hf
  have hll : l.length < 18446744073709551616 := by omega
  have H0 := Lib.hid (wnum_any B K v bs l.length hll w hW (by omega))
  have hm : l.length % 9223372036854775808 = l.length := by omega
  rw [hm] at H0
  have HG : Hid (∀ w', Kept (fun k => k = K ∨ v.ownBlock = some k) w w' → 0 < l.length → GRow layS w' p l) := fun w' hk h0 => hR.kept hk (fun q e => by
    have hqB := hq h0 q e
    have hbK := hW.base
    rintro (e' | e')
    · omega
    · have := (hW.row.lt _ e').1; omega)
  have HLN : Hid (∀ k, k ≤ l.length → (encN l.length ++ (l.take k).flatMap bytesS).length ≤ 40000) := fun k hk => by
    have h1 := bytesL_len (l := l.take k) (fun x hx => hf x (List.mem_of_mem_take hx)) (by rw [List.length_take]; omega)
    have h2 := encN_len (n := l.length) (by omega)
    unfold bytesL at h1
    rw [List.length_append] at h1 ⊢
    rw [List.length_take] at h1
    omega
  have hw64 : IntKind.u64.wrap (l.length : Int) = (l.length : Int) := by rw [IntKind.wrap_u64]; omega
  clear hW hR hq hr hf hm
  go_enter Try.func56, Try.ntmps56
  go_wp2_with fail
  refine H0.out.mono ?_
  rintro e w1 ⟨rfl, hw1⟩
  have HW1 := Lib.hid hw1
  clear hw1 H0
  go_wp2
  go_loopg [13] l.length (fun g i wr => ∃ k : Nat, k ≤ l.length ∧ l.length - k ≤ g ∧ i = .int .i64 (k : Int) ∧ Wrote B K v bs (encN l.length ++ (l.take k).flatMap bytesS) w wr)
  case atStart => exact ⟨0, Nat.zero_le _, by omega, rfl, by simpa using HW1.out⟩
  case round =>
    clear HW1
    obtain ⟨k, hk, hg, rfl, v1, hW1, hv1, hk1⟩ := hrel
    by_cases hlt : k < l.length
    · have hln := HLN.out k hk
      obtain ⟨b, o, rfl, c0, c1, c2⟩ := srow_at (HG.out wr hk1 (by omega)) hlt
      have hfs := HF.out.at hlt
      have hrs := rightS_iff.1 (HRT.out.at hlt)
      have HNX : Hid ((l.take (k + 1)).flatMap bytesS = (l.take k).flatMap bytesS ++ bytesS (l.getD k s0)) := by show _ = _; rw [take_getD s0 hlt]; simp
      unfold FitS at hfs
      generalize (l.getD k s0) = s at c0 c1 c2 hfs hrs HNX
      obtain ⟨r, n, m⟩ := s
      simp only at c0 c1 c2 hfs hrs
      obtain ⟨R, rfl⟩ : ∃ R : Nat, r = (R : Int) := ⟨r.toNat, by omega⟩
      obtain ⟨N, rfl⟩ : ∃ N : Nat, n = (N : Int) := ⟨n.toNat, by omega⟩
      obtain ⟨M, rfl⟩ : ∃ M : Nat, m = (M : Int) := ⟨m.toNat, by omega⟩
      have HNX : Hid ((l.take (k + 1)).flatMap bytesS = (l.take k).flatMap bytesS ++ (encN R ++ encN N ++ encN M)) := by show _ = _; rw [HNX.out]; unfold bytesS; simp
      generalize (l.take k).flatMap bytesS = cs at hW1 HNX hln
      have e1 : (encN R).length ≤ 9 := encN_len (n := R) (by omega)
      have e2 : (encN N).length ≤ 9 := encN_len (n := N) (by omega)
      have HW1 := Lib.hid hW1
      have HV1 := Lib.hid hv1
      have HK1 := Lib.hid hk1
      have hXK : wr.heap.size ≠ K := by have := lt_of_block hW1.box; omega
      have hXv : v1.ownBlock ≠ some wr.heap.size := fun e => by have := (hW1.row.lt _ e).2; omega
      clear hW1 hv1 hk1
      have HA := Lib.hid (fun (o : Obj) => wnum_any B K v1 (bs ++ (encN l.length ++ cs)) R (by omega) (wr.alloc o) (HW1.out.below (below_alloc (Below.refl _ _) o)) (by rw [List.length_append]; omega))
      have hm1 : R % 9223372036854775808 = R := by omega
      have hm2 : N % 9223372036854775808 = N := by omega
      have hm3 : M % 9223372036854775808 = M := by omega
      rw [hm1] at HA
      have z1 : IntKind.u64.wrap (R : Int) = (R : Int) := by rw [IntKind.wrap_u64]; omega
      have z2 : IntKind.u64.wrap (N : Int) = (N : Int) := by rw [IntKind.wrap_u64]; omega
      have z3 : IntKind.u64.wrap (M : Int) = (M : Int) := by rw [IntKind.wrap_u64]; omega
      go_wp2_with fail
      refine (HA.out _).mono ?_
      rintro e w2 ⟨rfl, v2, hW2, hv2, hk2⟩
      have hX2 := box_wrote (heap_alloc_new wr _) hXK hXv hk2
      have hXv2 := own_wrote (heap_alloc_new wr _) hXv hv2
      obtain ⟨d0, d1, d2⟩ := three_cells hX2
      have HX2 := Lib.hid hX2
      have HW2 := Lib.hid hW2
      have HV2 := Lib.hid hv2
      have HK2 := Lib.hid hk2
      have HB2 := Lib.hid (wnum_any B K v2 _ N (by omega) w2 hW2 (by simp only [List.length_append] at hln ⊢; omega))
      rw [hm2] at HB2
      clear hX2 hW2 hv2 hk2 HA c0 c1 c2
      go_wp2_with fail
      refine HB2.out.mono ?_
      rintro e w3 ⟨rfl, v3, hW3, hv3, hk3⟩
      have hX3 := box_wrote HX2.out hXK hXv2 hk3
      have hXv3 := own_wrote HX2.out hXv2 hv3
      obtain ⟨f0, f1, f2⟩ := three_cells hX3
      have HV3 := Lib.hid hv3
      have HK3 := Lib.hid hk3
      have HB3 := Lib.hid (wnum_any B K v3 _ M (by omega) w3 hW3 (by simp only [List.length_append] at hln ⊢; omega))
      rw [hm3] at HB3
      clear hX3 hW3 hv3 hk3 HB2 d0 d1 d2
      go_wp2_with fail
      refine HB3.out.mono ?_
      rintro e w4 ⟨rfl, hw4⟩
      have HW4 : Hid (Wrote B K v bs (encN l.length ++ (l.take (k + 1)).flatMap bytesS) w w4) := by
        show Wrote _ _ _ _ _ _ _
        have s3 := Wr.step HK3.out HV3.out hw4
        have s2 := Wr.step (w := wr) ((Kept.ofBelow (below_alloc (Below.refl _ _) _)).trans HK2.out (fun _ _ h => h)) (HV2.out.imp id fun ⟨g, a, b⟩ => ⟨g, a, by simp at b; omega⟩) s3
        have s1 := Wr.step HK1.out HV1.out s2
        rw [HNX.out]
        simpa [List.append_assoc] using s1
      clear hw4 HB3
      go_wp2
      go_roundg (l.length - (k + 1))
      case measure => omega
      case rel => exact ⟨k + 1, by omega, Nat.le_refl _, by go_num, HW4.out⟩
    · have : k = l.length := by omega
      subst this
      have HWE : Hid (Wrote B K v bs (bytesL l) w wr) := ⟨v1, by rw [List.take_length] at hW1; exact hW1, hv1, hk1⟩
      clear hW1 hv1 hk1
      go_wp2
      go_end0
      exact ⟨rfl, HWE.out⟩
theorem put_spec : PutSpec := fun B K v bs l p c w h1 h2 h3 h4 h5 h6 h7 => put_wide B K v bs l p c w h1 h2 h3 h4 h5 h6 (by omega)
end Go.Proofs.Ytedlmngfkkpmgaa
/-
  What the program's Put of layer 8 leaves. No conditions beyond what each theorem states.
-/
namespace Go.Proofs.Ytedlmngfkkpmgaa
open Go.ChangeShapes Go.WideShapes Go.ChangeAt Go.RowKit Go.Lib
set_option linter.unusedVariables false
set_option linter.unusedSimpArgs false

/-- A writer that has written cs, beside a variable of the call's own that stays as it was. -/
def WBx (B K : Nat) (v : Value) (bs : List UInt8) (X : Nat) (o : Obj) (cs : List UInt8) (w wr : World) : Prop := X ≠ K ∧ wr.heap[X]? = some o ∧ ∃ v', v'.ownBlock ≠ some X ∧ Wr B K v' (bs ++ cs) wr ∧ (v'.ownBlock = v.ownBlock ∨ ∃ g, v'.ownBlock = some g ∧ w.heap.size ≤ g) ∧ Kept (fun k => k = K ∨ v.ownBlock = some k) w wr
theorem WBx.start {B K : Nat} {v : Value} {bs : List UInt8} {w : World} (h : Wr B K v bs w) (o : Obj) : WBx B K v bs w.heap.size o [] w (w.alloc o) :=
  ⟨fun e => by have := lt_of_block h.box; omega, heap_alloc_new w o, v, fun e => by have := (h.row.lt _ e).2; omega, by rw [List.append_nil]; exact h.below (below_alloc (Below.refl _ _) o), Or.inl rfl, Kept.ofBelow (below_alloc (Below.refl _ _) o)⟩
theorem WBx.wrote {B K : Nat} {v : Value} {bs : List UInt8} {X : Nat} {o : Obj} {cs : List UInt8} {w wr : World} (h : WBx B K v bs X o cs w wr) : Wrote B K v bs cs w wr := by
  obtain ⟨_, _, v', _, h1, h2, h3⟩ := h
  exact ⟨v', h1, h2, h3⟩
theorem WBx.step {B K : Nat} {v : Value} {bs : List UInt8} {X : Nat} {o : Obj} {cs ds : List UInt8} {w wr : World} {f : FuncId} {args : Array Value} {r : Ending} (h : WBx B K v bs X o cs w wr) (H : ∀ v', Wr B K v' (bs ++ cs) wr → Calls Try.prog f args wr fun e w' => e = r ∧ Wrote B K v' (bs ++ cs) ds wr w') :
    Calls Try.prog f args wr fun e w' => e = r ∧ WBx B K v bs X o (cs ++ ds) w w' := by
  obtain ⟨hXK, hX, v', hXv, hW, hv, hk⟩ := h
  refine (H v' hW).mono ?_
  rintro e w2 ⟨rfl, v2, hW2, hv2, hk2⟩
  refine ⟨rfl, hXK, box_wrote hX hXK hXv hk2, v2, own_wrote hX hXv hv2, by rw [← List.append_assoc]; exact hW2, ?_, hk.trans hk2 ?_⟩
  · rcases hv2 with e | ⟨g, e, hg⟩
    · rcases hv with e2 | ⟨g, e2, hg⟩
      · exact Or.inl (e.trans e2)
      · exact Or.inr ⟨g, e.trans e2, hg⟩
    · exact Or.inr ⟨g, e, Nat.le_trans hk.size hg⟩
  · rintro i hi (rfl | e)
    · exact Or.inl rfl
    · rcases hv with e2 | ⟨g, e2, hg⟩
      · exact Or.inr (e2 ▸ e)
      · rw [e2] at e; cases e; omega
theorem wnum_box {B K : Nat} {v : Value} {bs : List UInt8} {X : Nat} {o : Obj} {cs : List UInt8} {w wr : World} (n : Nat) (hn : n < 9223372036854775808) (h : WBx B K v bs X o cs w wr) (hb : bs.length ≤ 100000) (hc : cs.length ≤ 100000) :
    Calls Try.prog 33 #[.pointer (some ⟨K, 0, none⟩), .int .u64 (n : Int)] wr fun e w' => e = .returned (.tuple #[]) ∧ WBx B K v bs X o (cs ++ encN n) w w' :=
  h.step fun v' hW => by
    have := wnum_any B K v' (bs ++ cs) n (by omega) wr hW (by rw [List.length_append]; omega)
    rwa [Nat.mod_eq_of_lt hn] at this
theorem wtext_box {B K : Nat} {v : Value} {bs : List UInt8} {X : Nat} {o : Obj} {cs : List UInt8} {w wr : World} (s : List UInt8) (hs : s.length ≤ 90000) (h : WBx B K v bs X o cs w wr) (hb : bs.length ≤ 100000) (hc : cs.length ≤ 100000) :
    Calls Try.prog 54 #[.pointer (some ⟨K, 0, none⟩), .string ⟨s.toArray⟩] wr fun e w' => e = .returned (.tuple #[]) ∧ WBx B K v bs X o (cs ++ encT s) w w' :=
  h.step fun v' hW => wtext_any B K v' (bs ++ cs) s wr hW (by rw [List.length_append]; omega) hs
theorem wspans_box {B K : Nat} {v : Value} {bs : List UInt8} {X : Nat} {o : Obj} {cs : List UInt8} {w wr : World} (l : List Sp) (p : Option Addr) (c : Nat) (hW : Wr B K v bs w) (hR : GRow layS w p l) (hq : 0 < l.length → ∀ q, p = some q → q.block < B) (hr : RightS l) (hf : FitSs l) (hl : l.length ≤ 1024) (h0 : 0 < l.length) (h : WBx B K v bs X o cs w wr) (hb : bs.length ≤ 100000) (hc : cs.length ≤ 100000) :
    Calls Try.prog 56 #[.pointer (some ⟨K, 0, none⟩), .slice p l.length c] wr fun e w' => e = .returned (.tuple #[]) ∧ WBx B K v bs X o (cs ++ bytesL l) w w' :=
  h.step fun v' hW' => by
    refine put_wide B K v' (bs ++ cs) l p c wr hW' ?_ hq hr hf hl (by rw [List.length_append]; omega)
    exact hR.kept h.2.2.choose_spec.2.2.2 (fun q e => by
      have hqB := hq h0 q e
      have hbK := hW.base
      rintro (e' | e')
      · omega
      · have := (hW.row.lt _ e').1; omega)

set_option maxHeartbeats 3200000 in
set_option maxRecDepth 20000 in
theorem putO_spec : PutOSpec := by
  intro B K v bs o p c w hW hI hq ht hl h0 hb
  have hc := fitO_cases h0
  have HW := Lib.hid hW
  have HR := Lib.hid hI.row
  have HQ := Lib.hid hq
  have hf := hI.fit
  clear hW hI hq h0
  unfold FitOm at hf
  obtain ⟨f1, f2, f3, f4, f5, f6, f7, f8, f9, f10, f11⟩ := hf
  have HF9 := Lib.hid f9
  clear f9
  obtain ⟨kind, r, n, num, text, spans, seq⟩ := o
  unfold ov
  simp only at f1 f2 f3 f4 f5 f6 f7 f8 f10 f11 ht hl HR HQ HF9 hc ⊢
  rcases hc with h | h | h | h
  · obtain ⟨rfl, rfl, rfl, -, -, ht2, hn⟩ := h
    obtain ⟨R, rfl⟩ : ∃ R : Nat, r = (R : Int) := ⟨r.toNat, by omega⟩
    have eR : (encN R).length ≤ 9 := encN_len (n := R) (by omega)
    have zR : IntKind.u64.wrap (R : Int) = (R : Int) := by rw [IntKind.wrap_u64]; omega
    obtain ⟨N, rfl⟩ : ∃ N : Nat, n = (N : Int) := ⟨n.toNat, by omega⟩
    have eN : (encN N).length ≤ 9 := encN_len (n := N) (by omega)
    have zN : IntKind.u64.wrap (N : Int) = (N : Int) := by rw [IntKind.wrap_u64]; omega
    obtain ⟨M, rfl⟩ : ∃ M : Nat, num = (M : Int) := ⟨num.toNat, by omega⟩
    have eM : (encN M).length ≤ 9 := encN_len (n := M) (by omega)
    have zM : IntKind.u64.wrap (M : Int) = (M : Int) := by rw [IntKind.wrap_u64]; omega
    have HBY : Hid (bytesO ⟨1, (R : Int), (N : Int), (M : Int), text, [], 0⟩ = encN 1 ++ encN R ++ encN N ++ encN M ++ encT text) := by show _ = _; unfold bytesO; simp [List.append_assoc]
    clear hn
    have HM := Lib.hid (makes_yes 1 (Or.inl rfl))
    have HN := Lib.hid (names_no 1 (by decide) (by decide))
    have HT := Lib.hid (turns_no 1 (Or.inl rfl))
    have ek : (encN 1).length ≤ 9 := encN_len (n := 1) (by decide)
    have H0 := Lib.hid (fun (o : Obj) => wnum_box 1 (by decide) (WBx.start HW.out o) (by omega) (by simp))
    simp only [List.nil_append] at H0
    go_enter Try.func34, Try.ntmps34
    go_wp2_with fail
    refine (H0.out _).mono ?_
    rintro e w1 ⟨rfl, hs1⟩
    have S1 := Lib.hid hs1
    obtain ⟨d0, d1, d2, d3, d4, d5, d6⟩ := seven_cells hs1.2.1
    clear hs1
    go_wp2_with fail
    refine (HM.out _).mono ?_
    rintro e w2 ⟨rfl, he⟩
    obtain rfl := Eq.symm he
    have C1 := Lib.hid (wnum_box R (by omega) S1.out (by omega) (by omega))
    go_wp2_with fail
    refine (C1.out).mono ?_
    rintro e w3 ⟨rfl, hs3⟩
    have S3 := Lib.hid hs3
    obtain ⟨d0, d1, d2, d3, d4, d5, d6⟩ := seven_cells hs3.2.1
    clear hs3
    have C2 := Lib.hid (wnum_box N (by omega) S3.out (by omega) (by simp only [List.length_append] at *; omega))
    go_wp2_with fail
    refine (C2.out).mono ?_
    rintro e w4 ⟨rfl, hs4⟩
    have S4 := Lib.hid hs4
    obtain ⟨d0, d1, d2, d3, d4, d5, d6⟩ := seven_cells hs4.2.1
    clear hs4
    have C3 := Lib.hid (wnum_box M (by omega) S4.out (by omega) (by simp only [List.length_append] at *; omega))
    go_wp2_with fail
    refine (C3.out).mono ?_
    rintro e w5 ⟨rfl, hs5⟩
    have S5 := Lib.hid hs5
    obtain ⟨d0, d1, d2, d3, d4, d5, d6⟩ := seven_cells hs5.2.1
    clear hs5
    have C4 := Lib.hid (wtext_box text (by omega) S5.out (by omega) (by simp only [List.length_append] at *; omega))
    generalize hbt : (⟨text.toArray⟩ : ByteArray) = bt at *
    go_wp2_with fail
    refine (C4.out).mono ?_
    rintro e w6 ⟨rfl, hs6⟩
    have S6 := Lib.hid hs6
    obtain ⟨d0, d1, d2, d3, d4, d5, d6⟩ := seven_cells hs6.2.1
    clear hs6
    go_wp2_with fail
    refine (HN.out _).mono ?_
    rintro e w7 ⟨rfl, he⟩
    obtain rfl := Eq.symm he
    go_wp2_with fail
    refine (HT.out _).mono ?_
    rintro e w8 ⟨rfl, he⟩
    obtain rfl := Eq.symm he
    go_wp2
    go_end0
    exact ⟨rfl, by rw [HBY.out]; exact S6.out.wrote⟩
  · obtain ⟨rfl, rfl, rfl, hp, hfl⟩ := h
    have hp := of_decide_eq_true hp
    simp only at hp
    obtain ⟨rfl, rfl, rfl⟩ := hp
    obtain ⟨a1, a2, a3⟩ := fitL_ok hfl
    have h0 : 0 < spans.length := by
      rcases Nat.eq_zero_or_pos spans.length with e | e
      · unfold fitL at hfl; rw [if_pos e] at hfl; cases hfl
      · exact e
    have A1 := Lib.hid a1
    clear a1 hfl a2
    have HBY : Hid (bytesO ⟨2, 0, 0, 0, [], spans, 0⟩ = encN 2 ++ bytesL spans) := by show _ = _; unfold bytesO; simp
    have HM := Lib.hid (makes_no 2 (by decide) (by decide))
    have HN := Lib.hid (names_yes 2 (Or.inl rfl))
    have HT := Lib.hid (turns_no 2 (Or.inr (Or.inl rfl)))
    have ek : (encN 2).length ≤ 9 := encN_len (n := 2) (by decide)
    have H0 := Lib.hid (fun (o : Obj) => wnum_box 2 (by decide) (WBx.start HW.out o) (by omega) (by simp))
    simp only [List.nil_append] at H0
    go_enter Try.func34, Try.ntmps34
    go_wp2_with fail
    refine (H0.out _).mono ?_
    rintro e w1 ⟨rfl, hs1⟩
    have S1 := Lib.hid hs1
    obtain ⟨d0, d1, d2, d3, d4, d5, d6⟩ := seven_cells hs1.2.1
    clear hs1
    go_wp2_with fail
    refine (HM.out _).mono ?_
    rintro e w2 ⟨rfl, he⟩
    obtain rfl := Eq.symm he
    go_wp2_with fail
    refine (HN.out _).mono ?_
    rintro e w3 ⟨rfl, he⟩
    obtain rfl := Eq.symm he
    have C1 := Lib.hid (wspans_box spans p c HW.out HR.out HQ.out A1.out HF9.out (by omega) h0 S1.out (by omega) (by omega))
    go_wp2_with fail
    refine (C1.out).mono ?_
    rintro e w4 ⟨rfl, hs4⟩
    have S4 := Lib.hid hs4
    obtain ⟨d0, d1, d2, d3, d4, d5, d6⟩ := seven_cells hs4.2.1
    clear hs4
    go_wp2_with fail
    refine (HT.out _).mono ?_
    rintro e w5 ⟨rfl, he⟩
    obtain rfl := Eq.symm he
    go_wp2
    go_end0
    exact ⟨rfl, by rw [HBY.out]; exact S4.out.wrote⟩
  · obtain ⟨rfl, rfl, rfl, hfl, hn⟩ := h
    obtain ⟨a1, a2, a3⟩ := fitL_ok hfl
    have h0 : 0 < spans.length := by
      rcases Nat.eq_zero_or_pos spans.length with e | e
      · unfold fitL at hfl; rw [if_pos e] at hfl; cases hfl
      · exact e
    have A1 := Lib.hid a1
    clear a1 hfl a2 hn
    obtain ⟨R, rfl⟩ : ∃ R : Nat, r = (R : Int) := ⟨r.toNat, by omega⟩
    have eR : (encN R).length ≤ 9 := encN_len (n := R) (by omega)
    have zR : IntKind.u64.wrap (R : Int) = (R : Int) := by rw [IntKind.wrap_u64]; omega
    obtain ⟨N, rfl⟩ : ∃ N : Nat, n = (N : Int) := ⟨n.toNat, by omega⟩
    have eN : (encN N).length ≤ 9 := encN_len (n := N) (by omega)
    have zN : IntKind.u64.wrap (N : Int) = (N : Int) := by rw [IntKind.wrap_u64]; omega
    obtain ⟨M, rfl⟩ : ∃ M : Nat, num = (M : Int) := ⟨num.toNat, by omega⟩
    have eM : (encN M).length ≤ 9 := encN_len (n := M) (by omega)
    have zM : IntKind.u64.wrap (M : Int) = (M : Int) := by rw [IntKind.wrap_u64]; omega
    have HBY : Hid (bytesO ⟨3, (R : Int), (N : Int), (M : Int), [], spans, 0⟩ = encN 3 ++ encN R ++ encN N ++ encN M ++ bytesL spans) := by show _ = _; unfold bytesO; simp [List.append_assoc]
    have HM := Lib.hid (makes_yes 3 (Or.inr rfl))
    have HN := Lib.hid (names_yes 3 (Or.inr rfl))
    have HT := Lib.hid (turns_no 3 (Or.inr (Or.inr rfl)))
    have ek : (encN 3).length ≤ 9 := encN_len (n := 3) (by decide)
    have H0 := Lib.hid (fun (o : Obj) => wnum_box 3 (by decide) (WBx.start HW.out o) (by omega) (by simp))
    simp only [List.nil_append] at H0
    go_enter Try.func34, Try.ntmps34
    go_wp2_with fail
    refine (H0.out _).mono ?_
    rintro e w1 ⟨rfl, hs1⟩
    have S1 := Lib.hid hs1
    obtain ⟨d0, d1, d2, d3, d4, d5, d6⟩ := seven_cells hs1.2.1
    clear hs1
    go_wp2_with fail
    refine (HM.out _).mono ?_
    rintro e w2 ⟨rfl, he⟩
    obtain rfl := Eq.symm he
    have C1 := Lib.hid (wnum_box R (by omega) S1.out (by omega) (by omega))
    go_wp2_with fail
    refine (C1.out).mono ?_
    rintro e w3 ⟨rfl, hs3⟩
    have S3 := Lib.hid hs3
    obtain ⟨d0, d1, d2, d3, d4, d5, d6⟩ := seven_cells hs3.2.1
    clear hs3
    have C2 := Lib.hid (wnum_box N (by omega) S3.out (by omega) (by simp only [List.length_append] at *; omega))
    go_wp2_with fail
    refine (C2.out).mono ?_
    rintro e w4 ⟨rfl, hs4⟩
    have S4 := Lib.hid hs4
    obtain ⟨d0, d1, d2, d3, d4, d5, d6⟩ := seven_cells hs4.2.1
    clear hs4
    have C3 := Lib.hid (wnum_box M (by omega) S4.out (by omega) (by simp only [List.length_append] at *; omega))
    go_wp2_with fail
    refine (C3.out).mono ?_
    rintro e w5 ⟨rfl, hs5⟩
    have S5 := Lib.hid hs5
    obtain ⟨d0, d1, d2, d3, d4, d5, d6⟩ := seven_cells hs5.2.1
    clear hs5
    go_wp2_with fail
    refine (HN.out _).mono ?_
    rintro e w6 ⟨rfl, he⟩
    obtain rfl := Eq.symm he
    have C4 := Lib.hid (wspans_box spans p c HW.out HR.out HQ.out A1.out HF9.out (by omega) h0 S5.out (by omega) (by simp only [List.length_append] at *; omega))
    go_wp2_with fail
    refine (C4.out).mono ?_
    rintro e w7 ⟨rfl, hs7⟩
    have S7 := Lib.hid hs7
    obtain ⟨d0, d1, d2, d3, d4, d5, d6⟩ := seven_cells hs7.2.1
    clear hs7
    go_wp2_with fail
    refine (HT.out _).mono ?_
    rintro e w8 ⟨rfl, he⟩
    obtain rfl := Eq.symm he
    go_wp2
    go_end0
    exact ⟨rfl, by rw [HBY.out]; exact S7.out.wrote⟩
  · obtain ⟨hk, rfl, rfl, hp, hs1, hs2⟩ := h
    have hp := of_decide_eq_true hp
    simp only at hp
    obtain ⟨rfl, rfl, rfl⟩ := hp
    obtain ⟨S, rfl⟩ : ∃ S : Nat, seq = (S : Int) := ⟨seq.toNat, by omega⟩
    have eS : (encN S).length ≤ 9 := encN_len (n := S) (by omega)
    have zS : IntKind.u64.wrap (S : Int) = (S : Int) := by rw [IntKind.wrap_u64]; omega
    rcases hk with rfl | rfl
    · have HBY : Hid (bytesO ⟨4, 0, 0, 0, [], [], (S : Int)⟩ = encN 4 ++ encN S) := by show _ = _; unfold bytesO; simp
      have HM := Lib.hid (makes_no 4 (by decide) (by decide))
      have HN := Lib.hid (names_no 4 (by decide) (by decide))
      have HT := Lib.hid (turns_yes 4 (by decide) (by decide) (by decide))
      have ek : (encN 4).length ≤ 9 := encN_len (n := 4) (by decide)
      have H0 := Lib.hid (fun (o : Obj) => wnum_box 4 (by decide) (WBx.start HW.out o) (by omega) (by simp))
      simp only [List.nil_append] at H0
      go_enter Try.func34, Try.ntmps34
      go_wp2_with fail
      refine (H0.out _).mono ?_
      rintro e w1 ⟨rfl, hs1⟩
      have S1 := Lib.hid hs1
      obtain ⟨d0, d1, d2, d3, d4, d5, d6⟩ := seven_cells hs1.2.1
      clear hs1
      go_wp2_with fail
      refine (HM.out _).mono ?_
      rintro e w2 ⟨rfl, he⟩
      obtain rfl := Eq.symm he
      go_wp2_with fail
      refine (HN.out _).mono ?_
      rintro e w3 ⟨rfl, he⟩
      obtain rfl := Eq.symm he
      go_wp2_with fail
      refine (HT.out _).mono ?_
      rintro e w4 ⟨rfl, he⟩
      obtain rfl := Eq.symm he
      have C1 := Lib.hid (wnum_box S (by omega) S1.out (by omega) (by omega))
      go_wp2_with fail
      refine (C1.out).mono ?_
      rintro e w5 ⟨rfl, hs5⟩
      have S5 := Lib.hid hs5
      obtain ⟨d0, d1, d2, d3, d4, d5, d6⟩ := seven_cells hs5.2.1
      clear hs5
      go_wp2
      go_end0
      exact ⟨rfl, by rw [HBY.out]; exact S5.out.wrote⟩
    · have HBY : Hid (bytesO ⟨5, 0, 0, 0, [], [], (S : Int)⟩ = encN 5 ++ encN S) := by show _ = _; unfold bytesO; simp
      have HM := Lib.hid (makes_no 5 (by decide) (by decide))
      have HN := Lib.hid (names_no 5 (by decide) (by decide))
      have HT := Lib.hid (turns_yes 5 (by decide) (by decide) (by decide))
      have ek : (encN 5).length ≤ 9 := encN_len (n := 5) (by decide)
      have H0 := Lib.hid (fun (o : Obj) => wnum_box 5 (by decide) (WBx.start HW.out o) (by omega) (by simp))
      simp only [List.nil_append] at H0
      go_enter Try.func34, Try.ntmps34
      go_wp2_with fail
      refine (H0.out _).mono ?_
      rintro e w1 ⟨rfl, hs1⟩
      have S1 := Lib.hid hs1
      obtain ⟨d0, d1, d2, d3, d4, d5, d6⟩ := seven_cells hs1.2.1
      clear hs1
      go_wp2_with fail
      refine (HM.out _).mono ?_
      rintro e w2 ⟨rfl, he⟩
      obtain rfl := Eq.symm he
      go_wp2_with fail
      refine (HN.out _).mono ?_
      rintro e w3 ⟨rfl, he⟩
      obtain rfl := Eq.symm he
      go_wp2_with fail
      refine (HT.out _).mono ?_
      rintro e w4 ⟨rfl, he⟩
      obtain rfl := Eq.symm he
      have C1 := Lib.hid (wnum_box S (by omega) S1.out (by omega) (by omega))
      go_wp2_with fail
      refine (C1.out).mono ?_
      rintro e w5 ⟨rfl, hs5⟩
      have S5 := Lib.hid hs5
      obtain ⟨d0, d1, d2, d3, d4, d5, d6⟩ := seven_cells hs5.2.1
      clear hs5
      go_wp2
      go_end0
      exact ⟨rfl, by rw [HBY.out]; exact S5.out.wrote⟩
end Go.Proofs.Ytedlmngfkkpmgaa
/-
  What the program's Put of layer 9 leaves. No conditions beyond what each theorem states.
-/
namespace Go.Proofs.Ytedlmngfkkpmgaa
open Go.ChangeShapes Go.WideShapes Go.ChangeAt Go.RowKit Go.Lib
set_option linter.unusedVariables false
set_option linter.unusedSimpArgs false

theorem WBx.below {B K : Nat} {v : Value} {bs : List UInt8} {X : Nat} {o : Obj} {cs : List UInt8} {w wr W : World} (h : WBx B K v bs X o cs w wr) (hb : Below wr.heap.size wr W) : WBx B K v bs X o cs w W := by
  obtain ⟨hXK, hX, v', hXv, hW, hv, hk⟩ := h
  refine ⟨hXK, by rw [hb.block _ (lt_of_block hX)]; exact hX, v', hXv, hW.below hb, hv, hk.trans (T := fun _ => False) (Kept.ofBelow hb) (fun _ _ f => f.elim)⟩
/-- A row below the writer's memory stays. -/
theorem WBx.row {α : Type} {L : Lay α} {B K : Nat} {v : Value} {bs : List UInt8} {X : Nat} {o : Obj} {cs : List UInt8} {w wr : World} {p : Option Addr} {l : List α} (h : WBx B K v bs X o cs w wr) (hW : Wr B K v bs w) (hR : GRow L w p l) (hq : 0 < l.length → ∀ q, p = some q → q.block < B) : GRow L wr p l := by
  rcases Nat.eq_zero_or_pos l.length with e | e
  · rw [List.eq_nil_of_length_eq_zero e]; exact GRow.nil _ _ _
  · obtain ⟨_, _, v', _, _, _, hk⟩ := h
    exact hR.kept hk (fun q eq => by
      have hqB := hq e q eq
      have hbK := hW.base
      rintro (e' | e')
      · omega
      · have := (hW.row.lt _ e').1; omega)
set_option maxHeartbeats 6400000 in
set_option maxRecDepth 20000 in
theorem putT_spec : PutTSpec := by
  intro B K v bs t xs p c w hW H hB hs h0 hbs
  have hlen : t.ops.length = xs.length := by rw [H.ops, List.length_map]
  obtain ⟨g1, g2, g3, g4, g5, g6, g7, g8, g9⟩ := fitT_ok h0
  have HOK := fitOs_ok t.ops (-1) g9
  have HFO : ∀ k, k < xs.length → fitO (xs.getD k ov0).1 = 0 := fun k hk => (HOK _ (by rw [H.ops]; exact List.mem_map.2 ⟨_, getD_mem ov0 hk, rfl⟩)).1
  have HW := Lib.hid hW
  have HPO : Hid (∀ k, k < xs.length → ∀ (X : Nat) (o : Obj) (cs : List UInt8) (W : World), cs.length ≤ 40000 → WBx B K v bs X o cs w W → Calls Try.prog 34 #[ov (xs.getD k ov0).1 (xs.getD k ov0).2.1 (xs.getD k ov0).2.2, .pointer (some ⟨K, 0, none⟩)] W fun e w' => e = .returned (.tuple #[]) ∧ WBx B K v bs X o (cs ++ bytesO (xs.getD k ov0).1) w w') := fun k hk X o cs W hcs h => h.step fun v' hW' => by
    have hI := H.row.at hk
    have hqx := hB.2 _ (getD_mem ov0 hk)
    exact putO_spec B K v' (bs ++ cs) _ _ _ W hW' ⟨hI.fit, h.row HW.out hI.row hqx, hI.cap, hI.nil⟩ hqx (hs.at hk).1 (hs.at hk).2 (HFO k hk) (by rw [List.length_append]; omega)
  have HRO : Hid (∀ (X : Nat) (o : Obj) (cs : List UInt8) (W : World), WBx B K v bs X o cs w W → GRow layO W p xs) := fun X o cs W h => h.row HW.out H.row.row hB.1
  have HTK : Hid (∀ k, k < xs.length → (t.ops.take (k + 1)).flatMap bytesO = (t.ops.take k).flatMap bytesO ++ bytesO (xs.getD k ov0).1) := fun k hk => by
    rw [flatO_take (by omega), H.ops, getD_map1 xs hk]
  have HLE : Hid (∀ k, ((t.ops.take k).flatMap bytesO).length ≤ k * 2000) := flatO_len fun o ho => by
    rw [H.ops] at ho
    obtain ⟨x, hx, rfl⟩ := List.mem_map.1 ho
    exact (bytesO_range (H.row.each x hx).fit (HOK _ (by rw [H.ops]; exact List.mem_map.2 ⟨x, hx, rfl⟩)).1 (hs x hx).2).2
  have hfi := H.fit
  clear H HOK HFO hs h0 g9 hW hB
  unfold FitTm at hfi
  obtain ⟨f1, f2, f3, f4, f5, f6, f7, f8, -⟩ := hfi
  unfold tv bytesT
  obtain ⟨r, seq, clock, user, ops⟩ := t
  simp only at *
  obtain ⟨R, rfl⟩ : ∃ N : Nat, r = (N : Int) := ⟨r.toNat, by omega⟩
  obtain ⟨S, rfl⟩ : ∃ N : Nat, seq = (N : Int) := ⟨seq.toNat, by omega⟩
  obtain ⟨C, rfl⟩ : ∃ N : Nat, clock = (N : Int) := ⟨clock.toNat, by omega⟩
  obtain ⟨U, rfl⟩ : ∃ N : Nat, user = (N : Int) := ⟨user.toNat, by omega⟩
  simp only [Int.toNat_natCast]
  rw [hlen]
  generalize hXL : xs.length = L at *
  have hLL := hlen
  have eR := encN_len (n := R) (by omega)
  have eS := encN_len (n := S) (by omega)
  have eC := encN_len (n := C) (by omega)
  have eU := encN_len (n := U) (by omega)
  have eL := encN_len (n := L) (by omega)
  have kR : IntKind.u64.wrap (R : Int) = (R : Int) := by rw [IntKind.wrap_u64]; omega
  have kS : IntKind.u64.wrap (S : Int) = (S : Int) := by rw [IntKind.wrap_u64]; omega
  have kU : IntKind.u64.wrap (U : Int) = (U : Int) := by rw [IntKind.wrap_u64]; omega
  have kL : IntKind.u64.wrap (L : Int) = (L : Int) := by rw [IntKind.wrap_u64]; omega
  have H0 := Lib.hid (fun (o : Obj) => wnum_box R (by omega) (WBx.start HW.out o) (by omega) (by simp))
  simp only [List.nil_append] at H0
  go_enter Try.func16, Try.ntmps16
  go_wp2_with fail
  refine (H0.out _).mono ?_
  rintro e w1 ⟨rfl, hs1⟩
  have S1 := Lib.hid hs1
  obtain ⟨d0, d1, d2, d3, d4⟩ := five_cells hs1.2.1
  clear hs1
  have C2 := Lib.hid (wnum_box S (by omega) S1.out (by omega) (by first | omega | (simp only [List.length_append]; omega)))
  go_wp2_with fail
  refine C2.out.mono ?_
  rintro e w2 ⟨rfl, hs2⟩
  have S2 := Lib.hid hs2
  obtain ⟨d0, d1, d2, d3, d4⟩ := five_cells hs2.2.1
  clear hs2
  have C3 := Lib.hid (wnum_box C (by omega) S2.out (by omega) (by first | omega | (simp only [List.length_append]; omega)))
  go_wp2_with fail
  refine C3.out.mono ?_
  rintro e w3 ⟨rfl, hs3⟩
  have S3 := Lib.hid hs3
  obtain ⟨d0, d1, d2, d3, d4⟩ := five_cells hs3.2.1
  clear hs3
  have C4 := Lib.hid (wnum_box U (by omega) S3.out (by omega) (by first | omega | (simp only [List.length_append]; omega)))
  go_wp2_with fail
  refine C4.out.mono ?_
  rintro e w4 ⟨rfl, hs4⟩
  have S4 := Lib.hid hs4
  obtain ⟨d0, d1, d2, d3, d4⟩ := five_cells hs4.2.1
  clear hs4
  have C5 := Lib.hid (wnum_box L (by omega) S4.out (by omega) (by first | omega | (simp only [List.length_append]; omega)))
  go_wp2_with fail
  refine C5.out.mono ?_
  rintro e w5 ⟨rfl, hs5⟩
  have S5 := Lib.hid hs5
  obtain ⟨d0, d1, d2, d3, d4⟩ := five_cells hs5.2.1
  clear hs5
  have hO5 : (encN R ++ encN S ++ encN C ++ encN U ++ encN L).length ≤ 45 := by simp only [List.length_append]; omega
  generalize hO : encN R ++ encN S ++ encN C ++ encN U ++ encN L = O5 at S5 hO5
  go_wp2
  go_loopg [34] L (fun g i wr => ∃ k : Nat, k ≤ L ∧ L - k ≤ g ∧ i = .int .i64 (k : Int) ∧ WBx B K v bs w.heap.size (.cells #[.int .u16 (R : Int), .int .u32 (S : Int), .int .u64 (C : Int), .int .i64 (U : Int), .slice p L c] 27 (0, 0)) (O5 ++ (ops.take k).flatMap bytesO) w wr)
  case atStart => exact ⟨0, Nat.zero_le _, by omega, rfl, by simpa using S5.out⟩
  case round =>
    clear S1 S2 S3 S4 S5 C2 C3 C4 C5 H0
    obtain ⟨k, hk, hg, rfl, hS⟩ := hrel
    have HS := Lib.hid hS
    clear hS d0 d1 d2 d3 d4
    have hlk := HLE.out k
    by_cases hlt : k < L
    · have hkl : (k : Int) < (L : Int) := by omega
      have HPK := Lib.hid (fun (A : Obj) => HPO.out k hlt _ _ _ (wr.alloc A) (by rw [List.length_append]; omega) (HS.out.below (below_alloc (Below.refl _ _) A)))
      have HTKk := Lib.hid (HTK.out k hlt)
      obtain ⟨b, o, rfl, c0, c1, c2, c3, c4, c5, c6⟩ := orow_at (HRO.out _ _ _ _ HS.out) (by omega : k < xs.length)
      generalize xs.getD k ov0 = x at c0 c1 c2 c3 c4 c5 c6 HPK HTKk
      obtain ⟨om, px, cx⟩ := x
      simp only at c0 c1 c2 c3 c4 c5 c6 HPK HTKk
      unfold ov at HPK
      generalize (⟨om.text.toArray⟩ : ByteArray) = bt at c4 HPK
      go_wp2_with fail
      refine (HPK.out _).mono ?_
      rintro e w6 ⟨rfl, hs6⟩
      have HS6 : Hid (WBx B K v bs w.heap.size (.cells #[.int .u16 (R : Int), .int .u32 (S : Int), .int .u64 (C : Int), .int .i64 (U : Int), .slice (some ⟨b, o, none⟩) L c] 27 (0, 0)) (O5 ++ (ops.take (k + 1)).flatMap bytesO) w w6) := by
        have := hs6
        rwa [List.append_assoc, ← HTKk.out] at this
      clear hs6 c0 c1 c2 c3 c4 c5 c6
      go_wp2
      go_roundg (L - (k + 1))
      case measure => omega
      case rel => exact ⟨k + 1, by omega, Nat.le_refl _, by go_num, HS6.out⟩
    · have : k = L := by omega
      subst this
      have hkl : ¬ (k : Int) < (k : Int) := by omega
      have HF : Hid (WBx B K v bs w.heap.size (.cells #[.int .u16 (R : Int), .int .u32 (S : Int), .int .u64 (C : Int), .int .i64 (U : Int), .slice p k c] 27 (0, 0)) (O5 ++ ops.flatMap bytesO) w wr) := by have := HS.out; rwa [← hLL, List.take_length, hLL] at this
      clear HS
      go_wp2
      go_end0
      subst hO
      refine ⟨rfl, ?_⟩
      have := HF.out.wrote
      simpa [List.append_assoc] using this
end Go.Proofs.Ytedlmngfkkpmgaa
