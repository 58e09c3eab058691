
/-
  What the document's Bytes of layer 8 hands back, of an operation that fits. No conditions beyond what each theorem states.
-/
import Derived.Test.YtedlmngfkkpmgaaOpSpec
import Derived.Test.YtedlmngfkkpmgaaSpanPack2
namespace Go.Proofs.Ytedlmngfkkpmgaa
open Go.ChangeShapes Go.WideShapes Go.ChangeAt Go.RowKit Go.Lib
set_option linter.unusedVariables false
set_option linter.unusedSimpArgs false

theorem owns_mono {w : World} {B B' n size : Nat} {e : TypeId} {v : Value} {xs : List Value} (h : w.ownsRow B e size v n xs) (hB : B' ≤ B) : w.ownsRow B' e size v n xs := by
  refine ⟨h.1, ?_⟩
  rcases h.2 with h0 | ⟨g, cap, cur, a, b, rest⟩
  · exact Or.inl h0
  · exact Or.inr ⟨g, cap, cur, a, Nat.le_trans hB b, rest⟩
theorem encT_pos (s : List UInt8) : 1 ≤ (encT s).length := by unfold encT; rw [List.length_append]; have := encN_pos s.length; omega
theorem bytesL_pos (l : List Sp) : 1 ≤ (bytesL l).length := by unfold bytesL; rw [List.length_append]; have := encN_pos l.length; omega
theorem OB.fresh {w w0 wr : World} {v : Value} {bs : List UInt8} (h : OB w0 v bs wr) (hb : Below w.heap.size w w0) : Fresh bs w (.returned v) wr := ⟨v, rfl, owns_mono h.1 hb.size, below_step hb h.2⟩
set_option maxHeartbeats 6400000 in
set_option maxRecDepth 20000 in
theorem bytes8_1 (R N M S : Nat) (text : List UInt8) (spans : List Sp) (p : Option Addr) (c : Nat) (w : World) (hR : R ≤ 65535) (hN : N ≤ 4294967295) (hM : M ≤ 4294967295) (hS : S ≤ 4294967295) (ht : text.length ≤ 64) :
    Calls Try.prog 37 #[.agg #[.int .i64 1, .int .u16 (R : Int), .int .u32 (N : Int), .int .u32 (M : Int), .string ⟨text.toArray⟩, .slice p spans.length c, .int .u32 (S : Int)]] w (Fresh (encN 1 ++ (encN R ++ (encN N ++ encN M)) ++ encT text) w) := by
  obtain ⟨i0, hi, hz0, hz1, hz2⟩ := info_parts infoB
  have HN := Lib.hid num_fresh
  have HT := Lib.hid (fun W => reftext_any text (by omega) W)
  have hTl : (encT text).length ≤ 100 := by unfold encT; rw [List.length_append]; have := encN_len (n := text.length) (by omega); omega
  have HC : Hid (∀ W, Below (w.alloc (.cells #[.int .i64 1, .int .u16 (R : Int), .int .u32 (N : Int), .int .u32 (M : Int), .string ⟨text.toArray⟩, .slice p spans.length c, .int .u32 (S : Int)] 49)).heap.size (w.alloc (.cells #[.int .i64 1, .int .u16 (R : Int), .int .u32 (N : Int), .int .u32 (M : Int), .string ⟨text.toArray⟩, .slice p spans.length c, .int .u32 (S : Int)] 49)) W → _) := fun W hb => seven_cells (kept_box (heap_alloc_new w _) hb)
  have HB0 : Hid (Below w.heap.size w (w.alloc (.cells #[.int .i64 1, .int .u16 (R : Int), .int .u32 (N : Int), .int .u32 (M : Int), .string ⟨text.toArray⟩, .slice p spans.length c, .int .u32 (S : Int)] 49))) := below_alloc (Below.refl _ _) _
  have eR := encN_len (n := R) (by omega)
  have eN := encN_len (n := N) (by omega)
  have eM := encN_len (n := M) (by omega)
  have eS := encN_len (n := S) (by omega)
  have kR : IntKind.u64.wrap (R : Int) = (R : Int) := by rw [IntKind.wrap_u64]; omega
  have kN : IntKind.u64.wrap (N : Int) = (N : Int) := by rw [IntKind.wrap_u64]; omega
  have kM : IntKind.u64.wrap (M : Int) = (M : Int) := by rw [IntKind.wrap_u64]; omega
  have kS : IntKind.u64.wrap (S : Int) = (S : Int) := by rw [IntKind.wrap_u64]; omega
  generalize (⟨text.toArray⟩ : ByteArray) = bt at *
  go_enter Try.func37, Try.ntmps37
  go_wp2_with fail
  generalize w.alloc (.cells #[.int .i64 1, .int .u16 (R : Int), .int .u32 (N : Int), .int .u32 (M : Int), .string bt, .slice p spans.length c, .int .u32 (S : Int)] 49) = w0 at HC HB0 ⊢
  refine (HN.out 1 (by omega) _).mono ?_
  rintro e wz ⟨v0, rfl, ho, hb⟩
  have H0 : Hid (OB w0 v0 (encN 1) wz) := ⟨ho, hb⟩
  have e0 := encN_len (n := 1) (by omega)
  clear ho hb
  obtain ⟨x0, x1, x2, x3, x4, x5, x6⟩ := HC.out _ H0.out.2
  generalize hO0 : encN 1 = O0 at H0 e0
  go_wp2_with fail
  refine (HN.out R (by omega) _).mono ?_
  rintro e wa1 ⟨va1, rfl, ho, hb⟩
  have HA1 : Hid (OB w0 v0 O0 wa1) := H0.out.below hb
  obtain ⟨g1, d1, rfl, hr⟩ := owns_some ho (encN_pos R)
  have HRR1 := Lib.hid hr
  clear ho hb hr H0 x0 x1 x2 x3 x4 x5 x6
  obtain ⟨x0, x1, x2, x3, x4, x5, x6⟩ := HC.out _ HA1.out.2
  go_wp2_with (first
    | (at_builtin; refine wpList_append_own _ rfl (.tmp 16) (.tmp 21) 52 rfl w0.heap.size 5 i0 (.int .u8 0) 1 1 Try.underlying52 hi hz0 hz1 hz2 rfl (by decide) _ O0.length (byteCells O0) rfl HA1.out.1 ⟨g1, 0, none⟩ (encN R).length d1 (byteCells (encN R)) rfl (by rw [byteCells_length, Nat.mul_one]) (brow_news HRR1.out) (byteCells_one _) (by unfold maxLen; omega) (by omega) HA1.out.2.size ?_))
  intro v1 w1 hown hgrow _
  have H1 : Hid (OB w0 v1 (O0 ++ (encN R)) w1) := HA1.out.onto hown hgrow
  have hl1 : (O0 ++ (encN R)).length ≤ 4000 := by rw [List.length_append]; omega
  clear hown hgrow HA1 HRR1 x0 x1 x2 x3 x4 x5 x6
  obtain ⟨x0, x1, x2, x3, x4, x5, x6⟩ := HC.out _ H1.out.2
  generalize hO1 : O0 ++ (encN R) = O1 at H1 hl1
  go_wp2_with fail
  refine (HN.out N (by omega) _).mono ?_
  rintro e wa2 ⟨va2, rfl, ho, hb⟩
  have HA2 : Hid (OB w0 v1 O1 wa2) := H1.out.below hb
  obtain ⟨g2, d2, rfl, hr⟩ := owns_some ho (encN_pos N)
  have HRR2 := Lib.hid hr
  clear ho hb hr H1 x0 x1 x2 x3 x4 x5 x6
  obtain ⟨x0, x1, x2, x3, x4, x5, x6⟩ := HC.out _ HA2.out.2
  go_wp2_with (first
    | (at_builtin; refine wpList_append_own _ rfl (.tmp 23) (.tmp 28) 52 rfl w0.heap.size 5 i0 (.int .u8 0) 1 1 Try.underlying52 hi hz0 hz1 hz2 rfl (by decide) _ O1.length (byteCells O1) rfl HA2.out.1 ⟨g2, 0, none⟩ (encN N).length d2 (byteCells (encN N)) rfl (by rw [byteCells_length, Nat.mul_one]) (brow_news HRR2.out) (byteCells_one _) (by unfold maxLen; omega) (by omega) HA2.out.2.size ?_))
  intro v2 w2 hown hgrow _
  have H2 : Hid (OB w0 v2 (O1 ++ (encN N)) w2) := HA2.out.onto hown hgrow
  have hl2 : (O1 ++ (encN N)).length ≤ 6000 := by rw [List.length_append]; omega
  clear hown hgrow HA2 HRR2 x0 x1 x2 x3 x4 x5 x6
  obtain ⟨x0, x1, x2, x3, x4, x5, x6⟩ := HC.out _ H2.out.2
  generalize hO2 : O1 ++ (encN N) = O2 at H2 hl2
  go_wp2_with fail
  refine (HN.out M (by omega) _).mono ?_
  rintro e wa3 ⟨va3, rfl, ho, hb⟩
  have HA3 : Hid (OB w0 v2 O2 wa3) := H2.out.below hb
  obtain ⟨g3, d3, rfl, hr⟩ := owns_some ho (encN_pos M)
  have HRR3 := Lib.hid hr
  clear ho hb hr H2 x0 x1 x2 x3 x4 x5 x6
  obtain ⟨x0, x1, x2, x3, x4, x5, x6⟩ := HC.out _ HA3.out.2
  go_wp2_with (first
    | (at_builtin; refine wpList_append_own _ rfl (.tmp 30) (.tmp 34) 52 rfl w0.heap.size 5 i0 (.int .u8 0) 1 1 Try.underlying52 hi hz0 hz1 hz2 rfl (by decide) _ O2.length (byteCells O2) rfl HA3.out.1 ⟨g3, 0, none⟩ (encN M).length d3 (byteCells (encN M)) rfl (by rw [byteCells_length, Nat.mul_one]) (brow_news HRR3.out) (byteCells_one _) (by unfold maxLen; omega) (by omega) HA3.out.2.size ?_))
  intro v3 w3 hown hgrow _
  have H3 : Hid (OB w0 v3 (O2 ++ (encN M)) w3) := HA3.out.onto hown hgrow
  have hl3 : (O2 ++ (encN M)).length ≤ 8000 := by rw [List.length_append]; omega
  clear hown hgrow HA3 HRR3 x0 x1 x2 x3 x4 x5 x6
  obtain ⟨x0, x1, x2, x3, x4, x5, x6⟩ := HC.out _ H3.out.2
  generalize hO3 : O2 ++ (encN M) = O3 at H3 hl3
  go_wp2_with fail
  refine (HT.out _).mono ?_
  rintro e wa4 ⟨va4, rfl, ho, hb⟩
  have HA4 : Hid (OB w0 v3 O3 wa4) := H3.out.below hb
  obtain ⟨g4, d4, rfl, hr⟩ := owns_some ho (encT_pos text)
  have HRR4 := Lib.hid hr
  clear ho hb hr H3 x0 x1 x2 x3 x4 x5 x6
  obtain ⟨x0, x1, x2, x3, x4, x5, x6⟩ := HC.out _ HA4.out.2
  go_wp2_with (first
    | (at_builtin; refine wpList_append_own _ rfl (.tmp 39) (.tmp 42) 52 rfl w0.heap.size 5 i0 (.int .u8 0) 1 1 Try.underlying52 hi hz0 hz1 hz2 rfl (by decide) _ O3.length (byteCells O3) rfl HA4.out.1 ⟨g4, 0, none⟩ (encT text).length d4 (byteCells (encT text)) rfl (by rw [byteCells_length, Nat.mul_one]) (brow_news HRR4.out) (byteCells_one _) (by unfold maxLen; omega) (by omega) HA4.out.2.size ?_))
  intro v4 w4 hown hgrow _
  have H4 : Hid (OB w0 v4 (O3 ++ (encT text)) w4) := HA4.out.onto hown hgrow
  have hl4 : (O3 ++ (encT text)).length ≤ 10000 := by rw [List.length_append]; omega
  clear hown hgrow HA4 HRR4 x0 x1 x2 x3 x4 x5 x6
  obtain ⟨x0, x1, x2, x3, x4, x5, x6⟩ := HC.out _ H4.out.2
  generalize hO4 : O3 ++ (encT text) = O4 at H4 hl4
  go_wp2
  go_ret
  subst hO4 hO3 hO2 hO1 hO0
  have := H4.out.fresh HB0.out
  simpa [List.append_assoc] using this
set_option maxHeartbeats 6400000 in
set_option maxRecDepth 20000 in
theorem bytes8_2 (R N M S : Nat) (text : List UInt8) (spans : List Sp) (p : Option Addr) (c : Nat) (w : World) (hR : R ≤ 65535) (hN : N ≤ 4294967295) (hM : M ≤ 4294967295) (hS : S ≤ 4294967295) (hG : GRow layS w p spans) (hr : RightS spans) (hf : FitSs spans) (hl : spans.length ≤ 60) :
    Calls Try.prog 37 #[.agg #[.int .i64 2, .int .u16 (R : Int), .int .u32 (N : Int), .int .u32 (M : Int), .string ⟨text.toArray⟩, .slice p spans.length c, .int .u32 (S : Int)]] w (Fresh (encN 2 ++ bytesL spans) w) := by
  obtain ⟨i0, hi, hz0, hz1, hz2⟩ := info_parts infoB
  have HN := Lib.hid num_fresh
  have HS : Hid (∀ W, Below w.heap.size w W → Calls Try.prog 59 #[.slice p spans.length c] W (Fresh (bytesL spans) W)) := fun W hb => refbytes_any spans p c W (hG.below hb) hr hf (by omega)
  have hSl := bytesL_len hf (by omega)
  clear hG hr hf
  have HC : Hid (∀ W, Below (w.alloc (.cells #[.int .i64 2, .int .u16 (R : Int), .int .u32 (N : Int), .int .u32 (M : Int), .string ⟨text.toArray⟩, .slice p spans.length c, .int .u32 (S : Int)] 49)).heap.size (w.alloc (.cells #[.int .i64 2, .int .u16 (R : Int), .int .u32 (N : Int), .int .u32 (M : Int), .string ⟨text.toArray⟩, .slice p spans.length c, .int .u32 (S : Int)] 49)) W → _) := fun W hb => seven_cells (kept_box (heap_alloc_new w _) hb)
  have HB0 : Hid (Below w.heap.size w (w.alloc (.cells #[.int .i64 2, .int .u16 (R : Int), .int .u32 (N : Int), .int .u32 (M : Int), .string ⟨text.toArray⟩, .slice p spans.length c, .int .u32 (S : Int)] 49))) := below_alloc (Below.refl _ _) _
  have eR := encN_len (n := R) (by omega)
  have eN := encN_len (n := N) (by omega)
  have eM := encN_len (n := M) (by omega)
  have eS := encN_len (n := S) (by omega)
  have kR : IntKind.u64.wrap (R : Int) = (R : Int) := by rw [IntKind.wrap_u64]; omega
  have kN : IntKind.u64.wrap (N : Int) = (N : Int) := by rw [IntKind.wrap_u64]; omega
  have kM : IntKind.u64.wrap (M : Int) = (M : Int) := by rw [IntKind.wrap_u64]; omega
  have kS : IntKind.u64.wrap (S : Int) = (S : Int) := by rw [IntKind.wrap_u64]; omega
  generalize (⟨text.toArray⟩ : ByteArray) = bt at *
  go_enter Try.func37, Try.ntmps37
  go_wp2_with fail
  generalize w.alloc (.cells #[.int .i64 2, .int .u16 (R : Int), .int .u32 (N : Int), .int .u32 (M : Int), .string bt, .slice p spans.length c, .int .u32 (S : Int)] 49) = w0 at HC HB0 ⊢
  refine (HN.out 2 (by omega) _).mono ?_
  rintro e wz ⟨v0, rfl, ho, hb⟩
  have H0 : Hid (OB w0 v0 (encN 2) wz) := ⟨ho, hb⟩
  have e0 := encN_len (n := 2) (by omega)
  clear ho hb
  obtain ⟨x0, x1, x2, x3, x4, x5, x6⟩ := HC.out _ H0.out.2
  generalize hO0 : encN 2 = O0 at H0 e0
  go_wp2_with fail
  refine (HS.out _ (below_step HB0.out H0.out.2)).mono ?_
  rintro e wa1 ⟨va1, rfl, ho, hb⟩
  have HA1 : Hid (OB w0 v0 O0 wa1) := H0.out.below hb
  obtain ⟨g1, d1, rfl, hr⟩ := owns_some ho (bytesL_pos spans)
  have HRR1 := Lib.hid hr
  clear ho hb hr H0 x0 x1 x2 x3 x4 x5 x6
  obtain ⟨x0, x1, x2, x3, x4, x5, x6⟩ := HC.out _ HA1.out.2
  go_wp2_with (first
    | (at_builtin; refine wpList_append_own _ rfl (.tmp 52) (.tmp 55) 52 rfl w0.heap.size 5 i0 (.int .u8 0) 1 1 Try.underlying52 hi hz0 hz1 hz2 rfl (by decide) _ O0.length (byteCells O0) rfl HA1.out.1 ⟨g1, 0, none⟩ (bytesL spans).length d1 (byteCells (bytesL spans)) rfl (by rw [byteCells_length, Nat.mul_one]) (brow_news HRR1.out) (byteCells_one _) (by unfold maxLen; omega) (by omega) HA1.out.2.size ?_))
  intro v1 w1 hown hgrow _
  have H1 : Hid (OB w0 v1 (O0 ++ (bytesL spans)) w1) := HA1.out.onto hown hgrow
  have hl1 : (O0 ++ (bytesL spans)).length ≤ 4000 := by rw [List.length_append]; omega
  clear hown hgrow HA1 HRR1 x0 x1 x2 x3 x4 x5 x6
  obtain ⟨x0, x1, x2, x3, x4, x5, x6⟩ := HC.out _ H1.out.2
  generalize hO1 : O0 ++ (bytesL spans) = O1 at H1 hl1
  go_wp2
  go_ret
  subst hO1 hO0
  have := H1.out.fresh HB0.out
  simpa [List.append_assoc] using this
set_option maxHeartbeats 6400000 in
set_option maxRecDepth 20000 in
theorem bytes8_3 (R N M S : Nat) (text : List UInt8) (spans : List Sp) (p : Option Addr) (c : Nat) (w : World) (hR : R ≤ 65535) (hN : N ≤ 4294967295) (hM : M ≤ 4294967295) (hS : S ≤ 4294967295) (hG : GRow layS w p spans) (hr : RightS spans) (hf : FitSs spans) (hl : spans.length ≤ 60) :
    Calls Try.prog 37 #[.agg #[.int .i64 3, .int .u16 (R : Int), .int .u32 (N : Int), .int .u32 (M : Int), .string ⟨text.toArray⟩, .slice p spans.length c, .int .u32 (S : Int)]] w (Fresh (encN 3 ++ (encN R ++ (encN N ++ encN M)) ++ bytesL spans) w) := by
  obtain ⟨i0, hi, hz0, hz1, hz2⟩ := info_parts infoB
  have HN := Lib.hid num_fresh
  have HS : Hid (∀ W, Below w.heap.size w W → Calls Try.prog 59 #[.slice p spans.length c] W (Fresh (bytesL spans) W)) := fun W hb => refbytes_any spans p c W (hG.below hb) hr hf (by omega)
  have hSl := bytesL_len hf (by omega)
  clear hG hr hf
  have HC : Hid (∀ W, Below (w.alloc (.cells #[.int .i64 3, .int .u16 (R : Int), .int .u32 (N : Int), .int .u32 (M : Int), .string ⟨text.toArray⟩, .slice p spans.length c, .int .u32 (S : Int)] 49)).heap.size (w.alloc (.cells #[.int .i64 3, .int .u16 (R : Int), .int .u32 (N : Int), .int .u32 (M : Int), .string ⟨text.toArray⟩, .slice p spans.length c, .int .u32 (S : Int)] 49)) W → _) := fun W hb => seven_cells (kept_box (heap_alloc_new w _) hb)
  have HB0 : Hid (Below w.heap.size w (w.alloc (.cells #[.int .i64 3, .int .u16 (R : Int), .int .u32 (N : Int), .int .u32 (M : Int), .string ⟨text.toArray⟩, .slice p spans.length c, .int .u32 (S : Int)] 49))) := below_alloc (Below.refl _ _) _
  have eR := encN_len (n := R) (by omega)
  have eN := encN_len (n := N) (by omega)
  have eM := encN_len (n := M) (by omega)
  have eS := encN_len (n := S) (by omega)
  have kR : IntKind.u64.wrap (R : Int) = (R : Int) := by rw [IntKind.wrap_u64]; omega
  have kN : IntKind.u64.wrap (N : Int) = (N : Int) := by rw [IntKind.wrap_u64]; omega
  have kM : IntKind.u64.wrap (M : Int) = (M : Int) := by rw [IntKind.wrap_u64]; omega
  have kS : IntKind.u64.wrap (S : Int) = (S : Int) := by rw [IntKind.wrap_u64]; omega
  generalize (⟨text.toArray⟩ : ByteArray) = bt at *
  go_enter Try.func37, Try.ntmps37
  go_wp2_with fail
  generalize w.alloc (.cells #[.int .i64 3, .int .u16 (R : Int), .int .u32 (N : Int), .int .u32 (M : Int), .string bt, .slice p spans.length c, .int .u32 (S : Int)] 49) = w0 at HC HB0 ⊢
  refine (HN.out 3 (by omega) _).mono ?_
  rintro e wz ⟨v0, rfl, ho, hb⟩
  have H0 : Hid (OB w0 v0 (encN 3) wz) := ⟨ho, hb⟩
  have e0 := encN_len (n := 3) (by omega)
  clear ho hb
  obtain ⟨x0, x1, x2, x3, x4, x5, x6⟩ := HC.out _ H0.out.2
  generalize hO0 : encN 3 = O0 at H0 e0
  go_wp2_with fail
  refine (HN.out R (by omega) _).mono ?_
  rintro e wa1 ⟨va1, rfl, ho, hb⟩
  have HA1 : Hid (OB w0 v0 O0 wa1) := H0.out.below hb
  obtain ⟨g1, d1, rfl, hr⟩ := owns_some ho (encN_pos R)
  have HRR1 := Lib.hid hr
  clear ho hb hr H0 x0 x1 x2 x3 x4 x5 x6
  obtain ⟨x0, x1, x2, x3, x4, x5, x6⟩ := HC.out _ HA1.out.2
  go_wp2_with (first
    | (at_builtin; refine wpList_append_own _ rfl (.tmp 16) (.tmp 21) 52 rfl w0.heap.size 5 i0 (.int .u8 0) 1 1 Try.underlying52 hi hz0 hz1 hz2 rfl (by decide) _ O0.length (byteCells O0) rfl HA1.out.1 ⟨g1, 0, none⟩ (encN R).length d1 (byteCells (encN R)) rfl (by rw [byteCells_length, Nat.mul_one]) (brow_news HRR1.out) (byteCells_one _) (by unfold maxLen; omega) (by omega) HA1.out.2.size ?_))
  intro v1 w1 hown hgrow _
  have H1 : Hid (OB w0 v1 (O0 ++ (encN R)) w1) := HA1.out.onto hown hgrow
  have hl1 : (O0 ++ (encN R)).length ≤ 4000 := by rw [List.length_append]; omega
  clear hown hgrow HA1 HRR1 x0 x1 x2 x3 x4 x5 x6
  obtain ⟨x0, x1, x2, x3, x4, x5, x6⟩ := HC.out _ H1.out.2
  generalize hO1 : O0 ++ (encN R) = O1 at H1 hl1
  go_wp2_with fail
  refine (HN.out N (by omega) _).mono ?_
  rintro e wa2 ⟨va2, rfl, ho, hb⟩
  have HA2 : Hid (OB w0 v1 O1 wa2) := H1.out.below hb
  obtain ⟨g2, d2, rfl, hr⟩ := owns_some ho (encN_pos N)
  have HRR2 := Lib.hid hr
  clear ho hb hr H1 x0 x1 x2 x3 x4 x5 x6
  obtain ⟨x0, x1, x2, x3, x4, x5, x6⟩ := HC.out _ HA2.out.2
  go_wp2_with (first
    | (at_builtin; refine wpList_append_own _ rfl (.tmp 23) (.tmp 28) 52 rfl w0.heap.size 5 i0 (.int .u8 0) 1 1 Try.underlying52 hi hz0 hz1 hz2 rfl (by decide) _ O1.length (byteCells O1) rfl HA2.out.1 ⟨g2, 0, none⟩ (encN N).length d2 (byteCells (encN N)) rfl (by rw [byteCells_length, Nat.mul_one]) (brow_news HRR2.out) (byteCells_one _) (by unfold maxLen; omega) (by omega) HA2.out.2.size ?_))
  intro v2 w2 hown hgrow _
  have H2 : Hid (OB w0 v2 (O1 ++ (encN N)) w2) := HA2.out.onto hown hgrow
  have hl2 : (O1 ++ (encN N)).length ≤ 6000 := by rw [List.length_append]; omega
  clear hown hgrow HA2 HRR2 x0 x1 x2 x3 x4 x5 x6
  obtain ⟨x0, x1, x2, x3, x4, x5, x6⟩ := HC.out _ H2.out.2
  generalize hO2 : O1 ++ (encN N) = O2 at H2 hl2
  go_wp2_with fail
  refine (HN.out M (by omega) _).mono ?_
  rintro e wa3 ⟨va3, rfl, ho, hb⟩
  have HA3 : Hid (OB w0 v2 O2 wa3) := H2.out.below hb
  obtain ⟨g3, d3, rfl, hr⟩ := owns_some ho (encN_pos M)
  have HRR3 := Lib.hid hr
  clear ho hb hr H2 x0 x1 x2 x3 x4 x5 x6
  obtain ⟨x0, x1, x2, x3, x4, x5, x6⟩ := HC.out _ HA3.out.2
  go_wp2_with (first
    | (at_builtin; refine wpList_append_own _ rfl (.tmp 30) (.tmp 34) 52 rfl w0.heap.size 5 i0 (.int .u8 0) 1 1 Try.underlying52 hi hz0 hz1 hz2 rfl (by decide) _ O2.length (byteCells O2) rfl HA3.out.1 ⟨g3, 0, none⟩ (encN M).length d3 (byteCells (encN M)) rfl (by rw [byteCells_length, Nat.mul_one]) (brow_news HRR3.out) (byteCells_one _) (by unfold maxLen; omega) (by omega) HA3.out.2.size ?_))
  intro v3 w3 hown hgrow _
  have H3 : Hid (OB w0 v3 (O2 ++ (encN M)) w3) := HA3.out.onto hown hgrow
  have hl3 : (O2 ++ (encN M)).length ≤ 8000 := by rw [List.length_append]; omega
  clear hown hgrow HA3 HRR3 x0 x1 x2 x3 x4 x5 x6
  obtain ⟨x0, x1, x2, x3, x4, x5, x6⟩ := HC.out _ H3.out.2
  generalize hO3 : O2 ++ (encN M) = O3 at H3 hl3
  go_wp2_with fail
  refine (HS.out _ (below_step HB0.out H3.out.2)).mono ?_
  rintro e wa4 ⟨va4, rfl, ho, hb⟩
  have HA4 : Hid (OB w0 v3 O3 wa4) := H3.out.below hb
  obtain ⟨g4, d4, rfl, hr⟩ := owns_some ho (bytesL_pos spans)
  have HRR4 := Lib.hid hr
  clear ho hb hr H3 x0 x1 x2 x3 x4 x5 x6
  obtain ⟨x0, x1, x2, x3, x4, x5, x6⟩ := HC.out _ HA4.out.2
  go_wp2_with (first
    | (at_builtin; refine wpList_append_own _ rfl (.tmp 52) (.tmp 55) 52 rfl w0.heap.size 5 i0 (.int .u8 0) 1 1 Try.underlying52 hi hz0 hz1 hz2 rfl (by decide) _ O3.length (byteCells O3) rfl HA4.out.1 ⟨g4, 0, none⟩ (bytesL spans).length d4 (byteCells (bytesL spans)) rfl (by rw [byteCells_length, Nat.mul_one]) (brow_news HRR4.out) (byteCells_one _) (by unfold maxLen; omega) (by omega) HA4.out.2.size ?_))
  intro v4 w4 hown hgrow _
  have H4 : Hid (OB w0 v4 (O3 ++ (bytesL spans)) w4) := HA4.out.onto hown hgrow
  have hl4 : (O3 ++ (bytesL spans)).length ≤ 10000 := by rw [List.length_append]; omega
  clear hown hgrow HA4 HRR4 x0 x1 x2 x3 x4 x5 x6
  obtain ⟨x0, x1, x2, x3, x4, x5, x6⟩ := HC.out _ H4.out.2
  generalize hO4 : O3 ++ (bytesL spans) = O4 at H4 hl4
  go_wp2
  go_ret
  subst hO4 hO3 hO2 hO1 hO0
  have := H4.out.fresh HB0.out
  simpa [List.append_assoc] using this
set_option maxHeartbeats 6400000 in
set_option maxRecDepth 20000 in
theorem bytes8_4 (R N M S : Nat) (text : List UInt8) (spans : List Sp) (p : Option Addr) (c : Nat) (w : World) (hR : R ≤ 65535) (hN : N ≤ 4294967295) (hM : M ≤ 4294967295) (hS : S ≤ 4294967295) :
    Calls Try.prog 37 #[.agg #[.int .i64 4, .int .u16 (R : Int), .int .u32 (N : Int), .int .u32 (M : Int), .string ⟨text.toArray⟩, .slice p spans.length c, .int .u32 (S : Int)]] w (Fresh (encN 4 ++ encN S) w) := by
  obtain ⟨i0, hi, hz0, hz1, hz2⟩ := info_parts infoB
  have HN := Lib.hid num_fresh
  have HC : Hid (∀ W, Below (w.alloc (.cells #[.int .i64 4, .int .u16 (R : Int), .int .u32 (N : Int), .int .u32 (M : Int), .string ⟨text.toArray⟩, .slice p spans.length c, .int .u32 (S : Int)] 49)).heap.size (w.alloc (.cells #[.int .i64 4, .int .u16 (R : Int), .int .u32 (N : Int), .int .u32 (M : Int), .string ⟨text.toArray⟩, .slice p spans.length c, .int .u32 (S : Int)] 49)) W → _) := fun W hb => seven_cells (kept_box (heap_alloc_new w _) hb)
  have HB0 : Hid (Below w.heap.size w (w.alloc (.cells #[.int .i64 4, .int .u16 (R : Int), .int .u32 (N : Int), .int .u32 (M : Int), .string ⟨text.toArray⟩, .slice p spans.length c, .int .u32 (S : Int)] 49))) := below_alloc (Below.refl _ _) _
  have eR := encN_len (n := R) (by omega)
  have eN := encN_len (n := N) (by omega)
  have eM := encN_len (n := M) (by omega)
  have eS := encN_len (n := S) (by omega)
  have kR : IntKind.u64.wrap (R : Int) = (R : Int) := by rw [IntKind.wrap_u64]; omega
  have kN : IntKind.u64.wrap (N : Int) = (N : Int) := by rw [IntKind.wrap_u64]; omega
  have kM : IntKind.u64.wrap (M : Int) = (M : Int) := by rw [IntKind.wrap_u64]; omega
  have kS : IntKind.u64.wrap (S : Int) = (S : Int) := by rw [IntKind.wrap_u64]; omega
  generalize (⟨text.toArray⟩ : ByteArray) = bt at *
  go_enter Try.func37, Try.ntmps37
  go_wp2_with fail
  generalize w.alloc (.cells #[.int .i64 4, .int .u16 (R : Int), .int .u32 (N : Int), .int .u32 (M : Int), .string bt, .slice p spans.length c, .int .u32 (S : Int)] 49) = w0 at HC HB0 ⊢
  refine (HN.out 4 (by omega) _).mono ?_
  rintro e wz ⟨v0, rfl, ho, hb⟩
  have H0 : Hid (OB w0 v0 (encN 4) wz) := ⟨ho, hb⟩
  have e0 := encN_len (n := 4) (by omega)
  clear ho hb
  obtain ⟨x0, x1, x2, x3, x4, x5, x6⟩ := HC.out _ H0.out.2
  generalize hO0 : encN 4 = O0 at H0 e0
  go_wp2_with fail
  refine (HN.out S (by omega) _).mono ?_
  rintro e wa1 ⟨va1, rfl, ho, hb⟩
  have HA1 : Hid (OB w0 v0 O0 wa1) := H0.out.below hb
  obtain ⟨g1, d1, rfl, hr⟩ := owns_some ho (encN_pos S)
  have HRR1 := Lib.hid hr
  clear ho hb hr H0 x0 x1 x2 x3 x4 x5 x6
  obtain ⟨x0, x1, x2, x3, x4, x5, x6⟩ := HC.out _ HA1.out.2
  go_wp2_with (first
    | (at_builtin; refine wpList_append_own _ rfl (.tmp 57) (.tmp 61) 52 rfl w0.heap.size 5 i0 (.int .u8 0) 1 1 Try.underlying52 hi hz0 hz1 hz2 rfl (by decide) _ O0.length (byteCells O0) rfl HA1.out.1 ⟨g1, 0, none⟩ (encN S).length d1 (byteCells (encN S)) rfl (by rw [byteCells_length, Nat.mul_one]) (brow_news HRR1.out) (byteCells_one _) (by unfold maxLen; omega) (by omega) HA1.out.2.size ?_))
  intro v1 w1 hown hgrow _
  have H1 : Hid (OB w0 v1 (O0 ++ (encN S)) w1) := HA1.out.onto hown hgrow
  have hl1 : (O0 ++ (encN S)).length ≤ 4000 := by rw [List.length_append]; omega
  clear hown hgrow HA1 HRR1 x0 x1 x2 x3 x4 x5 x6
  obtain ⟨x0, x1, x2, x3, x4, x5, x6⟩ := HC.out _ H1.out.2
  generalize hO1 : O0 ++ (encN S) = O1 at H1 hl1
  go_wp2
  go_ret
  subst hO1 hO0
  have := H1.out.fresh HB0.out
  simpa [List.append_assoc] using this
set_option maxHeartbeats 6400000 in
set_option maxRecDepth 20000 in
theorem bytes8_5 (R N M S : Nat) (text : List UInt8) (spans : List Sp) (p : Option Addr) (c : Nat) (w : World) (hR : R ≤ 65535) (hN : N ≤ 4294967295) (hM : M ≤ 4294967295) (hS : S ≤ 4294967295) :
    Calls Try.prog 37 #[.agg #[.int .i64 5, .int .u16 (R : Int), .int .u32 (N : Int), .int .u32 (M : Int), .string ⟨text.toArray⟩, .slice p spans.length c, .int .u32 (S : Int)]] w (Fresh (encN 5 ++ encN S) w) := by
  obtain ⟨i0, hi, hz0, hz1, hz2⟩ := info_parts infoB
  have HN := Lib.hid num_fresh
  have HC : Hid (∀ W, Below (w.alloc (.cells #[.int .i64 5, .int .u16 (R : Int), .int .u32 (N : Int), .int .u32 (M : Int), .string ⟨text.toArray⟩, .slice p spans.length c, .int .u32 (S : Int)] 49)).heap.size (w.alloc (.cells #[.int .i64 5, .int .u16 (R : Int), .int .u32 (N : Int), .int .u32 (M : Int), .string ⟨text.toArray⟩, .slice p spans.length c, .int .u32 (S : Int)] 49)) W → _) := fun W hb => seven_cells (kept_box (heap_alloc_new w _) hb)
  have HB0 : Hid (Below w.heap.size w (w.alloc (.cells #[.int .i64 5, .int .u16 (R : Int), .int .u32 (N : Int), .int .u32 (M : Int), .string ⟨text.toArray⟩, .slice p spans.length c, .int .u32 (S : Int)] 49))) := below_alloc (Below.refl _ _) _
  have eR := encN_len (n := R) (by omega)
  have eN := encN_len (n := N) (by omega)
  have eM := encN_len (n := M) (by omega)
  have eS := encN_len (n := S) (by omega)
  have kR : IntKind.u64.wrap (R : Int) = (R : Int) := by rw [IntKind.wrap_u64]; omega
  have kN : IntKind.u64.wrap (N : Int) = (N : Int) := by rw [IntKind.wrap_u64]; omega
  have kM : IntKind.u64.wrap (M : Int) = (M : Int) := by rw [IntKind.wrap_u64]; omega
  have kS : IntKind.u64.wrap (S : Int) = (S : Int) := by rw [IntKind.wrap_u64]; omega
  generalize (⟨text.toArray⟩ : ByteArray) = bt at *
  go_enter Try.func37, Try.ntmps37
  go_wp2_with fail
  generalize w.alloc (.cells #[.int .i64 5, .int .u16 (R : Int), .int .u32 (N : Int), .int .u32 (M : Int), .string bt, .slice p spans.length c, .int .u32 (S : Int)] 49) = w0 at HC HB0 ⊢
  refine (HN.out 5 (by omega) _).mono ?_
  rintro e wz ⟨v0, rfl, ho, hb⟩
  have H0 : Hid (OB w0 v0 (encN 5) wz) := ⟨ho, hb⟩
  have e0 := encN_len (n := 5) (by omega)
  clear ho hb
  obtain ⟨x0, x1, x2, x3, x4, x5, x6⟩ := HC.out _ H0.out.2
  generalize hO0 : encN 5 = O0 at H0 e0
  go_wp2_with fail
  refine (HN.out S (by omega) _).mono ?_
  rintro e wa1 ⟨va1, rfl, ho, hb⟩
  have HA1 : Hid (OB w0 v0 O0 wa1) := H0.out.below hb
  obtain ⟨g1, d1, rfl, hr⟩ := owns_some ho (encN_pos S)
  have HRR1 := Lib.hid hr
  clear ho hb hr H0 x0 x1 x2 x3 x4 x5 x6
  obtain ⟨x0, x1, x2, x3, x4, x5, x6⟩ := HC.out _ HA1.out.2
  go_wp2_with (first
    | (at_builtin; refine wpList_append_own _ rfl (.tmp 57) (.tmp 61) 52 rfl w0.heap.size 5 i0 (.int .u8 0) 1 1 Try.underlying52 hi hz0 hz1 hz2 rfl (by decide) _ O0.length (byteCells O0) rfl HA1.out.1 ⟨g1, 0, none⟩ (encN S).length d1 (byteCells (encN S)) rfl (by rw [byteCells_length, Nat.mul_one]) (brow_news HRR1.out) (byteCells_one _) (by unfold maxLen; omega) (by omega) HA1.out.2.size ?_))
  intro v1 w1 hown hgrow _
  have H1 : Hid (OB w0 v1 (O0 ++ (encN S)) w1) := HA1.out.onto hown hgrow
  have hl1 : (O0 ++ (encN S)).length ≤ 4000 := by rw [List.length_append]; omega
  clear hown hgrow HA1 HRR1 x0 x1 x2 x3 x4 x5 x6
  obtain ⟨x0, x1, x2, x3, x4, x5, x6⟩ := HC.out _ H1.out.2
  generalize hO1 : O0 ++ (encN S) = O1 at H1 hl1
  go_wp2
  go_ret
  subst hO1 hO0
  have := H1.out.fresh HB0.out
  simpa [List.append_assoc] using this
end Go.Proofs.Ytedlmngfkkpmgaa
