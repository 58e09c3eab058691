/-
  Several texts of one proof, joined: each part says at its head what it proves. No conditions beyond what each theorem states.
-/
import Derived.Test.YtceanfpcddcfoaaGreatZ05
import Derived.Test.YtceanfpcddcfoaaGreatZ03
/-
  What the laws' own ref of layer 8 hands back. No conditions beyond what each theorem states.
-/
namespace Go.Proofs.YtceanfpcddcfoaaGreat
open Go.ChangeShapes Go.WideShapes Go.ChangeAt Go.RowKit Go.Lib
set_option linter.unusedVariables false
set_option linter.unusedSimpArgs false

theorem sz8 : (Tryz.prog.info? 71).map (·.size) = some 7 := by kernel_rfl
theorem box_seven {w : World} {B : Nat} {a b c d e f g a' b' c' d' e' f' g' : Value} {t : TypeId} (h : w.heap[B]? = some (.cells #[a, b, c, d, e, f, g] t (0, 0))) :
    (((((((w.setCell ⟨B, 0, none⟩ a').setCell ⟨B, 1, none⟩ b').setCell ⟨B, 2, none⟩ c').setCell ⟨B, 3, none⟩ d').setCell ⟨B, 4, none⟩ e').setCell ⟨B, 5, none⟩ f').setCell ⟨B, 6, none⟩ g').heap[B]? = some (.cells #[a', b', c', d', e', f', g'] t (0, 0)) := by
  have h1 := heap_setCell_same w B 0 _ t a' h
  have h2 := heap_setCell_same _ B 1 _ t b' h1
  have h3 := heap_setCell_same _ B 2 _ t c' h2
  have h4 := heap_setCell_same _ B 3 _ t d' h3
  have h5 := heap_setCell_same _ B 4 _ t e' h4
  have h6 := heap_setCell_same _ B 5 _ t f' h5
  have h7 := heap_setCell_same _ B 6 _ t g' h6
  simpa using h7
theorem only_set (w : World) (B o : Nat) (u : Value) : Only B w (w.setCell ⟨B, o, none⟩ u) := ⟨rfl, rfl, rfl, by simp [World.setCell], fun k _ hn => Below.heap_setCell _ _ _ _ hn⟩
theorem Only.trans {K : Nat} {a b c : World} (h : Only K a b) (k : Only K b c) : Only K a c := Kept.trans h k (fun _ _ e => e)
theorem only_seven (w : World) (B : Nat) (a b c d e f g : Value) :
    Only B w (((((((w.setCell ⟨B, 0, none⟩ a).setCell ⟨B, 1, none⟩ b).setCell ⟨B, 2, none⟩ c).setCell ⟨B, 3, none⟩ d).setCell ⟨B, 4, none⟩ e).setCell ⟨B, 5, none⟩ f).setCell ⟨B, 6, none⟩ g) :=
  (((((((only_set w B 0 a).trans (only_set _ B 1 b)).trans (only_set _ B 2 c)).trans (only_set _ B 3 d)).trans (only_set _ B 4 e)).trans (only_set _ B 5 f)).trans (only_set _ B 6 g))
/-- A variable of another kind is no part of a row of the call's own. -/
theorem kind_apart {w : World} {B base size n : Nat} {cs : Array Value} {t e : TypeId} {v : Value} {xs : List Value} {f : Nat × Nat} (hne : t ≠ e) (h : w.heap[B]? = some (.cells cs t f)) (hown : w.ownsRow base e size v n xs) : v.ownBlock ≠ some B := by
  intro ee
  obtain ⟨c, fz, hc⟩ := Lib.ownsRow_kind hown B ee
  rw [h] at hc
  injection hc with hc
  injection hc with h1 h2 h3
  exact hne h2
theorem three_blocks8 (w : World) (A B C : Obj) : (((w.alloc A).alloc B).alloc C).heap[w.heap.size + 1]? = some B ∧ (((w.alloc A).alloc B).alloc C).heap[w.heap.size + 2]? = some C := by
  have h2 : ((w.alloc A).alloc B).heap.size = w.heap.size + 2 := by simp
  refine ⟨?_, ?_⟩
  · rw [Go.heap_alloc_old ((w.alloc A).alloc B) C (by omega)]; exact heap_alloc2_new w A B
  · rw [← h2]; exact heap_alloc_new _ _
/-- An operation that a call hands back, with spans of its own. -/
def GaveO (o : Om) (w : World) (e : Ending) (w' : World) : Prop := ∃ p c, e = .returned (ov o p c) ∧ GRow layS w' p o.spans ∧ o.spans.length ≤ c ∧ (p = none → c = 0) ∧ Below w.heap.size w w'

end Go.Proofs.YtceanfpcddcfoaaGreat
/-
  SpanBytes' function hands back true, for all spans and bytes that lie in memory, if span's Of, Put and Get are as the document says. No conditions beyond what each theorem states.
-/
namespace Go.Proofs.YtceanfpcddcfoaaGreat
open Go.ChangeShapes Go.WideShapes Go.ChangeAt Go.RowKit Go.Lib
set_option linter.unusedVariables false
set_option linter.unusedSimpArgs false

/-- What Get leaves. -/
def Got (bs : List UInt8) (q e K D : Nat) (w : World) (r : Ending) (w' : World) : Prop := ∃ p c q', r = .returned (.slice p (readS bs q e).1.length c) ∧ GRow layS w' p (readS bs q e).1 ∧ (readS bs q e).1.length ≤ c ∧ (p = none → c = 0) ∧ Rd K D bs q' (readS bs q e).2.2 w' ∧ ((readS bs q e).2.2 = 0 → q' = (readS bs q e).2.1) ∧ Only K w w'
def GetSpec : Prop := ∀ (bs : List UInt8) (q e K D : Nat) (w : World), Rd K D bs q e w → bs.length ≤ 100000 → e < 16 → Calls Tryz.prog 103 #[.pointer (some ⟨K, 0, none⟩)] w (Got bs q e K D w)
def PutSpec : Prop := ∀ (B K : Nat) (v : Value) (bs : List UInt8) (l : List Sp) (p : Option Addr) (c : Nat) (w : World), Wr B K v bs w → GRow layS w p l → (0 < l.length → ∀ q, p = some q → q.block < B) → RightS l → FitSs l → l.length ≤ 1024 → bs.length ≤ 100000 → Calls Tryz.prog 92 #[.pointer (some ⟨K, 0, none⟩), .slice p l.length c] w fun e w' => e = .returned (.tuple #[]) ∧ Wrote B K v bs (bytesL l) w w'

theorem only_below {w w1 w2 : World} {K : Nat} (h : Below w.heap.size w w1) (hk : Only K w1 w2) (hK : w.heap.size ≤ K) : Below w.heap.size w w2 := h.trans (hk.below h.size (by rintro k rfl; exact hK))
theorem grow_lt {α : Type} {L : Lay α} {w : World} {p : Option Addr} {xs : List α} (h : GRow L w p xs) (hx : 0 < (L.flat xs).length) : ∀ q, p = some q → q.block < w.heap.size := by
  intro q hq
  obtain ⟨b, o, e, hc⟩ := h 0 _ (List.getElem?_eq_getElem hx)
  rw [hq] at e
  cases e
  exact block_lt_of_cell hc
theorem conv_row {w : World} {p : Option Addr} {n c : Nat} {bs : List UInt8} (h : BRow w p bs) (hn : bs.length = n) :
    (convert 42 9 (.slice p n c)).run Tryz.prog w = .ok (.string ⟨bs.toArray⟩) w := by
  cases p with
  | some a =>
    subst hn
    exact run_convert_bytes_back (P := Tryz.prog) w 42 9 5 a c bs Tryz.underlying42 Tryz.underlying5 Tryz.underlying9 (fun j hj => by
      obtain ⟨b, o', e, hc⟩ := h j hj
      cases e
      rw [Addr.add_lit, hc]
      simp [atB, hj])
  | none =>
    cases bs with
    | nil =>
      subst hn
      rw [List.length_nil, run_convert_bytes_string (P := Tryz.prog) w 42 9 5 none 0 c Tryz.underlying42 Tryz.underlying5 Tryz.underlying9]
      rfl
    | cons x xs => obtain ⟨b, o, e, _⟩ := h 0 (by simp); cases e

end Go.Proofs.YtceanfpcddcfoaaGreat
/-
  What the laws of layer 8 lean on: what op's calls hand back (to be proved of the landed code), and the laws' own anchor under that. No conditions beyond what each theorem states.
-/
namespace Go.Proofs.YtceanfpcddcfoaaGreat
open Go.ChangeShapes Go.WideShapes Go.ChangeAt Go.RowKit Go.Lib
set_option linter.unusedVariables false
set_option linter.unusedSimpArgs false

/-- An operation, written. -/
def bytesO (o : Om) : List UInt8 := encN o.kind.toNat ++ (if o.kind = 1 ∨ o.kind = 3 then encN o.r.toNat ++ (encN o.n.toNat ++ encN o.num.toNat) else []) ++ (if o.kind = 1 then encT o.text else if o.kind = 2 ∨ o.kind = 3 then bytesL o.spans else encN o.seq.toNat)
/-- An operation that comes in: values of their kinds, its spans behind their address. -/
structure InO (o : Om) (p : Option Addr) (c : Nat) (w : World) : Prop where
  fit : FitOm o
  row : GRow layS w p o.spans
  cap : o.spans.length ≤ c
  nil : p = none → c = 0
theorem InO.below {o : Om} {p : Option Addr} {c : Nat} {w w' : World} (h : InO o p c w) (hb : Below w.heap.size w w') : InO o p c w' := ⟨h.fit, h.row.below hb, h.cap, h.nil⟩
def PlainSpec : Prop := ∀ (s : List UInt8) (w : World), s.length ≤ 300 → Calls Tryz.prog 124 #[.string ⟨s.toArray⟩] w fun e w' => e = .returned (.bool (plainB s)) ∧ Below w.heap.size w w'
def AtomsSpec : Prop := ∀ (o : Om) (p : Option Addr) (c : Nat) (w : World), InO o p c w → o.text.length ≤ 300 → o.spans.length ≤ 1024 → fitO o = 0 → Calls Tryz.prog 82 #[ov o p c] w fun e w' => e = .returned (.int .i64 (atomsO o)) ∧ Below w.heap.size w w'
def FitOSpec : Prop := ∀ (o : Om) (p : Option Addr) (c : Nat) (w : World), InO o p c w → o.text.length ≤ 300 → o.spans.length ≤ 1024 → Calls Tryz.prog 97 #[ov o p c] w fun e w' => e = .returned (.int .i64 (fitO o)) ∧ Below w.heap.size w w'
def PutOSpec : Prop := ∀ (B K : Nat) (v : Value) (bs : List UInt8) (o : Om) (p : Option Addr) (c : Nat) (w : World), Wr B K v bs w → InO o p c w → (0 < o.spans.length → ∀ q, p = some q → q.block < B) → o.text.length ≤ 300 → o.spans.length ≤ 60 → fitO o = 0 → bs.length ≤ 100000 → Calls Tryz.prog 63 #[ov o p c, .pointer (some ⟨K, 0, none⟩)] w fun e w' => e = .returned (.tuple #[]) ∧ Wrote B K v bs (bytesO o) w w'
/-- The document's example. -/
def ex8 : Om := ⟨1, 0, 0, 5, [104, 105], [], 0⟩
theorem ex8_fits : fitO ex8 = 0 := by decide
theorem ex8_bytes : bytesO ex8 = [1, 0, 0, 5, 2, 104, 105] := by
  show encN 1 ++ (encN 0 ++ (encN 0 ++ encN 5)) ++ (encN 2 ++ [104, 105]) = _
  rw [encN_small (n := 1) (by decide), encN_small (n := 0) (by decide), encN_small (n := 5) (by decide), encN_small (n := 2) (by decide)]
  rfl
end Go.Proofs.YtceanfpcddcfoaaGreat
/-
  What the document's Bytes of layer 8 hands back, of an operation that fits. No conditions beyond what each theorem states.
-/
namespace Go.Proofs.YtceanfpcddcfoaaGreat
open Go.ChangeShapes Go.WideShapes Go.ChangeAt Go.RowKit Go.Lib
set_option linter.unusedVariables false
set_option linter.unusedSimpArgs false

theorem owns_mono {w : World} {B B' n size : Nat} {e : TypeId} {v : Value} {xs : List Value} (h : w.ownsRow B e size v n xs) (hB : B' ≤ B) : w.ownsRow B' e size v n xs := by
  refine ⟨h.1, ?_⟩
  rcases h.2 with h0 | ⟨g, cap, cur, a, b, rest⟩
  · exact Or.inl h0
  · exact Or.inr ⟨g, cap, cur, a, Nat.le_trans hB b, rest⟩
theorem encT_pos (s : List UInt8) : 1 ≤ (encT s).length := by unfold encT; rw [List.length_append]; have := encN_pos s.length; omega
theorem bytesL_pos (l : List Sp) : 1 ≤ (bytesL l).length := by unfold bytesL; rw [List.length_append]; have := encN_pos l.length; omega
theorem OB.fresh {w w0 wr : World} {v : Value} {bs : List UInt8} (h : OB w0 v bs wr) (hb : Below w.heap.size w w0) : Fresh bs w (.returned v) wr := ⟨v, rfl, owns_mono h.1 hb.size, below_step hb h.2⟩
set_option maxHeartbeats 6400000 in
set_option maxRecDepth 20000 in
theorem bytes8_1 (R N M S : Nat) (text : List UInt8) (spans : List Sp) (p : Option Addr) (c : Nat) (w : World) (hR : R ≤ 65535) (hN : N ≤ 4294967295) (hM : M ≤ 4294967295) (hS : S ≤ 4294967295) (ht : text.length ≤ 64) :
    Calls Tryz.prog 77 #[.agg #[.int .i64 1, .int .u16 (R : Int), .int .u32 (N : Int), .int .u32 (M : Int), .string ⟨text.toArray⟩, .slice p spans.length c, .int .u32 (S : Int)]] w (Fresh (encN 1 ++ (encN R ++ (encN N ++ encN M)) ++ encT text) w) := by
  obtain ⟨i0, hi, hz0, hz1, hz2⟩ := info_parts infoB
  have HN := Lib.hid num_fresh
  have HT := Lib.hid (fun W => reftext_any text (by omega) W)
  have hTl : (encT text).length ≤ 100 := by unfold encT; rw [List.length_append]; have := encN_len (n := text.length) (by omega); omega
  have HC : Hid (∀ W, Below (w.alloc (.cells #[.int .i64 1, .int .u16 (R : Int), .int .u32 (N : Int), .int .u32 (M : Int), .string ⟨text.toArray⟩, .slice p spans.length c, .int .u32 (S : Int)] 71)).heap.size (w.alloc (.cells #[.int .i64 1, .int .u16 (R : Int), .int .u32 (N : Int), .int .u32 (M : Int), .string ⟨text.toArray⟩, .slice p spans.length c, .int .u32 (S : Int)] 71)) W → _) := fun W hb => seven_cells (kept_box (heap_alloc_new w _) hb)
  have HB0 : Hid (Below w.heap.size w (w.alloc (.cells #[.int .i64 1, .int .u16 (R : Int), .int .u32 (N : Int), .int .u32 (M : Int), .string ⟨text.toArray⟩, .slice p spans.length c, .int .u32 (S : Int)] 71))) := below_alloc (Below.refl _ _) _
  have eR := encN_len (n := R) (by omega)
  have eN := encN_len (n := N) (by omega)
  have eM := encN_len (n := M) (by omega)
  have eS := encN_len (n := S) (by omega)
  have kR : IntKind.u64.wrap (R : Int) = (R : Int) := by rw [IntKind.wrap_u64]; omega
  have kN : IntKind.u64.wrap (N : Int) = (N : Int) := by rw [IntKind.wrap_u64]; omega
  have kM : IntKind.u64.wrap (M : Int) = (M : Int) := by rw [IntKind.wrap_u64]; omega
  have kS : IntKind.u64.wrap (S : Int) = (S : Int) := by rw [IntKind.wrap_u64]; omega
  generalize (⟨text.toArray⟩ : ByteArray) = bt at *
  go_enter Tryz.func77, Tryz.ntmps77
  go_wp2_with fail
  generalize w.alloc (.cells #[.int .i64 1, .int .u16 (R : Int), .int .u32 (N : Int), .int .u32 (M : Int), .string bt, .slice p spans.length c, .int .u32 (S : Int)] 71) = w0 at HC HB0 ⊢
  refine (HN.out 1 (by omega) _).mono ?_
  rintro e wz ⟨v0, rfl, ho, hb⟩
  have H0 : Hid (OB w0 v0 (encN 1) wz) := ⟨ho, hb⟩
  have e0 := encN_len (n := 1) (by omega)
  clear ho hb
  obtain ⟨x0, x1, x2, x3, x4, x5, x6⟩ := HC.out _ H0.out.2
  generalize hO0 : encN 1 = O0 at H0 e0
  go_wp2_with fail
  refine (HN.out R (by omega) _).mono ?_
  rintro e wa1 ⟨va1, rfl, ho, hb⟩
  have HA1 : Hid (OB w0 v0 O0 wa1) := H0.out.below hb
  obtain ⟨g1, d1, rfl, hr⟩ := owns_some ho (encN_pos R)
  have HRR1 := Lib.hid hr
  clear ho hb hr H0 x0 x1 x2 x3 x4 x5 x6
  obtain ⟨x0, x1, x2, x3, x4, x5, x6⟩ := HC.out _ HA1.out.2
  go_wp2_with (first
    | (at_builtin; refine wpList_append_own _ rfl (.tmp 16) (.tmp 21) 42 rfl w0.heap.size 5 i0 (.int .u8 0) 1 1 Tryz.underlying42 hi hz0 hz1 hz2 rfl (by decide) _ O0.length (byteCells O0) rfl HA1.out.1 ⟨g1, 0, none⟩ (encN R).length d1 (byteCells (encN R)) rfl (by rw [byteCells_length, Nat.mul_one]) (brow_news HRR1.out) (byteCells_one _) (by unfold maxLen; omega) (by omega) HA1.out.2.size ?_))
  intro v1 w1 hown hgrow _
  have H1 : Hid (OB w0 v1 (O0 ++ (encN R)) w1) := HA1.out.onto hown hgrow
  have hl1 : (O0 ++ (encN R)).length ≤ 4000 := by rw [List.length_append]; omega
  clear hown hgrow HA1 HRR1 x0 x1 x2 x3 x4 x5 x6
  obtain ⟨x0, x1, x2, x3, x4, x5, x6⟩ := HC.out _ H1.out.2
  generalize hO1 : O0 ++ (encN R) = O1 at H1 hl1
  go_wp2_with fail
  refine (HN.out N (by omega) _).mono ?_
  rintro e wa2 ⟨va2, rfl, ho, hb⟩
  have HA2 : Hid (OB w0 v1 O1 wa2) := H1.out.below hb
  obtain ⟨g2, d2, rfl, hr⟩ := owns_some ho (encN_pos N)
  have HRR2 := Lib.hid hr
  clear ho hb hr H1 x0 x1 x2 x3 x4 x5 x6
  obtain ⟨x0, x1, x2, x3, x4, x5, x6⟩ := HC.out _ HA2.out.2
  go_wp2_with (first
    | (at_builtin; refine wpList_append_own _ rfl (.tmp 23) (.tmp 28) 42 rfl w0.heap.size 5 i0 (.int .u8 0) 1 1 Tryz.underlying42 hi hz0 hz1 hz2 rfl (by decide) _ O1.length (byteCells O1) rfl HA2.out.1 ⟨g2, 0, none⟩ (encN N).length d2 (byteCells (encN N)) rfl (by rw [byteCells_length, Nat.mul_one]) (brow_news HRR2.out) (byteCells_one _) (by unfold maxLen; omega) (by omega) HA2.out.2.size ?_))
  intro v2 w2 hown hgrow _
  have H2 : Hid (OB w0 v2 (O1 ++ (encN N)) w2) := HA2.out.onto hown hgrow
  have hl2 : (O1 ++ (encN N)).length ≤ 6000 := by rw [List.length_append]; omega
  clear hown hgrow HA2 HRR2 x0 x1 x2 x3 x4 x5 x6
  obtain ⟨x0, x1, x2, x3, x4, x5, x6⟩ := HC.out _ H2.out.2
  generalize hO2 : O1 ++ (encN N) = O2 at H2 hl2
  go_wp2_with fail
  refine (HN.out M (by omega) _).mono ?_
  rintro e wa3 ⟨va3, rfl, ho, hb⟩
  have HA3 : Hid (OB w0 v2 O2 wa3) := H2.out.below hb
  obtain ⟨g3, d3, rfl, hr⟩ := owns_some ho (encN_pos M)
  have HRR3 := Lib.hid hr
  clear ho hb hr H2 x0 x1 x2 x3 x4 x5 x6
  obtain ⟨x0, x1, x2, x3, x4, x5, x6⟩ := HC.out _ HA3.out.2
  go_wp2_with (first
    | (at_builtin; refine wpList_append_own _ rfl (.tmp 30) (.tmp 34) 42 rfl w0.heap.size 5 i0 (.int .u8 0) 1 1 Tryz.underlying42 hi hz0 hz1 hz2 rfl (by decide) _ O2.length (byteCells O2) rfl HA3.out.1 ⟨g3, 0, none⟩ (encN M).length d3 (byteCells (encN M)) rfl (by rw [byteCells_length, Nat.mul_one]) (brow_news HRR3.out) (byteCells_one _) (by unfold maxLen; omega) (by omega) HA3.out.2.size ?_))
  intro v3 w3 hown hgrow _
  have H3 : Hid (OB w0 v3 (O2 ++ (encN M)) w3) := HA3.out.onto hown hgrow
  have hl3 : (O2 ++ (encN M)).length ≤ 8000 := by rw [List.length_append]; omega
  clear hown hgrow HA3 HRR3 x0 x1 x2 x3 x4 x5 x6
  obtain ⟨x0, x1, x2, x3, x4, x5, x6⟩ := HC.out _ H3.out.2
  generalize hO3 : O2 ++ (encN M) = O3 at H3 hl3
  go_wp2_with fail
  refine (HT.out _).mono ?_
  rintro e wa4 ⟨va4, rfl, ho, hb⟩
  have HA4 : Hid (OB w0 v3 O3 wa4) := H3.out.below hb
  obtain ⟨g4, d4, rfl, hr⟩ := owns_some ho (encT_pos text)
  have HRR4 := Lib.hid hr
  clear ho hb hr H3 x0 x1 x2 x3 x4 x5 x6
  obtain ⟨x0, x1, x2, x3, x4, x5, x6⟩ := HC.out _ HA4.out.2
  go_wp2_with (first
    | (at_builtin; refine wpList_append_own _ rfl (.tmp 39) (.tmp 42) 42 rfl w0.heap.size 5 i0 (.int .u8 0) 1 1 Tryz.underlying42 hi hz0 hz1 hz2 rfl (by decide) _ O3.length (byteCells O3) rfl HA4.out.1 ⟨g4, 0, none⟩ (encT text).length d4 (byteCells (encT text)) rfl (by rw [byteCells_length, Nat.mul_one]) (brow_news HRR4.out) (byteCells_one _) (by unfold maxLen; omega) (by omega) HA4.out.2.size ?_))
  intro v4 w4 hown hgrow _
  have H4 : Hid (OB w0 v4 (O3 ++ (encT text)) w4) := HA4.out.onto hown hgrow
  have hl4 : (O3 ++ (encT text)).length ≤ 10000 := by rw [List.length_append]; omega
  clear hown hgrow HA4 HRR4 x0 x1 x2 x3 x4 x5 x6
  obtain ⟨x0, x1, x2, x3, x4, x5, x6⟩ := HC.out _ H4.out.2
  generalize hO4 : O3 ++ (encT text) = O4 at H4 hl4
  go_wp2
  go_ret
  subst hO4 hO3 hO2 hO1 hO0
  have := H4.out.fresh HB0.out
  simpa [List.append_assoc] using this
set_option maxHeartbeats 6400000 in
set_option maxRecDepth 20000 in
theorem bytes8_2 (R N M S : Nat) (text : List UInt8) (spans : List Sp) (p : Option Addr) (c : Nat) (w : World) (hR : R ≤ 65535) (hN : N ≤ 4294967295) (hM : M ≤ 4294967295) (hS : S ≤ 4294967295) (hG : GRow layS w p spans) (hr : RightS spans) (hf : FitSs spans) (hl : spans.length ≤ 1024) :
    Calls Tryz.prog 77 #[.agg #[.int .i64 2, .int .u16 (R : Int), .int .u32 (N : Int), .int .u32 (M : Int), .string ⟨text.toArray⟩, .slice p spans.length c, .int .u32 (S : Int)]] w (Fresh (encN 2 ++ bytesL spans) w) := by
  obtain ⟨i0, hi, hz0, hz1, hz2⟩ := info_parts infoB
  have HN := Lib.hid num_fresh
  have HS : Hid (∀ W, Below w.heap.size w W → Calls Tryz.prog 105 #[.slice p spans.length c] W (Fresh (bytesL spans) W)) := fun W hb => refbytes_any spans p c W (hG.below hb) hr hf (by omega)
  have hSl := bytesL_len hf (by omega)
  clear hG hr hf
  have HC : Hid (∀ W, Below (w.alloc (.cells #[.int .i64 2, .int .u16 (R : Int), .int .u32 (N : Int), .int .u32 (M : Int), .string ⟨text.toArray⟩, .slice p spans.length c, .int .u32 (S : Int)] 71)).heap.size (w.alloc (.cells #[.int .i64 2, .int .u16 (R : Int), .int .u32 (N : Int), .int .u32 (M : Int), .string ⟨text.toArray⟩, .slice p spans.length c, .int .u32 (S : Int)] 71)) W → _) := fun W hb => seven_cells (kept_box (heap_alloc_new w _) hb)
  have HB0 : Hid (Below w.heap.size w (w.alloc (.cells #[.int .i64 2, .int .u16 (R : Int), .int .u32 (N : Int), .int .u32 (M : Int), .string ⟨text.toArray⟩, .slice p spans.length c, .int .u32 (S : Int)] 71))) := below_alloc (Below.refl _ _) _
  have eR := encN_len (n := R) (by omega)
  have eN := encN_len (n := N) (by omega)
  have eM := encN_len (n := M) (by omega)
  have eS := encN_len (n := S) (by omega)
  have kR : IntKind.u64.wrap (R : Int) = (R : Int) := by rw [IntKind.wrap_u64]; omega
  have kN : IntKind.u64.wrap (N : Int) = (N : Int) := by rw [IntKind.wrap_u64]; omega
  have kM : IntKind.u64.wrap (M : Int) = (M : Int) := by rw [IntKind.wrap_u64]; omega
  have kS : IntKind.u64.wrap (S : Int) = (S : Int) := by rw [IntKind.wrap_u64]; omega
  generalize (⟨text.toArray⟩ : ByteArray) = bt at *
  go_enter Tryz.func77, Tryz.ntmps77
  go_wp2_with fail
  generalize w.alloc (.cells #[.int .i64 2, .int .u16 (R : Int), .int .u32 (N : Int), .int .u32 (M : Int), .string bt, .slice p spans.length c, .int .u32 (S : Int)] 71) = w0 at HC HB0 ⊢
  refine (HN.out 2 (by omega) _).mono ?_
  rintro e wz ⟨v0, rfl, ho, hb⟩
  have H0 : Hid (OB w0 v0 (encN 2) wz) := ⟨ho, hb⟩
  have e0 := encN_len (n := 2) (by omega)
  clear ho hb
  obtain ⟨x0, x1, x2, x3, x4, x5, x6⟩ := HC.out _ H0.out.2
  generalize hO0 : encN 2 = O0 at H0 e0
  go_wp2_with fail
  refine (HS.out _ (below_step HB0.out H0.out.2)).mono ?_
  rintro e wa1 ⟨va1, rfl, ho, hb⟩
  have HA1 : Hid (OB w0 v0 O0 wa1) := H0.out.below hb
  obtain ⟨g1, d1, rfl, hr⟩ := owns_some ho (bytesL_pos spans)
  have HRR1 := Lib.hid hr
  clear ho hb hr H0 x0 x1 x2 x3 x4 x5 x6
  obtain ⟨x0, x1, x2, x3, x4, x5, x6⟩ := HC.out _ HA1.out.2
  go_wp2_with (first
    | (at_builtin; refine wpList_append_own _ rfl (.tmp 52) (.tmp 55) 42 rfl w0.heap.size 5 i0 (.int .u8 0) 1 1 Tryz.underlying42 hi hz0 hz1 hz2 rfl (by decide) _ O0.length (byteCells O0) rfl HA1.out.1 ⟨g1, 0, none⟩ (bytesL spans).length d1 (byteCells (bytesL spans)) rfl (by rw [byteCells_length, Nat.mul_one]) (brow_news HRR1.out) (byteCells_one _) (by unfold maxLen; omega) (by omega) HA1.out.2.size ?_))
  intro v1 w1 hown hgrow _
  have H1 : Hid (OB w0 v1 (O0 ++ (bytesL spans)) w1) := HA1.out.onto hown hgrow
  have hl1 : (O0 ++ (bytesL spans)).length ≤ 40000 := by rw [List.length_append]; omega
  clear hown hgrow HA1 HRR1 x0 x1 x2 x3 x4 x5 x6
  obtain ⟨x0, x1, x2, x3, x4, x5, x6⟩ := HC.out _ H1.out.2
  generalize hO1 : O0 ++ (bytesL spans) = O1 at H1 hl1
  go_wp2
  go_ret
  subst hO1 hO0
  have := H1.out.fresh HB0.out
  simpa [List.append_assoc] using this
set_option maxHeartbeats 6400000 in
set_option maxRecDepth 20000 in
theorem bytes8_3 (R N M S : Nat) (text : List UInt8) (spans : List Sp) (p : Option Addr) (c : Nat) (w : World) (hR : R ≤ 65535) (hN : N ≤ 4294967295) (hM : M ≤ 4294967295) (hS : S ≤ 4294967295) (hG : GRow layS w p spans) (hr : RightS spans) (hf : FitSs spans) (hl : spans.length ≤ 1024) :
    Calls Tryz.prog 77 #[.agg #[.int .i64 3, .int .u16 (R : Int), .int .u32 (N : Int), .int .u32 (M : Int), .string ⟨text.toArray⟩, .slice p spans.length c, .int .u32 (S : Int)]] w (Fresh (encN 3 ++ (encN R ++ (encN N ++ encN M)) ++ bytesL spans) w) := by
  obtain ⟨i0, hi, hz0, hz1, hz2⟩ := info_parts infoB
  have HN := Lib.hid num_fresh
  have HS : Hid (∀ W, Below w.heap.size w W → Calls Tryz.prog 105 #[.slice p spans.length c] W (Fresh (bytesL spans) W)) := fun W hb => refbytes_any spans p c W (hG.below hb) hr hf (by omega)
  have hSl := bytesL_len hf (by omega)
  clear hG hr hf
  have HC : Hid (∀ W, Below (w.alloc (.cells #[.int .i64 3, .int .u16 (R : Int), .int .u32 (N : Int), .int .u32 (M : Int), .string ⟨text.toArray⟩, .slice p spans.length c, .int .u32 (S : Int)] 71)).heap.size (w.alloc (.cells #[.int .i64 3, .int .u16 (R : Int), .int .u32 (N : Int), .int .u32 (M : Int), .string ⟨text.toArray⟩, .slice p spans.length c, .int .u32 (S : Int)] 71)) W → _) := fun W hb => seven_cells (kept_box (heap_alloc_new w _) hb)
  have HB0 : Hid (Below w.heap.size w (w.alloc (.cells #[.int .i64 3, .int .u16 (R : Int), .int .u32 (N : Int), .int .u32 (M : Int), .string ⟨text.toArray⟩, .slice p spans.length c, .int .u32 (S : Int)] 71))) := below_alloc (Below.refl _ _) _
  have eR := encN_len (n := R) (by omega)
  have eN := encN_len (n := N) (by omega)
  have eM := encN_len (n := M) (by omega)
  have eS := encN_len (n := S) (by omega)
  have kR : IntKind.u64.wrap (R : Int) = (R : Int) := by rw [IntKind.wrap_u64]; omega
  have kN : IntKind.u64.wrap (N : Int) = (N : Int) := by rw [IntKind.wrap_u64]; omega
  have kM : IntKind.u64.wrap (M : Int) = (M : Int) := by rw [IntKind.wrap_u64]; omega
  have kS : IntKind.u64.wrap (S : Int) = (S : Int) := by rw [IntKind.wrap_u64]; omega
  generalize (⟨text.toArray⟩ : ByteArray) = bt at *
  go_enter Tryz.func77, Tryz.ntmps77
  go_wp2_with fail
  generalize w.alloc (.cells #[.int .i64 3, .int .u16 (R : Int), .int .u32 (N : Int), .int .u32 (M : Int), .string bt, .slice p spans.length c, .int .u32 (S : Int)] 71) = w0 at HC HB0 ⊢
  refine (HN.out 3 (by omega) _).mono ?_
  rintro e wz ⟨v0, rfl, ho, hb⟩
  have H0 : Hid (OB w0 v0 (encN 3) wz) := ⟨ho, hb⟩
  have e0 := encN_len (n := 3) (by omega)
  clear ho hb
  obtain ⟨x0, x1, x2, x3, x4, x5, x6⟩ := HC.out _ H0.out.2
  generalize hO0 : encN 3 = O0 at H0 e0
  go_wp2_with fail
  refine (HN.out R (by omega) _).mono ?_
  rintro e wa1 ⟨va1, rfl, ho, hb⟩
  have HA1 : Hid (OB w0 v0 O0 wa1) := H0.out.below hb
  obtain ⟨g1, d1, rfl, hr⟩ := owns_some ho (encN_pos R)
  have HRR1 := Lib.hid hr
  clear ho hb hr H0 x0 x1 x2 x3 x4 x5 x6
  obtain ⟨x0, x1, x2, x3, x4, x5, x6⟩ := HC.out _ HA1.out.2
  go_wp2_with (first
    | (at_builtin; refine wpList_append_own _ rfl (.tmp 16) (.tmp 21) 42 rfl w0.heap.size 5 i0 (.int .u8 0) 1 1 Tryz.underlying42 hi hz0 hz1 hz2 rfl (by decide) _ O0.length (byteCells O0) rfl HA1.out.1 ⟨g1, 0, none⟩ (encN R).length d1 (byteCells (encN R)) rfl (by rw [byteCells_length, Nat.mul_one]) (brow_news HRR1.out) (byteCells_one _) (by unfold maxLen; omega) (by omega) HA1.out.2.size ?_))
  intro v1 w1 hown hgrow _
  have H1 : Hid (OB w0 v1 (O0 ++ (encN R)) w1) := HA1.out.onto hown hgrow
  have hl1 : (O0 ++ (encN R)).length ≤ 4000 := by rw [List.length_append]; omega
  clear hown hgrow HA1 HRR1 x0 x1 x2 x3 x4 x5 x6
  obtain ⟨x0, x1, x2, x3, x4, x5, x6⟩ := HC.out _ H1.out.2
  generalize hO1 : O0 ++ (encN R) = O1 at H1 hl1
  go_wp2_with fail
  refine (HN.out N (by omega) _).mono ?_
  rintro e wa2 ⟨va2, rfl, ho, hb⟩
  have HA2 : Hid (OB w0 v1 O1 wa2) := H1.out.below hb
  obtain ⟨g2, d2, rfl, hr⟩ := owns_some ho (encN_pos N)
  have HRR2 := Lib.hid hr
  clear ho hb hr H1 x0 x1 x2 x3 x4 x5 x6
  obtain ⟨x0, x1, x2, x3, x4, x5, x6⟩ := HC.out _ HA2.out.2
  go_wp2_with (first
    | (at_builtin; refine wpList_append_own _ rfl (.tmp 23) (.tmp 28) 42 rfl w0.heap.size 5 i0 (.int .u8 0) 1 1 Tryz.underlying42 hi hz0 hz1 hz2 rfl (by decide) _ O1.length (byteCells O1) rfl HA2.out.1 ⟨g2, 0, none⟩ (encN N).length d2 (byteCells (encN N)) rfl (by rw [byteCells_length, Nat.mul_one]) (brow_news HRR2.out) (byteCells_one _) (by unfold maxLen; omega) (by omega) HA2.out.2.size ?_))
  intro v2 w2 hown hgrow _
  have H2 : Hid (OB w0 v2 (O1 ++ (encN N)) w2) := HA2.out.onto hown hgrow
  have hl2 : (O1 ++ (encN N)).length ≤ 6000 := by rw [List.length_append]; omega
  clear hown hgrow HA2 HRR2 x0 x1 x2 x3 x4 x5 x6
  obtain ⟨x0, x1, x2, x3, x4, x5, x6⟩ := HC.out _ H2.out.2
  generalize hO2 : O1 ++ (encN N) = O2 at H2 hl2
  go_wp2_with fail
  refine (HN.out M (by omega) _).mono ?_
  rintro e wa3 ⟨va3, rfl, ho, hb⟩
  have HA3 : Hid (OB w0 v2 O2 wa3) := H2.out.below hb
  obtain ⟨g3, d3, rfl, hr⟩ := owns_some ho (encN_pos M)
  have HRR3 := Lib.hid hr
  clear ho hb hr H2 x0 x1 x2 x3 x4 x5 x6
  obtain ⟨x0, x1, x2, x3, x4, x5, x6⟩ := HC.out _ HA3.out.2
  go_wp2_with (first
    | (at_builtin; refine wpList_append_own _ rfl (.tmp 30) (.tmp 34) 42 rfl w0.heap.size 5 i0 (.int .u8 0) 1 1 Tryz.underlying42 hi hz0 hz1 hz2 rfl (by decide) _ O2.length (byteCells O2) rfl HA3.out.1 ⟨g3, 0, none⟩ (encN M).length d3 (byteCells (encN M)) rfl (by rw [byteCells_length, Nat.mul_one]) (brow_news HRR3.out) (byteCells_one _) (by unfold maxLen; omega) (by omega) HA3.out.2.size ?_))
  intro v3 w3 hown hgrow _
  have H3 : Hid (OB w0 v3 (O2 ++ (encN M)) w3) := HA3.out.onto hown hgrow
  have hl3 : (O2 ++ (encN M)).length ≤ 8000 := by rw [List.length_append]; omega
  clear hown hgrow HA3 HRR3 x0 x1 x2 x3 x4 x5 x6
  obtain ⟨x0, x1, x2, x3, x4, x5, x6⟩ := HC.out _ H3.out.2
  generalize hO3 : O2 ++ (encN M) = O3 at H3 hl3
  go_wp2_with fail
  refine (HS.out _ (below_step HB0.out H3.out.2)).mono ?_
  rintro e wa4 ⟨va4, rfl, ho, hb⟩
  have HA4 : Hid (OB w0 v3 O3 wa4) := H3.out.below hb
  obtain ⟨g4, d4, rfl, hr⟩ := owns_some ho (bytesL_pos spans)
  have HRR4 := Lib.hid hr
  clear ho hb hr H3 x0 x1 x2 x3 x4 x5 x6
  obtain ⟨x0, x1, x2, x3, x4, x5, x6⟩ := HC.out _ HA4.out.2
  go_wp2_with (first
    | (at_builtin; refine wpList_append_own _ rfl (.tmp 52) (.tmp 55) 42 rfl w0.heap.size 5 i0 (.int .u8 0) 1 1 Tryz.underlying42 hi hz0 hz1 hz2 rfl (by decide) _ O3.length (byteCells O3) rfl HA4.out.1 ⟨g4, 0, none⟩ (bytesL spans).length d4 (byteCells (bytesL spans)) rfl (by rw [byteCells_length, Nat.mul_one]) (brow_news HRR4.out) (byteCells_one _) (by unfold maxLen; omega) (by omega) HA4.out.2.size ?_))
  intro v4 w4 hown hgrow _
  have H4 : Hid (OB w0 v4 (O3 ++ (bytesL spans)) w4) := HA4.out.onto hown hgrow
  have hl4 : (O3 ++ (bytesL spans)).length ≤ 50000 := by rw [List.length_append]; omega
  clear hown hgrow HA4 HRR4 x0 x1 x2 x3 x4 x5 x6
  obtain ⟨x0, x1, x2, x3, x4, x5, x6⟩ := HC.out _ H4.out.2
  generalize hO4 : O3 ++ (bytesL spans) = O4 at H4 hl4
  go_wp2
  go_ret
  subst hO4 hO3 hO2 hO1 hO0
  have := H4.out.fresh HB0.out
  simpa [List.append_assoc] using this
set_option maxHeartbeats 6400000 in
set_option maxRecDepth 20000 in
theorem bytes8_4 (R N M S : Nat) (text : List UInt8) (spans : List Sp) (p : Option Addr) (c : Nat) (w : World) (hR : R ≤ 65535) (hN : N ≤ 4294967295) (hM : M ≤ 4294967295) (hS : S ≤ 4294967295) :
    Calls Tryz.prog 77 #[.agg #[.int .i64 4, .int .u16 (R : Int), .int .u32 (N : Int), .int .u32 (M : Int), .string ⟨text.toArray⟩, .slice p spans.length c, .int .u32 (S : Int)]] w (Fresh (encN 4 ++ encN S) w) := by
  obtain ⟨i0, hi, hz0, hz1, hz2⟩ := info_parts infoB
  have HN := Lib.hid num_fresh
  have HC : Hid (∀ W, Below (w.alloc (.cells #[.int .i64 4, .int .u16 (R : Int), .int .u32 (N : Int), .int .u32 (M : Int), .string ⟨text.toArray⟩, .slice p spans.length c, .int .u32 (S : Int)] 71)).heap.size (w.alloc (.cells #[.int .i64 4, .int .u16 (R : Int), .int .u32 (N : Int), .int .u32 (M : Int), .string ⟨text.toArray⟩, .slice p spans.length c, .int .u32 (S : Int)] 71)) W → _) := fun W hb => seven_cells (kept_box (heap_alloc_new w _) hb)
  have HB0 : Hid (Below w.heap.size w (w.alloc (.cells #[.int .i64 4, .int .u16 (R : Int), .int .u32 (N : Int), .int .u32 (M : Int), .string ⟨text.toArray⟩, .slice p spans.length c, .int .u32 (S : Int)] 71))) := below_alloc (Below.refl _ _) _
  have eR := encN_len (n := R) (by omega)
  have eN := encN_len (n := N) (by omega)
  have eM := encN_len (n := M) (by omega)
  have eS := encN_len (n := S) (by omega)
  have kR : IntKind.u64.wrap (R : Int) = (R : Int) := by rw [IntKind.wrap_u64]; omega
  have kN : IntKind.u64.wrap (N : Int) = (N : Int) := by rw [IntKind.wrap_u64]; omega
  have kM : IntKind.u64.wrap (M : Int) = (M : Int) := by rw [IntKind.wrap_u64]; omega
  have kS : IntKind.u64.wrap (S : Int) = (S : Int) := by rw [IntKind.wrap_u64]; omega
  generalize (⟨text.toArray⟩ : ByteArray) = bt at *
  go_enter Tryz.func77, Tryz.ntmps77
  go_wp2_with fail
  generalize w.alloc (.cells #[.int .i64 4, .int .u16 (R : Int), .int .u32 (N : Int), .int .u32 (M : Int), .string bt, .slice p spans.length c, .int .u32 (S : Int)] 71) = w0 at HC HB0 ⊢
  refine (HN.out 4 (by omega) _).mono ?_
  rintro e wz ⟨v0, rfl, ho, hb⟩
  have H0 : Hid (OB w0 v0 (encN 4) wz) := ⟨ho, hb⟩
  have e0 := encN_len (n := 4) (by omega)
  clear ho hb
  obtain ⟨x0, x1, x2, x3, x4, x5, x6⟩ := HC.out _ H0.out.2
  generalize hO0 : encN 4 = O0 at H0 e0
  go_wp2_with fail
  refine (HN.out S (by omega) _).mono ?_
  rintro e wa1 ⟨va1, rfl, ho, hb⟩
  have HA1 : Hid (OB w0 v0 O0 wa1) := H0.out.below hb
  obtain ⟨g1, d1, rfl, hr⟩ := owns_some ho (encN_pos S)
  have HRR1 := Lib.hid hr
  clear ho hb hr H0 x0 x1 x2 x3 x4 x5 x6
  obtain ⟨x0, x1, x2, x3, x4, x5, x6⟩ := HC.out _ HA1.out.2
  go_wp2_with (first
    | (at_builtin; refine wpList_append_own _ rfl (.tmp 57) (.tmp 61) 42 rfl w0.heap.size 5 i0 (.int .u8 0) 1 1 Tryz.underlying42 hi hz0 hz1 hz2 rfl (by decide) _ O0.length (byteCells O0) rfl HA1.out.1 ⟨g1, 0, none⟩ (encN S).length d1 (byteCells (encN S)) rfl (by rw [byteCells_length, Nat.mul_one]) (brow_news HRR1.out) (byteCells_one _) (by unfold maxLen; omega) (by omega) HA1.out.2.size ?_))
  intro v1 w1 hown hgrow _
  have H1 : Hid (OB w0 v1 (O0 ++ (encN S)) w1) := HA1.out.onto hown hgrow
  have hl1 : (O0 ++ (encN S)).length ≤ 4000 := by rw [List.length_append]; omega
  clear hown hgrow HA1 HRR1 x0 x1 x2 x3 x4 x5 x6
  obtain ⟨x0, x1, x2, x3, x4, x5, x6⟩ := HC.out _ H1.out.2
  generalize hO1 : O0 ++ (encN S) = O1 at H1 hl1
  go_wp2
  go_ret
  subst hO1 hO0
  have := H1.out.fresh HB0.out
  simpa [List.append_assoc] using this
set_option maxHeartbeats 6400000 in
set_option maxRecDepth 20000 in
theorem bytes8_5 (R N M S : Nat) (text : List UInt8) (spans : List Sp) (p : Option Addr) (c : Nat) (w : World) (hR : R ≤ 65535) (hN : N ≤ 4294967295) (hM : M ≤ 4294967295) (hS : S ≤ 4294967295) :
    Calls Tryz.prog 77 #[.agg #[.int .i64 5, .int .u16 (R : Int), .int .u32 (N : Int), .int .u32 (M : Int), .string ⟨text.toArray⟩, .slice p spans.length c, .int .u32 (S : Int)]] w (Fresh (encN 5 ++ encN S) w) := by
  obtain ⟨i0, hi, hz0, hz1, hz2⟩ := info_parts infoB
  have HN := Lib.hid num_fresh
  have HC : Hid (∀ W, Below (w.alloc (.cells #[.int .i64 5, .int .u16 (R : Int), .int .u32 (N : Int), .int .u32 (M : Int), .string ⟨text.toArray⟩, .slice p spans.length c, .int .u32 (S : Int)] 71)).heap.size (w.alloc (.cells #[.int .i64 5, .int .u16 (R : Int), .int .u32 (N : Int), .int .u32 (M : Int), .string ⟨text.toArray⟩, .slice p spans.length c, .int .u32 (S : Int)] 71)) W → _) := fun W hb => seven_cells (kept_box (heap_alloc_new w _) hb)
  have HB0 : Hid (Below w.heap.size w (w.alloc (.cells #[.int .i64 5, .int .u16 (R : Int), .int .u32 (N : Int), .int .u32 (M : Int), .string ⟨text.toArray⟩, .slice p spans.length c, .int .u32 (S : Int)] 71))) := below_alloc (Below.refl _ _) _
  have eR := encN_len (n := R) (by omega)
  have eN := encN_len (n := N) (by omega)
  have eM := encN_len (n := M) (by omega)
  have eS := encN_len (n := S) (by omega)
  have kR : IntKind.u64.wrap (R : Int) = (R : Int) := by rw [IntKind.wrap_u64]; omega
  have kN : IntKind.u64.wrap (N : Int) = (N : Int) := by rw [IntKind.wrap_u64]; omega
  have kM : IntKind.u64.wrap (M : Int) = (M : Int) := by rw [IntKind.wrap_u64]; omega
  have kS : IntKind.u64.wrap (S : Int) = (S : Int) := by rw [IntKind.wrap_u64]; omega
  generalize (⟨text.toArray⟩ : ByteArray) = bt at *
  go_enter Tryz.func77, Tryz.ntmps77
  go_wp2_with fail
  generalize w.alloc (.cells #[.int .i64 5, .int .u16 (R : Int), .int .u32 (N : Int), .int .u32 (M : Int), .string bt, .slice p spans.length c, .int .u32 (S : Int)] 71) = w0 at HC HB0 ⊢
  refine (HN.out 5 (by omega) _).mono ?_
  rintro e wz ⟨v0, rfl, ho, hb⟩
  have H0 : Hid (OB w0 v0 (encN 5) wz) := ⟨ho, hb⟩
  have e0 := encN_len (n := 5) (by omega)
  clear ho hb
  obtain ⟨x0, x1, x2, x3, x4, x5, x6⟩ := HC.out _ H0.out.2
  generalize hO0 : encN 5 = O0 at H0 e0
  go_wp2_with fail
  refine (HN.out S (by omega) _).mono ?_
  rintro e wa1 ⟨va1, rfl, ho, hb⟩
  have HA1 : Hid (OB w0 v0 O0 wa1) := H0.out.below hb
  obtain ⟨g1, d1, rfl, hr⟩ := owns_some ho (encN_pos S)
  have HRR1 := Lib.hid hr
  clear ho hb hr H0 x0 x1 x2 x3 x4 x5 x6
  obtain ⟨x0, x1, x2, x3, x4, x5, x6⟩ := HC.out _ HA1.out.2
  go_wp2_with (first
    | (at_builtin; refine wpList_append_own _ rfl (.tmp 57) (.tmp 61) 42 rfl w0.heap.size 5 i0 (.int .u8 0) 1 1 Tryz.underlying42 hi hz0 hz1 hz2 rfl (by decide) _ O0.length (byteCells O0) rfl HA1.out.1 ⟨g1, 0, none⟩ (encN S).length d1 (byteCells (encN S)) rfl (by rw [byteCells_length, Nat.mul_one]) (brow_news HRR1.out) (byteCells_one _) (by unfold maxLen; omega) (by omega) HA1.out.2.size ?_))
  intro v1 w1 hown hgrow _
  have H1 : Hid (OB w0 v1 (O0 ++ (encN S)) w1) := HA1.out.onto hown hgrow
  have hl1 : (O0 ++ (encN S)).length ≤ 4000 := by rw [List.length_append]; omega
  clear hown hgrow HA1 HRR1 x0 x1 x2 x3 x4 x5 x6
  obtain ⟨x0, x1, x2, x3, x4, x5, x6⟩ := HC.out _ H1.out.2
  generalize hO1 : O0 ++ (encN S) = O1 at H1 hl1
  go_wp2
  go_ret
  subst hO1 hO0
  have := H1.out.fresh HB0.out
  simpa [List.append_assoc] using this
end Go.Proofs.YtceanfpcddcfoaaGreat
/-
  The document's Bytes of layer 8, of any operation that fits; and what is read of bytes, by the document. No conditions beyond what each theorem states.
-/
namespace Go.Proofs.YtceanfpcddcfoaaGreat
open Go.ChangeShapes Go.WideShapes Go.ChangeAt Go.RowKit Go.Lib
set_option linter.unusedVariables false
set_option linter.unusedSimpArgs false

theorem nat_of {x : Int} (h : 0 ≤ x) : ∃ N : Nat, x = (N : Int) := ⟨x.toNat, by omega⟩
theorem refbytes8_any (o : Om) (p : Option Addr) (c : Nat) (w : World) (hfo : FitOm o) (hG : GRow layS w p o.spans) (hl : o.spans.length ≤ 1024) (h0 : fitO o = 0) :
    Calls Tryz.prog 77 #[ov o p c] w (Fresh (bytesO o) w) := by
  have hc := fitO_cases h0
  have hf := hfo
  unfold FitOm at hf
  obtain ⟨f1, f2, f3, f4, f5, f6, f7, f8, f9, f10, f11⟩ := hf
  obtain ⟨kind, r, n, num, text, spans, seq⟩ := o
  simp only at f1 f2 f3 f4 f5 f6 f7 f8 f9 f10 f11 hl hG
  obtain ⟨R, rfl⟩ := nat_of f3
  obtain ⟨N, rfl⟩ := nat_of f5
  obtain ⟨M, rfl⟩ := nat_of f7
  obtain ⟨S, rfl⟩ := nat_of f10
  rcases hc with h | h | h | h
  · obtain ⟨rfl, rfl, -, -, -, ht, -⟩ := h
    have := bytes8_1 R N M S text [] p c w (by omega) (by omega) (by omega) (by omega) ht
    simpa [bytesO, ov] using this
  · obtain ⟨rfl, rfl, -, -, hfl⟩ := h
    have := bytes8_2 R N M S [] spans p c w (by omega) (by omega) (by omega) (by omega) hG (fitL_ok hfl).1 f9 (fitL_ok hfl).2.2
    simpa [bytesO, ov] using this
  · obtain ⟨rfl, rfl, -, hfl, -⟩ := h
    have := bytes8_3 R N M S [] spans p c w (by omega) (by omega) (by omega) (by omega) hG (fitL_ok hfl).1 f9 (fitL_ok hfl).2.2
    simpa [bytesO, ov] using this
  · obtain ⟨hk, rfl, rfl, -, -, -⟩ := h
    rcases hk with hk | hk
    · simp only at hk
      subst hk
      have := bytes8_4 R N M S [] [] p c w (by omega) (by omega) (by omega) (by omega)
      simpa [bytesO, ov] using this
    · simp only at hk
      subst hk
      have := bytes8_5 R N M S [] [] p c w (by omega) (by omega) (by omega) (by omega)
      simpa [bytesO, ov] using this
theorem bytesO_len {o : Om} (hf : FitOm o) (ht : o.text.length ≤ 300) (hl : o.spans.length ≤ 1024) (hk : 0 ≤ o.kind) : (bytesO o).length ≤ 31000 := by
  unfold FitOm at hf
  have e1 := encN_len (n := o.kind.toNat) (by omega)
  have e2 := encN_len (n := o.r.toNat) (by omega)
  have e3 := encN_len (n := o.n.toNat) (by omega)
  have e4 := encN_len (n := o.num.toNat) (by omega)
  have e5 := encN_len (n := o.seq.toNat) (by omega)
  have e6 := bytesL_len (l := o.spans) hf.2.2.2.2.2.2.2.2.1 (by omega)
  have e7 : (encT o.text).length ≤ 400 := by unfold encT; rw [List.length_append]; have := encN_len (n := o.text.length) (by omega); omega
  unfold bytesO
  rw [List.length_append, List.length_append]
  have a1 : (if o.kind = 1 ∨ o.kind = 3 then encN o.r.toNat ++ (encN o.n.toNat ++ encN o.num.toNat) else []).length ≤ 27 := by
    split
    · rw [List.length_append, List.length_append]; omega
    · simp
  have a2 : (if o.kind = 1 then encT o.text else if o.kind = 2 ∨ o.kind = 3 then bytesL o.spans else encN o.seq.toNat).length ≤ 30000 := by
    split
    · omega
    · split
      · omega
      · omega
  omega

/-- Anchor and number, read. -/
def rdP (bs : List UInt8) (q e : Nat) : (Nat × Nat × Nat) × Nat × Nat :=
  (((rdN bs q e 65535).1, (rdN bs (rdN bs q e 65535).2.1 (rdN bs q e 65535).2.2 268435456).1, (rdN bs (rdN bs (rdN bs q e 65535).2.1 (rdN bs q e 65535).2.2 268435456).2.1 (rdN bs (rdN bs q e 65535).2.1 (rdN bs q e 65535).2.2 268435456).2.2 268435456).1), (rdN bs (rdN bs (rdN bs q e 65535).2.1 (rdN bs q e 65535).2.2 268435456).2.1 (rdN bs (rdN bs q e 65535).2.1 (rdN bs q e 65535).2.2 268435456).2.2 268435456).2)
/-- What stands behind the kind (and the anchor), read. -/
def readB (bs : List UInt8) (k : Nat) (t : Nat × Nat × Nat) (q e : Nat) : Om × Nat × Nat :=
  if k = 1 then (if (rdT bs q e 64).2.2 = 0 then (⟨1, (t.1 : Int), (t.2.1 : Int), (t.2.2 : Int), (rdT bs q e 64).1, [], 0⟩, (rdT bs q e 64).2) else (o0, (rdT bs q e 64).2))
  else if k = 2 ∨ k = 3 then (if (readS bs q e).2.2 = 0 then (⟨(k : Int), (t.1 : Int), (t.2.1 : Int), (t.2.2 : Int), [], (readS bs q e).1, 0⟩, (readS bs q e).2) else (o0, (readS bs q e).2))
  else (if (rdN bs q e 268435456).2.2 = 0 then (⟨(k : Int), (t.1 : Int), (t.2.1 : Int), (t.2.2 : Int), [], [], ((rdN bs q e 268435456).1 : Int)⟩, (rdN bs q e 268435456).2) else (o0, (rdN bs q e 268435456).2))
/-- An operation at a place; where the next thing stands, and an error. -/
def readO (bs : List UInt8) (q e : Nat) : Om × Nat × Nat :=
  if (rdN bs q e 5).1 = 1 ∨ (rdN bs q e 5).1 = 3 then readB bs (rdN bs q e 5).1 (rdP bs (rdN bs q e 5).2.1 (rdN bs q e 5).2.2).1 (rdP bs (rdN bs q e 5).2.1 (rdN bs q e 5).2.2).2.1 (rdP bs (rdN bs q e 5).2.1 (rdN bs q e 5).2.2).2.2
  else readB bs (rdN bs q e 5).1 (0, 0, 0) (rdN bs q e 5).2.1 (rdN bs q e 5).2.2
theorem rdT_at {pre post s : List UInt8} {limit : Nat} (hs : s.length ≤ limit) (hl : limit < 9223372036854775808) : rdT (pre ++ (encT s ++ post)) pre.length 0 limit = (s, pre.length + (encT s).length, 0) := by
  unfold rdT
  rw [if_pos rfl, List.drop_left, readT_enc (by omega) hs]
theorem rdP_at {pre post : List UInt8} {R N M : Nat} (hR : R ≤ 65535) (hN : N ≤ 268435456) (hM : M ≤ 268435456) : rdP (pre ++ ((encN R ++ (encN N ++ encN M)) ++ post)) pre.length 0 = ((R, N, M), pre.length + (encN R ++ (encN N ++ encN M)).length, 0) := by
  have h1 := rdN_at (pre := pre) (post := encN N ++ (encN M ++ post)) (n := R) (limit := 65535) (by omega) hR
  have h2 := rdN_at (pre := pre ++ encN R) (post := encN M ++ post) (n := N) (limit := 268435456) (by omega) hN
  have h3 := rdN_at (pre := pre ++ encN R ++ encN N) (post := post) (n := M) (limit := 268435456) (by omega) hM
  unfold rdP
  simp only [List.append_assoc, List.length_append] at h1 h2 h3 ⊢
  rw [h1]
  simp only
  rw [h2]
  simp only
  rw [show pre.length + (encN R).length + (encN N).length = pre.length + ((encN R).length + (encN N).length) by omega, h3]
  simp only [Prod.mk.injEq, true_and, and_true]
  omega
end Go.Proofs.YtceanfpcddcfoaaGreat
/-
  What is written is read again, by the document; and what its Read may tell. No conditions beyond what each theorem states.
-/
namespace Go.Proofs.YtceanfpcddcfoaaGreat
open Go.ChangeShapes Go.WideShapes Go.ChangeAt Go.RowKit Go.Lib
set_option linter.unusedVariables false
set_option linter.unusedSimpArgs false

theorem readS_at {pre : List UInt8} {l : List Sp} (hr : RightS l) (hf : FitSs l) (hl : l.length ≤ 1024) : readS (pre ++ bytesL l) pre.length 0 = (l, pre.length + (bytesL l).length, 0) := by
  unfold readS bytesL
  have e1 := rdN_at (pre := pre) (post := l.flatMap bytesS) (n := l.length) (limit := 1024) (by omega) (by omega)
  rw [e1]
  have e2 := rdL_at l (pre ++ encN l.length) [] hr hf
  rw [List.append_nil, List.append_assoc, List.length_append] at e2
  simp only
  rw [e2]
  simp
  omega
theorem readO_all {o : Om} (hf : FitOm o) (h0 : fitO o = 0) : readO (bytesO o) 0 0 = (o, (bytesO o).length, 0) := by
  have hc := fitO_cases h0
  unfold FitOm at hf
  obtain ⟨f1, f2, f3, f4, f5, f6, f7, f8, f9, f10, f11⟩ := hf
  obtain ⟨kind, r, n, num, text, spans, seq⟩ := o
  simp only at f1 f2 f3 f4 f5 f6 f7 f8 f9 f10 f11
  rcases hc with h | h | h | h
  · obtain ⟨rfl, rfl, rfl, -, -, ht, hn⟩ := h
    obtain ⟨R, rfl⟩ := nat_of f3
    obtain ⟨N, rfl⟩ := nat_of f5
    obtain ⟨M, rfl⟩ := nat_of f7
    have hn := of_decide_eq_true hn
    simp only at hn ht
    have hk := rdN_at (pre := []) (post := (encN R ++ (encN N ++ encN M)) ++ encT text) (n := 1) (limit := 5) (by decide) (by decide)
    have hp := rdP_at (pre := encN 1) (post := encT text) (R := R) (N := N) (M := M) (by omega) (by omega) (by omega)
    have hx := rdT_at (pre := encN 1 ++ (encN R ++ (encN N ++ encN M))) (post := []) (s := text) (limit := 64) ht (by decide)
    rw [List.append_nil] at hx
    have hb : bytesO ⟨1, (R : Int), (N : Int), (M : Int), text, [], 0⟩ = encN 1 ++ ((encN R ++ (encN N ++ encN M)) ++ encT text) := by unfold bytesO; simp
    rw [hb]
    unfold readO
    rw [List.nil_append, List.length_nil, Nat.zero_add] at hk
    rw [hk]
    simp only [true_or, if_true]
    rw [hp]
    simp only
    unfold readB
    rw [if_pos rfl]
    rw [List.append_assoc, List.length_append] at hx
    rw [hx]
    simp
    omega
  · obtain ⟨rfl, rfl, rfl, hp, hfl⟩ := h
    have hp := of_decide_eq_true hp
    simp only at hp
    obtain ⟨rfl, rfl, rfl⟩ := hp
    obtain ⟨a1, a2, a3⟩ := fitL_ok hfl
    simp only at a1 a2 a3
    have hk := rdN_at (pre := []) (post := bytesL spans) (n := 2) (limit := 5) (by decide) (by decide)
    have hx := readS_at (pre := encN 2) a1 f9 a3
    have hb : bytesO ⟨2, 0, 0, 0, [], spans, 0⟩ = encN 2 ++ bytesL spans := by unfold bytesO; simp
    rw [hb]
    unfold readO
    rw [List.nil_append, List.length_nil, Nat.zero_add] at hk
    rw [hk]
    rw [if_neg (by simp)]
    unfold readB
    simp only
    rw [if_neg (by decide), if_pos (Or.inl trivial), hx]
    simp
  · obtain ⟨rfl, rfl, rfl, hfl, hn⟩ := h
    obtain ⟨R, rfl⟩ := nat_of f3
    obtain ⟨N, rfl⟩ := nat_of f5
    obtain ⟨M, rfl⟩ := nat_of f7
    have hn := of_decide_eq_true hn
    simp only at hn
    obtain ⟨a1, a2, a3⟩ := fitL_ok hfl
    simp only at a1 a2 a3
    have hk := rdN_at (pre := []) (post := (encN R ++ (encN N ++ encN M)) ++ bytesL spans) (n := 3) (limit := 5) (by decide) (by decide)
    have hat : 0 ≤ atomsO ⟨3, (R : Int), (N : Int), (M : Int), [], spans, 0⟩ := by unfold atomsO; simp
    have hp := rdP_at (pre := encN 3) (post := bytesL spans) (R := R) (N := N) (M := M) (by omega) (by omega) (by omega)
    have hx := readS_at (pre := encN 3 ++ (encN R ++ (encN N ++ encN M))) a1 f9 a3
    have hb : bytesO ⟨3, (R : Int), (N : Int), (M : Int), [], spans, 0⟩ = encN 3 ++ ((encN R ++ (encN N ++ encN M)) ++ bytesL spans) := by unfold bytesO; simp
    rw [hb]
    unfold readO
    rw [List.nil_append, List.length_nil, Nat.zero_add] at hk
    rw [hk]
    simp only [or_true, if_true]
    rw [hp]
    simp only
    unfold readB
    rw [if_neg (by decide), if_pos (Or.inr rfl)]
    rw [List.append_assoc, List.length_append] at hx
    rw [hx]
    simp
    omega
  · obtain ⟨hk, rfl, rfl, hp, hs1, hs2⟩ := h
    have hp := of_decide_eq_true hp
    simp only at hp hk hs1 hs2
    obtain ⟨rfl, rfl, rfl⟩ := hp
    obtain ⟨S, rfl⟩ := nat_of f10
    have hx := fun k => rdN_at (pre := encN k) (post := []) (n := S) (limit := 268435456) (by omega) (by omega)
    simp only [List.append_nil] at hx
    rcases hk with rfl | rfl
    · have hk := rdN_at (pre := []) (post := encN S) (n := 4) (limit := 5) (by decide) (by decide)
      have hb : bytesO ⟨4, 0, 0, 0, [], [], (S : Int)⟩ = encN 4 ++ encN S := by unfold bytesO; simp
      rw [hb]
      unfold readO
      rw [List.nil_append, List.length_nil, Nat.zero_add] at hk
      rw [hk]
      rw [if_neg (by simp)]
      unfold readB
      simp only
      rw [if_neg (by decide), if_neg (by decide), hx 4]
      simp
    · have hk := rdN_at (pre := []) (post := encN S) (n := 5) (limit := 5) (by decide) (by decide)
      have hb : bytesO ⟨5, 0, 0, 0, [], [], (S : Int)⟩ = encN 5 ++ encN S := by unfold bytesO; simp
      rw [hb]
      unfold readO
      rw [List.nil_append, List.length_nil, Nat.zero_add] at hk
      rw [hk]
      rw [if_neg (by simp)]
      unfold readB
      simp only
      rw [if_neg (by decide), if_neg (by decide), hx 5]
      simp
/-- What Get leaves. -/
def GotO (bs : List UInt8) (q e K D : Nat) (w : World) (r : Ending) (w' : World) : Prop := ∃ p c q', r = .returned (ov (readO bs q e).1 p c) ∧ GRow layS w' p (readO bs q e).1.spans ∧ (readO bs q e).1.spans.length ≤ c ∧ (p = none → c = 0) ∧ Rd K D bs q' (readO bs q e).2.2 w' ∧ ((readO bs q e).2.2 = 0 → q' = (readO bs q e).2.1) ∧ Only K w w'
def GetOSpec : Prop := ∀ (bs : List UInt8) (q e K D : Nat) (w : World), Rd K D bs q e w → bs.length ≤ 100000 → e < 16 → Calls Tryz.prog 75 #[.pointer (some ⟨K, 0, none⟩)] w (GotO bs q e K D w)
end Go.Proofs.YtceanfpcddcfoaaGreat
/-
  Transactions: what may be one, by the document. Of no program; no conditions beyond what each theorem states.
-/
namespace Go.Proofs.YtceanfpcddcfoaaGreat
open Go.ChangeShapes Go.WideShapes Go.ChangeAt Go.RowKit Go.Lib
set_option linter.unusedVariables false
set_option linter.unusedSimpArgs false

/-- A transaction: its replica, sequence number, clock, user and operations. -/
structure Tm where
  r : Int
  seq : Int
  clock : Int
  user : Int
  ops : List Om
def t0 : Tm := ⟨0, 0, 0, 0, []⟩
def FitTm (t : Tm) : Prop := 0 ≤ t.r ∧ t.r ≤ 65535 ∧ 0 ≤ t.seq ∧ t.seq ≤ 4294967295 ∧ 0 ≤ t.clock ∧ t.clock ≤ 18446744073709551615 ∧ -9223372036854775808 ≤ t.user ∧ t.user ≤ 9223372036854775807 ∧ ∀ o ∈ t.ops, FitOm o
/-- How many atoms are made. -/
def atomsL (l : List Om) : Int := (l.map atomsO).sum
theorem atomsL_nil : atomsL [] = 0 := rfl
theorem atomsL_cons (o : Om) (l : List Om) : atomsL (o :: l) = atomsO o + atomsL l := by simp [atomsL]
theorem atomsL_append (a b : List Om) : atomsL (a ++ b) = atomsL a + atomsL b := by simp [atomsL]
/-- Operations, one by one: so many, of a transaction with this sequence number, behind this last atom. -/
def fitOs (n : Nat) (seq : Int) : Int → List Om → Int
  | _, [] => 0
  | last, o :: l => if fitO o ≠ 0 then fitO o else if 3 < o.kind ∧ (n ≠ 1 ∨ seq ≤ o.seq) then 11 else if 0 < atomsO o ∧ 0 ≤ last ∧ o.num ≠ last + 1 then 11 else fitOs n seq (if 0 < atomsO o then o.num + atomsO o - 1 else last) l
def fitT (t : Tm) : Int := if t.seq < 1 ∨ 268435456 < t.seq ∨ t.clock < 1 ∨ 1099511627776 < t.clock ∨ t.user < 0 ∨ 7 < t.user ∨ t.ops.length = 0 then 11 else if 16 < t.ops.length then 13 else fitOs t.ops.length t.seq (-1) t.ops
theorem fitOs_ok {n : Nat} {seq : Int} : ∀ (l : List Om) (last : Int), fitOs n seq last l = 0 → ∀ o ∈ l, fitO o = 0 ∧ (3 < o.kind → n = 1 ∧ o.seq < seq) := by
  intro l
  induction l with
  | nil => intro last _ o ho; simp at ho
  | cons x l ih =>
    intro last h o ho
    rw [fitOs] at h
    by_cases h1 : fitO x ≠ 0
    · rw [if_pos h1] at h; exact absurd h h1
    · rw [if_neg h1] at h
      by_cases h2 : 3 < x.kind ∧ (n ≠ 1 ∨ seq ≤ x.seq)
      · rw [if_pos h2] at h; cases h
      · rw [if_neg h2] at h
        by_cases h3 : 0 < atomsO x ∧ 0 ≤ last ∧ x.num ≠ last + 1
        · rw [if_pos h3] at h; cases h
        · rw [if_neg h3] at h
          rcases List.mem_cons.1 ho with rfl | ho
          · refine ⟨by simpa using h1, fun hk => ?_⟩
            by_cases hn : n = 1
            · by_cases hs : o.seq < seq
              · exact ⟨hn, hs⟩
              · exact absurd ⟨hk, Or.inr (by omega)⟩ h2
            · exact absurd ⟨hk, Or.inl hn⟩ h2
          · exact ih _ h o ho
theorem fitT_ok {t : Tm} (h : fitT t = 0) : 1 ≤ t.seq ∧ t.seq ≤ 268435456 ∧ 1 ≤ t.clock ∧ t.clock ≤ 1099511627776 ∧ 0 ≤ t.user ∧ t.user ≤ 7 ∧ 1 ≤ t.ops.length ∧ t.ops.length ≤ 16 ∧ fitOs t.ops.length t.seq (-1) t.ops = 0 := by
  unfold fitT at h
  by_cases h1 : t.seq < 1 ∨ 268435456 < t.seq ∨ t.clock < 1 ∨ 1099511627776 < t.clock ∨ t.user < 0 ∨ 7 < t.user ∨ t.ops.length = 0
  · rw [if_pos h1] at h; cases h
  · rw [if_neg h1] at h
    by_cases h2 : 16 < t.ops.length
    · rw [if_pos h2] at h; cases h
    · rw [if_neg h2] at h
      refine ⟨by omega, by omega, by omega, by omega, by omega, by omega, by omega, by omega, h⟩
/-- A transaction, written. -/
def bytesT (t : Tm) : List UInt8 := encN t.r.toNat ++ (encN t.seq.toNat ++ (encN t.clock.toNat ++ (encN t.user.toNat ++ (encN t.ops.length ++ t.ops.flatMap bytesO))))
/-- So many operations, read one behind the other; nothing more behind an error. -/
def rdOs (bs : List UInt8) : Nat → Nat → Nat → List Om × Nat × Nat
  | 0, q, e => ([], q, e)
  | n + 1, q, e => if e = 0 then ((readO bs q 0).1 :: (rdOs bs n (readO bs q 0).2.1 (readO bs q 0).2.2).1, (rdOs bs n (readO bs q 0).2.1 (readO bs q 0).2.2).2) else ([], q, e)
theorem rdOs_err (bs : List UInt8) (n q e : Nat) (h : e ≠ 0) : rdOs bs n q e = ([], q, e) := by
  cases n with
  | zero => rfl
  | succ n => rw [rdOs, if_neg h]
/-- A transaction at a place; where the next thing stands, and an error. -/
def readTx (bs : List UInt8) (q e : Nat) : Tm × Nat × Nat :=
  let a := rdN bs q e 65535
  let b := rdN bs a.2.1 a.2.2 268435456
  let c := rdN bs b.2.1 b.2.2 1099511627776
  let d := rdN bs c.2.1 c.2.2 7
  let n := rdN bs d.2.1 d.2.2 16
  let l := rdOs bs n.1 n.2.1 n.2.2
  if l.2.2 = 0 then (⟨(a.1 : Int), (b.1 : Int), (c.1 : Int), (d.1 : Int), l.1⟩, l.2) else (t0, l.2)
end Go.Proofs.YtceanfpcddcfoaaGreat
