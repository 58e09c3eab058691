/-
  Several texts of one proof, joined: each part says at its head what it proves. No conditions beyond what each theorem states.
-/
import Derived.Test.YtceanfpcddcfoaaGreatZ13
import Derived.Test.YtceanfpcddcfoaaGreatZ07
import Derived.Test.YtceanfpcddcfoaaGreatZ10
import Derived.Test.YtceanfpcddcfoaaGreatZ06
import Derived.Test.YtceanfpcddcfoaaGreatZ09
import Derived.Test.YtceanfpcddcfoaaGreatZ01
import Derived.Test.YtceanfpcddcfoaaGreatZ11
/-
  What the laws of layer 9 lean on: what txn's calls hand back (to be proved of the landed code), and the laws' own anchor under that. No conditions beyond what each theorem states.
-/
namespace Go.Proofs.YtceanfpcddcfoaaGreat
open Go.ChangeShapes Go.WideShapes Go.ChangeAt Go.RowKit Go.Lib
set_option linter.unusedVariables false
set_option linter.unusedSimpArgs false

/-- What is undone, or done again. -/
def undB (t : Tm) : Bool := decide (3 < (t.ops.getD 0 o0).kind)
def undR (t : Tm) : Int := if 3 < (t.ops.getD 0 o0).kind then t.r else 0
def undS (t : Tm) : Int := if 3 < (t.ops.getD 0 o0).kind then (t.ops.getD 0 o0).seq else 0
def KeyTSpec : Prop := ∀ (t : Tm) (p : Option Addr) (c : Nat) (n : Int) (w : World), Calls Tryz.prog 57 #[tv t p c, .int .u32 n] w fun e w' => e = .returned (.agg #[.int .u64 t.clock, .int .u16 t.r, .int .u32 n]) ∧ Below w.heap.size w w'
def AtomsTSpec : Prop := ∀ (t : Tm) (xs : List OV) (p : Option Addr) (c : Nat) (w : World), InT t xs p c w → SmallX xs → fitT t = 0 → Calls Tryz.prog 56 #[tv t p c] w fun e w' => e = .returned (.int .i64 (atomsL t.ops)) ∧ Below w.heap.size w w'
def FitTSpec : Prop := ∀ (t : Tm) (xs : List OV) (p : Option Addr) (c : Nat) (w : World), InT t xs p c w → SmallX xs → xs.length ≤ 40 → Calls Tryz.prog 37 #[tv t p c] w fun e w' => e = .returned (.int .i64 (fitT t)) ∧ Below w.heap.size w w'
/-- A transaction's rows lie below a bound. -/
def BelowB (B : Nat) (xs : List OV) (p : Option Addr) : Prop := (0 < xs.length → ∀ q, p = some q → q.block < B) ∧ ∀ x ∈ xs, 0 < x.1.spans.length → ∀ q, x.2.1 = some q → q.block < B
def PutTSpec : Prop := ∀ (B K : Nat) (v : Value) (bs : List UInt8) (t : Tm) (xs : List OV) (p : Option Addr) (c : Nat) (w : World), Wr B K v bs w → InT t xs p c w → BelowB B xs p → SmallP xs → fitT t = 0 → bs.length ≤ 50000 → Calls Tryz.prog 32 #[tv t p c, .pointer (some ⟨K, 0, none⟩)] w fun e w' => e = .returned (.tuple #[]) ∧ Wrote B K v bs (bytesT t) w w'
/-- What Get leaves. -/
def GotT (bs : List UInt8) (q e K D : Nat) (w : World) (r : Ending) (w' : World) : Prop := ∃ ys p c q', r = .returned (tv (readTx bs q e).1 p c) ∧ RowT (readTx bs q e).1 ys p c w' ∧ Rd K D bs q' (readTx bs q e).2.2 w' ∧ ((readTx bs q e).2.2 = 0 → q' = (readTx bs q e).2.1) ∧ Only K w w'
def GetTSpec : Prop := ∀ (bs : List UInt8) (q e K D : Nat) (w : World), Rd K D bs q e w → bs.length ≤ 100000 → e < 16 → Calls Tryz.prog 42 #[.pointer (some ⟨K, 0, none⟩)] w (GotT bs q e K D w)
/-- The document's example. -/
def exO (n : Int) (s : List UInt8) : Om := ⟨1, 0, 0, n, s, [], 0⟩
def exX (m : Int) : List OV := [(exO 4 [97, 98], none, 0), (exO m [99], none, 0)]
def exT (m : Int) : Tm := ⟨0, 1, 1, 0, [exO 4 [97, 98], exO m [99]]⟩
theorem exT_yes : fitT (exT 6) = 0 := by decide
theorem exT_no : fitT (exT 7) = 11 := by decide
theorem exT_in {W : World} {A : Nat} (m : Int) (hm : m = 6 ∨ m = 7) (h : W.heap[A]? = some (.cells #[.int .i64 1, .int .u16 0, .int .u32 0, .int .u32 4, .string ⟨#[97, 98]⟩, .slice none 0 0, .int .u32 0, .int .i64 1, .int .u16 0, .int .u32 0, .int .u32 m, .string ⟨#[99]⟩, .slice none 0 0, .int .u32 0] 79 (0, 0))) : InT (exT m) (exX m) (some ⟨A, 0, none⟩) 2 W := by
  have hf : ∀ n : Int, ∀ s : List UInt8, 0 ≤ n → n ≤ 10 → FitOm (exO n s) := fun n s h1 h2 => by unfold FitOm exO; simp only; refine ⟨by omega, by omega, by omega, by omega, by omega, by omega, by omega, by omega, fun x hx => (by cases hx), by omega, by omega⟩
  have h4 := hf 4 [97, 98] (by omega) (by omega)
  have hm' := hf m [99] (by omega) (by omega)
  refine ⟨?_, rfl, ⟨grow_block (L := layO) (xs := exX m) h, ?_⟩, by simp [exT], fun e => by cases e⟩
  · unfold FitTm exT
    simp only
    refine ⟨by omega, by omega, by omega, by omega, by omega, by omega, by omega, by omega, fun o ho => ?_⟩
    simp only [List.mem_cons, List.not_mem_nil, or_false] at ho
    rcases ho with rfl | rfl
    · exact h4
    · exact hm'
  · intro x hx
    simp only [exX, List.mem_cons, List.not_mem_nil, or_false] at hx
    rcases hx with rfl | rfl
    · exact ⟨h4, GRow.nil _ _ _, Nat.le_refl _, fun _ => rfl⟩
    · exact ⟨hm', GRow.nil _ _ _, Nat.le_refl _, fun _ => rfl⟩
theorem exX_small (m : Int) : SmallX (exX m) := fun x hx => by
  simp only [exX, List.mem_cons, List.not_mem_nil, or_false] at hx
  rcases hx with rfl | rfl
  · simp [exO]
  · simp [exO]
end Go.Proofs.YtceanfpcddcfoaaGreat
/-
  What the laws of layer 10 lean on: what wire's calls hand back (to be proved of the landed code), and the laws' own anchor under that. No conditions beyond what each theorem states.
-/
namespace Go.Proofs.YtceanfpcddcfoaaGreat
open Go.ChangeShapes Go.WideShapes Go.ChangeAt Go.RowKit Go.Lib
set_option linter.unusedVariables false
set_option linter.unusedSimpArgs false

/-- An envelope that comes in: its entries and its operations behind their addresses. -/
structure InE (e : Em) (xs : List OV) (p : Option Addr) (c : Nat) (q : Option Addr) (d : Nat) (w : World) : Prop where
  row : Vec.Row w p e.deps
  fits : Vec.Fits e.deps
  cap : e.deps.length ≤ c
  nil : p = none → c = 0
  txn : InT e.txn xs q d w
theorem InE.below {e : Em} {xs : List OV} {p q : Option Addr} {c d : Nat} {w w' : World} (h : InE e xs p c q d w) (hb : Below w.heap.size w w') : InE e xs p c q d w' := ⟨h.row.below hb, h.fits, h.cap, h.nil, h.txn.below hb⟩
/-- What Encode tells. -/
def encE (e : Em) : List UInt8 := if fitE e = 0 then bytesE e else []
def FitESpec : Prop := ∀ (e : Em) (xs : List OV) (p q : Option Addr) (c d : Nat) (w : World), InE e xs p c q d w → SmallX xs → e.deps.length ≤ 100000 → xs.length ≤ 40 → Calls Tryz.prog 12 #[ev e p c q d] w fun r w' => r = .returned (.int .i64 (fitE e)) ∧ Below w.heap.size w w'
def EncodeSpec : Prop := ∀ (e : Em) (xs : List OV) (p q : Option Addr) (c d : Nat) (w : World), InE e xs p c q d w → SmallP xs → e.deps.length ≤ 100 → xs.length ≤ 40 → Calls Tryz.prog 11 #[ev e p c q d] w fun r w' => ∃ g k, r = .returned (.tuple #[.slice g (encE e).length k, .int .i64 (fitE e)]) ∧ BRow w' g (encE e) ∧ (encE e).length ≤ k ∧ (g = none → k = 0) ∧ Below w.heap.size w w'
/-- What Decode tells. -/
def Decoded (e : Em) (f : Int) (w : World) (r : Ending) (w' : World) : Prop := ∃ xs a b q d, r = .returned (.tuple #[ev e a b q d, .int .i64 f]) ∧ Vec.Row w' a e.deps ∧ RowT e.txn xs q d w' ∧ Below w.heap.size w w'
def DecodeSpec : Prop := ∀ (bs : List UInt8) (p : Option Addr) (c : Nat) (w : World), BRow w p bs → bs.length ≤ 60000 → bs.length ≤ c → (p = none → c = 0) → Calls Tryz.prog 13 #[.slice p bs.length c] w (Decoded (readE bs).1 (readE bs).2 w)
def ReadyESpec : Prop := ∀ (e : Em) (xs : List OV) (h : List Vec.En) (p q s : Option Addr) (c d f : Nat) (w : World), InE e xs p c q d w → SmallP xs → fitE e = 0 → Vec.Row w s h → h.length ≤ f → (s = none → f = 0) → Vec.Fits h → Vec.RightP h → h.length ≤ 100 → e.deps.length ≤ 100 → Calls Tryz.prog 21 #[ev e p c q d, .slice s h.length f] w fun r w' => r = .returned (.bool (readyE e h)) ∧ Below w.heap.size w w'
def PastESpec : Prop := ∀ (e : Em) (xs : List OV) (h : List Vec.En) (p q s : Option Addr) (c d f : Nat) (w : World), InE e xs p c q d w → SmallP xs → fitE e = 0 → Vec.Row w s h → h.length ≤ f → (s = none → f = 0) → Vec.Fits h → Vec.RightP h → h.length ≤ 100 → e.deps.length ≤ 100 → Calls Tryz.prog 23 #[ev e p c q d, .slice s h.length f] w fun r w' => r = .returned (.bool (pastE e h)) ∧ Below w.heap.size w w'
def NeedsESpec : Prop := ∀ (e : Em) (xs : List OV) (h : List Vec.En) (p q s : Option Addr) (c d f : Nat) (w : World), InE e xs p c q d w → SmallP xs → fitE e = 0 → Vec.Row w s h → h.length ≤ f → (s = none → f = 0) → Vec.Fits h → Vec.RightP h → h.length ≤ 100 → e.deps.length ≤ 100 → Calls Tryz.prog 19 #[ev e p c q d, .slice s h.length f] w (Vec.Gave3 w (needsE e h))
/-- The number of an atom, and whether there is one. -/
def atomN : List Om → Int → Int × Bool
  | [], _ => (0, false)
  | o :: l, i => if i < atomsO o then (o.num + i, true) else atomN l (i - atomsO o)
def atomE (e : Em) (i : Int) : Int × Bool := if i < 0 then (0, false) else atomN e.txn.ops i
def AtomESpec : Prop := ∀ (e : Em) (xs : List OV) (p q : Option Addr) (c d : Nat) (i : Int) (w : World), InE e xs p c q d w → SmallP xs → fitE e = 0 → -9223372036854775808 ≤ i → i < 9223372036854775808 → Calls Tryz.prog 26 #[ev e p c q d, .int .i64 i] w fun r w' => r = .returned (.tuple #[.agg #[.int .u16 (if (atomE e i).2 = true then e.txn.r else 0), .int .u32 (atomE e i).1], .bool (atomE e i).2]) ∧ Below w.heap.size w w'
/-- The document's example. -/
def exE : Em := ⟨[], ⟨1, 1, 1, 0, [⟨1, 0, 0, 1, [97], [], 0⟩]⟩⟩
theorem exE_fit : fitE exE = 0 := by decide
theorem exE_len : (encE exE).length = 23 := by
  unfold encE
  rw [if_pos exE_fit, bytesE_len]
  unfold bodyE bytesD bytesT bytesO exE
  simp [encN_small, encT]
theorem exE_in {W : World} {A : Nat} (h : W.heap[A]? = some (.cells #[.int .i64 1, .int .u16 0, .int .u32 0, .int .u32 1, .string ⟨#[97]⟩, .slice none 0 0, .int .u32 0] 79 (0, 0))) : InE exE [(⟨1, 0, 0, 1, [97], [], 0⟩, none, 0)] none 0 (some ⟨A, 0, none⟩) 1 W := by
  have hf : FitOm ⟨1, 0, 0, 1, [97], [], 0⟩ := by unfold FitOm; simp only; refine ⟨by omega, by omega, by omega, by omega, by omega, by omega, by omega, by omega, fun x hx => (by cases hx), by omega, by omega⟩
  refine ⟨fun i hi => by simp [exE] at hi, fun x hx => by simp [exE] at hx, by simp [exE], fun _ => rfl, ?_, rfl, ⟨grow_block (L := layO) (xs := [(⟨1, 0, 0, 1, [97], [], 0⟩, none, 0)]) h, ?_⟩, by simp [exE], fun e => by cases e⟩
  · unfold FitTm exE
    simp only
    refine ⟨by omega, by omega, by omega, by omega, by omega, by omega, by omega, by omega, fun o ho => ?_⟩
    rw [List.mem_singleton.1 ho]; exact hf
  · intro x hx
    rw [List.mem_singleton.1 hx]
    exact ⟨hf, GRow.nil _ _ _, Nat.le_refl _, fun _ => rfl⟩
set_option maxHeartbeats 3200000 in
set_option maxRecDepth 20000 in
theorem anchor10_any (HEN : EncodeSpec) (w : World) : Calls Tryz.prog 7 #[] w fun e w' => e = .returned (.bool true) ∧ Below w.heap.size w w' := by
  have H1 : Hid (∀ (W : World) (A : Nat), W.heap[A]? = some (.cells #[.int .i64 1, .int .u16 0, .int .u32 0, .int .u32 1, .string ⟨#[97]⟩, .slice none 0 0, .int .u32 0] 79 (0, 0)) → Calls Tryz.prog 11 #[.agg #[.slice none 0 0, .int .u16 1, .int .u32 1, .int .u64 1, .int .i64 0, .slice (some ⟨A, 0, none⟩) 1 1]] W fun r w' => ∃ g k, r = .returned (.tuple #[.slice g 23 k, .int .i64 0]) ∧ Below W.heap.size W w') := fun W A h => by
    have := HEN exE _ none (some ⟨A, 0, none⟩) 0 1 W (exE_in h) (fun x hx => by rw [List.mem_singleton.1 hx]; simp) (by simp [exE]) (by simp)
    rw [exE_len, exE_fit] at this
    exact this.mono (by rintro r w' ⟨g, k, h1, -, -, -, h2⟩; exact ⟨g, k, h1, h2⟩)
  have HB := Lib.hid (below_alloc (Below.refl w.heap.size w) (.cells #[.int .i64 1, .int .u16 0, .int .u32 0, .int .u32 1, .string ⟨#[97]⟩, .slice none 0 0, .int .u32 0] 79))
  have HP := Lib.hid (heap_alloc_new w (.cells #[.int .i64 1, .int .u16 0, .int .u32 0, .int .u32 1, .string ⟨#[97]⟩, .slice none 0 0, .int .u32 0] 79))
  clear HEN
  go_enter Tryz.func7, Tryz.ntmps7
  go_wp2_with fail
  refine (H1.out _ _ HP.out).mono ?_
  rintro r w1 ⟨g, k, rfl, hb1⟩
  have HB1 : Hid (Below w.heap.size w w1) := below_step HB.out hb1
  clear hb1
  go_wp2
  go_ret
  exact ⟨rfl, HB1.out⟩
end Go.Proofs.YtceanfpcddcfoaaGreat
/-
  What the document's Bytes of layer 9 hands back, of a transaction that fits. No conditions beyond what each theorem states.
-/
namespace Go.Proofs.YtceanfpcddcfoaaGreat
open Go.ChangeShapes Go.WideShapes Go.ChangeAt Go.RowKit Go.Lib
set_option linter.unusedVariables false
set_option linter.unusedSimpArgs false

theorem bytesO_range {o : Om} (hf : FitOm o) (h : fitO o = 0) (hl : o.spans.length ≤ 1024) : 1 ≤ (bytesO o).length ∧ (bytesO o).length ≤ 30000 := by
  have hc := fitO_cases h
  unfold FitOm at hf
  obtain ⟨f1, f2, f3, f4, f5, f6, f7, f8, f9, f10, f11⟩ := hf
  have e1 := encN_len (n := o.kind.toNat) (by omega)
  have e2 := encN_len (n := o.r.toNat) (by omega)
  have e3 := encN_len (n := o.n.toNat) (by omega)
  have e4 := encN_len (n := o.num.toNat) (by omega)
  have e5 := encN_len (n := o.seq.toNat) (by omega)
  have e6 := bytesL_len f9 (by omega)
  have e0 := encN_pos o.kind.toNat
  have e7 : o.kind = 1 → (encT o.text).length ≤ 73 := fun hk => by
    have ht : o.text.length ≤ 64 := by
      rcases hc with c | c | c | c
      · exact c.2.2.2.2.2.1
      · have := c.1; omega
      · have := c.1; omega
      · have := c.1; omega
    unfold encT
    rw [List.length_append]
    have := encN_len (n := o.text.length) (by omega)
    omega
  unfold bytesO
  simp only [List.length_append]
  by_cases h1 : o.kind = 1
  · have := e7 h1
    simp only [if_pos h1, if_pos (show o.kind = 1 ∨ o.kind = 3 from Or.inl h1), List.length_append]
    omega
  · simp only [if_neg h1]
    by_cases h3 : o.kind = 1 ∨ o.kind = 3
    · simp only [if_pos h3, List.length_append]
      split <;> omega
    · simp only [if_neg h3, List.length_nil]
      split <;> omega
theorem bytesO_small {o : Om} (hf : FitOm o) (h : fitO o = 0) (hl : o.spans.length ≤ 60) : 1 ≤ (bytesO o).length ∧ (bytesO o).length ≤ 2000 := by
  have hc := fitO_cases h
  unfold FitOm at hf
  obtain ⟨f1, f2, f3, f4, f5, f6, f7, f8, f9, f10, f11⟩ := hf
  have e1 := encN_len (n := o.kind.toNat) (by omega)
  have e2 := encN_len (n := o.r.toNat) (by omega)
  have e3 := encN_len (n := o.n.toNat) (by omega)
  have e4 := encN_len (n := o.num.toNat) (by omega)
  have e5 := encN_len (n := o.seq.toNat) (by omega)
  have e6 := bytesL_len f9 (by omega)
  have e0 := encN_pos o.kind.toNat
  have e7 : o.kind = 1 → (encT o.text).length ≤ 73 := fun hk => by
    have ht : o.text.length ≤ 64 := by
      rcases hc with c | c | c | c
      · exact c.2.2.2.2.2.1
      · have := c.1; omega
      · have := c.1; omega
      · have := c.1; omega
    unfold encT
    rw [List.length_append]
    have := encN_len (n := o.text.length) (by omega)
    omega
  unfold bytesO
  simp only [List.length_append]
  by_cases h1 : o.kind = 1
  · have := e7 h1
    simp only [if_pos h1, if_pos (show o.kind = 1 ∨ o.kind = 3 from Or.inl h1), List.length_append]
    omega
  · simp only [if_neg h1]
    by_cases h3 : o.kind = 1 ∨ o.kind = 3
    · simp only [if_pos h3, List.length_append]
      split <;> omega
    · simp only [if_neg h3, List.length_nil]
      split <;> omega
theorem flatO_take {l : List Om} {k : Nat} (h : k < l.length) : (l.take (k + 1)).flatMap bytesO = (l.take k).flatMap bytesO ++ bytesO (l.getD k o0) := by
  rw [take_getD o0 h]; simp
theorem flatO_len {l : List Om} {M : Nat} (h : ∀ o ∈ l, (bytesO o).length ≤ M) : ∀ k, ((l.take k).flatMap bytesO).length ≤ k * M := by
  intro k
  induction k with
  | zero => simp
  | succ k ih =>
    by_cases hk : k < l.length
    · rw [flatO_take hk, List.length_append]
      have := h _ (getD_mem o0 hk)
      rw [Nat.add_mul, Nat.one_mul]
      omega
    · rw [List.take_of_length_le (by omega)]
      rw [List.take_of_length_le (by omega)] at ih
      exact Nat.le_trans ih (Nat.mul_le_mul_right _ (Nat.le_succ k))
set_option maxHeartbeats 6400000 in
set_option maxRecDepth 20000 in
theorem refbytesT_any (t : Tm) (xs : List OV) (p : Option Addr) (c : Nat) (w : World) (H : LieT t xs p w) (hs : SmallX xs) (h0 : fitT t = 0) :
    Calls Tryz.prog 45 #[tv t p c] w (Fresh (bytesT t) w) := by
  obtain ⟨i0, hi, hz0, hz1, hz2⟩ := info_parts infoB
  have hlen : t.ops.length = xs.length := by rw [H.ops, List.length_map]
  obtain ⟨g1, g2, g3, g4, g5, g6, g7, g8, g9⟩ := fitT_ok h0
  have HOK := fitOs_ok t.ops (-1) g9
  have hfi := H.fit
  have HFO : ∀ k, k < xs.length → fitO (xs.getD k ov0).1 = 0 := fun k hk => (HOK _ (by rw [H.ops]; exact List.mem_map.2 ⟨_, getD_mem ov0 hk, rfl⟩)).1
  have HBO : Hid (∀ k, k < xs.length → ∀ W, Below w.heap.size w W → Calls Tryz.prog 77 #[ov (xs.getD k ov0).1 (xs.getD k ov0).2.1 (xs.getD k ov0).2.2] W (Fresh (bytesO (xs.getD k ov0).1) W)) := fun k hk W hb => refbytes8_any _ _ _ W (H.fitAt hk) ((H.rowAt hk).below hb) (hs.at hk).2 (HFO k hk)
  have HBL : Hid (∀ k, k < xs.length → 1 ≤ (bytesO (xs.getD k ov0).1).length ∧ (bytesO (xs.getD k ov0).1).length ≤ 30000) := fun k hk => bytesO_range (H.fitAt hk) (HFO k hk) (hs.at hk).2
  have HLE : Hid (∀ k, ((t.ops.take k).flatMap bytesO).length ≤ k * 30000) := flatO_len fun o ho => by
    rw [H.ops] at ho
    obtain ⟨x, hx, rfl⟩ := List.mem_map.1 ho
    exact (bytesO_range (H.fitOf hx) (HOK _ (by rw [H.ops]; exact List.mem_map.2 ⟨x, hx, rfl⟩)).1 (hs x hx).2).2
  have HTK : Hid (∀ k, k < xs.length → (t.ops.take (k + 1)).flatMap bytesO = (t.ops.take k).flatMap bytesO ++ bytesO (xs.getD k ov0).1) := fun k hk => by
    rw [flatO_take (by omega), H.ops, getD_map1 xs hk]
  have HR := Lib.hid H.row
  clear H HOK HFO hs h0 g9
  unfold FitTm at hfi
  obtain ⟨f1, f2, f3, f4, f5, f6, f7, f8, -⟩ := hfi
  unfold tv bytesT
  obtain ⟨r, seq, clock, user, ops⟩ := t
  simp only at *
  obtain ⟨R, rfl⟩ := nat_of f1
  obtain ⟨S, rfl⟩ := nat_of f3
  obtain ⟨C, rfl⟩ := nat_of f5
  obtain ⟨U, rfl⟩ := nat_of g5
  simp only [Int.toNat_natCast]
  rw [hlen]
  generalize hXL : xs.length = L at *
  have hLL := hlen
  have HC := Lib.hid (fun (W : World) (hb : Below (w.alloc (.cells #[.int .u16 (R : Int), .int .u32 (S : Int), .int .u64 (C : Int), .int .i64 (U : Int), .slice p L c] 37)).heap.size (w.alloc (.cells #[.int .u16 (R : Int), .int .u32 (S : Int), .int .u64 (C : Int), .int .i64 (U : Int), .slice p L c] 37)) W) => five_cells (kept_box (heap_alloc_new w _) hb))
  have HB0 : Hid (Below w.heap.size w (w.alloc (.cells #[.int .u16 (R : Int), .int .u32 (S : Int), .int .u64 (C : Int), .int .i64 (U : Int), .slice p L c] 37))) := below_alloc (Below.refl _ _) _
  have HN := Lib.hid num_fresh
  have eR := encN_len (n := R) (by omega)
  have eS := encN_len (n := S) (by omega)
  have eC := encN_len (n := C) (by omega)
  have eU := encN_len (n := U) (by omega)
  have eL := encN_len (n := L) (by omega)
  have kR : IntKind.u64.wrap (R : Int) = (R : Int) := by rw [IntKind.wrap_u64]; omega
  have kS : IntKind.u64.wrap (S : Int) = (S : Int) := by rw [IntKind.wrap_u64]; omega
  have kU : IntKind.u64.wrap (U : Int) = (U : Int) := by rw [IntKind.wrap_u64]; omega
  have kL : IntKind.u64.wrap (L : Int) = (L : Int) := by rw [IntKind.wrap_u64]; omega
  go_enter Tryz.func45, Tryz.ntmps45
  go_wp2_with fail
  generalize w.alloc (.cells #[.int .u16 (R : Int), .int .u32 (S : Int), .int .u64 (C : Int), .int .i64 (U : Int), .slice p L c] 37) = w0 at HC HB0 ⊢
  refine (HN.out R (by omega) _).mono ?_
  rintro e wz ⟨v0, rfl, ho, hb⟩
  have H0 : Hid (OB w0 v0 (encN R) wz) := ⟨ho, hb⟩
  clear ho hb
  obtain ⟨x0, x1, x2, x3, x4⟩ := HC.out _ H0.out.2
  generalize hO0 : encN R = O0 at H0 eR
  go_wp2_with fail
  refine (HN.out S (by omega) _).mono ?_
  rintro e wa1 ⟨va1, rfl, ho, hb⟩
  have HA1 : Hid (OB w0 v0 O0 wa1) := H0.out.below hb
  obtain ⟨g1', d1, rfl, hr⟩ := owns_some ho (encN_pos S)
  have HRR1 := Lib.hid hr
  clear ho hb hr H0 x0 x1 x2 x3 x4
  obtain ⟨x0, x1, x2, x3, x4⟩ := HC.out _ HA1.out.2
  go_wp2_with (first
    | (at_builtin; refine wpList_append_own _ rfl (.tmp 9) (.tmp 13) 42 rfl w0.heap.size 5 i0 (.int .u8 0) 1 1 Tryz.underlying42 hi hz0 hz1 hz2 rfl (by decide) _ O0.length (byteCells O0) rfl HA1.out.1 ⟨g1', 0, none⟩ (encN S).length d1 (byteCells (encN S)) rfl (by rw [byteCells_length, Nat.mul_one]) (brow_news HRR1.out) (byteCells_one _) (by unfold maxLen; omega) (by omega) HA1.out.2.size ?_))
  intro v1 w1 hown hgrow _
  have H1 : Hid (OB w0 v1 (O0 ++ (encN S)) w1) := HA1.out.onto hown hgrow
  have hl1 : (O0 ++ (encN S)).length ≤ 40 := by rw [List.length_append]; omega
  clear hown hgrow HA1 HRR1 x0 x1 x2 x3 x4
  obtain ⟨x0, x1, x2, x3, x4⟩ := HC.out _ H1.out.2
  generalize hO1 : O0 ++ (encN S) = O1 at H1 hl1
  go_wp2_with fail
  refine (HN.out C (by omega) _).mono ?_
  rintro e wa2 ⟨va2, rfl, ho, hb⟩
  have HA2 : Hid (OB w0 v1 O1 wa2) := H1.out.below hb
  obtain ⟨g2', d2, rfl, hr⟩ := owns_some ho (encN_pos C)
  have HRR2 := Lib.hid hr
  clear ho hb hr H1 x0 x1 x2 x3 x4
  obtain ⟨x0, x1, x2, x3, x4⟩ := HC.out _ HA2.out.2
  go_wp2_with (first
    | (at_builtin; refine wpList_append_own _ rfl (.tmp 15) (.tmp 18) 42 rfl w0.heap.size 5 i0 (.int .u8 0) 1 1 Tryz.underlying42 hi hz0 hz1 hz2 rfl (by decide) _ O1.length (byteCells O1) rfl HA2.out.1 ⟨g2', 0, none⟩ (encN C).length d2 (byteCells (encN C)) rfl (by rw [byteCells_length, Nat.mul_one]) (brow_news HRR2.out) (byteCells_one _) (by unfold maxLen; omega) (by omega) HA2.out.2.size ?_))
  intro v2 w2 hown hgrow _
  have H2 : Hid (OB w0 v2 (O1 ++ (encN C)) w2) := HA2.out.onto hown hgrow
  have hl2 : (O1 ++ (encN C)).length ≤ 60 := by rw [List.length_append]; omega
  clear hown hgrow HA2 HRR2 x0 x1 x2 x3 x4
  obtain ⟨x0, x1, x2, x3, x4⟩ := HC.out _ H2.out.2
  generalize hO2 : O1 ++ (encN C) = O2 at H2 hl2
  go_wp2_with fail
  refine (HN.out U (by omega) _).mono ?_
  rintro e wa3 ⟨va3, rfl, ho, hb⟩
  have HA3 : Hid (OB w0 v2 O2 wa3) := H2.out.below hb
  obtain ⟨g3', d3, rfl, hr⟩ := owns_some ho (encN_pos U)
  have HRR3 := Lib.hid hr
  clear ho hb hr H2 x0 x1 x2 x3 x4
  obtain ⟨x0, x1, x2, x3, x4⟩ := HC.out _ HA3.out.2
  go_wp2_with (first
    | (at_builtin; refine wpList_append_own _ rfl (.tmp 20) (.tmp 24) 42 rfl w0.heap.size 5 i0 (.int .u8 0) 1 1 Tryz.underlying42 hi hz0 hz1 hz2 rfl (by decide) _ O2.length (byteCells O2) rfl HA3.out.1 ⟨g3', 0, none⟩ (encN U).length d3 (byteCells (encN U)) rfl (by rw [byteCells_length, Nat.mul_one]) (brow_news HRR3.out) (byteCells_one _) (by unfold maxLen; omega) (by omega) HA3.out.2.size ?_))
  intro v3 w3 hown hgrow _
  have H3 : Hid (OB w0 v3 (O2 ++ (encN U)) w3) := HA3.out.onto hown hgrow
  have hl3 : (O2 ++ (encN U)).length ≤ 80 := by rw [List.length_append]; omega
  clear hown hgrow HA3 HRR3 x0 x1 x2 x3 x4
  obtain ⟨x0, x1, x2, x3, x4⟩ := HC.out _ H3.out.2
  generalize hO3 : O2 ++ (encN U) = O3 at H3 hl3
  go_wp2_with fail
  refine (HN.out L (by omega) _).mono ?_
  rintro e wa4 ⟨va4, rfl, ho, hb⟩
  have HA4 : Hid (OB w0 v3 O3 wa4) := H3.out.below hb
  obtain ⟨g4', d4, rfl, hr⟩ := owns_some ho (encN_pos L)
  have HRR4 := Lib.hid hr
  clear ho hb hr H3 x0 x1 x2 x3 x4
  obtain ⟨x0, x1, x2, x3, x4⟩ := HC.out _ HA4.out.2
  go_wp2_with (first
    | (at_builtin; refine wpList_append_own _ rfl (.tmp 26) (.tmp 31) 42 rfl w0.heap.size 5 i0 (.int .u8 0) 1 1 Tryz.underlying42 hi hz0 hz1 hz2 rfl (by decide) _ O3.length (byteCells O3) rfl HA4.out.1 ⟨g4', 0, none⟩ (encN L).length d4 (byteCells (encN L)) rfl (by rw [byteCells_length, Nat.mul_one]) (brow_news HRR4.out) (byteCells_one _) (by unfold maxLen; omega) (by omega) HA4.out.2.size ?_))
  intro v4 w4 hown hgrow _
  have H4 : Hid (OB w0 v4 (O3 ++ (encN L)) w4) := HA4.out.onto hown hgrow
  have hl4 : (O3 ++ (encN L)).length ≤ 100 := by rw [List.length_append]; omega
  clear hown hgrow HA4 HRR4 x0 x1 x2 x3 x4
  obtain ⟨x0, x1, x2, x3, x4⟩ := HC.out _ H4.out.2
  generalize hO4 : O3 ++ (encN L) = O4 at H4 hl4
  go_wp2
  go_loopg [3, 4] L (fun g a i wr => ∃ k : Nat, k ≤ L ∧ L - k ≤ g ∧ i = .int .i64 (k : Int) ∧ OB w0 a (O4 ++ (ops.take k).flatMap bytesO) wr)
  case atStart => exact ⟨0, Nat.zero_le _, by omega, rfl, by simpa using H4.out⟩
  case round =>
    clear H4
    obtain ⟨k, hk, hg, rfl, hO⟩ := hrel
    have HO := Lib.hid hO
    clear hO x0 x1 x2 x3 x4
    obtain ⟨x0, x1, x2, x3, x4⟩ := HC.out _ HO.out.2
    have hlk := HLE.out k
    by_cases hlt : k < L
    · have hkl : (k : Int) < (L : Int) := by omega
      have HBW : Hid (Below w.heap.size w wr) := below_step HB0.out HO.out.2
      have HBK := Lib.hid (HBO.out k (by omega) wr HBW.out)
      have hbl := HBL.out k (by omega)
      have HTKk := Lib.hid (HTK.out k (by omega))
      obtain ⟨b, o, rfl, c0, c1, c2, c3, c4, c5, c6⟩ := orow_at (HR.out.below HBW.out) (by omega : k < xs.length)
      generalize xs.getD k ov0 = x at c0 c1 c2 c3 c4 c5 c6 HBK hbl HTKk
      obtain ⟨om, px, cx⟩ := x
      simp only at c0 c1 c2 c3 c4 c5 c6 HBK hbl HTKk
      unfold ov at HBK
      generalize (⟨om.text.toArray⟩ : ByteArray) = bt at c4 HBK
      generalize bytesO om = BO at HBK hbl HTKk
      generalize (ops.take k).flatMap bytesO = cs at HO hlk HTKk
      have hcl : (O4 ++ cs).length ≤ 100 + 16 * 30000 := by rw [List.length_append]; omega
      generalize hQ : O4 ++ cs = Q at HO hcl
      go_wp2_with fail
      refine HBK.out.mono ?_
      rintro e wa5 ⟨va5, rfl, ho, hb⟩
      have HA5 : Hid (OB w0 u3 Q wa5) := HO.out.below hb
      obtain ⟨g5', d5, rfl, hr⟩ := owns_some ho (by omega)
      have HRR5 := Lib.hid hr
      clear ho hb hr c0 c1 c2 c3 c4 c5 c6
      go_wp2_with (first
        | (at_builtin; refine wpList_append_own _ rfl (.tmp 40) (.tmp 46) 42 rfl w0.heap.size 5 i0 (.int .u8 0) 1 1 Tryz.underlying42 hi hz0 hz1 hz2 rfl (by decide) _ Q.length (byteCells Q) rfl HA5.out.1 ⟨g5', 0, none⟩ BO.length d5 (byteCells BO) rfl (by rw [byteCells_length, Nat.mul_one]) (brow_news HRR5.out) (byteCells_one _) (by unfold maxLen; omega) (by omega) HA5.out.2.size ?_))
      intro v5 w5 hown hgrow _
      have H5 : Hid (OB w0 v5 (O4 ++ (ops.take (k + 1)).flatMap bytesO) w5) := by
        show OB _ _ _ _
        rw [HTKk.out, ← List.append_assoc, hQ]
        exact HA5.out.onto hown hgrow
      clear hown hgrow HA5 HRR5
      go_wp2
      go_roundg (L - (k + 1))
      case measure => omega
      case rel => exact ⟨k + 1, by omega, Nat.le_refl _, by go_num, H5.out⟩
    · have : k = L := by omega
      subst this
      have hkl : ¬ (k : Int) < (k : Int) := by omega
      have HF : Hid (OB w0 u3 (O4 ++ ops.flatMap bytesO) wr) := by have := HO.out; rwa [← hLL, List.take_length] at this
      clear HO
      go_wp2
      go_ret
      subst hO4 hO3 hO2 hO1 hO0
      have := HF.out.fresh HB0.out
      simpa [List.append_assoc] using this
end Go.Proofs.YtceanfpcddcfoaaGreat
/-
  What the document's own Sum and Seal of layer 6 hand back, for all bytes. No conditions beyond what each theorem states.
-/
namespace Go.Proofs.YtceanfpcddcfoaaGreat
open Go.ChangeShapes Go.WideShapes Go.ChangeAt Go.RowKit Go.Lib
set_option linter.unusedVariables false
set_option linter.unusedSimpArgs false

theorem reg_lt (s : R32) : s.toNat < 4294967296 := s.isLt
theorem shl_nat (s : R32) : (s <<< 1).toNat = s.toNat * 2 % 4294967296 := by
  rw [BitVec.toNat_shiftLeft, Nat.shiftLeft_eq]
theorem msb_nat (s : R32) : s.toNat / 2147483648 = s.msb.toNat := by
  rw [BitVec.msb_eq_decide]
  have := reg_lt s
  by_cases h : 2147483648 ≤ s.toNat
  · rw [decide_eq_true (by simpa using h)]; simp; omega
  · rw [decide_eq_false (by simpa using h)]; simp; omega
theorem xor_poly (s : R32) : bits .xor .u32 (s.toNat : Int) 517762881 = ((s ^^^ poly).toNat : Int) := by
  have h1 : BitVec.ofInt 32 (s.toNat : Int) = s := by rw [BitVec.ofInt_natCast]; simp
  have e : (BitVec.ofInt 32 (s.toNat : Int) ^^^ BitVec.ofInt 32 517762881) = s ^^^ poly := by rw [h1]; rfl
  show IntKind.u32.wrap ((BitVec.ofInt 32 (s.toNat : Int) ^^^ BitVec.ofInt 32 517762881).toNat : Int) = _
  rw [e, IntKind.wrap_u32]
  have := reg_lt (s ^^^ poly)
  omega
theorem not_nat (s : R32) : (s ^^^ ones).toNat = 4294967295 - s.toNat := by
  have : s ^^^ ones = ~~~ s := by rw [show ones = BitVec.allOnes 32 from rfl, BitVec.xor_allOnes]
  rw [this, BitVec.toNat_not]
set_option maxRecDepth 100000 in
theorem bit_at {n k : Nat} (hn : n < 256) (hk : k < 8) : (n * 2 ^ k % 256) / 128 = (n.testBit (7 - k)).toNat := by
  have : ∀ k, k < 8 → ∀ n, n < 256 → (n * 2 ^ k % 256) / 128 = (n.testBit (7 - k)).toNat := by decide +kernel
  exact this k hk n hn
theorem take_bit (c : UInt8) {k : Nat} (hk : k < 8) : (bitsB c).take (k + 1) = (bitsB c).take k ++ [c.toNat.testBit (7 - k)] := by
  have : k = 0 ∨ k = 1 ∨ k = 2 ∨ k = 3 ∨ k = 4 ∨ k = 5 ∨ k = 6 ∨ k = 7 := by omega
  rcases this with h | h | h | h | h | h | h | h <;> subst h <;> rfl
theorem runB_snoc (s : R32) (l : List Bool) (b : Bool) : runB s (l ++ [b]) = stepB (runB s l) b := by rw [runB_append]; rfl
theorem step_yes {s : R32} {b : Bool} (h : s.msb.toNat ≠ b.toNat) : stepB s b = (s <<< 1) ^^^ poly := by
  unfold stepB
  cases hm : s.msb <;> cases b <;> simp_all
theorem step_no {s : R32} {b : Bool} (h : s.msb.toNat = b.toNat) : stepB s b = s <<< 1 := by
  unfold stepB
  cases hm : s.msb <;> cases b <;> simp_all
theorem regL_snoc {bs : List UInt8} {k : Nat} (h : k < bs.length) (s : R32) : regL s (bs.take (k + 1)) = runB (regL s (bs.take k)) (bitsB (bs.getD k 0)) := by
  rw [List.take_add_one, regL_append]
  simp [h, regL, bitsL]

set_option maxHeartbeats 3200000 in
set_option maxRecDepth 20000 in
theorem refsum_any (bs : List UInt8) (p : Option Addr) (c : Nat) (w : World) (hR : BRow w p bs) (hl : bs.length ≤ 9223372036854775807) :
    Calls Tryz.prog 78 #[.slice p bs.length c] w fun e w' => e = .returned (.int .u32 ((sumL bs).toNat : Int)) ∧ w' = w := by
  have HR := Lib.hid hR
  clear hR
  go_enter Tryz.func78, Tryz.ntmps78
  go_wp2
  go_loopg [3, 4] bs.length (fun g s i wr => ∃ k : Nat, k ≤ bs.length ∧ bs.length - k ≤ g ∧ i = .int .i64 (k : Int) ∧ s = .int .u32 ((regL ones (bs.take k)).toNat : Int) ∧ wr = w)
  case atStart => exact ⟨0, Nat.zero_le _, by omega, rfl, rfl, rfl⟩
  case round =>
    obtain ⟨k, hk, hg, rfl, rfl, rfl⟩ := hrel
    by_cases hlt : k < bs.length
    · obtain ⟨b, o, rfl, hc⟩ := HR.out k hlt
      have hS := regL_snoc hlt ones
      have hcb : (bs.getD k 0).toNat < 256 := (bs.getD k 0).toNat_lt
      rw [show atB bs k = (((bs.getD k 0).toNat : Nat) : Int) from rfl] at hc
      generalize bs.getD k 0 = cc at hc hS hcb
      generalize regL ones (bs.take k) = S0 at hS ⊢
      have HS := Lib.hid hS
      clear hS
      go_wp2
      go_loopg [3, 5, 6] 8 (fun g s cv i wq => ∃ j : Nat, j ≤ 8 ∧ 8 - j ≤ g ∧ i = .int .i64 (j : Int) ∧ cv = .int .u8 ((cc.toNat * 2 ^ j % 256 : Nat) : Int) ∧ s = .int .u32 ((runB S0 ((bitsB cc).take j)).toNat : Int) ∧ wq = wr)
      case atStart => exact ⟨0, by omega, by omega, rfl, by simp [Nat.mod_eq_of_lt hcb], rfl, rfl⟩
      case round =>
        obtain ⟨j, hj, hgj, rfl, rfl, rfl, rfl⟩ := hrel
        by_cases hj8 : j < 8
        · have hj8' : (j : Int) < 8 := by omega
          have hbit := bit_at hcb hj8
          have hnx := runB_snoc S0 ((bitsB cc).take j) (cc.toNat.testBit (7 - j))
          rw [← take_bit cc hj8] at hnx
          have hC2 : cc.toNat * 2 ^ (j + 1) % 256 = cc.toNat * 2 ^ j % 256 * 2 % 256 := by rw [Nat.pow_succ, ← Nat.mul_assoc]; omega
          have hCb : cc.toNat * 2 ^ j % 256 < 256 := Nat.mod_lt _ (by decide)
          generalize cc.toNat * 2 ^ j % 256 = C at hbit hC2 hCb ⊢
          generalize hB : cc.toNat.testBit (7 - j) = B at hbit hnx
          generalize runB S0 ((bitsB cc).take j) = S at hnx ⊢
          have hX := reg_lt S
          have ho := msb_nat S
          have hsh := shl_nat S
          have hxp := xor_poly (S <<< 1)
          have hO : S.msb.toNat < 2 := by cases S.msb <;> decide
          have hBb : B.toNat < 2 := by cases B <;> decide
          by_cases he : S.msb.toNat = B.toNat
          · rw [step_no he] at hnx
            rw [he] at ho
            have HNX : Hid ((runB S0 ((bitsB cc).take (j + 1))).toNat = (S <<< 1).toNat) := by show _ = _; rw [hnx]
            generalize (S <<< 1).toNat = Y at hsh HNX
            generalize S.toNat = X at hX ho hsh
            generalize B.toNat = O at ho hbit
            have q1 : (X : Int) / 2147483648 = (O : Int) := by omega
            have q2 : (C : Int) / 128 = (O : Int) := by omega
            have q3 : IntKind.u32.wrap ((X : Int) * 2) = (Y : Int) := by rw [IntKind.wrap_u32]; omega
            have q4 : IntKind.u8.wrap ((C : Int) * 2) = ((C * 2 % 256 : Nat) : Int) := by rw [IntKind.wrap_u8]; omega
            have HC2 := Lib.hid hC2
            clear hC2 hsh ho hbit hnx hxp he hO hBb
            go_wp2
            go_roundg (8 - (j + 1))
            case measure => omega
            case rel => exact ⟨j + 1, by omega, Nat.le_refl _, by go_num, by rw [HC2.out]; rfl, by rw [HNX.out], rfl⟩
          · rw [step_yes he] at hnx
            have HNX : Hid ((runB S0 ((bitsB cc).take (j + 1))).toNat = ((S <<< 1) ^^^ poly).toNat) := by show _ = _; rw [hnx]
            generalize ((S <<< 1) ^^^ poly).toNat = Z at hxp HNX
            generalize (S <<< 1).toNat = Y at hsh hxp
            generalize S.toNat = X at hX ho hsh
            generalize B.toNat = O at hbit he
            generalize S.msb.toNat = O2 at ho he
            have q1 : (X : Int) / 2147483648 = (O2 : Int) := by omega
            have q2 : (C : Int) / 128 = (O : Int) := by omega
            have q3 : IntKind.u32.wrap ((X : Int) * 2) = (Y : Int) := by rw [IntKind.wrap_u32]; omega
            have q4 : IntKind.u8.wrap ((C : Int) * 2) = ((C * 2 % 256 : Nat) : Int) := by rw [IntKind.wrap_u8]; omega
            have q5 : ((O2 : Int) == (O : Int)) = false := by simp; omega
            have HC2 := Lib.hid hC2
            clear hC2 hsh ho hbit hnx he
            go_wp2
            go_roundg (8 - (j + 1))
            case measure => omega
            case rel => exact ⟨j + 1, by omega, Nat.le_refl _, by go_num, by rw [HC2.out]; rfl, by rw [HNX.out], rfl⟩
        · have hj8' : j = 8 := by omega
          subst hj8'
          have HE : Hid (runB S0 ((bitsB cc).take 8) = regL ones (bs.take (k + 1))) := by show _ = _; rw [HS.out]; rfl
          go_wp2
          go_roundg (bs.length - (k + 1))
          case measure => omega
          case rel => exact ⟨k + 1, by omega, Nat.le_refl _, by go_num, by rw [HE.out], rfl⟩
    · have : k = bs.length := by omega
      subst this
      have hlt32 := reg_lt (regL ones (bs.take bs.length))
      have HX : Hid ((sumL bs).toNat = 4294967295 - (regL ones (bs.take bs.length)).toNat) := by show _ = _; rw [List.take_length, sumL, not_nat]
      generalize (regL ones (bs.take bs.length)).toNat = X at hlt32 HX ⊢
      go_wp2
      go_ret
      exact ⟨by rw [HX.out, show ((4294967295 - X : Nat) : Int) = 4294967295 - (X : Int) by omega]; rfl, rfl⟩

/-- Bytes in new memory of the call's own. -/
def FreshC (bs : List UInt8) (w : World) (e : Ending) (w' : World) : Prop := ∃ v, e = .returned v ∧ w'.ownsRow w.heap.size 5 1 v bs.length (byteCells bs) ∧ Below w.heap.size w w'
theorem four_bytes (w : World) (v : R32) : ∀ j u, (byteCells (be4 v))[j]? = some u → (w.alloc (.cells (byteCells (be4 v)).toArray 5)).cell? ((⟨w.heap.size, 0, none⟩ : Addr).add j) = some u := by
  intro j u hj
  rw [Addr.add_lit, Nat.zero_add, cell_of_block (heap_alloc_new w _)]
  simpa using hj
theorem be4_cells (v : R32) : byteCells (be4 v) = [.int .u8 ((v.toNat / 16777216 : Nat) : Int), .int .u8 ((v.toNat / 65536 % 256 : Nat) : Int), .int .u8 ((v.toNat / 256 % 256 : Nat) : Int), .int .u8 ((v.toNat % 256 : Nat) : Int)] := by
  have hv := reg_lt v
  unfold be4 byteCells
  simp only [List.map_cons, List.map_nil, UInt8.toNat_ofNat']
  rw [Nat.mod_eq_of_lt (show v.toNat / 16777216 < 2 ^ 8 by omega), Nat.mod_eq_of_lt (show v.toNat / 65536 % 256 < 2 ^ 8 by omega), Nat.mod_eq_of_lt (show v.toNat / 256 % 256 < 2 ^ 8 by omega), Nat.mod_eq_of_lt (show v.toNat % 256 < 2 ^ 8 by omega)]

theorem four_at (W : World) (x0 x1 x2 x3 : Value) (t : TypeId) : ∀ j u, [x0, x1, x2, x3][j]? = some u → (W.alloc (.cells #[x0, x1, x2, x3] t)).cell? ((⟨W.heap.size, 0, none⟩ : Addr).add j) = some u := by
  intro j u hj
  rw [Addr.add_lit, Nat.zero_add, cell_of_block (heap_alloc_new W _)]
  simpa using hj
theorem be4_ints (v : R32) : byteCells (be4 v) = [.int .u8 ((v.toNat : Int) / 16777216), .int .u8 ((v.toNat : Int) / 65536 % 256), .int .u8 ((v.toNat : Int) / 256 % 256), .int .u8 ((v.toNat : Int) % 256)] := by
  rw [be4_cells]
  rfl
theorem seal_owns {w w3 : World} {V : R32} {bs : List UInt8} {v' : Value} {n : Nat} (hn : n = bs.length) (h : w3.ownsRow w.heap.size 5 1 v' (n + 4) (byteCells bs ++ byteCells (be4 V))) (hs : sealL bs = bs ++ be4 V) : w3.ownsRow w.heap.size 5 1 v' (sealL bs).length (byteCells (sealL bs)) := by
  rw [hs, byteCells_append, List.length_append, be4_len, ← hn]; exact h

set_option maxHeartbeats 3200000 in
set_option maxRecDepth 20000 in
theorem refseal_any (bs : List UInt8) (p : Option Addr) (c : Nat) (w : World) (hR : BRow w p bs) (hp : p = none → c = 0) (hl : bs.length ≤ 140737488351232) :
    Calls Tryz.prog 46 #[.slice p bs.length c] w (FreshC (sealL bs) w) := by
  obtain ⟨i0, hi, hz0, hz1, hz2⟩ := info_parts infoB
  have H := refsum_any bs p c w hR (by omega)
  have HR := Lib.hid hR
  have hb4 := be4_ints (sumL bs)
  have hv := reg_lt (sumL bs)
  have HSL : Hid (sealL bs = bs ++ be4 (sumL bs)) := rfl
  generalize sumL bs = V at H hb4 hv HSL
  generalize V.toNat = X at H hb4 hv
  have H := Lib.hid H
  have HB4 := Lib.hid hb4
  have hw1 : (X : Int) / 16777216 < 256 := by omega
  clear hR hb4
  cases p with
  | none =>
    have hc : c = 0 := hp rfl
    subst hc
    have hn : bs.length = 0 := by
      by_cases h : bs.length = 0
      · exact h
      · obtain ⟨b, o, e, _⟩ := HR.out 0 (by omega); cases e
    have he : bs = [] := List.eq_nil_of_length_eq_zero hn
    subst he
    clear hn
    go_enter Tryz.func46, Tryz.ntmps46
    go_wp2_with fail
    refine H.out.mono ?_
    rintro e w1 ⟨rfl, hw⟩
    obtain rfl := Eq.symm hw
    clear hw
    go_wp2_with (first
      | (at_builtin; refine wpList_append_own_at _ rfl (.tmp 10) (.tmp 25) 42 rfl w.heap.size 5 i0 (.int .u8 0) 1 1 Tryz.underlying42 hi hz0 hz1 hz2 rfl (by decide) _ _ _ rfl ((World.ownsRow_nil w w.heap.size 5 1).alloc _) ⟨w.heap.size, 0, none⟩ 4 4 _ rfl rfl (four_at _ _ _ _ _ _) (by intro u hu; simp at hu; rcases hu with rfl | rfl | rfl | rfl <;> rfl) (by decide) (by decide) (by simp) ?_))
    intro v3 w3 hown hgrow _ _
    rw [← HB4.out] at hown
    have HO3 : Hid (w3.ownsRow w.heap.size 5 1 v3 (sealL []).length (byteCells (sealL []))) := by
      show w3.ownsRow w.heap.size 5 1 v3 (sealL []).length (byteCells (sealL []))
      rw [HSL.out, List.nil_append]; exact hown
    have HB3 : Hid (Below w.heap.size w w3) := (below_alloc (Below.refl _ _) _).grown hgrow (by simp) (by intro k e; cases e)
    clear hown hgrow
    go_wp2
    go_ret
    exact ⟨_, rfl, HO3.out, HB3.out⟩
  | some a =>
    go_enter Tryz.func46, Tryz.ntmps46
    go_wp2_with fail
    refine H.out.mono ?_
    rintro e w1 ⟨rfl, hw⟩
    obtain rfl := Eq.symm hw
    clear hw
    go_wp2_with (first
      | (at_builtin; refine wpList_append_own_at _ rfl (.tmp 7) (.tmp 8) 42 rfl w.heap.size 5 i0 (.int .u8 0) 1 1 Tryz.underlying42 hi hz0 hz1 hz2 rfl (by decide) _ _ _ rfl (World.ownsRow_nil w w.heap.size 5 1) a bs.length c (byteCells bs) rfl (by rw [byteCells_length, Nat.mul_one]) (brow_news HR.out) (byteCells_one _) (by unfold maxLen; omega) (by omega) (Nat.le_refl _) ?_))
    intro v2 w2 hown hgrow _ _
    have HO := Lib.hid hown
    have HB2 : Hid (Below w.heap.size w w2) := (Below.refl _ _).grown hgrow (Nat.le_refl _) (by intro k e; cases e)
    clear hown hgrow
    go_wp2_with (first
      | (at_builtin; refine wpList_append_own_at _ rfl (.tmp 10) (.tmp 25) 42 rfl w.heap.size 5 i0 (.int .u8 0) 1 1 Tryz.underlying42 hi hz0 hz1 hz2 rfl (by decide) _ _ _ rfl (HO.out.alloc _) ⟨w2.heap.size, 0, none⟩ 4 4 _ rfl rfl (four_at _ _ _ _ _ _) (by intro u hu; simp at hu; rcases hu with rfl | rfl | rfl | rfl <;> rfl) (by unfold maxLen; omega) (by omega) (by have := HB2.out.size; simp; omega) ?_))
    intro v3 w3 hown hgrow _ _
    rw [← HB4.out] at hown
    have HO3 : Hid (w3.ownsRow w.heap.size 5 1 v3 (sealL bs).length (byteCells (sealL bs))) := seal_owns rfl hown HSL.out
    have HB3 : Hid (Below w.heap.size w w3) := (below_alloc HB2.out _).grown hgrow (by have := HB2.out.size; simp; omega) (fun k e => (HO.out.lt k e).1)
    clear hown hgrow
    go_wp2
    go_ret
    exact ⟨_, rfl, HO3.out, HB3.out⟩

end Go.Proofs.YtceanfpcddcfoaaGreat
/-
  What check's calls are to leave: bytes that are told, lists of bytes that come in. No conditions beyond what each theorem states.
-/
namespace Go.Proofs.YtceanfpcddcfoaaGreat
open Go.ChangeShapes Go.WideShapes Go.ChangeAt Go.RowKit Go.Lib
set_option linter.unusedVariables false
set_option linter.unusedSimpArgs false

/-- Bytes that are told. -/
def Told (bs : List UInt8) (w : World) (e : Ending) (w' : World) : Prop := ∃ p c, e = .returned (.slice p bs.length c) ∧ BRow w' p bs ∧ bs.length ≤ c ∧ (p = none → c = 0) ∧ Below w.heap.size w w'
/-- What Open tells. -/
def bodyL (bs : List UInt8) : List UInt8 := if openL bs = true then bs.take (bs.length - 4) else []
def Opened (bs : List UInt8) (w : World) (e : Ending) (w' : World) : Prop := ∃ p c, e = .returned (.tuple #[.slice p (bodyL bs).length c, .bool (openL bs)]) ∧ BRow w' p (bodyL bs) ∧ (bodyL bs).length ≤ c ∧ (p = none → c = 0) ∧ Below w.heap.size w w'
/-- Lists of bytes that lie behind an address. -/
def LRow (w : World) (pp : Option Addr) (ls : List (List UInt8)) : Prop :=
  ∀ i, i < ls.length → ∃ b o p c, pp = some ⟨b, o, none⟩ ∧ w.cell? ⟨b, o + i, none⟩ = some (.slice p (ls.getD i []).length c) ∧ BRow w p (ls.getD i []) ∧ (ls.getD i []).length ≤ c ∧ (p = none → c = 0)
theorem LRow.nil (w : World) (pp : Option Addr) : LRow w pp [] := fun i hi => by simp at hi
theorem brow_alloc {w : World} {p : Option Addr} {bs : List UInt8} (h : BRow w p bs) (o : Obj) : BRow (w.alloc o) p bs := h.below (below_alloc (Below.refl _ _) o)
theorem lrow_one {w : World} {p : Option Addr} {c : Nat} {bs : List UInt8} (h : BRow w p bs) (hc : bs.length ≤ c) (hp : p = none → c = 0) (t : TypeId) : LRow (w.alloc (.cells #[.slice p bs.length c] t)) (some ⟨w.heap.size, 0, none⟩) [bs] := fun i hi => by
  have : i = 0 := by simpa using hi
  subst this
  exact ⟨w.heap.size, 0, p, c, rfl, by rw [cell_of_block (heap_alloc_new w _)]; rfl, brow_alloc h _, hc, hp⟩
theorem lrow_two {w : World} {p q : Option Addr} {c d : Nat} {xs bs : List UInt8} (h : BRow w p xs) (hc : xs.length ≤ c) (hp : p = none → c = 0) (k : BRow w q bs) (kc : bs.length ≤ d) (kp : q = none → d = 0) (t : TypeId) :
    LRow (w.alloc (.cells #[.slice p xs.length c, .slice q bs.length d] t)) (some ⟨w.heap.size, 0, none⟩) [xs, bs] := fun i hi => by
  have : i = 0 ∨ i = 1 := by have : i < 2 := hi; omega
  rcases this with rfl | rfl
  · exact ⟨w.heap.size, 0, p, c, rfl, by rw [cell_of_block (heap_alloc_new w _)]; rfl, brow_alloc h _, hc, hp⟩
  · exact ⟨w.heap.size, 0, q, d, rfl, by rw [cell_of_block (heap_alloc_new w _)]; rfl, brow_alloc k _, kc, kp⟩
theorem owns_at {w : World} {B n : Nat} {v : Value} {e : TypeId} {bs : List UInt8} (h : w.ownsRow B e 1 v n (byteCells bs)) (hn : 1 ≤ bs.length) : ∃ g c, v = .slice (some ⟨g, 0, none⟩) bs.length c ∧ B ≤ g ∧ bs.length ≤ c ∧ BRow w (some ⟨g, 0, none⟩) bs := by
  obtain ⟨p, c, rfl, rfl, hr, _⟩ := brow_owns h
  rcases h.2 with ⟨hv, h0⟩ | ⟨g, cap, cur, hv, hb, _, h1, _⟩
  · omega
  · cases hv
    exact ⟨g, c, rfl, hb, h1, hr⟩
theorem byteCells_set (bs : List UInt8) (i : Nat) (y : UInt8) : (byteCells bs).set i (.int .u8 (y.toNat : Int)) = byteCells (bs.set i y) := by
  unfold byteCells
  rw [List.map_set]
theorem open_zero : openL [0, 0, 0, 0] = true ∧ bodyL [0, 0, 0, 0] = [] := by
  have h : openL [0, 0, 0, 0] = true := open_seal []
  exact ⟨h, by unfold bodyL; rw [if_pos h]; rfl⟩
theorem sum_zero : sumL [] = 0#32 := by decide
theorem seal_zero : sealL [] = [0, 0, 0, 0] := by unfold sealL; rw [sum_zero]; rfl

end Go.Proofs.YtceanfpcddcfoaaGreat
/-
  What the document's Bytes of layer 10 hands back, of an envelope that fits. No conditions beyond what each theorem states.
-/
namespace Go.Proofs.YtceanfpcddcfoaaGreat
open Go.ChangeShapes Go.WideShapes Go.ChangeAt Go.RowKit Go.Lib
set_option linter.unusedVariables false
set_option linter.unusedSimpArgs false

theorem bytesT_len {t : Tm} {xs : List OV} (hf : FitTm t) (hx : t.ops = xs.map (·.1)) (hs : SmallX xs) (h0 : fitT t = 0) : 1 ≤ (bytesT t).length ∧ (bytesT t).length ≤ 480100 := by
  obtain ⟨g1, g2, g3, g4, g5, g6, g7, g8, g9⟩ := fitT_ok h0
  have HOK := fitOs_ok t.ops (-1) g9
  unfold FitTm at hf
  obtain ⟨f1, f2, f3, f4, f5, f6, f7, f8, f9⟩ := hf
  have hle := flatO_len (l := t.ops) (M := 30000) (fun o ho => by
    have ho' := ho
    rw [hx] at ho'
    obtain ⟨x, hx', rfl⟩ := List.mem_map.1 ho'
    exact (bytesO_range (f9 _ ho) (HOK _ ho).1 (hs x hx').2).2) t.ops.length
  rw [List.take_length] at hle
  have e1 := encN_len (n := t.r.toNat) (by omega)
  have e2 := encN_len (n := t.seq.toNat) (by omega)
  have e3 := encN_len (n := t.clock.toNat) (by omega)
  have e4 := encN_len (n := t.user.toNat) (by omega)
  have e5 := encN_len (n := t.ops.length) (by omega)
  have e6 := encN_pos t.r.toNat
  unfold bytesT
  simp only [List.length_append]
  omega
theorem headE_ints (n : Nat) (h : n < 4294967296) : byteCells (headE n) = [.int .u8 67, .int .u8 80, .int .u8 1, .int .u8 ((n : Int) / 16777216), .int .u8 ((n : Int) / 65536 % 256), .int .u8 ((n : Int) / 256 % 256), .int .u8 ((n : Int) % 256)] := by
  unfold headE be4n byteCells
  simp only [List.map_cons, List.map_nil]
  rw [u8_nat (by omega), u8_nat (by omega), u8_nat (by omega), u8_nat (by omega)]
  rfl
theorem owns_seven (w : World) (x0 x1 x2 x3 x4 x5 x6 : Value) : (w.alloc (.cells #[x0, x1, x2, x3, x4, x5, x6] 5)).ownsRow w.heap.size 5 1 (.slice (some ⟨w.heap.size, 0, none⟩) 7 7) 7 [x0, x1, x2, x3, x4, x5, x6] :=
  World.ownsRow_lit w #[x0, x1, x2, x3, x4, x5, x6] 7 (Nat.le_refl _) (by decide) rfl
theorem seven_at (W : World) (x0 x1 x2 x3 x4 x5 x6 : Value) (t : TypeId) : ∀ j u, [x0, x1, x2, x3, x4, x5, x6][j]? = some u → (W.alloc (.cells #[x0, x1, x2, x3, x4, x5, x6] t)).cell? ((⟨W.heap.size, 0, none⟩ : Addr).add j) = some u := by
  intro j u hj
  rw [Addr.add_lit, Nat.zero_add, cell_of_block (heap_alloc_new W _)]
  simpa using hj
set_option maxHeartbeats 6400000 in
set_option maxRecDepth 20000 in
theorem refbytesE_any (e : Em) (xs : List OV) (p q : Option Addr) (c d : Nat) (w : World) (hR : Vec.Row w p e.deps) (hfx : Vec.Fits e.deps) (hm : e.deps.length ≤ 20000) (H : LieT e.txn xs q w) (hs : SmallX xs) (h0 : fitE e = 0) :
    Calls Tryz.prog 14 #[ev e p c q d] w (Fresh (bytesE e) w) := by
  obtain ⟨i0, hi, hz0, hz1, hz2⟩ := info_parts infoB
  obtain ⟨-, -, h3⟩ := fitE_ok h0
  obtain ⟨b1, b2⟩ := bytesT_len H.fit H.ops hs h3
  have H3 : Hid (∀ W, Below w.heap.size w W → Calls Tryz.prog 45 #[.agg #[.int .u16 e.txn.r, .int .u32 e.txn.seq, .int .u64 e.txn.clock, .int .i64 e.txn.user, .slice q e.txn.ops.length d]] W (Fresh (bytesT e.txn) W)) := fun W hb => refbytesT_any e.txn xs q d W (H.below hb) hs h3
  have HR := Lib.hid hR
  have HFX := Lib.hid hfx
  have HBE : Hid (bytesE e = sealL (headE ((encN e.deps.length ++ (bytesD e.deps ++ bytesT e.txn)).length + 11) ++ (encN e.deps.length ++ (bytesD e.deps ++ bytesT e.txn)))) := rfl
  have HLN : Hid (∀ k, k ≤ e.deps.length → (encN e.deps.length ++ bytesD (e.deps.take k)).length ≤ 9 + 18 * k) := fun k hk => by
    have h1 := encN_len (n := e.deps.length) (by omega)
    have h2 := bytesD_len (l := e.deps.take k) (fun x hx => HFX.out x (List.mem_of_mem_take hx))
    rw [List.length_take, Nat.min_eq_left hk] at h2
    rw [List.length_append]
    omega
  clear hR hfx H hs h0 h3
  obtain ⟨deps, ⟨r, seq, clock, user, ops⟩⟩ := e
  unfold ev
  simp only at *
  generalize bytesE (⟨deps, ⟨r, seq, clock, user, ops⟩⟩ : Em) = F at HBE ⊢
  generalize bytesT (⟨r, seq, clock, user, ops⟩ : Tm) = BT at H3 HBE b1 b2
  generalize ops.length = TL at H3 ⊢
  have HX := Lib.hid (heap_alloc_new w (.cells #[.slice p deps.length c, .int .u16 r, .int .u32 seq, .int .u64 clock, .int .i64 user, .slice q TL d] 39))
  have HB0 : Hid (Below w.heap.size w (w.alloc (.cells #[.slice p deps.length c, .int .u16 r, .int .u32 seq, .int .u64 clock, .int .i64 user, .slice q TL d] 39))) := below_alloc (Below.refl _ _) _
  have HN := Lib.hid num_fresh
  have kL : IntKind.u64.wrap (deps.length : Int) = (deps.length : Int) := by rw [IntKind.wrap_u64]; omega
  go_enter Tryz.func14, Tryz.ntmps14
  obtain ⟨x0, x1, x2, x3, x4, x5⟩ := six_cells HX.out
  go_wp2_with fail
  generalize (w.alloc (.cells #[.slice p deps.length c, .int .u16 r, .int .u32 seq, .int .u64 clock, .int .i64 user, .slice q TL d] 39)) = w0 at HX HB0 x0 x1 x2 x3 x4 x5 ⊢
  have HC : Hid (∀ W, Below w0.heap.size w0 W → _) := fun W hb => six_cells (kept_box HX.out hb)
  clear x0 x1 x2 x3 x4 x5
  refine (HN.out deps.length (by omega) _).mono ?_
  rintro e w1 ⟨v1, rfl, ho1, hb1⟩
  have HO1 : Hid (OB w0 v1 (encN deps.length ++ bytesD (deps.take 0)) w1) := by
    show OB w0 v1 (encN deps.length ++ []) w1
    rw [List.append_nil]; exact ⟨ho1, hb1⟩
  clear ho1 hb1
  go_wp2
  go_loopg [3, 4] deps.length (fun g v i wr => ∃ k : Nat, k ≤ deps.length ∧ deps.length - k ≤ g ∧ i = .int .i64 (k : Int) ∧ OB w0 v (encN deps.length ++ bytesD (deps.take k)) wr)
  case atStart => exact ⟨0, Nat.zero_le _, by omega, rfl, HO1.out⟩
  case round =>
    clear HO1
    obtain ⟨k, hk, hg, rfl, hO⟩ := hrel
    have HO := Lib.hid hO
    clear hO
    have hln := HLN.out k hk
    obtain ⟨x0, x1, x2, x3, x4, x5⟩ := HC.out _ HO.out.2
    by_cases hlt : k < deps.length
    · have hkl : (k : Int) < (deps.length : Int) := by omega
      obtain ⟨b, o, rfl, c0', c1'⟩ := HR.out k hlt
      have hfs := HFX.out.at hlt
      have HNX : Hid (encN deps.length ++ bytesD (deps.take (k + 1)) = ((encN deps.length ++ bytesD (deps.take k)) ++ encN (Vec.atL deps k).1.toNat) ++ encN (Vec.atL deps k).2.toNat) := by show _ = _; rw [bytesD_take hlt]; simp only [List.append_assoc]
      generalize encN deps.length ++ bytesD (deps.take k) = O0 at HO HNX hln
      generalize Vec.atL deps k = s at *
      obtain ⟨rr, ss⟩ := s
      simp only at c0' c1' hfs HNX
      obtain ⟨R, rfl⟩ : ∃ R : Nat, rr = (R : Int) := ⟨rr.toNat, by omega⟩
      obtain ⟨S, rfl⟩ : ∃ S : Nat, ss = (S : Int) := ⟨ss.toNat, by omega⟩
      simp only [Int.toNat_natCast] at HNX
      have hR1 := encN_len (n := R) (by omega)
      have hS1 := encN_len (n := S) (by omega)
      have kR : IntKind.u64.wrap (R : Int) = (R : Int) := by rw [IntKind.wrap_u64]; omega
      have kS : IntKind.u64.wrap (S : Int) = (S : Int) := by rw [IntKind.wrap_u64]; omega
      have HCells : Hid (∀ W, Below w.heap.size w W → W.cell? ⟨b, o + k * 2, none⟩ = some (.int .u16 (R : Int)) ∧ W.cell? ⟨b, o + k * 2 + 1, none⟩ = some (.int .u32 (S : Int))) := fun W hb => ⟨cellU c0' hb, cellU c1' hb⟩
      clear c0' c1'
      obtain ⟨c0, -⟩ := HCells.out _ (below_step HB0.out HO.out.2)
      go_wp2_with fail
      refine (HN.out R (by omega) _).mono ?_
      rintro e w2 ⟨v2, rfl, ho2, hb2⟩
      have HO2 : Hid (OB w0 u3 O0 w2) := HO.out.below hb2
      obtain ⟨g2, d2, rfl, hr2⟩ := owns_some ho2 (encN_pos R)
      have HR2 := Lib.hid hr2
      clear ho2 hb2 hr2 c0 x0 x1 x2 x3 x4 x5
      go_wp2_with (first
        | (at_builtin; refine wpList_append_own _ rfl (.tmp 19) (.tmp 27) 42 rfl w0.heap.size 5 i0 (.int .u8 0) 1 1 Tryz.underlying42 hi hz0 hz1 hz2 rfl (by decide) _ O0.length (byteCells O0) rfl HO2.out.1 ⟨g2, 0, none⟩ (encN R).length d2 (byteCells (encN R)) rfl (by rw [byteCells_length, Nat.mul_one]) (brow_news HR2.out) (byteCells_one _) (by unfold maxLen; omega) (by omega) HO2.out.2.size ?_))
      intro v3 w3 hown hgrow _
      have HO3 : Hid (OB w0 v3 (O0 ++ encN R) w3) := HO2.out.onto hown hgrow
      have hl3 : (O0 ++ encN R).length ≤ 9 + 18 * k + 9 := by rw [List.length_append]; omega
      clear hown hgrow HO2 HR2
      obtain ⟨-, c1⟩ := HCells.out _ (below_step HB0.out HO3.out.2)
      obtain ⟨x0, x1, x2, x3, x4, x5⟩ := HC.out _ HO3.out.2
      go_wp2_with fail
      refine (HN.out S (by omega) _).mono ?_
      rintro e w4 ⟨v4, rfl, ho4, hb4⟩
      have HO4 : Hid (OB w0 v3 (O0 ++ encN R) w4) := HO3.out.below hb4
      obtain ⟨g4, d4, rfl, hr4⟩ := owns_some ho4 (encN_pos S)
      have HR4 := Lib.hid hr4
      clear ho4 hb4 hr4 c1 HO3 x0 x1 x2 x3 x4 x5
      generalize O0 ++ encN R = O1 at *
      go_wp2_with (first
        | (at_builtin; refine wpList_append_own _ rfl (.tmp 29) (.tmp 37) 42 rfl w0.heap.size 5 i0 (.int .u8 0) 1 1 Tryz.underlying42 hi hz0 hz1 hz2 rfl (by decide) _ O1.length (byteCells O1) rfl HO4.out.1 ⟨g4, 0, none⟩ (encN S).length d4 (byteCells (encN S)) rfl (by rw [byteCells_length, Nat.mul_one]) (brow_news HR4.out) (byteCells_one _) (by unfold maxLen; omega) (by omega) HO4.out.2.size ?_))
      intro v5 w5 hown hgrow _
      have HO5 : Hid (OB w0 v5 (O1 ++ encN S) w5) := HO4.out.onto hown hgrow
      clear hown hgrow HO4 HR4
      go_wp2
      go_roundg (deps.length - (k + 1))
      case measure => omega
      case rel => exact ⟨k + 1, by omega, Nat.le_refl _, by go_num, by rw [HNX.out]; exact HO5.out⟩
    · have : k = deps.length := by omega
      subst this
      have hkl : ¬ (deps.length : Int) < (deps.length : Int) := by omega
      rw [List.take_length] at HO hln
      have hBB : Hid ((encN deps.length ++ bytesD deps) ++ BT = encN deps.length ++ (bytesD deps ++ BT)) := by show _ = _; rw [List.append_assoc]
      rw [← hBB.out] at HBE
      generalize encN deps.length ++ bytesD deps = O0 at HO hln HBE
      clear hBB
      go_wp2_with fail
      refine (H3.out _ (below_step HB0.out HO.out.2)).mono ?_
      rintro e w6 ⟨v6, rfl, ho6, hb6⟩
      have HO6 : Hid (OB w0 u3 O0 w6) := HO.out.below hb6
      obtain ⟨g6, d6, rfl, hr6⟩ := owns_some ho6 b1
      have HR6 := Lib.hid hr6
      clear ho6 hb6 hr6 HO x0 x1 x2 x3 x4 x5
      go_wp2_with (first
        | (at_builtin; refine wpList_append_own _ rfl (.tmp 39) (.tmp 42) 42 rfl w0.heap.size 5 i0 (.int .u8 0) 1 1 Tryz.underlying42 hi hz0 hz1 hz2 rfl (by decide) _ O0.length (byteCells O0) rfl HO6.out.1 ⟨g6, 0, none⟩ BT.length d6 (byteCells BT) rfl (by rw [byteCells_length, Nat.mul_one]) (brow_news HR6.out) (byteCells_one _) (by unfold maxLen; omega) (by omega) HO6.out.2.size ?_))
      intro v7 w7 hown hgrow _
      have HO7 : Hid (OB w0 v7 (O0 ++ BT) w7) := HO6.out.onto hown hgrow
      have hl7 : (O0 ++ BT).length ≤ 9 + 18 * 20000 + 480100 := by rw [List.length_append]; omega
      have hl7' : 1 ≤ (O0 ++ BT).length := by rw [List.length_append]; omega
      clear hown hgrow HO6 HR6
      generalize O0 ++ BT = Q at *
      obtain ⟨g7, d7, rfl, hr7⟩ := owns_some HO7.out.1 hl7'
      have HR7 := Lib.hid hr7
      clear hr7
      have hhd : byteCells (headE (Q.length + 11)) = [.int .u8 67, .int .u8 80, .int .u8 1, .int .u8 (((Q.length : Int) + 11) / 16777216), .int .u8 (((Q.length : Int) + 11) / 65536 % 256), .int .u8 (((Q.length : Int) + 11) / 256 % 256), .int .u8 (((Q.length : Int) + 11) % 256)] := by
        have := headE_ints (Q.length + 11) (by omega)
        simpa using this
      have HHD := Lib.hid hhd
      clear hhd
      have HBW7 : Hid (Below w.heap.size w w7) := below_step HB0.out HO7.out.2
      have h7c := fun (x0 x1 x2 x3 x4 x5 x6 : Value) => owns_seven w7 x0 x1 x2 x3 x4 x5 x6
      have H7C := Lib.hid h7c
      have HR8 : Hid (∀ o : Obj, BRow (w7.alloc o) (some ⟨g7, 0, none⟩) Q) := fun o => HR7.out.below (below_alloc (Below.refl _ _) o)
      clear h7c
      go_wp2_with (first
        | (at_builtin; refine wpList_append_own _ rfl (.tmp 62) (.tmp 63) 42 rfl w7.heap.size 5 i0 (.int .u8 0) 1 1 Tryz.underlying42 hi hz0 hz1 hz2 rfl (by decide) _ 7 _ rfl (H7C.out _ _ _ _ _ _ _) ⟨g7, 0, none⟩ Q.length d7 (byteCells Q) rfl (by rw [byteCells_length, Nat.mul_one]) (brow_news (HR8.out _)) (byteCells_one _) (by unfold maxLen; omega) (by omega) (by simp) ?_))
      intro v8 w8 hown hgrow _
      have HO8 : Hid (w8.ownsRow w7.heap.size 5 1 v8 (7 + Q.length) (byteCells (headE (Q.length + 11) ++ Q))) := by
        show w8.ownsRow _ _ _ _ _ _
        rw [byteCells_append, HHD.out]
        exact hown
      have HB8 : Hid (Below w.heap.size w w8) := (below_alloc HBW7.out _).grown hgrow (by have := HBW7.out.size; simp; omega) (fun k e => by cases e; exact HBW7.out.size)
      have hl8 : (headE (Q.length + 11) ++ Q).length ≤ 900000 ∧ 1 ≤ (headE (Q.length + 11) ++ Q).length := by rw [List.length_append, headE_len]; omega
      clear hown hgrow HO7 HR7 HR8 H7C HHD
      generalize headE (Q.length + 11) ++ Q = Z at HO8 HBE hl8
      obtain ⟨g8, d8, rfl, hr8⟩ := owns_some HO8.out hl8.2
      have H8 := Lib.hid (refseal_any Z (some ⟨g8, 0, none⟩) d8 w8 hr8 (by intro h; cases h) (by omega))
      clear hr8 HO8
      go_wp2_with fail
      refine H8.out.mono ?_
      rintro e w9 ⟨v9, rfl, ho9, hb9⟩
      have HB9 : Hid (Below w.heap.size w w9) := below_step HB8.out hb9
      have HO9 : Hid (w9.ownsRow w.heap.size 5 1 v9 F.length (byteCells F)) := by
        show w9.ownsRow _ _ _ _ _ _
        rw [HBE.out]
        exact owns_mono ho9 HB8.out.size
      clear ho9 hb9
      go_wp2
      go_ret
      exact ⟨v9, rfl, HO9.out, HB9.out⟩
end Go.Proofs.YtceanfpcddcfoaaGreat
