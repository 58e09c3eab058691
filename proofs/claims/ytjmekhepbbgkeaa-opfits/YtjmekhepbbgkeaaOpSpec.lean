
/-
  What the laws of layer 8 lean on: what op's calls hand back (to be proved of the landed code), and the laws' own anchor under that. No conditions beyond what each theorem states.
-/
import Derived.Test.YtjmekhepbbgkeaaOpLaw1
import Derived.Test.YtjmekhepbbgkeaaLawSBytes
import Derived.Test.YtjmekhepbbgkeaaPackEnc
namespace Go.Proofs.Ytjmekhepbbgkeaa
open Go.ChangeShapes Go.WideShapes Go.ChangeAt Go.RowKit Go.Lib
set_option linter.unusedVariables false
set_option linter.unusedSimpArgs false

/-- An operation, written. -/
def bytesO (o : Om) : List UInt8 := encN o.kind.toNat ++ (if o.kind = 1 ∨ o.kind = 3 then encN o.r.toNat ++ (encN o.n.toNat ++ encN o.num.toNat) else []) ++ (if o.kind = 1 then encT o.text else if o.kind = 2 ∨ o.kind = 3 then bytesL o.spans else encN o.seq.toNat)
/-- An operation that comes in: values of their kinds, its spans behind their address. -/
structure InO (o : Om) (p : Option Addr) (c : Nat) (w : World) : Prop where
  fit : FitOm o
  row : GRow layS w p o.spans
  cap : o.spans.length ≤ c
  nil : p = none → c = 0
theorem InO.below {o : Om} {p : Option Addr} {c : Nat} {w w' : World} (h : InO o p c w) (hb : Below w.heap.size w w') : InO o p c w' := ⟨h.fit, h.row.below hb, h.cap, h.nil⟩
def PlainSpec : Prop := ∀ (s : List UInt8) (w : World), s.length ≤ 300 → Calls Try.prog 10 #[.string ⟨s.toArray⟩] w fun e w' => e = .returned (.bool (plainB s)) ∧ Below w.heap.size w w'
def AtomsSpec : Prop := ∀ (o : Om) (p : Option Addr) (c : Nat) (w : World), InO o p c w → o.text.length ≤ 300 → o.spans.length ≤ 60 → fitO o = 0 → Calls Try.prog 12 #[ov o p c] w fun e w' => e = .returned (.int .i64 (atomsO o)) ∧ Below w.heap.size w w'
def FitOSpec : Prop := ∀ (o : Om) (p : Option Addr) (c : Nat) (w : World), InO o p c w → o.text.length ≤ 300 → o.spans.length ≤ 60 → Calls Try.prog 9 #[ov o p c] w fun e w' => e = .returned (.int .i64 (fitO o)) ∧ Below w.heap.size w w'
def PutOSpec : Prop := ∀ (B K : Nat) (v : Value) (bs : List UInt8) (o : Om) (p : Option Addr) (c : Nat) (w : World), Wr B K v bs w → InO o p c w → (0 < o.spans.length → ∀ q, p = some q → q.block < B) → o.text.length ≤ 300 → o.spans.length ≤ 60 → fitO o = 0 → bs.length ≤ 100000 → Calls Try.prog 14 #[ov o p c, .pointer (some ⟨K, 0, none⟩)] w fun e w' => e = .returned (.tuple #[]) ∧ Wrote B K v bs (bytesO o) w w'
/-- The document's example. -/
def ex8 : Om := ⟨1, 0, 0, 5, [104, 105], [], 0⟩
theorem ex8_fits : fitO ex8 = 0 := by decide
theorem ex8_bytes : bytesO ex8 = [1, 0, 0, 5, 2, 104, 105] := by
  show encN 1 ++ (encN 0 ++ (encN 0 ++ encN 5)) ++ (encN 2 ++ [104, 105]) = _
  rw [encN_small (n := 1) (by decide), encN_small (n := 0) (by decide), encN_small (n := 5) (by decide), encN_small (n := 2) (by decide)]
  rfl
set_option maxHeartbeats 1600000 in
set_option maxRecDepth 20000 in
theorem anchor8_any (HPU : PutOSpec) (w : World) : Calls Try.prog 6 #[] w fun e w' => e = .returned (.bool true) ∧ Below w.heap.size w w' := by
  have HW8 : Hid (Wr w.heap.size w.heap.size (.slice none 0 0) [] (w.alloc (.cells #[.slice none 0 0] 43))) := ⟨Nat.le_refl _, by simp, heap_alloc_new w _, World.ownsRow_nil _ _ _ _⟩
  have H1 := Lib.hid (HPU w.heap.size w.heap.size (.slice none 0 0) [] ex8 none 0 _ HW8.out ⟨by unfold FitOm ex8; simp [FitSs], GRow.nil _ _ _, Nat.le_refl _, fun _ => rfl⟩ (fun h => by simp [ex8] at h) (by simp [ex8]) (by simp [ex8]) ex8_fits (by simp))
  rw [ex8_bytes] at H1
  unfold ov ex8 at H1
  simp only at H1
  go_enter Try.func6, Try.ntmps6
  go_wp2_with fail
  refine H1.out.mono ?_
  rintro e w9 ⟨rfl, v9, hw9, -, hk9⟩
  have HB9 : Hid (Below w.heap.size w w9) := (below_alloc (Below.refl _ _) _).trans (HW8.out.bound hk9)
  rw [List.nil_append] at hw9
  have HW9 := Lib.hid hw9
  clear hw9 hk9 HW8 H1
  have H2 := Lib.hid (wbytes_any _ _ _ _ w9 HW9.out (by simp))
  go_wp2_with fail
  refine H2.out.mono ?_
  rintro e w10 ⟨rfl, hh10, hb10⟩
  have HB10 : Hid (Below w.heap.size w w10) := below_step HB9.out hb10
  have hcv := conv_row (c := [1, 0, 0, 5, 2, 104, 105].length) (brow_block hh10) rfl
  simp only [List.length_cons, List.length_nil, Nat.zero_add, Nat.reduceAdd] at hcv
  clear hh10 hb10 HB9 HW9 H2
  go_wp2
  go_ret
  exact ⟨rfl, HB10.out⟩
end Go.Proofs.Ytjmekhepbbgkeaa
