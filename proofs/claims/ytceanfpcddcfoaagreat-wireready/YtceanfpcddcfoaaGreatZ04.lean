/-
  Several texts of one proof, joined: each part says at its head what it proves. No conditions beyond what each theorem states.
-/
import Derived.Lib.QuietBelow
import Derived.Test.YtceanfpcddcfoaaGreatZ02
import Derived.Test.YtceanfpcddcfoaaGreatZ03
/-
  Spans as bytes: how they are written, and what is read of any bytes. Of no program but how bytes lie in memory; no conditions beyond what each theorem states.
-/
namespace Go.Proofs.YtceanfpcddcfoaaGreat
open Go.ChangeShapes Go.WideShapes Go.ChangeAt Go.RowKit Go.Lib
set_option linter.unusedVariables false
set_option linter.unusedSimpArgs false

/-- Spans, written. -/
def bytesS (s : Sp) : List UInt8 := encN s.1.toNat ++ encN s.2.1.toNat ++ encN s.2.2.toNat
def bytesL (l : List Sp) : List UInt8 := encN l.length ++ l.flatMap bytesS

/-- Three numbers, read one behind the other; nothing more is read behind an error. -/
def rd3 (bs : List UInt8) (q e : Nat) : Sp × Nat × Nat :=
  let a := rdN bs q e 65535
  let b := rdN bs a.2.1 a.2.2 268435456
  let c := rdN bs b.2.1 b.2.2 1024
  (((a.1 : Int), (b.1 : Int), (c.1 : Int)), c.2.1, c.2.2)
/-- So many spans, read one behind the other. -/
def rdL (bs : List UInt8) : Nat → Nat → Nat → List Sp × Nat × Nat
  | 0, q, e => ([], q, e)
  | n + 1, q, e => if e = 0 then ((rd3 bs q 0).1 :: (rdL bs n (rd3 bs q 0).2.1 (rd3 bs q 0).2.2).1, (rdL bs n (rd3 bs q 0).2.1 (rd3 bs q 0).2.2).2) else ([], q, e)
theorem rdL_err (bs : List UInt8) (n q e : Nat) (h : e ≠ 0) : rdL bs n q e = ([], q, e) := by
  cases n with
  | zero => rfl
  | succ n => rw [rdL, if_neg h]
/-- Spans at a place: none, if there is an error. -/
def readS (bs : List UInt8) (q e : Nat) : List Sp × Nat × Nat :=
  let c := rdN bs q e 1024
  let r := rdL bs c.1 c.2.1 c.2.2
  (if r.2.2 = 0 then r.1 else [], r.2.1, r.2.2)

theorem rdN_fits {bs : List UInt8} {q e limit : Nat} (hq : q ≤ bs.length) : (rdN bs q e limit).2.1 ≤ bs.length ∧ (rdN bs q e limit).1 ≤ limit ∧ ((rdN bs q e limit).2.2 < 16 ∨ (rdN bs q e limit).2.2 = e) := by
  unfold rdN
  split
  · have := read_fair (bs.drop q) limit
    unfold Fair at this
    rw [List.length_drop] at this
    simp only
    omega
  · exact ⟨hq, Nat.zero_le _, Or.inr rfl⟩
theorem rdN_err {bs : List UInt8} {q e limit : Nat} (h : e ≠ 0) : rdN bs q e limit = (0, q, e) := by unfold rdN; rw [if_neg h]
theorem rdN_read {bs : List UInt8} {q limit : Nat} : rdN bs q 0 limit = ((readN (bs.drop q) limit).1, q + (readN (bs.drop q) limit).2.1, (readN (bs.drop q) limit).2.2) := by unfold rdN; rw [if_pos rfl]
theorem rd3_fits {bs : List UInt8} {q : Nat} (hq : q ≤ bs.length) : (rd3 bs q 0).2.1 ≤ bs.length ∧ FitS (rd3 bs q 0).1 ∧ (rd3 bs q 0).2.2 < 16 := by
  have h1 := rdN_fits (e := 0) (limit := 65535) hq
  have h2 := rdN_fits (e := (rdN bs q 0 65535).2.2) (limit := 268435456) h1.1
  have h3 := rdN_fits (e := (rdN bs (rdN bs q 0 65535).2.1 (rdN bs q 0 65535).2.2 268435456).2.2) (limit := 1024) h2.1
  unfold rd3 FitS
  simp only
  omega
theorem rdL_fits {bs : List UInt8} : ∀ n q e, q ≤ bs.length → e < 16 → (rdL bs n q e).2.1 ≤ bs.length ∧ FitSs (rdL bs n q e).1 ∧ (rdL bs n q e).1.length ≤ n ∧ (rdL bs n q e).2.2 < 16 := by
  intro n
  induction n with
  | zero => intro q e hq he; exact ⟨hq, (by intro x hx; simp [rdL] at hx), by simp [rdL], he⟩
  | succ n ih =>
    intro q e hq he
    by_cases h : e = 0
    · obtain ⟨a1, a2, a3⟩ := rd3_fits hq
      obtain ⟨b1, b2, b3, b4⟩ := ih _ _ a1 a3
      rw [rdL, if_pos h]
      refine ⟨b1, ?_, by simp; omega, b4⟩
      intro x hx
      rcases List.mem_cons.1 hx with rfl | hx
      · exact a2
      · exact b2 x hx
    · rw [rdL, if_neg h]
      exact ⟨hq, (by intro x hx; simp at hx), by simp, he⟩
theorem readS_fits {bs : List UInt8} {q : Nat} (hq : q ≤ bs.length) : (readS bs q 0).2.1 ≤ bs.length ∧ FitSs (readS bs q 0).1 ∧ (readS bs q 0).1.length ≤ 1024 ∧ (readS bs q 0).2.2 < 16 := by
  have h1 := rdN_fits (e := 0) (limit := 1024) hq
  obtain ⟨b1, b2, b3, b4⟩ := rdL_fits (bs := bs) (rdN bs q 0 1024).1 (rdN bs q 0 1024).2.1 (rdN bs q 0 1024).2.2 h1.1 (by omega)
  unfold readS
  simp only
  refine ⟨b1, ?_, ?_, b4⟩
  · split
    · exact b2
    · intro x hx; simp at hx
  · split
    · omega
    · simp

/-- What was written is read again. -/
theorem rdN_at {pre post : List UInt8} {n limit : Nat} (hn : n < 9223372036854775808) (hl : n ≤ limit) : rdN (pre ++ (encN n ++ post)) pre.length 0 limit = (n, pre.length + (encN n).length, 0) := by
  unfold rdN
  rw [if_pos rfl, List.drop_left, read_enc hn hl]
theorem rd3_at {pre post : List UInt8} {s : Sp} (hr : rightS s = true) (hf : FitS s) : rd3 (pre ++ (bytesS s ++ post)) pre.length 0 = (s, pre.length + (bytesS s).length, 0) := by
  have h := rightS_iff.1 hr
  unfold FitS at hf
  unfold bytesS rd3
  have e1 : rdN (pre ++ ((encN s.1.toNat ++ encN s.2.1.toNat ++ encN s.2.2.toNat) ++ post)) pre.length 0 65535 = (s.1.toNat, pre.length + (encN s.1.toNat).length, 0) := by
    rw [List.append_assoc (encN s.1.toNat ++ encN s.2.1.toNat), List.append_assoc (encN s.1.toNat)]
    exact rdN_at (by omega) (by omega)
  have e2 : rdN (pre ++ ((encN s.1.toNat ++ encN s.2.1.toNat ++ encN s.2.2.toNat) ++ post)) (pre.length + (encN s.1.toNat).length) 0 268435456 = (s.2.1.toNat, pre.length + (encN s.1.toNat).length + (encN s.2.1.toNat).length, 0) := by
    have := rdN_at (pre := pre ++ encN s.1.toNat) (post := encN s.2.2.toNat ++ post) (n := s.2.1.toNat) (limit := 268435456) (by omega) (by omega)
    rw [List.length_append] at this
    rw [← this]
    simp only [List.append_assoc]
  have e3 : rdN (pre ++ ((encN s.1.toNat ++ encN s.2.1.toNat ++ encN s.2.2.toNat) ++ post)) (pre.length + (encN s.1.toNat).length + (encN s.2.1.toNat).length) 0 1024 = (s.2.2.toNat, pre.length + (encN s.1.toNat).length + (encN s.2.1.toNat).length + (encN s.2.2.toNat).length, 0) := by
    have := rdN_at (pre := pre ++ encN s.1.toNat ++ encN s.2.1.toNat) (post := post) (n := s.2.2.toNat) (limit := 1024) (by omega) (by omega)
    rw [List.length_append, List.length_append] at this
    rw [← this]
    simp only [List.append_assoc]
  rw [e1]
  simp only
  rw [e2]
  simp only
  rw [e3]
  simp only [List.length_append]
  refine Prod.ext ?_ (Prod.ext (by simp only; omega) rfl)
  refine Prod.ext ?_ (Prod.ext ?_ ?_) <;> simp only <;> omega
theorem rdL_at : ∀ (l : List Sp) (pre post : List UInt8), RightS l → FitSs l → rdL (pre ++ (l.flatMap bytesS ++ post)) l.length pre.length 0 = (l, pre.length + (l.flatMap bytesS).length, 0) := by
  intro l
  induction l with
  | nil => intro pre post _ _; simp [rdL]
  | cons s l ih =>
    intro pre post hr hf
    have e1 := rd3_at (pre := pre) (post := l.flatMap bytesS ++ post) (hr s (by simp)) (hf s (by simp))
    have e2 := ih (pre ++ bytesS s) post (fun x hx => hr x (by simp [hx])) (fun x hx => hf x (by simp [hx]))
    rw [List.length_append] at e2
    rw [List.flatMap_cons, List.length_cons, rdL, if_pos rfl, List.append_assoc, e1]
    simp only
    rw [List.append_assoc] at e2
    rw [e2]
    simp only [List.length_append]
    refine Prod.ext rfl (Prod.ext (by simp only; omega) rfl)
theorem readS_all {l : List Sp} (hr : RightS l) (hf : FitSs l) (hl : l.length ≤ 1024) : readS (bytesL l) 0 0 = (l, (bytesL l).length, 0) := by
  unfold readS bytesL
  have e1 := rdN_at (pre := []) (post := l.flatMap bytesS) (n := l.length) (limit := 1024) (by omega) (by omega)
  rw [List.nil_append, List.length_nil] at e1
  rw [e1]
  have e2 := rdL_at l (encN l.length) [] hr hf
  rw [List.append_nil] at e2
  simp only [Nat.zero_add]
  rw [e2]
  simp
theorem bytesS_len {s : Sp} (hf : FitS s) : (bytesS s).length ≤ 27 := by
  unfold FitS at hf
  unfold bytesS
  rw [List.length_append, List.length_append]
  have h1 := encN_len (n := s.1.toNat) (by omega)
  have h2 := encN_len (n := s.2.1.toNat) (by omega)
  have h3 := encN_len (n := s.2.2.toNat) (by omega)
  omega
theorem bytesL_len {l : List Sp} (hf : FitSs l) (hl : l.length ≤ 1024) : (bytesL l).length ≤ 9 + 27 * l.length := by
  unfold bytesL
  rw [List.length_append]
  have h1 := encN_len (n := l.length) (by omega)
  have h2 : (l.flatMap bytesS).length ≤ 27 * l.length := by
    clear h1 hl
    induction l with
    | nil => simp
    | cons s l ih =>
      have := ih (fun x hx => hf x (by simp [hx]))
      have := bytesS_len (hf s (by simp))
      rw [List.flatMap_cons, List.length_append, List.length_cons]; omega
  omega

end Go.Proofs.YtceanfpcddcfoaaGreat
/-
  Operations: what may be done, by the document. Of no program; no conditions beyond what each theorem states.
-/
namespace Go.Proofs.YtceanfpcddcfoaaGreat
open Go.ChangeShapes Go.WideShapes Go.ChangeAt Go.RowKit Go.Lib
set_option linter.unusedVariables false
set_option linter.unusedSimpArgs false

/-- An operation: its kind, its anchor's two numbers, its number, its text, its spans and its sequence number. -/
structure Om where
  kind : Int
  r : Int
  n : Int
  num : Int
  text : List UInt8
  spans : List Sp
  seq : Int
def o0 : Om := ⟨0, 0, 0, 0, [], [], 0⟩
/-- Values that the kinds hold. -/
def FitOm (o : Om) : Prop := -9223372036854775808 ≤ o.kind ∧ o.kind ≤ 9223372036854775807 ∧ 0 ≤ o.r ∧ o.r ≤ 65535 ∧ 0 ≤ o.n ∧ o.n ≤ 4294967295 ∧ 0 ≤ o.num ∧ o.num ≤ 4294967295 ∧ FitSs o.spans ∧ 0 ≤ o.seq ∧ o.seq ≤ 4294967295
def ov (o : Om) (p : Option Addr) (c : Nat) : Value := .agg #[.int .i64 o.kind, .int .u16 o.r, .int .u32 o.n, .int .u32 o.num, .string ⟨o.text.toArray⟩, .slice p o.spans.length c, .int .u32 o.seq]
def plain1 (x : UInt8) : Bool := x.toNat == 10 || (decide (32 ≤ x.toNat) && decide (x.toNat ≤ 126))
def plainB (s : List UInt8) : Bool := s.all plain1
theorem plainB_take {s : List UInt8} {k : Nat} (h : k < s.length) : plainB (s.take (k + 1)) = (plainB (s.take k) && plain1 (s.getD k 0)) := by
  unfold plainB
  rw [take_getD 0 h, List.all_append]
  simp
theorem plainB_no {s : List UInt8} {k : Nat} (h : k < s.length) (hx : plain1 (s.getD k 0) = false) : plainB s = false := by
  unfold plainB
  rw [List.all_eq_false]
  exact ⟨s.getD k 0, getD_mem 0 h, by rw [hx]; simp⟩
/-- How many atoms are made. -/
def atomsO (o : Om) : Int := if o.kind = 1 then (o.text.length : Int) else if o.kind = 3 then (totalL o.spans : Int) else 0
def numberedO (o : Om) : Bool := decide ((o.r = 0 ∧ o.n = 0 ∨ 1 ≤ o.n ∧ o.n ≤ 268435456) ∧ 1 ≤ o.num ∧ o.num ≤ 268435456 ∧ o.num + atomsO o - 1 ≤ 268435456)
def placelessO (o : Om) : Bool := decide (o.r = 0 ∧ o.n = 0 ∧ o.num = 0)
/-- May it be done? Else its error. -/
def fitO (o : Om) : Int :=
  if o.kind = 1 then (if 0 < o.spans.length ∨ o.seq ≠ 0 ∨ o.text = [] ∨ plainB o.text = false then 11 else if 64 < o.text.length then 15 else if numberedO o = false then 11 else 0)
  else if o.kind = 2 then (if o.text ≠ [] ∨ o.seq ≠ 0 ∨ placelessO o = false then 11 else fitL o.spans)
  else if o.kind = 3 then (if o.text ≠ [] ∨ o.seq ≠ 0 then 11 else if fitL o.spans ≠ 0 then fitL o.spans else if numberedO o = false then 11 else 0)
  else if o.kind = 4 ∨ o.kind = 5 then (if o.text ≠ [] ∨ 0 < o.spans.length ∨ placelessO o = false ∨ o.seq < 1 ∨ 268435456 < o.seq then 11 else 0)
  else 11
theorem fitA_ok : ∀ (l : List Sp) (N : Int), N ≤ 1024 → fitA N l = 0 → RightS l ∧ N + (totalL l : Int) ≤ 1024 := by
  intro l
  induction l with
  | nil => intro N hN _; exact ⟨fun x hx => by simp at hx, by rw [totalL_nil]; simpa using hN⟩
  | cons s l ih =>
    intro N hN h
    rw [fitA] at h
    by_cases h1 : rightS s = false
    · rw [if_pos h1] at h; cases h
    · rw [if_neg h1] at h
      by_cases h2 : N + s.2.2 > 1024
      · rw [if_pos h2] at h; cases h
      · rw [if_neg h2] at h
        obtain ⟨i1, i2⟩ := ih (N + s.2.2) (by omega) h
        have hs : rightS s = true := by simpa using h1
        have hr := rightS_iff.1 hs
        refine ⟨fun x hx => ?_, ?_⟩
        · rcases List.mem_cons.1 hx with rfl | hx
          · exact hs
          · exact i1 x hx
        · rw [totalL_cons]; omega
theorem fitL_ok {l : List Sp} (h : fitL l = 0) : RightS l ∧ totalL l ≤ 1024 ∧ l.length ≤ 1024 := by
  unfold fitL at h
  by_cases h0 : l.length = 0
  · rw [if_pos h0] at h; cases h
  · rw [if_neg h0] at h
    by_cases h1 : l.length > 1024
    · rw [if_pos h1] at h; cases h
    · rw [if_neg h1] at h
      by_cases h2 : fitA 0 l ≠ 0
      · rw [if_pos h2] at h; exact absurd h h2
      · have h3 : fitA 0 l = 0 := by simpa using h2
        obtain ⟨a, b⟩ := fitA_ok l 0 (by omega) h3
        exact ⟨a, by omega, by omega⟩
/-- What fits, kind by kind. -/
theorem fitO_cases {o : Om} (h : fitO o = 0) :
    (o.kind = 1 ∧ o.spans = [] ∧ o.seq = 0 ∧ o.text ≠ [] ∧ plainB o.text = true ∧ o.text.length ≤ 64 ∧ numberedO o = true) ∨
    (o.kind = 2 ∧ o.text = [] ∧ o.seq = 0 ∧ placelessO o = true ∧ fitL o.spans = 0) ∨
    (o.kind = 3 ∧ o.text = [] ∧ o.seq = 0 ∧ fitL o.spans = 0 ∧ numberedO o = true) ∨
    ((o.kind = 4 ∨ o.kind = 5) ∧ o.text = [] ∧ o.spans = [] ∧ placelessO o = true ∧ 1 ≤ o.seq ∧ o.seq ≤ 268435456) := by
  unfold fitO at h
  by_cases k1 : o.kind = 1
  · rw [if_pos k1] at h
    by_cases a : 0 < o.spans.length ∨ o.seq ≠ 0 ∨ o.text = [] ∨ plainB o.text = false
    · rw [if_pos a] at h; cases h
    · rw [if_neg a] at h
      by_cases b : 64 < o.text.length
      · rw [if_pos b] at h; cases h
      · rw [if_neg b] at h
        by_cases c : numberedO o = false
        · rw [if_pos c] at h; cases h
        · simp only [not_or] at a
          exact Or.inl ⟨k1, List.eq_nil_of_length_eq_zero (by omega), by simpa using a.2.1, a.2.2.1, by simpa using a.2.2.2, by omega, by simpa using c⟩
  · rw [if_neg k1] at h
    by_cases k2 : o.kind = 2
    · rw [if_pos k2] at h
      by_cases a : o.text ≠ [] ∨ o.seq ≠ 0 ∨ placelessO o = false
      · rw [if_pos a] at h; cases h
      · rw [if_neg a] at h
        simp only [not_or] at a
        exact Or.inr (Or.inl ⟨k2, by simpa using a.1, by simpa using a.2.1, by simpa using a.2.2, h⟩)
    · rw [if_neg k2] at h
      by_cases k3 : o.kind = 3
      · rw [if_pos k3] at h
        by_cases a : o.text ≠ [] ∨ o.seq ≠ 0
        · rw [if_pos a] at h; cases h
        · rw [if_neg a] at h
          by_cases b : fitL o.spans ≠ 0
          · rw [if_pos b] at h; exact absurd h b
          · rw [if_neg b] at h
            by_cases c : numberedO o = false
            · rw [if_pos c] at h; cases h
            · simp only [not_or] at a
              exact Or.inr (Or.inr (Or.inl ⟨k3, by simpa using a.1, by simpa using a.2, by simpa using b, by simpa using c⟩))
      · rw [if_neg k3] at h
        by_cases k4 : o.kind = 4 ∨ o.kind = 5
        · rw [if_pos k4] at h
          by_cases a : o.text ≠ [] ∨ 0 < o.spans.length ∨ placelessO o = false ∨ o.seq < 1 ∨ 268435456 < o.seq
          · rw [if_pos a] at h; cases h
          · simp only [not_or] at a
            exact Or.inr (Or.inr (Or.inr ⟨k4, by simpa using a.1, List.eq_nil_of_length_eq_zero (by omega), by simpa using a.2.2.1, by omega, by omega⟩))
        · rw [if_neg k4] at h; cases h
end Go.Proofs.YtceanfpcddcfoaaGreat
/-
  What the program's Plus, Right of a name, and of a span Last, Right, size, Has and Cut hand back. No conditions beyond what each theorem states.
-/
namespace Go.Proofs.YtceanfpcddcfoaaGreat
open Go.ChangeShapes Go.WideShapes Go.ChangeAt Go.RowKit Go.Lib
set_option linter.unusedVariables false
set_option linter.unusedSimpArgs false

theorem szI : (Tryz.prog.info? 73).map (·.size) = some 2 := by kernel_rfl
theorem szS : (Tryz.prog.info? 160).map (·.size) = some 3 := by kernel_rfl
/-- A variable of a call's, behind another call. -/
theorem kept_box {w w1 : World} {B : Nat} {cs : Array Value} {t : TypeId} (h : w.heap[B]? = some (.cells cs t (0, 0))) (hb : Below w.heap.size w w1) : w1.heap[B]? = some (.cells cs t (0, 0)) := by
  rw [hb.block B (lt_of_block h)]; exact h
theorem box_two {w : World} {B : Nat} {u v u' v' : Value} {t : TypeId} (h : w.heap[B]? = some (.cells #[u, v] t (0, 0))) : ((w.setCell ⟨B, 0, none⟩ u').setCell ⟨B, 1, none⟩ v').heap[B]? = some (.cells #[u', v'] t (0, 0)) := by
  have h1 := heap_setCell_same w B 0 _ t u' h
  have h2 := heap_setCell_same _ B 1 _ t v' h1
  simpa using h2
theorem box_three {w : World} {B : Nat} {u v x u' v' x' : Value} {t : TypeId} (h : w.heap[B]? = some (.cells #[u, v, x] t (0, 0))) : (((w.setCell ⟨B, 0, none⟩ u').setCell ⟨B, 1, none⟩ v').setCell ⟨B, 2, none⟩ x').heap[B]? = some (.cells #[u', v', x'] t (0, 0)) := by
  have h1 := heap_setCell_same w B 0 _ t u' h
  have h2 := heap_setCell_same _ B 1 _ t v' h1
  have h3 := heap_setCell_same _ B 2 _ t x' h2
  simpa using h3

theorem plus_any (a : Nm) (k m : Int) (w : World) (hm : (a.2 + k) % 4294967296 = m) :
    Calls Tryz.prog 59 #[nv a, .int .i64 k] w fun e w' => e = .returned (nv (a.1, m)) ∧ Below w.heap.size w w' := by
  obtain ⟨r, n⟩ := a
  subst hm
  unfold nv
  simp only
  go_enter Tryz.func59, Tryz.ntmps59
  go_wp2
  (try simp only [Exit.inBlock, Exit.then])
  refine bodyPost_ret (results_cell_row rfl _ _ (w.heap.size + 1) 73 #[.int .u16 r, .int .u32 ((n + k) % 4294967296)] (0, 0) _ rfl (heap_alloc2_new w _ _) Tryz.underlying73 rfl szI) rfl ?_
  exact ⟨rfl, below_alloc (below_alloc (Below.refl _ _) _) _⟩
theorem idright_any (a : Nm) (w : World) :
    Calls Tryz.prog 122 #[nv a] w fun e w' => e = .returned (.bool (rightN a)) ∧ Below w.heap.size w w' := by
  obtain ⟨r, n⟩ := a
  unfold nv
  simp only
  by_cases h1 : 1 ≤ n
  · by_cases h2 : n ≤ 268435456
    · have HT : Hid (rightN (r, n) = true) := rightN_iff.2 ⟨h1, h2⟩
      go_enter Tryz.func122, Tryz.ntmps122
      go_wp2
      go_ret
      exact ⟨by rw [HT.out]; rfl, below_alloc (Below.refl _ _) _⟩
    · have HT : Hid (rightN (r, n) = false) := decide_eq_false fun h => h2 h.2
      go_enter Tryz.func122, Tryz.ntmps122
      go_wp2
      go_ret
      exact ⟨by rw [HT.out]; rfl, below_alloc (Below.refl _ _) _⟩
  · have HT : Hid (rightN (r, n) = false) := decide_eq_false fun h => h1 h.1
    go_enter Tryz.func122, Tryz.ntmps122
    go_wp2
    go_ret
    exact ⟨by rw [HT.out]; rfl, below_alloc (Below.refl _ _) _⟩
/-- The last name: that of any span whose names don't wrap. -/
theorem last_any (s : Sp) (w : World) (h0 : 0 ≤ s.2.1) (h1 : 1 ≤ s.2.2) (h2 : s.2.1 + s.2.2 ≤ 4294967296) :
    Calls Tryz.prog 126 #[sv s] w fun e w' => e = .returned (nv (s.1, s.2.1 + s.2.2 - 1)) ∧ Below w.heap.size w w' := by
  obtain ⟨r, n, l⟩ := s
  simp only at h0 h1 h2
  have H := Lib.hid (fun W => plus_any (r, n) (l - 1) (n + l - 1) W (by simp only; omega))
  unfold sv nv
  unfold nv at H
  simp only at H ⊢
  go_enter Tryz.func126, Tryz.ntmps126
  go_wp2_with (fail)
  refine (H.out _).mono ?_
  rintro e w1 ⟨rfl, hb1⟩
  have hx := kept_box (heap_alloc2_new w _ _) hb1
  have HB : Hid (Below w.heap.size w w1) := below_step (below_alloc (below_alloc (Below.refl _ _) _) _) hb1
  have HX := Lib.hid hx
  have f0 : ∀ o, w1.frozen? ⟨w.heap.size + 1, o, none⟩ = false := fun o => frozen_of_block hx
  have d0 : w1.cell? ⟨w.heap.size + 1, 0, none⟩ = some (.int .u16 0) := by rw [cell_of_block hx]; rfl
  have d1 : w1.cell? ⟨w.heap.size + 1, 1, none⟩ = some (.int .u32 0) := by rw [cell_of_block hx]; rfl
  clear hx hb1
  go_wp2
  (try simp only [Exit.inBlock, Exit.then])
  refine bodyPost_ret (results_cell_row rfl _ _ (w.heap.size + 1) 73 #[.int .u16 r, .int .u32 (n + l - 1)] (0, 0) _ rfl (box_two HX.out) Tryz.underlying73 rfl szI) rfl ?_
  exact ⟨rfl, (HB.out.setCell (p := ⟨w.heap.size + 1, 0, none⟩) (by simp) _).setCell (p := ⟨w.heap.size + 1, 1, none⟩) (by simp) _⟩
theorem three_cells {w : World} {B : Nat} {u v x : Value} {t : TypeId} (h : w.heap[B]? = some (.cells #[u, v, x] t (0, 0))) : w.cell? ⟨B, 0, none⟩ = some u ∧ w.cell? ⟨B, 1, none⟩ = some v ∧ w.cell? ⟨B, 2, none⟩ = some x :=
  ⟨by rw [cell_of_block h]; rfl, by rw [cell_of_block h]; rfl, by rw [cell_of_block h]; rfl⟩
theorem two_cells {w : World} {B : Nat} {u v : Value} {t : TypeId} (h : w.heap[B]? = some (.cells #[u, v] t (0, 0))) : w.cell? ⟨B, 0, none⟩ = some u ∧ w.cell? ⟨B, 1, none⟩ = some v :=
  ⟨by rw [cell_of_block h]; rfl, by rw [cell_of_block h]; rfl⟩
set_option maxHeartbeats 800000 in
theorem right_spec : RightSpec := by
  intro s w hf
  obtain ⟨r, n, l⟩ := s
  unfold FitS at hf
  simp only at hf
  obtain ⟨_, _, hn0, hn1, hl0, hl1⟩ := hf
  have HR : Hid (rightS (r, n, l) = decide (1 ≤ n ∧ 1 ≤ l ∧ l ≤ 1024 ∧ n ≤ 268435456 ∧ n + l - 1 ≤ 268435456)) := rfl
  unfold sv
  simp only
  by_cases h2 : 1 ≤ l
  · by_cases h3 : l ≤ 1024
    · by_cases h1 : rightN (r, n) = true
      · obtain ⟨h4, h5⟩ := rightN_iff.1 h1
        simp only at h4 h5
        have H1 : Hid (∀ W : World, Calls Tryz.prog 122 #[.agg #[.int .u16 r, .int .u32 n]] W fun e w' => e = .returned (.bool true) ∧ Below W.heap.size W w') := fun W => by have := idright_any (r, n) W; rw [h1] at this; exact this
        have H2 := Lib.hid (fun W => last_any (r, n, l) W (by simp only; omega) (by simp only; omega) (by simp only; omega))
        have H3 : Hid (∀ W : World, Calls Tryz.prog 122 #[.agg #[.int .u16 r, .int .u32 (n + l - 1)]] W fun e w' => e = .returned (.bool (decide (n + l - 1 ≤ 268435456))) ∧ Below W.heap.size W w') := fun W => by
          have := idright_any (r, n + l - 1) W
          rw [show rightN (r, n + l - 1) = decide (n + l - 1 ≤ 268435456) by unfold rightN; simp only; congr 1; apply propext; omega] at this
          exact this
        have HT : Hid (rightS (r, n, l) = decide (n + l - 1 ≤ 268435456)) := by
          show rightS (r, n, l) = _
          rw [HR.out]; congr 1; apply propext; omega
        unfold sv nv at H2
        simp only at H2
        clear HR h1
        go_enter Tryz.func123, Tryz.ntmps123
        go_wp2_with fail
        refine (H1.out _).mono ?_
        rintro e w1 ⟨rfl, hb1⟩
        have HX := Lib.hid (kept_box (heap_alloc_new w _) hb1)
        have HB : Hid (Below w.heap.size w w1) := below_step (below_alloc (Below.refl _ _) _) hb1
        obtain ⟨d0, d1, d2⟩ := three_cells HX.out
        clear hb1 H1
        go_wp2_with fail
        refine (H2.out _).mono ?_
        rintro e w2 ⟨rfl, hb2⟩
        have HX := Lib.hid (kept_box HX.out hb2)
        have HB : Hid (Below w.heap.size w w2) := below_step HB.out hb2
        clear hb2 H2 d0 d1 d2
        go_wp2_with fail
        refine (H3.out _).mono ?_
        rintro e w3 ⟨rfl, hb3⟩
        have HB : Hid (Below w.heap.size w w3) := below_step HB.out hb3
        clear hb3 H3 HX
        go_wp2
        go_ret
        exact ⟨by rw [HT.out]; rfl, HB.out⟩
      · have h1' : rightN (r, n) = false := by simpa using h1
        have H1 : Hid (∀ W : World, Calls Tryz.prog 122 #[.agg #[.int .u16 r, .int .u32 n]] W fun e w' => e = .returned (.bool false) ∧ Below W.heap.size W w') := fun W => by have := idright_any (r, n) W; rw [h1'] at this; exact this
        have HT : Hid (rightS (r, n, l) = false) := by rw [HR.out]; exact decide_eq_false fun h => h1 (rightN_iff.2 ⟨h.1, h.2.2.2.1⟩)
        clear HR h1 h1'
        go_enter Tryz.func123, Tryz.ntmps123
        go_wp2_with fail
        refine (H1.out _).mono ?_
        rintro e w1 ⟨rfl, hb1⟩
        have HB : Hid (Below w.heap.size w w1) := below_step (below_alloc (Below.refl _ _) _) hb1
        clear hb1 H1
        go_wp2
        go_ret
        exact ⟨by rw [HT.out]; rfl, HB.out⟩
    · have HT : Hid (rightS (r, n, l) = false) := by rw [HR.out]; exact decide_eq_false fun h => h3 h.2.2.1
      go_enter Tryz.func123, Tryz.ntmps123
      go_wp2
      go_ret
      exact ⟨by rw [HT.out]; rfl, below_alloc (Below.refl _ _) _⟩
  · have HT : Hid (rightS (r, n, l) = false) := by rw [HR.out]; exact decide_eq_false fun h => h2 h.2.1
    go_enter Tryz.func123, Tryz.ntmps123
    go_wp2
    go_ret
    exact ⟨by rw [HT.out]; rfl, below_alloc (Below.refl _ _) _⟩
theorem last_spec : LastSpec := by
  intro s w hr hf
  have h := rightS_iff.1 hr
  exact last_any s w (by omega) (by omega) (by omega)
theorem size_any (s : Sp) (w : World) (hr : rightS s = true) (hf : FitS s) : Calls Tryz.prog 116 #[sv s] w fun e w' => e = .returned (.int .i64 s.2.2) ∧ Below w.heap.size w w' := by
  have H := Lib.hid (fun W => right_spec s W hf)
  rw [hr] at H
  clear hr hf
  obtain ⟨r, n, l⟩ := s
  unfold sv at H ⊢
  simp only at H ⊢
  go_enter Tryz.func116, Tryz.ntmps116
  go_wp2_with fail
  refine (H.out _).mono ?_
  rintro e w1 ⟨rfl, hb1⟩
  have HX := Lib.hid (kept_box (heap_alloc_new w _) hb1)
  have HB : Hid (Below w.heap.size w w1) := below_step (below_alloc (Below.refl _ _) _) hb1
  obtain ⟨d0, d1, d2⟩ := three_cells HX.out
  clear hb1 H
  go_wp2
  go_ret
  exact ⟨rfl, HB.out⟩
/-- Has, of any span that the kinds hold. -/
theorem has_any (s : Sp) (a : Nm) (w : World) (hf : FitS s) (ha : FitN a) : Calls Tryz.prog 128 #[sv s, nv a] w fun e w' => e = .returned (.bool (decide (a ∈ idsS s))) ∧ Below w.heap.size w w' := by
  obtain ⟨r, n, l⟩ := s
  obtain ⟨x, y⟩ := a
  unfold FitS at hf
  unfold FitN at ha
  simp only at hf ha
  obtain ⟨_, _, hn0, hn1, hl0, hl1⟩ := hf
  obtain ⟨_, _, hy0, hy1⟩ := ha
  have HM : Hid (decide ((x, y) ∈ idsS (r, n, l)) = decide (x = r ∧ n ≤ y ∧ y - n < l)) := by
    show _ = _
    congr 1
    rw [mem_idsS]
    simp only
    apply propext
    omega
  unfold sv nv
  simp only
  by_cases h1 : x = r
  · subst h1
    by_cases h2 : n ≤ y
    · have q1 : (y - n) % 4294967296 = y - n := by omega
      have HT : Hid (decide ((x, y) ∈ idsS (x, n, l)) = decide (y - n < l)) := by
        show _ = _
        rw [HM.out]; congr 1; apply propext; omega
      clear HM
      go_enter Tryz.func128, Tryz.ntmps128
      go_wp2
      go_ret
      exact ⟨by rw [HT.out]; rfl, below_alloc (below_alloc (Below.refl _ _) _) _⟩
    · have HT : Hid (decide ((x, y) ∈ idsS (x, n, l)) = false) := by rw [HM.out]; exact decide_eq_false fun h => h2 h.2.1
      clear HM
      go_enter Tryz.func128, Tryz.ntmps128
      go_wp2
      go_ret
      exact ⟨by rw [HT.out]; rfl, below_alloc (below_alloc (Below.refl _ _) _) _⟩
  · have h1' : (x == r) = false := by simp [h1]
    have HT : Hid (decide ((x, y) ∈ idsS (r, n, l)) = false) := by rw [HM.out]; exact decide_eq_false fun h => h1 h.1
    clear HM
    go_enter Tryz.func128, Tryz.ntmps128
    go_wp2
    go_ret
    exact ⟨by rw [HT.out]; rfl, below_alloc (below_alloc (Below.refl _ _) _) _⟩
theorem has_spec : HasSpec := fun s a w _ hf ha => has_any s a w hf ha
end Go.Proofs.YtceanfpcddcfoaaGreat
/-
  What the document's Plain, Atoms, numbered, placeless and Fit of layer 8 hand back. No conditions beyond what each theorem states.
-/
namespace Go.Proofs.YtceanfpcddcfoaaGreat
open Go.ChangeShapes Go.WideShapes Go.ChangeAt Go.RowKit Go.Lib
set_option linter.unusedVariables false
set_option linter.unusedSimpArgs false

theorem bytes_getD (s : ByteArray) {k : Nat} (h : k < s.size) : s.data.toList.getD k 0 = s[k] := by
  have h' : k < s.data.toList.length := h
  rw [List.getD_eq_getElem?_getD, List.getElem?_eq_getElem h']
  rfl
theorem plain_walks (s : ByteArray) {k : Nat} (h : k < s.size) (hx : plain1 s[k] = false) : plainB s.data.toList = false := plainB_no (k := k) h (by rw [bytes_getD s h]; exact hx)
set_option maxHeartbeats 1600000 in
theorem refplain_at (s : ByteArray) (hs : s.size ≤ 1000000) (w : World) :
    Calls Tryz.prog 84 #[.string s] w fun e w' => e = .returned (.bool (plainB s.data.toList)) ∧ w' = w := by
  go_enter Tryz.func84, Tryz.ntmps84
  go_wp2
  go_loopg [3] s.size (fun g i wr => ∃ k : Nat, k ≤ s.size ∧ s.size - k ≤ g ∧ i = .int .i64 (k : Int) ∧ plainB (s.data.toList.take k) = true ∧ wr = w)
  case atStart => exact ⟨0, Nat.zero_le _, by omega, rfl, rfl, rfl⟩
  case round =>
    obtain ⟨k, hk, hg, rfl, hp, rfl⟩ := hrel
    have HP := Lib.hid hp
    clear hp
    by_cases hlt : k < s.size
    · have HNX : Hid (plainB (s.data.toList.take (k + 1)) = plain1 s[k]) := by
        show _ = _
        rw [plainB_take (s := s.data.toList) hlt, HP.out, bytes_getD s hlt]
        rfl
      have HNO : Hid (plain1 s[k] = false → plainB s.data.toList = false) := plain_walks s hlt
      have HX : Hid (plain1 s[k] = (s[k].toNat == 10 || (decide (32 ≤ s[k].toNat) && decide (s[k].toNat ≤ 126)))) := rfl
      have hb := s[k].toNat_lt
      clear HP
      by_cases h10 : s[k].toNat = 10
      · have h10' : ((s[k].toNat : Int) == 10) = true := by rw [h10]; rfl
        have HT : Hid (plainB (s.data.toList.take (k + 1)) = true) := by show _ = _; rw [HNX.out, HX.out, h10]; rfl
        go_wp2
        go_roundg (s.size - (k + 1))
        case measure => omega
        case rel => exact ⟨k + 1, by omega, Nat.le_refl _, by go_num, HT.out, rfl⟩
      · have h10' : ((s[k].toNat : Int) == 10) = false := by rw [beq_eq_false_iff_ne]; omega
        by_cases h32 : s[k].toNat < 32
        · have h32' : ((s[k].toNat : Nat) : Int) < 32 := by omega
          have HT : Hid (plainB s.data.toList = false) := HNO.out (by rw [HX.out, decide_eq_false (by omega : ¬ 32 ≤ s[k].toNat)]; simp [h10])
          go_wp2
          go_ret
          exact ⟨by rw [HT.out]; rfl, rfl⟩
        · have h32' : ¬ ((s[k].toNat : Nat) : Int) < 32 := by omega
          by_cases h126 : 126 < s[k].toNat
          · have h126' : 126 < ((s[k].toNat : Nat) : Int) := by omega
            have HT : Hid (plainB s.data.toList = false) := HNO.out (by rw [HX.out, decide_eq_false (by omega : ¬ s[k].toNat ≤ 126)]; simp [h10])
            go_wp2
            go_ret
            exact ⟨by rw [HT.out]; rfl, rfl⟩
          · have h126' : ¬ 126 < ((s[k].toNat : Nat) : Int) := by omega
            have HT : Hid (plainB (s.data.toList.take (k + 1)) = true) := by show _ = _; rw [HNX.out, HX.out, decide_eq_true (by omega : 32 ≤ s[k].toNat), decide_eq_true (by omega : s[k].toNat ≤ 126)]; simp
            go_wp2
            go_roundg (s.size - (k + 1))
            case measure => omega
            case rel => exact ⟨k + 1, by omega, Nat.le_refl _, by go_num, HT.out, rfl⟩
    · have : k = s.size := by omega
      subst this
      have HT : Hid (plainB s.data.toList = true) := by have := HP.out; rwa [List.take_of_length_le (show s.data.toList.length ≤ s.size from Nat.le_refl _)] at this
      go_wp2
      go_ret
      exact ⟨by rw [HT.out]; rfl, rfl⟩
theorem refplain_any (s : List UInt8) (hs : s.length ≤ 1000000) (w : World) :
    Calls Tryz.prog 84 #[.string ⟨s.toArray⟩] w fun e w' => e = .returned (.bool (plainB s)) ∧ w' = w := refplain_at ⟨s.toArray⟩ hs w

theorem seven_cells {w : World} {B : Nat} {a b c d e f g : Value} {t : TypeId} (h : w.heap[B]? = some (.cells #[a, b, c, d, e, f, g] t (0, 0))) : w.cell? ⟨B, 0, none⟩ = some a ∧ w.cell? ⟨B, 1, none⟩ = some b ∧ w.cell? ⟨B, 2, none⟩ = some c ∧ w.cell? ⟨B, 3, none⟩ = some d ∧ w.cell? ⟨B, 4, none⟩ = some e ∧ w.cell? ⟨B, 5, none⟩ = some f ∧ w.cell? ⟨B, 6, none⟩ = some g :=
  ⟨by rw [cell_of_block h]; rfl, by rw [cell_of_block h]; rfl, by rw [cell_of_block h]; rfl, by rw [cell_of_block h]; rfl, by rw [cell_of_block h]; rfl, by rw [cell_of_block h]; rfl, by rw [cell_of_block h]; rfl⟩
/-- What Atoms asks for: spans that are right, where it counts them. -/
def Counts (o : Om) : Prop := o.kind = 3 → RightS o.spans ∧ totalL o.spans ≤ 100000
set_option maxHeartbeats 1600000 in
theorem refatoms_any (o : Om) (p : Option Addr) (c : Nat) (w : World) (hR : GRow layS w p o.spans) (hc : Counts o) (hl : o.spans.length ≤ 100000) (ht : o.text.length ≤ 1000000) :
    Calls Tryz.prog 25 #[ov o p c] w fun e w' => e = .returned (.int .i64 (atomsO o)) ∧ Below w.heap.size w w' := by
  have HI : Hid (o.kind = 3 → ∀ W, Below w.heap.size w W → Calls Tryz.prog 55 #[.slice p o.spans.length c] W (Made layI 68 W (idsL o.spans))) := fun h W hb => refids_any o.spans p c W (hR.below hb) (hc h).1 hl (hc h).2
  have HA : Hid (atomsO o = if o.kind = 1 then (o.text.length : Int) else if o.kind = 3 then (totalL o.spans : Int) else 0) := rfl
  have hsz : (⟨o.text.toArray⟩ : ByteArray).size = o.text.length := rfl
  clear hR hc
  obtain ⟨kind, r, n, num, text, spans, seq⟩ := o
  unfold ov
  simp only at *
  by_cases h1 : kind = 1
  · subst h1
    have HE : Hid (atomsO ⟨1, r, n, num, text, spans, seq⟩ = (text.length : Int)) := by show _ = _; rw [HA.out, if_pos rfl]
    generalize (⟨text.toArray⟩ : ByteArray) = bt at hsz ⊢
    go_enter Tryz.func25, Tryz.ntmps25
    go_wp2
    go_ret
    exact ⟨by rw [HE.out, ← hsz]; rfl, below_alloc (Below.refl _ _) _⟩
  · have h1' : (kind == 1) = false := by rw [beq_eq_false_iff_ne]; exact h1
    by_cases h3 : kind = 3
    · subst h3
      have HE : Hid (atomsO ⟨3, r, n, num, text, spans, seq⟩ = (totalL spans : Int)) := by show _ = _; rw [HA.out, if_neg (by decide), if_pos rfl]
      have HI3 : Hid (∀ W, Below w.heap.size w W → Calls Tryz.prog 55 #[.slice p spans.length c] W (Made layI 68 W (idsL spans))) := HI.out rfl
      clear HI
      go_enter Tryz.func25, Tryz.ntmps25
      go_wp2_with fail
      refine (HI3.out _ (below_alloc (Below.refl _ _) _)).mono ?_
      intro e w1 hm
      obtain ⟨p1, c1, rfl, -, -, -, hb⟩ := hm.gave layI_pos
      have HB : Hid (Below w.heap.size w w1) := below_step (below_alloc (Below.refl _ _) _) hb
      clear hm hb HI3
      go_wp2
      go_ret
      exact ⟨by rw [HE.out]; rfl, HB.out⟩
    · have h3' : (kind == 3) = false := by rw [beq_eq_false_iff_ne]; exact h3
      have HE : Hid (atomsO ⟨kind, r, n, num, text, spans, seq⟩ = 0) := by show _ = _; rw [HA.out, if_neg h1, if_neg h3]
      go_enter Tryz.func25, Tryz.ntmps25
      go_wp2
      go_ret
      exact ⟨by rw [HE.out]; rfl, below_alloc (Below.refl _ _) _⟩
set_option maxHeartbeats 1600000 in
theorem refplaceless_any (o : Om) (p : Option Addr) (c : Nat) (w : World) :
    Calls Tryz.prog 86 #[ov o p c] w fun e w' => e = .returned (.bool (placelessO o)) ∧ Below w.heap.size w w' := by
  obtain ⟨kind, r, n, num, text, spans, seq⟩ := o
  have HE : Hid (placelessO ⟨kind, r, n, num, text, spans, seq⟩ = decide (r = 0 ∧ n = 0 ∧ num = 0)) := rfl
  unfold ov
  simp only
  by_cases h1 : r = 0
  · subst h1
    by_cases h2 : n = 0
    · subst h2
      by_cases h3 : num = 0
      · subst h3
        have HT : Hid (placelessO ⟨kind, 0, 0, 0, text, spans, seq⟩ = true) := by show _ = _; rw [HE.out]; rfl
        go_enter Tryz.func86, Tryz.ntmps86
        go_wp2
        go_ret
        exact ⟨by rw [HT.out]; rfl, below_alloc (Below.refl _ _) _⟩
      · have h3' : (num == 0) = false := by rw [beq_eq_false_iff_ne]; exact h3
        have HT : Hid (placelessO ⟨kind, 0, 0, num, text, spans, seq⟩ = false) := by show _ = _; rw [HE.out]; exact decide_eq_false fun h => h3 h.2.2
        go_enter Tryz.func86, Tryz.ntmps86
        go_wp2
        go_ret
        exact ⟨by rw [HT.out]; rfl, below_alloc (Below.refl _ _) _⟩
    · have h2' : (n == 0) = false := by rw [beq_eq_false_iff_ne]; exact h2
      have HT : Hid (placelessO ⟨kind, 0, n, num, text, spans, seq⟩ = false) := by show _ = _; rw [HE.out]; exact decide_eq_false fun h => h2 h.2.1
      go_enter Tryz.func86, Tryz.ntmps86
      go_wp2
      go_ret
      exact ⟨by rw [HT.out]; rfl, below_alloc (Below.refl _ _) _⟩
  · have h1' : (r == 0) = false := by rw [beq_eq_false_iff_ne]; exact h1
    have HT : Hid (placelessO ⟨kind, r, n, num, text, spans, seq⟩ = false) := by show _ = _; rw [HE.out]; exact decide_eq_false fun h => h1 h.1
    go_enter Tryz.func86, Tryz.ntmps86
    go_wp2
    go_ret
    exact ⟨by rw [HT.out]; rfl, below_alloc (Below.refl _ _) _⟩
/-- May the anchor be? -/
def anchB (o : Om) : Bool := decide (o.r = 0 ∧ o.n = 0 ∨ 1 ≤ o.n ∧ o.n ≤ 268435456)
theorem numbered_no {o : Om} (h : anchB o = false) : numberedO o = false := by
  have h := of_decide_eq_false h
  exact decide_eq_false fun g => h g.1
theorem numbered_yes {o : Om} (h : anchB o = true) : numberedO o = decide (1 ≤ o.num ∧ o.num ≤ 268435456 ∧ o.num + atomsO o - 1 ≤ 268435456) := by
  have h := of_decide_eq_true h
  unfold numberedO
  apply decide_eq_decide.2
  exact ⟨fun g => g.2, fun g => ⟨h, g⟩⟩
end Go.Proofs.YtceanfpcddcfoaaGreat
/-
  What the document's numbered and Fit of layer 8 hand back. No conditions beyond what each theorem states.
-/
namespace Go.Proofs.YtceanfpcddcfoaaGreat
open Go.ChangeShapes Go.WideShapes Go.ChangeAt Go.RowKit Go.Lib
set_option linter.unusedVariables false
set_option linter.unusedSimpArgs false

theorem beq_no {a b : Int} (h : ¬ a = b) : (a == b) = false := by rw [beq_eq_false_iff_ne]; exact h
set_option maxHeartbeats 6400000 in
theorem refnumbered_any (o : Om) (p : Option Addr) (c : Nat) (w : World) (hf : FitOm o) (hR : GRow layS w p o.spans) (hc : Counts o) (hl : o.spans.length ≤ 100000) (ht : o.text.length ≤ 1000000) :
    Calls Tryz.prog 85 #[ov o p c] w fun e w' => e = .returned (.bool (numberedO o)) ∧ Below w.heap.size w w' := by
  have HA : Hid (∀ W, Below w.heap.size w W → Calls Tryz.prog 25 #[ov o p c] W fun e w' => e = .returned (.int .i64 (atomsO o)) ∧ Below W.heap.size W w') := fun W hb => refatoms_any o p c W (hR.below hb) hc hl ht
  have hat : 0 ≤ atomsO o ∧ atomsO o ≤ 1000000 := by
    unfold atomsO
    by_cases h1 : o.kind = 1
    · rw [if_pos h1]; omega
    · rw [if_neg h1]
      by_cases h3 : o.kind = 3
      · rw [if_pos h3]; have := (hc h3).2; omega
      · rw [if_neg h3]; omega
  have HY := Lib.hid (@numbered_yes o)
  have HNO := Lib.hid (@numbered_no o)
  have HAN : Hid (anchB o = decide (o.r = 0 ∧ o.n = 0 ∨ 1 ≤ o.n ∧ o.n ≤ 268435456)) := rfl
  unfold FitOm at hf
  obtain ⟨kind, r, n, num, text, spans, seq⟩ := o
  generalize atomsO ⟨kind, r, n, num, text, spans, seq⟩ = A at HA hat HY
  generalize hNU : numberedO ⟨kind, r, n, num, text, spans, seq⟩ = NU at HY HNO
  unfold ov at HA ⊢
  simp only at HA HY HNO HAN hf ⊢
  obtain ⟨_, _, hr0, hr1, hn0, hn1, hm0, hm1, _, _, _⟩ := hf
  have HNU := Lib.hid hNU
  clear hNU hR hc
  generalize (⟨text.toArray⟩ : ByteArray) = bt at HA ⊢
  have HX : Hid ((w.alloc (.cells #[.int .i64 kind, .int .u16 r, .int .u32 n, .int .u32 num, .string bt, .slice p spans.length c, .int .u32 seq] 71)).heap[w.heap.size]? = some (.cells #[.int .i64 kind, .int .u16 r, .int .u32 n, .int .u32 num, .string bt, .slice p spans.length c, .int .u32 seq] 71 (0, 0))) := heap_alloc_new w _
  cases han : anchB ⟨kind, r, n, num, text, spans, seq⟩ with
  | false =>
    have hno := HNO.out han
    rw [HAN.out] at han
    have han := of_decide_eq_false han
    subst hno
    clear HA HY HNO HAN HX hat
    have : r = 0 ∧ 268435456 < n ∨ ¬ r = 0 ∧ n = 0 ∨ ¬ r = 0 ∧ 268435456 < n := by omega
    clear han
    rcases this with ⟨rfl, h⟩ | ⟨hr, rfl⟩ | ⟨hr, h⟩
    · have h' : (n == 0) = false := beq_no (by omega)
      go_enter Tryz.func85, Tryz.ntmps85
      go_wp2
      go_ret
      exact ⟨by first | rfl | (rw [HNU.out]; rfl), below_alloc (Below.refl _ _) _⟩
    · have hr' : (r == 0) = false := beq_no hr
      go_enter Tryz.func85, Tryz.ntmps85
      go_wp2
      go_ret
      exact ⟨by first | rfl | (rw [HNU.out]; rfl), below_alloc (Below.refl _ _) _⟩
    · have hr' : (r == 0) = false := beq_no hr
      go_enter Tryz.func85, Tryz.ntmps85
      go_wp2
      go_ret
      exact ⟨by first | rfl | (rw [HNU.out]; rfl), below_alloc (Below.refl _ _) _⟩
  | true =>
    have hyes := HY.out han
    rw [HAN.out] at han
    have han := of_decide_eq_true han
    clear HY HNO HAN
    have HYE := Lib.hid hyes
    clear hyes
    have HA2 : Hid (∀ (B : Obj) dd os, Calls Tryz.prog 25 #[.agg #[.int .i64 kind, .int .u16 r, .int .u32 n, .int .u32 num, .string bt, .slice p spans.length c, .int .u32 seq]] (Go.Sort.grow (redrawn (w.alloc B) dd) os) fun e w' => e = .returned (.int .i64 A) ∧ Below (Go.Sort.grow (redrawn (w.alloc B) dd) os).heap.size (Go.Sort.grow (redrawn (w.alloc B) dd) os) w') := fun B dd os => HA.out _ (below_step (below_alloc (Below.refl _ _) _) (below_regrown _ _ _))
    obtain ⟨s0, s1, s2, s3, s4, s5, s6⟩ := seven_cells HX.out
    have t0 := cell_regrown s0
    have t1 := cell_regrown s1
    have t2 := cell_regrown s2
    have t3 := cell_regrown s3
    have t4 := cell_regrown s4
    have t5 := cell_regrown s5
    have t6 := cell_regrown s6
    clear HX HA s0 s1 s2 s3 s4 s5 s6
    have hsum : IntKind.i64.wrap (num + A) = num + A := by rw [IntKind.wrap_i64]; omega
    have hsub : IntKind.i64.wrap (num + A - 1) = num + A - 1 := by rw [IntKind.wrap_i64]; omega
    have : r = 0 ∧ n = 0 ∨ r = 0 ∧ (n == 0) = false ∧ ¬ n < 1 ∧ ¬ 268435456 < n ∨ (r == 0) = false ∧ ¬ n < 1 ∧ ¬ 268435456 < n := by
      by_cases h : r = 0
      · by_cases h2 : n = 0
        · exact Or.inl ⟨h, h2⟩
        · exact Or.inr (Or.inl ⟨h, beq_no h2, by omega, by omega⟩)
      · exact Or.inr (Or.inr ⟨beq_no h, by omega, by omega⟩)
    clear han
    by_cases m1 : 1 ≤ num
    · by_cases m2 : num ≤ 268435456
      · have HF : Hid (NU = decide (num + A - 1 ≤ 268435456)) := by
          show _ = _
          rw [HYE.out]; apply decide_eq_decide.2; omega
        clear HYE
        rcases this with ⟨rfl, rfl⟩ | ⟨rfl, hn2, hn3, hn4⟩ | ⟨hr2, hn3, hn4⟩
        all_goals
          go_enter Tryz.func85, Tryz.ntmps85
          go_wp2_with fail
          refine wp_region_quiet_below (by kernel_rfl) (by kernel_rfl) ?_
          repeat (go_big_quiet_step ((go_at_call 25; exact Calls.regrown_of (HA2.out _ _ _))))
          refine wpQuiet_nil ?_
          intro _ hw'
          obtain ⟨⟨dq, osq⟩, hw''⟩ := hw'
          subst hw''
          go_wp2
          go_ret
          exact ⟨by first | (rw [HF.out]; rfl) | (rw [HNU.out, HF.out]; rfl), below_step (below_alloc (Below.refl _ _) _) (below_regrown _ _ _)⟩
      · have m2' : decide (num ≤ 268435456) = false := decide_eq_false m2
        have HF : Hid (NU = false) := by
          show _ = _
          rw [HYE.out]; exact decide_eq_false (by omega)
        clear HYE
        rcases this with ⟨rfl, rfl⟩ | ⟨rfl, hn2, hn3, hn4⟩ | ⟨hr2, hn3, hn4⟩
        all_goals
          go_enter Tryz.func85, Tryz.ntmps85
          go_wp2_with fail
          refine wp_region_quiet_below (by kernel_rfl) (by kernel_rfl) ?_
          repeat (go_big_quiet_step (fail))
          refine wpQuiet_nil ?_
          intro _ hw'
          obtain ⟨⟨dq, osq⟩, hw''⟩ := hw'
          subst hw''
          go_wp2
          go_ret
          exact ⟨by first | (rw [HF.out]; rfl) | (rw [HNU.out, HF.out]; rfl), below_step (below_alloc (Below.refl _ _) _) (below_regrown _ _ _)⟩
    · have m1' : decide (1 ≤ num) = false := decide_eq_false m1
      have HF : Hid (NU = false) := by
        show _ = _
        rw [HYE.out]; exact decide_eq_false (by omega)
      clear HYE
      rcases this with ⟨rfl, rfl⟩ | ⟨rfl, hn2, hn3, hn4⟩ | ⟨hr2, hn3, hn4⟩
      all_goals
        go_enter Tryz.func85, Tryz.ntmps85
        go_wp2_with fail
        refine wp_region_quiet_below (by kernel_rfl) (by kernel_rfl) ?_
        repeat (go_big_quiet_step (fail))
        refine wpQuiet_nil ?_
        intro _ hw'
        obtain ⟨⟨dq, osq⟩, hw''⟩ := hw'
        subst hw''
        go_wp2
        go_ret
        exact ⟨by first | (rw [HF.out]; rfl) | (rw [HNU.out, HF.out]; rfl), below_step (below_alloc (Below.refl _ _) _) (below_regrown _ _ _)⟩
end Go.Proofs.YtceanfpcddcfoaaGreat
