/-
  Several texts of one proof, joined: each part says at its head what it proves. No conditions beyond what each theorem states.
-/
import Derived.Shelf.SlSortCmp.WholeK
import Derived.Shelf.Small.Bits
import Derived.Lib.Walk
import Derived.Lib.Hide
import Derived.Lib.QuietBelow
import Derived.Test.YtjkdcpalgfakhaaGreatZ04
import Derived.Test.YtjkdcpalgfakhaaGreatZ05
import Derived.Test.YtjkdcpalgfakhaaGreatProg
/-
  Envelopes: what may be one, by the document; their bytes, and what is read of bytes. Of no program; no conditions beyond what each theorem states.
-/
namespace Go.Proofs.YtjkdcpalgfakhaaGreat
open Go.ChangeShapes Go.WideShapes Go.ChangeAt Go.RowKit Go.Lib
set_option linter.unusedVariables false
set_option linter.unusedSimpArgs false

/-- An envelope: what must be known ahead, and a transaction. -/
structure Em where
  deps : List Vec.En
  txn : Tm
def e0 : Em := ⟨[], t0⟩
def fitE (e : Em) : Int := if Vec.rightB e.deps = false ∨ Vec.getL e.deps e.txn.r ≠ 0 then 11 else fitT e.txn
def readyE (e : Em) (h : List Vec.En) : Bool := decide (Vec.getL h e.txn.r + 1 = e.txn.seq) && Vec.coversL h e.deps
def pastE (e : Em) (h : List Vec.En) : Bool := decide (e.txn.seq ≤ Vec.getL h e.txn.r)
def needsE (e : Em) (h : List Vec.En) : List Vec.Gp := Vec.lacksL h (Vec.withL e.deps e.txn.r (e.txn.seq - 1))
theorem rightB_iff {xs : List Vec.En} : Vec.rightB xs = true ↔ Vec.RightP xs := by
  unfold Vec.rightB
  exact ⟨fun h => @of_decide_eq_true _ (Vec.decRight xs) h, fun h => @decide_eq_true _ (Vec.decRight xs) h⟩
theorem fitE_ok {e : Em} (h : fitE e = 0) : Vec.RightP e.deps ∧ Vec.getL e.deps e.txn.r = 0 ∧ fitT e.txn = 0 := by
  unfold fitE at h
  by_cases h1 : Vec.rightB e.deps = false ∨ Vec.getL e.deps e.txn.r ≠ 0
  · rw [if_pos h1] at h; cases h
  · rw [if_neg h1] at h
    refine ⟨rightB_iff.1 ?_, ?_, h⟩
    · cases hb : Vec.rightB e.deps
      · exact absurd (Or.inl hb) h1
      · rfl
    · by_cases hg : Vec.getL e.deps e.txn.r = 0
      · exact hg
      · exact absurd (Or.inr hg) h1
theorem right_mem {xs : List Vec.En} (h : Vec.RightP xs) : ∀ x ∈ xs, 1 ≤ x.2 ∧ x.2 ≤ 268435456 := fun x hx => by
  obtain ⟨i, hi, rfl⟩ := Vec.mem_atL hx
  exact ⟨(h i hi).1, (h i hi).2.1⟩
theorem getL_right {xs : List Vec.En} (h : Vec.RightP xs) (r : Int) : 0 ≤ Vec.getL xs r ∧ Vec.getL xs r ≤ 268435456 := by
  have := right_mem h
  clear h
  induction xs with
  | nil => simp [Vec.getL]
  | cons x xs ih =>
    have h1 := this x (by simp)
    have h2 := ih (fun y hy => this y (by simp [hy]))
    unfold Vec.getL
    split <;> omega
theorem right_srt {xs : List Vec.En} (h : Vec.RightP xs) : ∀ i j, i < j → j < xs.length → (Vec.atL xs i).1 < (Vec.atL xs j).1 := by
  intro i j hij
  induction j with
  | zero => omega
  | succ j ih =>
    intro hj
    have h1 := (h (j + 1) hj).2.2 (by omega)
    rw [Nat.add_sub_cancel] at h1
    by_cases e : i = j
    · subst e; exact h1
    · have := ih (by omega) (by omega); omega

/-- Entries, written. -/
def bytesD (l : List Vec.En) : List UInt8 := l.flatMap fun d => encN d.1.toNat ++ encN d.2.toNat
theorem bytesD_take {l : List Vec.En} {k : Nat} (h : k < l.length) : bytesD (l.take (k + 1)) = bytesD (l.take k) ++ (encN (Vec.atL l k).1.toNat ++ encN (Vec.atL l k).2.toNat) := by
  rw [Vec.take_atL l k h]; simp [bytesD]
theorem bytesD_len {l : List Vec.En} (h : Vec.Fits l) : (bytesD l).length ≤ 18 * l.length := by
  induction l with
  | nil => simp [bytesD]
  | cons x l ih =>
    have := ih (fun y hy => h y (by simp [hy]))
    have hx := h x (by simp)
    have e1 := encN_len (n := x.1.toNat) (by omega)
    have e2 := encN_len (n := x.2.toNat) (by omega)
    unfold bytesD at this ⊢
    rw [List.flatMap_cons, List.length_append, List.length_append, List.length_cons]
    omega
def bodyE (e : Em) : List UInt8 := encN e.deps.length ++ (bytesD e.deps ++ bytesT e.txn)
/-- A number as four bytes, the highest first. -/
def be4n (n : Nat) : List UInt8 := [UInt8.ofNat (n / 16777216), UInt8.ofNat (n / 65536 % 256), UInt8.ofNat (n / 256 % 256), UInt8.ofNat (n % 256)]
def headE (n : Nat) : List UInt8 := 67 :: 80 :: 1 :: be4n n
def frameE (e : Em) : List UInt8 := headE ((bodyE e).length + 11) ++ bodyE e
def bytesE (e : Em) : List UInt8 := sealL (frameE e)
theorem headE_len (n : Nat) : (headE n).length = 7 := rfl
theorem frameE_len (e : Em) : (frameE e).length = (bodyE e).length + 7 := by unfold frameE; rw [List.length_append, headE_len]; omega
theorem bytesE_len (e : Em) : (bytesE e).length = (bodyE e).length + 11 := by unfold bytesE sealL; rw [List.length_append, frameE_len]; rfl

/-- So many entries, read one behind the other; nothing more behind an error. -/
def rdDs (bs : List UInt8) : Nat → Nat → Nat → List Vec.En × Nat × Nat
  | 0, q, e => ([], q, e)
  | n + 1, q, e => if e = 0 then
      ((((rdN bs q 0 65535).1 : Int), ((rdN bs (rdN bs q 0 65535).2.1 (rdN bs q 0 65535).2.2 268435456).1 : Int)) :: (rdDs bs n (rdN bs (rdN bs q 0 65535).2.1 (rdN bs q 0 65535).2.2 268435456).2.1 (rdN bs (rdN bs q 0 65535).2.1 (rdN bs q 0 65535).2.2 268435456).2.2).1, (rdDs bs n (rdN bs (rdN bs q 0 65535).2.1 (rdN bs q 0 65535).2.2 268435456).2.1 (rdN bs (rdN bs q 0 65535).2.1 (rdN bs q 0 65535).2.2 268435456).2.2).2)
    else ([], q, e)
theorem rdDs_err (bs : List UInt8) (n q e : Nat) (h : e ≠ 0) : rdDs bs n q e = ([], q, e) := by
  cases n with
  | zero => rfl
  | succ n => rw [rdDs, if_neg h]
/-- An entry at a place. -/
def rdD (bs : List UInt8) (q : Nat) : Vec.En × Nat × Nat := ((((rdN bs q 0 65535).1 : Int), ((rdN bs (rdN bs q 0 65535).2.1 (rdN bs q 0 65535).2.2 268435456).1 : Int)), (rdN bs (rdN bs q 0 65535).2.1 (rdN bs q 0 65535).2.2 268435456).2)
theorem rdDs_step {bs : List UInt8} {n k q : Nat} (hk : k < n) : rdDs bs (n - k) q 0 = ((rdD bs q).1 :: (rdDs bs (n - (k + 1)) (rdD bs q).2.1 (rdD bs q).2.2).1, (rdDs bs (n - (k + 1)) (rdD bs q).2.1 (rdD bs q).2.2).2) := by
  rw [show n - k = (n - (k + 1)) + 1 by omega, rdDs, if_pos rfl]
  rfl
theorem rdD_range {bs : List UInt8} {q : Nat} (hq : q ≤ bs.length) : (rdD bs q).2.1 ≤ bs.length ∧ (rdD bs q).2.2 < 16 ∧ 0 ≤ (rdD bs q).1.1 ∧ (rdD bs q).1.1 ≤ 65535 ∧ 0 ≤ (rdD bs q).1.2 ∧ (rdD bs q).1.2 ≤ 268435456 := by
  have a := rdN_fits (bs := bs) (q := q) (e := 0) (limit := 65535) hq
  have b := rdN_fits (bs := bs) (q := (rdN bs q 0 65535).2.1) (e := (rdN bs q 0 65535).2.2) (limit := 268435456) a.1
  unfold rdD
  simp only
  omega
theorem rdN_step {bs : List UInt8} {q limit : Nat} : (rdN bs q 0 limit).2.2 = 0 → q + 1 ≤ (rdN bs q 0 limit).2.1 := by
  intro h
  rw [rdN_read] at h ⊢
  have := read_fair (bs.drop q) limit
  unfold Fair at this
  simp only at h ⊢
  omega
theorem rdD_more {bs : List UInt8} {q : Nat} (h : (rdD bs q).2.2 = 0) : q + 2 ≤ (rdD bs q).2.1 := by
  unfold rdD at h ⊢
  simp only at h ⊢
  by_cases h1 : (rdN bs q 0 65535).2.2 = 0
  · rw [h1] at h ⊢
    have := rdN_step h
    have := rdN_step h1
    omega
  · rw [rdN_err h1] at h
    exact absurd h h1
theorem rdDs_range {bs : List UInt8} : ∀ (n q e : Nat), q ≤ bs.length → e < 16 → (rdDs bs n q e).2.1 ≤ bs.length ∧ (rdDs bs n q e).2.2 < 16 ∧ Vec.Fits (rdDs bs n q e).1 ∧ q + 2 * (rdDs bs n q e).1.length ≤ bs.length + 2 := by
  intro n
  induction n with
  | zero => intro q e hq he; exact ⟨hq, he, fun x hx => (by cases hx), by simp [rdDs]; omega⟩
  | succ n ih =>
    intro q e hq he
    rw [rdDs]
    split
    · have r := rdD_range hq
      have i := ih (rdD bs q).2.1 (rdD bs q).2.2 r.1 r.2.1
      have m := rdD_more (bs := bs) (q := q)
      have hx : (((rdN bs q 0 65535).1 : Int), ((rdN bs (rdN bs q 0 65535).2.1 (rdN bs q 0 65535).2.2 268435456).1 : Int)) = (rdD bs q).1 := rfl
      have hy : (rdN bs (rdN bs q 0 65535).2.1 (rdN bs q 0 65535).2.2 268435456).2 = (rdD bs q).2 := rfl
      rw [hx, hy]
      refine ⟨i.1, i.2.1, fun x hx => ?_, ?_⟩
      · rcases List.mem_cons.1 hx with rfl | hx
        · have := r.2.2; omega
        · exact i.2.2.1 x hx
      · simp only [List.length_cons]
        by_cases h0 : (rdD bs q).2.2 = 0
        · have := m h0; have := i.2.2.2; omega
        · rw [rdDs_err _ _ _ _ h0]; simp; omega
    · exact ⟨hq, he, fun x hx => (by cases hx), by simp; omega⟩
theorem rdD_at {pre post : List UInt8} {x : Vec.En} (h0 : 0 ≤ x.1) (h1 : x.1 ≤ 65535) (h2 : 0 ≤ x.2) (h3 : x.2 ≤ 268435456) : rdD (pre ++ ((encN x.1.toNat ++ encN x.2.toNat) ++ post)) pre.length = (x, pre.length + (encN x.1.toNat ++ encN x.2.toNat).length, 0) := by
  have e1 := rdN_at (pre := pre) (post := encN x.2.toNat ++ post) (n := x.1.toNat) (limit := 65535) (by omega) (by omega)
  have e2 := rdN_at (pre := pre ++ encN x.1.toNat) (post := post) (n := x.2.toNat) (limit := 268435456) (by omega) (by omega)
  obtain ⟨a, b⟩ := x
  simp only [List.append_assoc, List.length_append] at e1 e2 ⊢
  unfold rdD
  rw [e1]
  simp only
  rw [e2]
  simp only [Prod.mk.injEq, and_true]
  simp only at h0 h2
  refine ⟨⟨Int.toNat_of_nonneg h0, Int.toNat_of_nonneg h2⟩, by omega⟩
theorem rdDs_at : ∀ (l : List Vec.En) (pre post : List UInt8), Vec.Fits l → (∀ x ∈ l, x.2 ≤ 268435456) → rdDs (pre ++ (bytesD l ++ post)) l.length pre.length 0 = (l, pre.length + (bytesD l).length, 0) := by
  intro l
  induction l with
  | nil => intro pre post _ _; simp [rdDs, bytesD]
  | cons x l ih =>
    intro pre post hf h0
    have hx := hf x (by simp)
    have e1 := rdD_at (pre := pre) (post := bytesD l ++ post) hx.1 hx.2.1 hx.2.2.1 (h0 x (by simp))
    have e2 := ih (pre ++ (encN x.1.toNat ++ encN x.2.toNat)) post (fun y hy => hf y (by simp [hy])) (fun y hy => h0 y (by simp [hy]))
    have hb : bytesD (x :: l) = (encN x.1.toNat ++ encN x.2.toNat) ++ bytesD l := by simp [bytesD]
    have hs := rdDs_step (bs := pre ++ (bytesD (x :: l) ++ post)) (n := l.length + 1) (k := 0) (q := pre.length) (by omega)
    rw [Nat.sub_zero, Nat.zero_add, Nat.add_sub_cancel] at hs
    rw [List.length_cons, hs, hb]
    simp only [List.append_assoc, List.length_append] at e1 e2 ⊢
    rw [e1]
    simp only
    rw [e2]
    simp
    omega
theorem be4_len4 (s : R32) : (be4 s).length = 4 := rfl
theorem readTx_atp {t : Tm} {pre post : List UInt8} (hf : FitTm t) (h0 : fitT t = 0) : readTx (pre ++ (bytesT t ++ post)) pre.length 0 = (t, pre.length + (bytesT t).length, 0) := by
  obtain ⟨g1, g2, g3, g4, g5, g6, g7, g8, g9⟩ := fitT_ok h0
  have hO := fitOs_ok t.ops (-1) g9
  unfold FitTm at hf
  obtain ⟨f1, f2, f3, f4, f5, f6, f7, f8, f9⟩ := hf
  obtain ⟨r, seq, clock, user, ops⟩ := t
  simp only at f1 f2 f3 f4 f5 f6 f7 f8 f9 g1 g2 g3 g4 g5 g6 g7 g8 g9 hO
  obtain ⟨R, rfl⟩ := nat_of f1
  obtain ⟨S, rfl⟩ := nat_of f3
  obtain ⟨C, rfl⟩ := nat_of f5
  obtain ⟨U, rfl⟩ := nat_of g5
  have e1 := rdN_at (pre := pre) (post := encN S ++ (encN C ++ (encN U ++ (encN ops.length ++ (ops.flatMap bytesO ++ post))))) (n := R) (limit := 65535) (by omega) (by omega)
  have e2 := rdN_at (pre := pre ++ encN R) (post := encN C ++ (encN U ++ (encN ops.length ++ (ops.flatMap bytesO ++ post)))) (n := S) (limit := 268435456) (by omega) (by omega)
  have e3 := rdN_at (pre := pre ++ (encN R ++ encN S)) (post := encN U ++ (encN ops.length ++ (ops.flatMap bytesO ++ post))) (n := C) (limit := 1099511627776) (by omega) (by omega)
  have e4 := rdN_at (pre := pre ++ (encN R ++ (encN S ++ encN C))) (post := encN ops.length ++ (ops.flatMap bytesO ++ post)) (n := U) (limit := 7) (by omega) (by omega)
  have e5 := rdN_at (pre := pre ++ (encN R ++ (encN S ++ (encN C ++ encN U)))) (post := ops.flatMap bytesO ++ post) (n := ops.length) (limit := 16) (by omega) (by omega)
  have e6 := rdOs_at ops (pre ++ (encN R ++ (encN S ++ (encN C ++ (encN U ++ encN ops.length))))) post f9 (fun o ho => (hO o ho).1)
  have hb : bytesT ⟨(R : Int), (S : Int), (C : Int), (U : Int), ops⟩ = encN R ++ (encN S ++ (encN C ++ (encN U ++ (encN ops.length ++ ops.flatMap bytesO)))) := by unfold bytesT; simp
  rw [hb]
  simp only [List.append_assoc, List.length_append, Nat.add_assoc] at e1 e2 e3 e4 e5 e6 ⊢
  unfold readTx
  simp only
  rw [e1]
  simp only
  rw [e2]
  simp only [Nat.add_assoc]
  rw [e3]
  simp only [Nat.add_assoc]
  rw [e4]
  simp only [Nat.add_assoc]
  rw [e5]
  simp only [Nat.add_assoc]
  rw [e6]
  simp [Nat.add_assoc]
/-- What stands in the frame. -/
def readBody (bs : List UInt8) : Em × Int :=
  let n := rdN bs 0 0 65536
  let d := rdDs bs n.1 n.2.1 n.2.2
  let t := readTx bs d.2.1 d.2.2
  if t.2.2 ≠ 0 then (e0, (t.2.2 : Int)) else if t.2.1 < bs.length then (e0, 15) else if fitE ⟨d.1, t.1⟩ ≠ 0 then (e0, fitE ⟨d.1, t.1⟩) else (⟨d.1, t.1⟩, 0)
theorem readBody_eq (bs : List UInt8) {n : Nat × Nat × Nat} {d : List Vec.En × Nat × Nat} {t : Tm × Nat × Nat} (hn : rdN bs 0 0 65536 = n) (hd : rdDs bs n.1 n.2.1 n.2.2 = d) (ht : readTx bs d.2.1 d.2.2 = t) : readBody bs = (if t.2.2 ≠ 0 then (e0, (t.2.2 : Int)) else if t.2.1 < bs.length then (e0, 15) else if fitE ⟨d.1, t.1⟩ ≠ 0 then (e0, fitE ⟨d.1, t.1⟩) else (⟨d.1, t.1⟩, 0)) := by
  subst hn hd ht
  rfl
theorem readTx_err {bs : List UInt8} {q e : Nat} (h : e ≠ 0) : readTx bs q e = (t0, q, e) := by
  unfold readTx
  rw [rdN_err h]
  simp only
  rw [rdN_err h]
  simp only
  rw [rdN_err h]
  simp only
  rw [rdN_err h]
  simp only
  rw [rdN_err h]
  simp only
  rw [rdOs_err _ _ _ _ h]
  simp only
  rw [if_neg h]
theorem readT_short (bs : List UInt8) (limit : Nat) : (readT bs limit).1.length ≤ limit := by
  have hf := read_fair bs limit
  unfold Fair at hf
  unfold readT
  split
  · simp
  · split
    · simp
    · simp only [List.length_take]; omega
theorem rdT_short (bs : List UInt8) (q e limit : Nat) : (rdT bs q e limit).1.length ≤ limit := by
  unfold rdT
  split
  · exact readT_short _ _
  · simp
theorem readB_short (bs : List UInt8) (k : Nat) (t : Nat × Nat × Nat) (q e : Nat) : (readB bs k t q e).1.text.length ≤ 64 := by
  have := rdT_short bs q e 64
  unfold readB
  split
  · split
    · exact this
    · simp [o0]
  · split
    · split
      · simp
      · simp [o0]
    · split
      · simp
      · simp [o0]
theorem readO_short (bs : List UInt8) (q e : Nat) : (readO bs q e).1.text.length ≤ 64 := by
  unfold readO
  split
  · exact readB_short _ _ _ _ _
  · exact readB_short _ _ _ _ _
theorem rdOs_short (bs : List UInt8) : ∀ (n q e : Nat), ∀ o ∈ (rdOs bs n q e).1, o.text.length ≤ 64 := by
  intro n
  induction n with
  | zero => intro q e o ho; cases ho
  | succ n ih =>
    intro q e o ho
    rw [rdOs] at ho
    split at ho
    · rcases List.mem_cons.1 ho with rfl | ho
      · exact readO_short _ _ _
      · exact ih _ _ o ho
    · cases ho
theorem readTx_short (bs : List UInt8) (q e : Nat) : ∀ o ∈ (readTx bs q e).1.ops, o.text.length ≤ 64 := by
  rw [readTx_ch]
  split
  · exact rdOs_short _ _ _ _
  · intro o ho; cases ho
/-- The four bytes' number. -/
def num4 (bs : List UInt8) : Nat := (bs.getD 3 0).toNat * 16777216 + (bs.getD 4 0).toNat * 65536 + (bs.getD 5 0).toNat * 256 + (bs.getD 6 0).toNat
def frameOk (bs : List UInt8) : Prop := (bs.getD 0 0).toNat = 67 ∧ (bs.getD 1 0).toNat = 80 ∧ (bs.getD 2 0).toNat = 1 ∧ num4 bs = bs.length
/-- The envelope that bytes are, and an error. -/
def readE (bs : List UInt8) : Em × Int :=
  if bs.length < 11 then (e0, 14) else if 1048576 < bs.length then (e0, 15)
  else if (bs.getD 0 0).toNat ≠ 67 ∨ (bs.getD 1 0).toNat ≠ 80 ∨ (bs.getD 2 0).toNat ≠ 1 ∨ num4 bs ≠ bs.length then (e0, 30)
  else if openL bs = false then (e0, 31) else readBody ((bs.take (bs.length - 4)).drop 7)
theorem readBody_all {e : Em} (hd : Vec.Fits e.deps) (hl : e.deps.length ≤ 65536) (ht : FitTm e.txn) (h0 : fitE e = 0) : readBody (bodyE e) = (e, 0) := by
  obtain ⟨h1, h2, h3⟩ := fitE_ok h0
  obtain ⟨g1, g2, g3, g4, g5, g6, g7, g8, g9⟩ := fitT_ok h3
  have a := rdN_at (pre := []) (post := bytesD e.deps ++ bytesT e.txn) (n := e.deps.length) (limit := 65536) (by omega) hl
  have b := rdDs_at e.deps (encN e.deps.length) (bytesT e.txn) hd (fun x hx => (right_mem h1 x hx).2)
  have c := readTx_atp (pre := encN e.deps.length ++ bytesD e.deps) (post := []) ht h3
  have hb : bodyE e = encN e.deps.length ++ (bytesD e.deps ++ bytesT e.txn) := rfl
  rw [List.append_nil] at c
  simp only [List.nil_append, List.length_nil, Nat.zero_add, List.append_assoc, List.length_append] at a b c
  unfold readBody
  simp only
  rw [hb, a]
  simp only
  rw [b]
  simp only
  rw [c]
  simp only
  rw [if_neg (by simp), if_neg (by simp [List.length_append]; omega)]
  have he : (⟨e.deps, e.txn⟩ : Em) = e := rfl
  rw [he, h0]
  simp
end Go.Proofs.YtjkdcpalgfakhaaGreat
/-
  The library's own theorems of the sort behind slices.SortFunc and of bits.Len, laid at this program. Their conditions are the library's.
-/
namespace Go.Proofs
open Go.Shelf
def Tryz.laysPdq_ren : Go.Shelf.Ren := ⟨fun | 14 => 75 | 20 => 85 | 21 => 86 | 22 => 87 | 23 => 88 | 24 => 89 | 25 => 90 | 26 => 91 | 27 => 92 | 46 => 99 | 47 => 100 | 48 => 101 | 49 => 102 | 50 => 103 | 15 => 76 | 57 => 105 | 28 => 93 | 29 => 94 | n => n, fun | 24 => 74 | 22 => 23 | 3 => 3 | 25 => 129 | 4 => 4 | 0 => 0 | 46 => 150 | 45 => 149 | 50 => 77 | 66 => 161 | 39 => 134 | 55 => 33 | 70 => 165 | 76 => 168 | 77 => 169 | 53 => 32 | 5 => 5 | 9 => 9 | n => n, fun | n => n⟩
theorem Tryz.laysPdq : Go.Proofs.SlLaysF0.n14 Tryz.prog Tryz.laysPdq_ren := {
  mixed := by kernel_rfl
  f14 := ⟨Tryz.f75.name, by decide, Tryz.func75.trans (congrArg some (by kernel_rfl))⟩
  f15 := Tryz.func76.trans (congrArg some (by kernel_rfl))
  f20 := ⟨Tryz.f85.name, by decide, Tryz.func85.trans (congrArg some (by kernel_rfl))⟩
  f21 := ⟨Tryz.f86.name, by decide, Tryz.func86.trans (congrArg some (by kernel_rfl))⟩
  f22 := ⟨Tryz.f87.name, by decide, Tryz.func87.trans (congrArg some (by kernel_rfl))⟩
  f23 := ⟨Tryz.f88.name, by decide, Tryz.func88.trans (congrArg some (by kernel_rfl))⟩
  f24 := ⟨Tryz.f89.name, by decide, Tryz.func89.trans (congrArg some (by kernel_rfl))⟩
  f25 := ⟨Tryz.f90.name, by decide, Tryz.func90.trans (congrArg some (by kernel_rfl))⟩
  f26 := ⟨Tryz.f91.name, by decide, Tryz.func91.trans (congrArg some (by kernel_rfl))⟩
  f27 := ⟨Tryz.f92.name, by decide, Tryz.func92.trans (congrArg some (by kernel_rfl))⟩
  f28 := Tryz.func93.trans (congrArg some (by kernel_rfl))
  f29 := Tryz.func94.trans (congrArg some (by kernel_rfl))
  f46 := ⟨Tryz.f99.name, by decide, Tryz.func99.trans (congrArg some (by kernel_rfl))⟩
  f47 := Tryz.func100.trans (congrArg some (by kernel_rfl))
  f48 := Tryz.func101.trans (congrArg some (by kernel_rfl))
  f49 := ⟨Tryz.f102.name, by decide, Tryz.func102.trans (congrArg some (by kernel_rfl))⟩
  f50 := ⟨Tryz.f103.name, by decide, Tryz.func103.trans (congrArg some (by kernel_rfl))⟩
  f57 := ⟨Tryz.f105.name, by decide, Tryz.func105.trans (congrArg some (by kernel_rfl))⟩
  t0 := Tryz.underlying0
  a0 := Tryz.isAgg0
  z0 := Tryz.sizeOf0
  v0 := Tryz.zeroValue0
  t3 := Tryz.underlying3
  a3 := Tryz.isAgg3
  z3 := Tryz.sizeOf3
  v3 := Tryz.zeroValue3
  t4 := Tryz.underlying4
  a4 := Tryz.isAgg4
  z4 := Tryz.sizeOf4
  v4 := Tryz.zeroValue4
  t5 := Tryz.underlying5
  a5 := Tryz.isAgg5
  z5 := Tryz.sizeOf5
  v5 := Tryz.zeroValue5
  t9 := Tryz.underlying9
  a9 := Tryz.isAgg9
  z9 := Tryz.sizeOf9
  v9 := Tryz.zeroValue9
  t22 := Tryz.underlying23
  a22 := Tryz.isAgg23
  z22 := Tryz.sizeOf23
  v22 := Tryz.zeroValue23
  t25 := Tryz.underlying129
  a25 := Tryz.isAgg129
  z25 := Tryz.sizeOf129
  v25 := Tryz.zeroValue129
  t39 := Tryz.underlying134
  a39 := Tryz.isAgg134
  z39 := Tryz.sizeOf134
  v39 := Tryz.zeroValue134
  t45 := Tryz.underlying149
  a45 := Tryz.isAgg149
  z45 := Tryz.sizeOf149
  v45 := Tryz.zeroValue149
  t46 := Tryz.underlying150
  a46 := Tryz.isAgg150
  z46 := Tryz.sizeOf150
  v46 := Tryz.zeroValue150
  t50 := Tryz.underlying77
  a50 := Tryz.isAgg77
  z50 := Tryz.sizeOf77
  v50 := Tryz.zeroValue77
  t53 := Tryz.underlying32
  a53 := Tryz.isAgg32
  z53 := Tryz.sizeOf32
  v53 := Tryz.zeroValue32
  t55 := Tryz.underlying33
  a55 := Tryz.isAgg33
  z55 := Tryz.sizeOf33
  v55 := Tryz.zeroValue33
  t66 := Tryz.underlying161
  a66 := Tryz.isAgg161
  z66 := Tryz.sizeOf161
  v66 := Tryz.zeroValue161
  t70 := Tryz.underlying165
  a70 := Tryz.isAgg165
  z70 := Tryz.sizeOf165
  v70 := Tryz.zeroValue165
  t76 := Tryz.underlying168
  a76 := Tryz.isAgg168
  z76 := Tryz.sizeOf168
  v76 := Tryz.zeroValue168
  t77 := Tryz.underlying169
  a77 := Tryz.isAgg169
  z77 := Tryz.sizeOf169
  v77 := Tryz.zeroValue169 }
def Tryz.lays125_ren : Go.Shelf.Ren := ⟨fun | 125 => 76 | 128 => 93 | 129 => 94 | n => n, fun | 46 => 134 | 3 => 3 | 51 => 32 | 53 => 33 | 4 => 4 | 5 => 5 | 9 => 9 | n => n, fun | n => n⟩
theorem Tryz.lays125 : Go.Proofs.Lays.n125 Tryz.prog Tryz.lays125_ren := {
  mixed := by kernel_rfl
  f125 := Tryz.func76.trans (congrArg some (by kernel_rfl))
  f128 := Tryz.func93.trans (congrArg some (by kernel_rfl))
  f129 := Tryz.func94.trans (congrArg some (by kernel_rfl))
  t3 := Tryz.underlying3
  a3 := Tryz.isAgg3
  z3 := Tryz.sizeOf3
  v3 := Tryz.zeroValue3
  t4 := Tryz.underlying4
  a4 := Tryz.isAgg4
  z4 := Tryz.sizeOf4
  v4 := Tryz.zeroValue4
  t5 := Tryz.underlying5
  a5 := Tryz.isAgg5
  z5 := Tryz.sizeOf5
  v5 := Tryz.zeroValue5
  t9 := Tryz.underlying9
  a9 := Tryz.isAgg9
  z9 := Tryz.sizeOf9
  v9 := Tryz.zeroValue9
  t46 := Tryz.underlying134
  a46 := Tryz.isAgg134
  z46 := Tryz.sizeOf134
  v46 := Tryz.zeroValue134
  t51 := Tryz.underlying32
  a51 := Tryz.isAgg32
  z51 := Tryz.sizeOf32
  v51 := Tryz.zeroValue32
  t53 := Tryz.underlying33
  a53 := Tryz.isAgg33
  z53 := Tryz.sizeOf33
  v53 := Tryz.zeroValue33 }
end Go.Proofs
/-
  What the comparison behind Join and the sort by it come to: the row holds the same entries, by rising replicas, of one replica's the greatest first. No conditions beyond what each theorem states.
-/
namespace Go.Proofs.YtjkdcpalgfakhaaGreat.Vec
open Go.ChangeShapes Go.WideShapes Go.ChangeAt Go.RowKit Go.Lib
open Go.Sort
set_option linter.unusedVariables false
set_option linter.unusedSimpArgs false

def cmp3 (a b : Int) : Int := if a < b then -1 else if b < a then 1 else 0
theorem cmp3_lt {a b : Int} (h : a < b) : cmp3 a b = -1 := by simp [cmp3, h]
theorem cmp3_gt {a b : Int} (h : b < a) : cmp3 a b = 1 := by unfold cmp3; rw [if_neg (by omega), if_pos h]
theorem cmp3_eq {a b : Int} (h1 : ¬ a < b) (h2 : ¬ b < a) : cmp3 a b = 0 := by simp [cmp3, h1, h2]

set_option maxHeartbeats 400000 in
theorem compare16 (a b : Int) (w : World) :
    Calls Tryz.prog 77 #[.int .u16 a, .int .u16 b] w fun e w' => e = .returned (.int .i64 (cmp3 a b)) ∧ w' = w := by
  by_cases h1 : a < b
  · rw [cmp3_lt h1]
    go_enter Tryz.func77, Tryz.ntmps77
    go_wp2
    go_ret
    exact ⟨rfl, rfl⟩
  · by_cases h2 : b < a
    · rw [cmp3_gt h2]
      go_enter Tryz.func77, Tryz.ntmps77
      go_wp2
      go_ret
      exact ⟨rfl, rfl⟩
    · rw [cmp3_eq h1 h2]
      go_enter Tryz.func77, Tryz.ntmps77
      go_wp2
      go_ret
      exact ⟨rfl, rfl⟩

set_option maxHeartbeats 400000 in
theorem compare32 (a b : Int) (w : World) :
    Calls Tryz.prog 78 #[.int .u32 a, .int .u32 b] w fun e w' => e = .returned (.int .i64 (cmp3 a b)) ∧ w' = w := by
  by_cases h1 : a < b
  · rw [cmp3_lt h1]
    go_enter Tryz.func78, Tryz.ntmps78
    go_wp2
    go_ret
    exact ⟨rfl, rfl⟩
  · by_cases h2 : b < a
    · rw [cmp3_gt h2]
      go_enter Tryz.func78, Tryz.ntmps78
      go_wp2
      go_ret
      exact ⟨rfl, rfl⟩
    · rw [cmp3_eq h1 h2]
      go_enter Tryz.func78, Tryz.ntmps78
      go_wp2
      go_ret
      exact ⟨rfl, rfl⟩

/-- The comparison behind Join. -/
def most (x y : En) : Int := if cmp3 x.1 y.1 = 0 then cmp3 y.2 x.2 else cmp3 x.1 y.1
def encE (x : En) : List Value := [.int .u16 x.1, .int .u32 x.2]

set_option maxHeartbeats 400000 in
theorem most_any (x y : En) (w : World) :
    Calls Tryz.prog 66 #[.agg #[.int .u16 x.1, .int .u32 x.2], .agg #[.int .u16 y.1, .int .u32 y.2]] w fun e w' => e = .returned (.int .i64 (most x y)) ∧ ∃ q os', w' = grow (w.drewN q) os' := by
  obtain ⟨r, n⟩ := x
  obtain ⟨s, m⟩ := y
  unfold most
  by_cases h : cmp3 r s = 0
  · rw [if_pos h]
    have h' : (cmp3 r s == 0) = true := by simp [h]
    go_enter Tryz.func66, Tryz.ntmps66
    go_wp2_with (first | (go_at_call 77; refine (compare16 _ _ _).mono ?_; rintro e w' ⟨rfl, rfl⟩) | (go_at_call 78; refine (compare32 _ _ _).mono ?_; rintro e w' ⟨rfl, rfl⟩))
    go_ret
    exact ⟨rfl, 0, _, by rw [alloc_eq_grow, alloc_eq_grow, grow_grow]; rfl⟩
  · rw [if_neg h]
    have h' : (cmp3 r s == 0) = false := by simp [h]
    go_enter Tryz.func66, Tryz.ntmps66
    go_wp2_with (first | (go_at_call 77; refine (compare16 _ _ _).mono ?_; rintro e w' ⟨rfl, rfl⟩) | (go_at_call 78; refine (compare32 _ _ _).mono ?_; rintro e w' ⟨rfl, rfl⟩))
    go_ret
    exact ⟨rfl, 0, _, by rw [alloc_eq_grow, alloc_eq_grow, grow_grow]; rfl⟩

theorem lt_most (x y : En) : ltOf most x y = decide (x.1 < y.1 ∨ x.1 = y.1 ∧ y.2 < x.2) := by
  unfold ltOf most
  apply decide_eq_decide.2
  by_cases h1 : x.1 < y.1
  · rw [cmp3_lt h1, if_neg (by omega)]; omega
  · by_cases h2 : y.1 < x.1
    · rw [cmp3_gt h2, if_neg (by omega)]; omega
    · rw [cmp3_eq h1 h2, if_pos rfl]
      by_cases h3 : y.2 < x.2
      · rw [cmp3_lt h3]; omega
      · by_cases h4 : x.2 < y.2
        · rw [cmp3_gt h4]; omega
        · rw [cmp3_eq h3 h4]; omega

theorem swo_most : SWO (ltOf most) where
  irrefl x := by rw [lt_most]; simp
  trans x y z h1 h2 := by rw [lt_most] at *; simp at *; omega
  ntrans x y z h1 h2 := by rw [lt_most] at *; simp at *; omega

/-- A row of entries that may be written. -/
def Free (w : World) (g o : Nat) (xs : List En) : Prop := ∀ i, i < xs.length → (w.cell? ⟨g, o + i * 2, none⟩ = some (.int .u16 (atL xs i).1) ∧ w.cell? ⟨g, o + i * 2 + 1, none⟩ = some (.int .u32 (atL xs i).2)) ∧ w.frozen? ⟨g, o + i * 2, none⟩ = false ∧ w.frozen? ⟨g, o + i * 2 + 1, none⟩ = false

theorem toArray_at (xs : List En) (i : Nat) : xs.toArray[i]! = atL xs i := by
  simp only [atL, List.getD_eq_getElem?_getD, List.getElem!_toArray, List.getElem!_eq_getElem?_getD]
  rfl

theorem holdsK_of_free {w : World} {g o : Nat} {xs : List En} (h : Free w g o xs) : HoldsK encE 2 w g o xs.toArray := by
  intro j hj
  rw [size_flatK, List.size_toArray] at hj
  have hi : j / 2 < xs.length := by omega
  obtain ⟨⟨h1, h2⟩, h3, h4⟩ := h (j / 2) hi
  rw [get_flatK _ _ _ _ (by rw [List.size_toArray]; exact hj), toArray_at]
  rcases Nat.mod_two_eq_zero_or_one j with e | e
  · rw [e, show o + j = o + j / 2 * 2 by omega]; exact ⟨h1, h3⟩
  · rw [e, show o + j = o + j / 2 * 2 + 1 by omega]; exact ⟨h2, h4⟩

theorem free_of_holdsK {w : World} {g o : Nat} {d : Array En} (h : HoldsK encE 2 w g o d) : Free w g o d.toList := by
  intro i hi
  have hi' : i < d.size := by simpa using hi
  have e : d[i]! = atL d.toList i := by rw [← toArray_at]
  have h0 := h.cell hi' (c := 0) (by omega)
  have h1 := h.cell hi' (c := 1) (by omega)
  rw [e] at h0 h1
  exact ⟨⟨h0.1, h1.1⟩, h0.2, h1.2⟩

theorem below_sortWorldK {B g o m : Nat} {w : World} {d : Array En} {os : Array Obj} (hB : B ≤ g) (hg : g < w.heap.size) : Below B w (sortWorldK encE 2 w g o m d os) := by
  refine ⟨rfl, rfl, rfl, ?_, fun k hk => ?_⟩
  · simp [sortWorldK, putRowK, putRow, Sort.mapBlock, grow, Sort.ahead]
  · simp only [sortWorldK, putRowK, putRow, Sort.mapBlock, grow, Sort.ahead]
    rw [Array.getElem?_append_left (by simp; omega), Array.getElem?_modify, if_neg (by omega)]

set_option maxHeartbeats 800000 in
theorem sort_any (B g o cap : Nat) (xs : List En) (w : World) (hF : Free w g o xs) (hg : g < w.heap.size) (hB : B ≤ g) (hl : xs.length ≤ 100000) :
    Calls Tryz.prog 65 #[.slice (some ⟨g, o, none⟩) xs.length cap, .func (.func 66) #[] #[]] w fun e w' => e = .returned (.tuple #[]) ∧ ∃ ys, ys.Perm xs ∧ (∀ i j, i < j → j < ys.length → ltOf most (atL ys j) (atL ys i) = false) ∧ Free w' g o ys ∧ Below B w w' := by
  have hK := holdsK_of_free hF
  have eg : ∀ args w, (callFunc 66 args).run Tryz.prog w = .ok (.enter 66 args) w := enters_of Tryz.func66 (by kernel_rfl) rfl
  have hcmp : CmpLays Tryz.prog 66 #[] encE 2 most g o xs.toArray.size w := fun _ _ _ _ x y => most_any x y _
  have hlen : xs.toArray.size = xs.length := by simp
  have hb : Lib.bitLen xs.length < 4611686018427387904 := Nat.lt_of_le_of_lt (Lib.bitLen_le xs.length 62 (by omega) (by omega)) (by omega)
  have hp := AnyQ.pdqsortCmpFunc_all Tryz.laysPdq 2 Tryz.isAgg74 Tryz.sizeOf74 encE most 66 #[] swo_most g o cap xs.toArray w eg hcmp ⟨fun _ => rfl, fun x v hv => by simp [encE] at hv; rcases hv with rfl | rfl <;> rfl, hK, hg⟩ (xs.length + 1) 0 xs.length (Lib.bitLen xs.length) xs.toArray w (by omega) rfl (SWK.start hK) (Nat.zero_le _) (by simp) (by simp; omega) hb (Or.inl rfl)
  have hsorts := Sort.pdq_sorts (ltOf most) swo_most xs.toArray 0 xs.length (Lib.bitLen xs.length) true true (Nat.zero_le _) (by simp) (Or.inl rfl)
  rw [hlen] at hp
  change Calls Tryz.prog 75 _ _ _ at hp
  have hlb : Calls Tryz.prog 76 #[.int .u64 (xs.length : Int)] w fun e w' => e = .returned (.int .i64 (Lib.bitLen xs.length : Nat)) ∧ w' = w := by
    have h := Any.bits_Len Tryz.lays125 (xs.length : Int) w (by omega) (by omega)
    rwa [Int.toNat_natCast] at h
  have wr : IntKind.u64.wrap (xs.length : Int) = xs.length := by rw [IntKind.wrap_u64]; omega
  generalize Sort.pdq (ltOf most) xs.toArray 0 xs.length (Lib.bitLen xs.length) true true = d' at hp hsorts
  have HS : Hid (PermIn 0 xs.length xs.toArray d' ∧ SortedIn (ltOf most) 0 xs.length d') := hsorts
  have HK : Hid (HoldsK encE 2 w g o xs.toArray) := hK
  have HP := Lib.hid hp
  clear hK hcmp hF hlen hp hsorts
  go_enter Tryz.func65, Tryz.ntmps65
  go_wp2_with (first | (go_at_call 76; refine hlb.mono ?_; rintro e w' ⟨rfl, he⟩; obtain rfl := Eq.symm he) | (go_at_call 75; refine HP.out.mono ?_; rintro e w' ⟨rfl, n, os, rfl⟩))
  go_end0
  obtain ⟨⟨hs1, hs2, hs3⟩, hs4⟩ := HS.out
  have hsz : d'.size = xs.length := by simpa using hs1
  refine ⟨rfl, d'.toList, ?_, ?_, ?_, below_sortWorldK hB hg⟩
  · have e1 : d'.extract 0 xs.length = d' := by rw [← hsz]; simp
    have e2 : xs.toArray.extract 0 xs.length = xs.toArray := by simp
    rw [e1, e2] at hs3; simpa using hs3
  · intro i j hij hj
    have := hs4 i j (Nat.zero_le _) hij (by rw [← hsz]; simpa using hj)
    have e : ∀ i, d'[i]! = atL d'.toList i := fun i => by rw [← toArray_at]
    rwa [e, e] at this
  · exact free_of_holdsK (holdsK_sortWorldK encE 2 w g o n xs.toArray d' os hg HK.out (by simpa using hs1))

set_option maxHeartbeats 400000 in
theorem ins_none (p : Option Addr) (cap : Nat) (fv : Value) (w : World) :
    Calls Tryz.prog 85 #[.slice p 0 cap, .int .i64 0, .int .i64 0, fv] w fun e w' => e = .returned (.tuple #[]) ∧ w' = w := by
  go_enter Tryz.func85, Tryz.ntmps85
  go_wp2
  refine wp_loop_rounds 1 ?_
  rw [rounds_succ]
  go_wp2
  go_end0
  exact ⟨rfl, rfl⟩

set_option maxHeartbeats 800000 in
theorem pdq_none (p : Option Addr) (cap : Nat) (lim : Int) (fv : Value) (w : World) :
    Calls Tryz.prog 75 #[.slice p 0 cap, .int .i64 0, .int .i64 0, .int .i64 lim, fv] w fun e w' => e = .returned (.tuple #[]) ∧ w' = w := by
  go_enter Tryz.func75, Tryz.ntmps75
  go_wp2
  refine wp_loop_rounds 1 ?_
  rw [rounds_succ]
  go_wp2_with (go_at_call 85; refine (ins_none p cap fv _).mono ?_; rintro e w' ⟨rfl, rfl⟩)
  (try simp only [Exit.inBlock, Exit.then])
  refine bodyPost_ret (results_none rfl _ _ _) rfl ?_
  exact ⟨rfl, rfl⟩

set_option maxHeartbeats 400000 in
/-- The sort of no entry. -/
theorem sort_none (p : Option Addr) (cap : Nat) (fv : Value) (w : World) :
    Calls Tryz.prog 65 #[.slice p 0 cap, fv] w fun e w' => e = .returned (.tuple #[]) ∧ w' = w := by
  have hlb : ∀ W, Calls Tryz.prog 76 #[.int .u64 0] W fun e w' => e = .returned (.int .i64 (Lib.bitLen 0 : Nat)) ∧ w' = W := fun W => Any.bits_Len Tryz.lays125 0 W (by omega) (by omega)
  go_enter Tryz.func65, Tryz.ntmps65
  go_wp2_with (first | (go_at_call 76; refine (hlb _).mono ?_; rintro e w' ⟨rfl, rfl⟩) | (go_at_call 75; refine (pdq_none _ _ _ _ _).mono ?_; rintro e w' ⟨rfl, rfl⟩))
  go_end0
  exact ⟨rfl, rfl⟩

end Go.Proofs.YtjkdcpalgfakhaaGreat.Vec
/-
  What slices.CompactFunc comes to behind Join: of entries of one replica that stand together the first one stays. No conditions beyond what each theorem states.
-/
namespace Go.Proofs.YtjkdcpalgfakhaaGreat.Vec
open Go.ChangeShapes Go.WideShapes Go.ChangeAt Go.RowKit Go.Lib
open Go.Sort
set_option linter.unusedVariables false
set_option linter.unusedSimpArgs false

set_option maxHeartbeats 400000 in
theorem eq_any (x y u v : Int) (w : World) :
    Calls Tryz.prog 68 #[.agg #[.int .u16 x, .int .u32 y], .agg #[.int .u16 u, .int .u32 v]] w fun e w' => e = .returned (.bool (x == u)) ∧ Below w.heap.size w w' := by
  go_enter Tryz.func68, Tryz.ntmps68
  go_wp2
  go_ret
  exact ⟨rfl, below_alloc (below_alloc (Below.refl _ _) _) _⟩

def keepsL (xs : List En) (j : Nat) : Bool := decide (j = 0 ∨ (atL xs j).1 ≠ (atL xs (j - 1)).1)
/-- Of the first m entries those that stay. -/
def compTo (xs : List En) : Nat → List En
  | 0 => []
  | m + 1 => if keepsL xs m then compTo xs m ++ [atL xs m] else compTo xs m
def compL (xs : List En) : List En := compTo xs xs.length
theorem keeps_zero (xs : List En) : keepsL xs 0 = true := by simp [keepsL]
theorem keeps_pos {xs : List En} {j : Nat} (h : (atL xs j).1 ≠ (atL xs (j - 1)).1) : keepsL xs j = true := by simp [keepsL, h]
theorem keeps_neg {xs : List En} {j : Nat} (h0 : 0 < j) (h : (atL xs j).1 = (atL xs (j - 1)).1) : keepsL xs j = false := by simp [keepsL, h]; omega
theorem compTo_all {xs : List En} : ∀ m, m ≤ xs.length → (∀ j, j < m → keepsL xs j = true) → compTo xs m = xs.take m
  | 0, _, _ => by simp [compTo]
  | m + 1, hm, h => by rw [compTo, if_pos (h m (by omega)), compTo_all m (by omega) (fun j hj => h j (by omega)), take_atL xs m (by omega)]
theorem compTo_le (xs : List En) : ∀ m, (compTo xs m).length ≤ m
  | 0 => by simp [compTo]
  | m + 1 => by have := compTo_le xs m; rw [compTo]; split <;> simp <;> omega
theorem compL_all {xs : List En} (h : ∀ j, j < xs.length → keepsL xs j = true) : compL xs = xs := by rw [compL, compTo_all _ (Nat.le_refl _) h, List.take_length]
theorem compL_small {xs : List En} (h : xs.length < 2) : compL xs = xs := compL_all fun j hj => by
  have : j = 0 := by omega
  subst this; exact keeps_zero xs

theorem Free.below {w w' : World} {g o : Nat} {xs : List En} (h : Free w g o xs) (hg : g < w.heap.size) (hb : Below w.heap.size w w') : Free w' g o xs := fun i hi => by
  obtain ⟨⟨h1, h2⟩, h3, h4⟩ := h i hi
  exact ⟨⟨cellU h1 hb, cellU h2 hb⟩, by rw [hb.frozen (by exact hg)]; exact h3, by rw [hb.frozen (by exact hg)]; exact h4⟩
theorem Free.row {w : World} {g o : Nat} {xs : List En} (h : Free w g o xs) : Row w (some ⟨g, o, none⟩) xs := fun i hi => ⟨g, o, rfl, (h i hi).1.1, (h i hi).1.2⟩

/-- The state of the inner loop: the first kk entries are those of the first m that stay; from m - 1 on nothing has been written. -/
structure CI (xs : List En) (m kk : Nat) (ys : List En) : Prop where
  size : ys.length = xs.length
  len : kk = (compTo xs m).length
  low : ys.take kk = compTo xs m
  high : ∀ j, m ≤ j + 1 → j < xs.length → atL ys j = atL xs j
  lt : kk < m
theorem CI.start {xs : List En} {k : Nat} (hk : k < xs.length) (h1 : 1 ≤ k) (h : ∀ j, j < k → keepsL xs j = true) (hd : keepsL xs k = false) : CI xs (k + 1) k xs := by
  have e : compTo xs (k + 1) = xs.take k := by rw [compTo, if_neg (by simp [hd]), compTo_all k (by omega) h]
  exact ⟨rfl, by rw [e]; simp; omega, e.symm, fun _ _ _ => rfl, by omega⟩
theorem CI.skip {xs ys : List En} {m kk : Nat} (h : CI xs m kk ys) (hd : keepsL xs m = false) : CI xs (m + 1) kk ys := by
  have e : compTo xs (m + 1) = compTo xs m := by rw [compTo, if_neg (by simp [hd])]
  exact ⟨h.size, by rw [e]; exact h.len, by rw [e]; exact h.low, fun j hj hl => h.high j (by omega) hl, by have := h.lt; omega⟩
theorem atL_set_same (ys : List En) (k : Nat) (x : En) (h : k < ys.length) : atL (ys.set k x) k = x := by simp [atL, h]
theorem atL_set_ne (ys : List En) (k j : Nat) (x : En) (h : k ≠ j) : atL (ys.set k x) j = atL ys j := by simp [atL, List.getElem?_set, h]
theorem CI.keep {xs ys : List En} {m kk : Nat} (h : CI xs m kk ys) (hm : m < xs.length) (hd : keepsL xs m = true) : CI xs (m + 1) (kk + 1) (ys.set kk (atL xs m)) := by
  have e : compTo xs (m + 1) = compTo xs m ++ [atL xs m] := by rw [compTo, if_pos hd]
  have hlt := h.lt
  have hk : kk < ys.length := by rw [h.size]; omega
  refine ⟨by simp [h.size], by rw [e, List.length_append, ← h.len]; rfl, ?_, fun j hj hl => ?_, by omega⟩
  · rw [e, take_atL _ _ (by simpa using hk), atL_set_same _ _ _ hk, List.take_set_of_le (Nat.le_refl _), h.low]
  · rw [atL_set_ne _ _ _ _ (by omega)]; exact h.high j (by omega) hl

/-- A store of one entry. -/
theorem Free.store {w : World} {g o : Nat} {ys : List En} (h : Free w g o ys) {k : Nat} (hk : k < ys.length) (x y : Int) :
    Free ((w.setCell ⟨g, o + k * 2, none⟩ (.int .u16 x)).setCell ⟨g, o + k * 2 + 1, none⟩ (.int .u32 y)) g o (ys.set k (x, y)) := by
  have e : (w.setCell ⟨g, o + k * 2, none⟩ (.int .u16 x)).setCell ⟨g, o + k * 2 + 1, none⟩ (.int .u32 y) = w.setCells g (o + k * 2) [.int .u16 x, .int .u32 y] := rfl
  rw [e]
  intro i hi
  rw [List.length_set] at hi
  obtain ⟨⟨h1, h2⟩, h3, h4⟩ := h i hi
  refine ⟨?_, by rw [World.frozen?_setCells]; exact h3, by rw [World.frozen?_setCells]; exact h4⟩
  obtain ⟨⟨k1, k2⟩, -, -⟩ := h k hk
  by_cases hik : i = k
  · subst hik
    rw [atL_set_same _ _ _ hk]
    have hin := World.cell?_setCells_in g [Value.int .u16 x, .int .u32 y] (o + i * 2) w (fun j hj => by
      match j, hj with
      | 0, _ => simp [k1]
      | 1, _ => simp [k2])
    exact ⟨hin 0 (by simp), hin 1 (by simp)⟩
  · rw [atL_set_ne _ _ _ _ (by omega)]
    constructor
    · rw [World.cell?_setCells_out _ _ _ _ _ (by intro _ _; simp only [List.length_cons, List.length_nil]; omega)]; exact h1
    · rw [World.cell?_setCells_out _ _ _ _ _ (by intro _ _; simp only [List.length_cons, List.length_nil]; omega)]; exact h2

theorem below_cells {B g : Nat} (hb : B ≤ g) : ∀ (vs : List Value) (o : Nat) (a w : World), Below B a w → Below B a (w.setCells g o vs)
  | [], _, _, _, h => h
  | v :: vs, o, a, w, h => below_cells hb vs (o + 1) a _ (h.setCell hb v)

/-- clear, of a slice of entries. -/
theorem run_clear2 {P : Program} (w : World) (t e ty : TypeId) (z : Value) (ht : P.underlying t = some (.slice e)) (hv : ∀ w, (zeroValue e).run P w = .ok z w) (hz : ∀ n, ∀ v ∈ (Builtin.zeroCells z.cells n).toList, v.oneCell' = true) (hzl : z.cells.size = 2) (b o n c : Nat) (hn : 0 < n)
    (hc : ∀ j, j < n * 2 → (w.cell? ⟨b, o + j, none⟩).isSome = true) (hf : ∀ j, j < n * 2 → w.frozen? ⟨b, o + j, none⟩ = false) :
    (Builtin.clear_ #[t] ty #[.slice (some ⟨b, o, none⟩) n c]).run P w = .ok (.tuple #[]) (w.setCells b o (Builtin.zeroCells z.cells n).toList) := by
  have hl : (Builtin.zeroCells z.cells n).toList.length = n * 2 := by simp [Builtin.zeroCells, hzl]
  have hst := run_storeCells_cells (P := P) b o (Builtin.zeroCells z.cells n).toList 0 w (by rw [hl]; simpa using hc) (by rw [hl]; simpa using hf) (hz n)
  simp only [Nat.add_zero] at hst
  obtain ⟨m, rfl⟩ : ∃ m, n = m + 1 := ⟨n - 1, by omega⟩
  simp [Builtin.clear_, run_underlying ht, hv, hst]

theorem zero_one (n : Nat) : ∀ v ∈ (Builtin.zeroCells (Value.agg #[.int .u16 0, .int .u32 0]).cells n).toList, v.oneCell' = true := by
  intro v hv
  simp only [Builtin.zeroCells, Array.toList_map, List.mem_map] at hv
  obtain ⟨i, _, rfl⟩ := hv
  rcases Nat.mod_two_eq_zero_or_one i with e | e
  · have : (Value.agg #[.int .u16 0, .int .u32 0]).cells.size = 2 := rfl
    rw [this, e]; rfl
  · have : (Value.agg #[.int .u16 0, .int .u32 0]).cells.size = 2 := rfl
    rw [this, e]; rfl

end Go.Proofs.YtjkdcpalgfakhaaGreat.Vec
/-
  slices.CompactFunc, walked: what it hands back behind Join. No conditions beyond what each theorem states.
-/
namespace Go.Proofs.YtjkdcpalgfakhaaGreat.Vec
open Go.ChangeShapes Go.WideShapes Go.ChangeAt Go.RowKit Go.Lib
open Go.Sort
set_option linter.unusedVariables false
set_option linter.unusedSimpArgs false

/-- A slice of the call's own that holds these entries; below B all is as it was. -/
def Cut (B : Nat) (w : World) (xs : List En) (e : Ending) (w' : World) : Prop := ∃ p c, e = .returned (.slice p xs.length c) ∧ p ≠ none ∧ Row w' p xs ∧ Below B w w'

theorem eq_regrown (x y u v : Int) (W : World) (d : Nat) (os : Array Obj) : Calls Tryz.prog 68 #[.agg #[.int .u16 x, .int .u32 y], .agg #[.int .u16 u, .int .u32 v]] (grow (redrawn W d) os) fun e w'' => e = .returned (.bool (x == u)) ∧ ∃ p : Regrown, w'' = grow (redrawn W p.d) p.os :=
  Calls.regrown_of (eq_any x y u v _)

theorem eq_said {x u : Int} {b : Bool} (h : (x == u) = b) (y v : Int) (W : World) (d : Nat) (os : Array Obj) : Calls Tryz.prog 68 #[.agg #[.int .u16 x, .int .u32 y], .agg #[.int .u16 u, .int .u32 v]] (grow (redrawn W d) os) fun e w'' => e = .returned (.bool b) ∧ ∃ p : Regrown, w'' = grow (redrawn W p.d) p.os := by
  subst h; exact eq_regrown x y u v W d os

set_option maxHeartbeats 3200000 in
set_option maxRecDepth 100000 in
theorem compact_any (B g o cap : Nat) (xs : List En) (w : World) (hF : Free w g o xs) (hg : g < w.heap.size) (hB : B ≤ g) (hcap : xs.length ≤ cap) (hl : xs.length ≤ 100000) :
    Calls Tryz.prog 67 #[.slice (some ⟨g, o, none⟩) xs.length cap, .func (.func 68) #[] #[]] w (Cut B w (compL xs)) := by
  have HF : Hid (Free w g o xs) := hF
  have HG : Hid (g < w.heap.size ∧ B ≤ g) := ⟨hg, hB⟩
  clear hF hg hB
  by_cases h2 : xs.length < 2
  · rw [compL_small h2]
    have h2' : ((xs.length : Nat) : Int) < 2 := by omega
    go_enter Tryz.func67, Tryz.ntmps67
    go_wp2
    go_ret
    exact ⟨_, _, rfl, by simp, HF.out.row, Below.refl _ _⟩
  · have h2' : ¬ ((xs.length : Nat) : Int) < 2 := by omega
    go_enter Tryz.func67, Tryz.ntmps67
    go_wp2
    go_loopg [5] xs.length (fun n s wr => ∃ k : Nat, 1 ≤ k ∧ k ≤ xs.length ∧ xs.length - k ≤ n ∧ s = .int .i64 k ∧ Below w.heap.size w wr ∧ ∀ j, j < k → keepsL xs j = true)
    case atStart => exact ⟨1, Nat.le_refl _, by omega, by omega, rfl, Below.refl _ _, fun j hj => by
      have : j = 0 := by omega
      subst this; exact keeps_zero xs⟩
    case round =>
      obtain ⟨k, hk1, hk, hgk, rfl, hb, hall⟩ := hrel
      have HB : Hid (Below w.heap.size w wr) := hb
      have HA : Hid (∀ j, j < k → keepsL xs j = true) := hall
      clear hb hall
      by_cases hlt : k < xs.length
      · obtain ⟨⟨c0, c1⟩, -⟩ := (HF.out.below HG.out.1 HB.out) k hlt
        obtain ⟨⟨d0, d1⟩, -⟩ := (HF.out.below HG.out.1 HB.out) (k - 1) (by omega)
        generalize hx : (atL xs k).1 = x at c0
        generalize hy : (atL xs k).2 = y at c1
        generalize hu : (atL xs (k - 1)).1 = u at d0
        generalize hv : (atL xs (k - 1)).2 = v at d1
        have E : Hid ((atL xs k).1 = x ∧ (atL xs (k - 1)).1 = u) := ⟨hx, hu⟩
        clear hx hy hu hv
        have c0' := cell_regrown c0
        have c1' := cell_regrown c1
        have d0' := cell_regrown d0
        have d1' := cell_regrown d1
        clear c0 c1 d0 d1
        have hlt1 : k - 1 < xs.length := by omega
        have hk1' : (k : Int) - 1 = ((k - 1 : Nat) : Int) := by omega
        have hwk : IntKind.i64.wrap ((k - 1 : Nat) : Int) = ((k - 1 : Nat) : Int) := by rw [IntKind.wrap_i64]; omega
        go_wp2_with fail
        refine wp_region_quiet_below (by kernel_rfl) (by kernel_rfl) ?_
        repeat (first | go_big_quiet_step ((go_at_call 68; exact eq_regrown _ _ _ _ _ _ _)) | quiet_step ((go_at_call 68; exact eq_regrown _ _ _ _ _ _ _)))
        refine wpQuiet_nil ?_
        intro w3 hw'
        have HB3 : Hid (Below w.heap.size w w3) := by obtain ⟨⟨dq, osq⟩, rfl⟩ := hw'; exact below_step HB.out (below_regrown _ _ _)
        clear hw' c0' c1' d0' d1' hk1'
        by_cases hdup : x = u
        · have hdup' : (x == u) = true := by simp [hdup]
          have HCI : Hid (CI xs (k + 1) k xs) := CI.start hlt hk1 HA.out (keeps_neg (by omega) (by rw [E.out.1, E.out.2]; exact hdup))
          have HFX : Hid (Free w3 g o xs ∧ Below B w w3 ∧ g < w3.heap.size) := ⟨HF.out.below HG.out.1 HB3.out, HB3.out.mono (by have := HG.out; omega), by have := HB3.out.size; have := HG.out; omega⟩
          clear HB HB3
          go_wp2_with fail
          clear hdup' hdup
          go_loopg [5, 7] xs.length (fun n s t wr => ∃ (kk k2 : Nat) (ys : List En), s = .int .i64 kk ∧ t = .int .i64 k2 ∧ 1 ≤ k2 ∧ k + k2 ≤ xs.length ∧ xs.length - (k + k2) ≤ n ∧ CI xs (k + k2) kk ys ∧ Free wr g o ys ∧ Below B w wr ∧ g < wr.heap.size)
          case atStart => exact ⟨k, 1, xs, rfl, rfl, Nat.le_refl _, by omega, by omega, HCI.out, HFX.out⟩
          case round =>
            clear HCI HFX
            obtain ⟨kk, k2, ys, rfl, rfl, hk2, hkk, hgap, hci, hfr, hbe, hgw⟩ := hrel
            have HC : Hid (CI xs (k + k2) kk ys) := hci
            have HF2 : Hid (Free wr g o ys) := hfr
            have HB2 : Hid (Below B w wr ∧ g < wr.heap.size) := ⟨hbe, hgw⟩
            have hkl := hci.lt
            have hsz := hci.size
            have HSZ : Hid (ys.length = xs.length) := hsz
            clear hci hfr hbe hgw hsz
            by_cases hlt2 : k + k2 < xs.length
            · have hy1 : k + k2 < ys.length := by rw [HSZ.out]; exact hlt2
              obtain ⟨⟨c0, c1⟩, -⟩ := HF2.out (k + k2) hy1
              obtain ⟨⟨d0, d1⟩, -⟩ := HF2.out (k + k2 - 1) (by omega)
              have e1 := HC.out.high (k + k2) (by omega) hlt2
              have e2 := HC.out.high (k + k2 - 1) (by omega) (by omega)
              rw [e1, show o + (k + k2) * 2 = o + k * 2 + k2 * 2 by omega] at c0
              rw [e1, show o + (k + k2) * 2 + 1 = o + k * 2 + k2 * 2 + 1 by omega] at c1
              rw [e2, show o + (k + k2 - 1) * 2 = o + k * 2 + (k2 - 1) * 2 by omega] at d0
              rw [e2, show o + (k + k2 - 1) * 2 + 1 = o + k * 2 + (k2 - 1) * 2 + 1 by omega] at d1
              clear e1 e2 hy1
              generalize hx : (atL xs (k + k2)).1 = x2 at c0
              generalize hy : (atL xs (k + k2)).2 = y2 at c1
              generalize hu : (atL xs (k + k2 - 1)).1 = u2 at d0
              generalize hv : (atL xs (k + k2 - 1)).2 = v2 at d1
              have E2 : Hid (atL xs (k + k2) = (x2, y2) ∧ (atL xs (k + k2 - 1)).1 = u2) := ⟨Prod.ext hx hy, hu⟩
              clear hx hy hu hv
              have C0 : Hid (wr.cell? ⟨g, o + k * 2 + k2 * 2, none⟩ = some (.int .u16 x2) ∧ wr.cell? ⟨g, o + k * 2 + k2 * 2 + 1, none⟩ = some (.int .u32 y2)) := ⟨c0, c1⟩
              have c0' := cell_regrown c0
              have c1' := cell_regrown c1
              have d0' := cell_regrown d0
              have d1' := cell_regrown d1
              clear c0 c1 d0 d1
              have hlt3 : k2 - 1 < xs.length - k := by omega
              have hlt4 : k2 < xs.length - k := by omega
              have hk2' : (k2 : Int) - 1 = ((k2 - 1 : Nat) : Int) := by omega
              have hwk2 : IntKind.i64.wrap ((k2 - 1 : Nat) : Int) = ((k2 - 1 : Nat) : Int) := by rw [IntKind.wrap_i64]; omega
              have hb01 : ∃ b : Bool, (x2 == u2) = b := ⟨_, rfl⟩
              obtain ⟨b, hb⟩ := hb01
              have HQ : Hid ((x2 == u2) = b) := hb
              clear hb
              cases b
              all_goals
                go_wp2_with fail
                refine wp_region_quiet_below (by kernel_rfl) (by kernel_rfl) ?_
                repeat (first | go_big_quiet_step ((go_at_call 68; exact eq_said HQ.out _ _ _ _ _)) | quiet_step ((go_at_call 68; exact eq_said HQ.out _ _ _ _ _)))
                refine wpQuiet_nil ?_
                intro w4 hw'
                have HB4 : Hid (Below wr.heap.size wr w4) := by obtain ⟨⟨dq, osq⟩, rfl⟩ := hw'; exact below_regrown _ _ _
                clear hw' c0' c1' d0' d1' hk2'
                have c0 := cellU C0.out.1 HB4.out
                have c1 := cellU C0.out.2 HB4.out
                have HF4 : Hid (Free w4 g o ys) := HF2.out.below HB2.out.2 HB4.out
                have HB5 : Hid (Below B w w4 ∧ g < w4.heap.size) := ⟨HB2.out.1.trans (HB4.out.mono (by have := HB2.out.2; have := HG.out; omega)), by have := HB4.out.size; have := HB2.out.2; omega⟩
                clear C0 HF2 HB2 HB4
              · have hd2 : x2 ≠ u2 := by simpa using HQ.out
                have HD2 : Hid (x2 ≠ u2) := hd2
                clear HQ hd2
                obtain ⟨⟨k0, k1⟩, f0, f1⟩ := HF4.out kk (by rw [HSZ.out]; omega)
                generalize (atL ys kk).1 = ox at k0
                generalize (atL ys kk).2 = oy at k1
                have hkx : kk < xs.length := by omega
                go_wp2_with fail
                go_roundg (xs.length - (k + (k2 + 1)))
                case measure => omega
                case rel =>
                  have hst := HF4.out.store (k := kk) (by rw [HSZ.out]; omega) x2 y2
                  have hkp := HC.out.keep hlt2 (keeps_pos (by rw [E2.out.1, E2.out.2]; exact HD2.out))
                  rw [E2.out.1] at hkp
                  have hgB := HG.out.2
                  exact ⟨kk + 1, k2 + 1, ys.set kk (x2, y2), by go_num, by go_num, by omega, by omega, Nat.le_refl _, hkp, hst, (HB5.out.1.setCell hgB _).setCell hgB _, by have := HB5.out.2; simp [World.setCell]; exact this⟩
              · have hd2 : x2 = u2 := by simpa using HQ.out
                have HD2 : Hid (x2 = u2) := hd2
                clear HQ hd2
                go_wp2_with fail
                go_roundg (xs.length - (k + (k2 + 1)))
                case measure => omega
                case rel => exact ⟨kk, k2 + 1, ys, rfl, by go_num, by omega, by omega, Nat.le_refl _, HC.out.skip (keeps_neg (by omega) (by rw [E2.out.1, E2.out.2]; exact HD2.out)), HF4.out, HB5.out.1, HB5.out.2⟩
            · have hend : k + k2 = xs.length := by omega
              have hcl : ∀ ty, (Builtin.clear_ #[24] ty #[.slice (some ⟨g, o + kk * 2, none⟩) (xs.length - kk) (cap - kk)]).run Tryz.prog wr = .ok (.tuple #[]) (wr.setCells g (o + kk * 2) (Builtin.zeroCells (Value.agg #[.int .u16 0, .int .u32 0]).cells (xs.length - kk)).toList) := fun ty =>
                run_clear2 wr 24 74 ty (.agg #[.int .u16 0, .int .u32 0]) Tryz.underlying24 Tryz.zeroValue74 zero_one rfl g (o + kk * 2) (xs.length - kk) (cap - kk) (by omega)
                  (fun j hj => by
                    obtain ⟨⟨h1, h2⟩, -⟩ := HF2.out (kk + j / 2) (by rw [HSZ.out]; omega)
                    rcases Nat.mod_two_eq_zero_or_one j with e | e
                    · rw [show o + kk * 2 + j = o + (kk + j / 2) * 2 by omega, h1]; rfl
                    · rw [show o + kk * 2 + j = o + (kk + j / 2) * 2 + 1 by omega, h2]; rfl)
                  (fun j hj => by
                    obtain ⟨-, h1, h2⟩ := HF2.out (kk + j / 2) (by rw [HSZ.out]; omega)
                    rcases Nat.mod_two_eq_zero_or_one j with e | e
                    · rw [show o + kk * 2 + j = o + (kk + j / 2) * 2 by omega]; exact h1
                    · rw [show o + kk * 2 + j = o + (kk + j / 2) * 2 + 1 by omega]; exact h2)
              have hkx : kk < xs.length := by omega
              have hlt5 : ¬ k2 < xs.length - k := by omega
              go_wp2
              go_ret
              have hci := HC.out
              rw [hend] at hci
              have hlen : kk = (compL xs).length := hci.len
              have hlow : ys.take kk = compL xs := hci.low
              refine ⟨some ⟨g, o, none⟩, cap, by rw [← hlen]; rfl, by simp, fun i hi => ?_, below_cells HG.out.2 _ _ _ _ HB2.out.1⟩
              rw [← hlen] at hi
              obtain ⟨⟨h1, h2⟩, -⟩ := HF2.out i (by rw [HSZ.out]; omega)
              have e : atL (compL xs) i = atL ys i := by rw [← hlow, atL_take _ _ _ hi]
              rw [e]
              refine ⟨g, o, rfl, ?_, ?_⟩
              · rw [World.cell?_setCells_out _ _ _ _ _ (by intro _ _; left; show o + i * 2 < _; omega)]; exact h1
              · rw [World.cell?_setCells_out _ _ _ _ _ (by intro _ _; left; show o + i * 2 + 1 < _; omega)]; exact h2
        · have hdup' : (x == u) = false := by simp [hdup]
          go_wp2_with fail
          go_roundg (xs.length - (k + 1))
          case measure => omega
          case rel => exact ⟨k + 1, by omega, by omega, Nat.le_refl _, by go_num, HB3.out, fun j hj => by
            by_cases e : j = k
            · subst e; exact keeps_pos (by rw [E.out.1, E.out.2]; exact hdup)
            · exact HA.out j (by omega)⟩
      · have : k = xs.length := by omega
        subst this
        go_wp2
        go_ret
        rw [compL_all HA.out]
        exact ⟨_, _, rfl, by simp, (HF.out.below HG.out.1 HB.out).row, HB.out.mono (by have := HG.out; omega)⟩

set_option maxHeartbeats 400000 in
/-- The same of no entry. -/
theorem compact_none (c : Nat) (p : Option Addr) (fv : Value) (w : World) :
    Calls Tryz.prog 67 #[.slice p 0 c, fv] w fun e w' => e = .returned (.slice p 0 c) ∧ w' = w := by
  go_enter Tryz.func67, Tryz.ntmps67
  go_wp2
  go_ret
  exact ⟨rfl, rfl⟩

end Go.Proofs.YtjkdcpalgfakhaaGreat.Vec
/-
  Rows of entries read and put one behind the other. No conditions beyond what each theorem states.
-/
namespace Go.Proofs.YtjkdcpalgfakhaaGreat.Vec
open Go.ChangeShapes Go.WideShapes Go.ChangeAt Go.RowKit Go.Lib
set_option linter.unusedVariables false
set_option linter.unusedSimpArgs false

theorem row_none {w : World} {xs : List En} (h : Row w none xs) : xs = [] := by
  cases xs with
  | nil => rfl
  | cons x xs => obtain ⟨b, o, e, -⟩ := h 0 (by simp); cases e
theorem cells_of_row {w : World} {a : Addr} {xs : List En} (h : Row w (some a) xs) : ∀ j u, (cellsL xs)[j]? = some u → w.cell? (a.add j) = some u := by
  intro j u hj
  have hlt : j < xs.length * 2 := by rw [← cellsL_length]; exact (List.getElem?_eq_some_iff.1 hj).1
  obtain ⟨b, o, e, h1, h2⟩ := h (j / 2) (by omega)
  cases e
  have hc := cellsL_at xs (j / 2) (by omega)
  rcases Nat.mod_two_eq_zero_or_one j with e | e
  · have ej : j = j / 2 * 2 := by omega
    rw [ej, hc.1] at hj
    cases hj
    rw [Addr.add_lit, show o + j = o + j / 2 * 2 by omega]; exact h1
  · have ej : j = j / 2 * 2 + 1 := by omega
    rw [ej, hc.2] at hj
    cases hj
    rw [Addr.add_lit, show o + j = o + j / 2 * 2 + 1 by omega]; exact h2
theorem Holding.cat {w wr w1 : World} {e : TypeId} {v v' : Value} {xs ys : List En} (h : Holding w e v xs wr) (hown : w1.ownsRow w.heap.size e 2 v' (xs.length + ys.length) (cellsL xs ++ cellsL ys)) (hg : wr.grownBy w1 v.ownBlock) : Holding w e v' (xs ++ ys) w1 :=
  ⟨by rw [cellsL_append, List.length_append]; exact hown, h.2.grown hg h.2.size (fun j hj => (h.1.lt j hj).1)⟩
end Go.Proofs.YtjkdcpalgfakhaaGreat.Vec
