/-
  Several texts of one proof, joined: each part says at its head what it proves. No conditions beyond what each theorem states.
-/
import Derived.WalkKit
import Derived.ProofKit
import Derived.OpenShut
import Derived.Below
import Derived.BigQuiet
import Derived.WalkSpells
import Derived.WalkLawsBesides
import Derived.Deep.LoopGhost
import Derived.Lib.Hide
import Derived.Lib.SmallJoins
import Derived.Lib.AppendStr
import Derived.Lib.UnsafeStr
import Derived.Lib.BufferWrite
import Derived.Maps.AppendAt
import Derived.Laws.CopyOwn
import Derived.Laws.IdiomStrings
import Derived.ScopeJumps
import Derived.Deep.RegionLaw
import Derived.Test.YtjkdcpalgfakhaaGreatRows
/-
  A number's bytes, seven bits each, and what is read of bytes. Of no program; no conditions beyond what each theorem states.
-/
namespace Go.Proofs.YtjkdcpalgfakhaaGreat
set_option linter.unusedVariables false
set_option linter.unusedSimpArgs false

/-- A number's bytes: seven bits a byte, the lowest first; all but the last are 128 more. -/
def encN (n : Nat) : List UInt8 := if h : n < 128 then [UInt8.ofNat n] else UInt8.ofNat (n % 128 + 128) :: encN (n / 128)
theorem encN_small {n : Nat} (h : n < 128) : encN n = [UInt8.ofNat n] := by rw [encN, dif_pos h]
theorem encN_big {n : Nat} (h : ¬ n < 128) : encN n = UInt8.ofNat (n % 128 + 128) :: encN (n / 128) := by rw [encN, dif_neg h]
theorem encN_pos (n : Nat) : 1 ≤ (encN n).length := by
  by_cases h : n < 128
  · rw [encN_small h]; simp
  · rw [encN_big h]; simp
theorem encN_le (f : Nat) : ∀ n, n < 128 ^ (f + 1) → (encN n).length ≤ f + 1 := by
  induction f with
  | zero => intro n h; rw [encN_small (by simpa using h)]; simp
  | succ f ih =>
    intro n h
    by_cases hs : n < 128
    · rw [encN_small hs]; simp
    · rw [encN_big hs]
      have := ih (n / 128) (by rw [Nat.pow_succ] at h; exact (Nat.div_lt_iff_lt_mul (by omega)).2 h)
      simp; omega
theorem encN_len {n : Nat} (h : n < 9223372036854775808) : (encN n).length ≤ 9 := encN_le 8 n (by simpa using h)
theorem u8_nat {n : Nat} (h : n < 256) : (UInt8.ofNat n).toNat = n := by simp [Nat.mod_eq_of_lt h]

/-- What is read of bytes as a number: the number, how many bytes it has, the error. -/
def scanN (limit : Nat) : Nat → List UInt8 → Nat → Nat → Nat × Nat × Nat
  | 0, _, _, _ => (0, 0, 11)
  | _ + 1, [], _, _ => (0, 0, 14)
  | f + 1, b :: r, k, n =>
    if 128 ≤ b.toNat then scanN limit f r (k + 1) (n + b.toNat % 128 * 128 ^ k)
    else if b.toNat = 0 ∧ 0 < k then (0, 0, 11)
    else if limit < n + b.toNat % 128 * 128 ^ k then (0, 0, 10)
    else (n + b.toNat % 128 * 128 ^ k, k + 1, 0)
def readN (bs : List UInt8) (limit : Nat) : Nat × Nat × Nat := scanN limit 9 bs 0 0

/-- What a reading may be. -/
def Fair (limit len : Nat) (r : Nat × Nat × Nat) : Prop := (r.2.2 = 0 ∧ 1 ≤ r.2.1 ∧ r.2.1 ≤ len ∧ r.1 ≤ limit) ∨ (r.1 = 0 ∧ r.2.1 = 0 ∧ (r.2.2 = 10 ∨ r.2.2 = 11 ∨ r.2.2 = 14))
theorem scan_fair (limit : Nat) : ∀ f (bs : List UInt8) k n, Fair limit (k + bs.length) (scanN limit f bs k n) := by
  intro f
  induction f with
  | zero => intro bs k n; exact Or.inr ⟨rfl, rfl, by simp [scanN]⟩
  | succ f ih =>
    intro bs k n
    cases bs with
    | nil => exact Or.inr ⟨rfl, rfl, by simp [scanN]⟩
    | cons b r =>
      rw [scanN]
      split
      · have := ih r (k + 1) (n + b.toNat % 128 * 128 ^ k)
        rw [show k + (b :: r).length = k + 1 + r.length by simp; omega]; exact this
      · split
        · exact Or.inr ⟨rfl, rfl, by simp⟩
        · split
          · exact Or.inr ⟨rfl, rfl, by simp⟩
          · rename_i h
            exact Or.inl ⟨rfl, by simp, by simp, Nat.not_lt.1 h⟩
theorem read_fair (bs : List UInt8) (limit : Nat) : Fair limit bs.length (readN bs limit) := by
  have := scan_fair limit 9 bs 0 0
  rwa [Nat.zero_add] at this

theorem mod_div_pow (m k : Nat) : m % 128 * 128 ^ k + m / 128 * 128 ^ (k + 1) = m * 128 ^ k := by
  rw [Nat.pow_succ, Nat.mul_comm (128 ^ k) 128, ← Nat.mul_assoc, ← Nat.add_mul]
  congr 1; omega

/-- A number that was written is read again. -/
theorem scan_enc (limit : Nat) (rest : List UInt8) : ∀ f m k n, m < 128 ^ (f + 1) → (0 < m ∨ k = 0) → n + m * 128 ^ k ≤ limit →
    scanN limit (f + 1) (encN m ++ rest) k n = (n + m * 128 ^ k, k + (encN m).length, 0) := by
  intro f
  induction f with
  | zero =>
    intro m k n h hp hl
    have h' : m < 128 := by simpa using h
    rw [encN_small h', List.cons_append, scanN, u8_nat (by omega), if_neg (by omega), if_neg (by omega), Nat.mod_eq_of_lt h', if_neg (by omega)]
    rfl
  | succ f ih =>
    intro m k n h hp hl
    by_cases hs : m < 128
    · rw [encN_small hs, List.cons_append, scanN, u8_nat (by omega), if_neg (by omega), if_neg (by omega), Nat.mod_eq_of_lt hs, if_neg (by omega)]
      rfl
    · have e := mod_div_pow m k
      rw [encN_big hs, List.cons_append, scanN, u8_nat (by omega), if_pos (by omega), show (m % 128 + 128) % 128 = m % 128 by omega,
        ih (m / 128) (k + 1) _ (by rw [Nat.pow_succ] at h; exact (Nat.div_lt_iff_lt_mul (by omega)).2 h) (Or.inl (by omega)) (by omega)]
      rw [List.length_cons]
      have e1 : n + m % 128 * 128 ^ k + m / 128 * 128 ^ (k + 1) = n + m * 128 ^ k := by omega
      rw [e1, show k + 1 + (encN (m / 128)).length = k + ((encN (m / 128)).length + 1) by omega]
theorem read_enc {m limit : Nat} (h : m < 9223372036854775808) (hl : m ≤ limit) (rest : List UInt8) : readN (encN m ++ rest) limit = (m, (encN m).length, 0) := by
  have := scan_enc limit rest 8 m 0 0 (by simpa using h) (Or.inr rfl) (by simpa using hl)
  simpa [readN] using this

/-- Of a number that is cut off ErrShort is told. -/
theorem scan_cut (limit : Nat) : ∀ f m c k n, m < 128 ^ (f + 1) → c < (encN m).length → scanN limit (f + 1) ((encN m).take c) k n = (0, 0, 14) := by
  intro f
  induction f with
  | zero =>
    intro m c k n h hc
    rw [encN_small (by simpa using h)] at hc ⊢
    have : c = 0 := by simpa using hc
    subst this
    simp [scanN]
  | succ f ih =>
    intro m c k n h hc
    cases c with
    | zero => simp [scanN]
    | succ c =>
      by_cases hs : m < 128
      · rw [encN_small hs] at hc; simp at hc
      · rw [encN_big hs] at hc ⊢
        rw [List.take_succ_cons, scanN, u8_nat (by omega), if_pos (by omega)]
        exact ih _ c _ _ (by rw [Nat.pow_succ] at h; exact (Nat.div_lt_iff_lt_mul (by omega)).2 h) (by simpa using hc)
theorem read_cut {m limit c : Nat} (h : m < 9223372036854775808) (hc : c < (encN m).length) : readN ((encN m).take c) limit = (0, 0, 14) :=
  scan_cut limit 8 m c 0 0 (by simpa using h) hc

/-- What is read of bytes as a text. -/
def readT (bs : List UInt8) (limit : Nat) : List UInt8 × Nat × Nat :=
  if (readN bs limit).2.2 ≠ 0 then ([], 0, (readN bs limit).2.2)
  else if bs.length - (readN bs limit).2.1 < (readN bs limit).1 then ([], 0, 14)
  else ((bs.drop (readN bs limit).2.1).take (readN bs limit).1, (readN bs limit).2.1 + (readN bs limit).1, 0)
def encT (s : List UInt8) : List UInt8 := encN s.length ++ s
theorem readT_enc {s : List UInt8} {limit : Nat} (h : s.length < 9223372036854775808) (hl : s.length ≤ limit) (rest : List UInt8) : readT (encT s ++ rest) limit = (s, (encT s).length, 0) := by
  have e : readN (encT s ++ rest) limit = (s.length, (encN s.length).length, 0) := by rw [encT, List.append_assoc]; exact read_enc h hl _
  unfold readT
  rw [e]
  simp only [ne_eq, not_true_eq_false, if_false]
  rw [if_neg (by simp [encT])]
  simp [encT]
theorem readT_cut {s : List UInt8} {limit c : Nat} (h : s.length < 9223372036854775808) (hl : s.length ≤ limit) (hc : c < (encT s).length) : readT ((encT s).take c) limit = ([], 0, 14) := by
  unfold readT
  by_cases h1 : c < (encN s.length).length
  · have e : (encT s).take c = (encN s.length).take c := by rw [encT, List.take_append_of_le_length (by omega)]
    rw [e, read_cut h h1]; simp
  · have e : (encT s).take c = encN s.length ++ s.take (c - (encN s.length).length) := by
      rw [encT, List.take_append, List.take_of_length_le (by omega)]
    rw [e, read_enc h hl]
    simp only [ne_eq, not_true_eq_false, if_false]
    have : c < (encN s.length).length + s.length := by simpa [encT] using hc
    rw [if_pos (by simp; omega)]
theorem readT_fair (bs : List UInt8) (limit : Nat) : ((readT bs limit).2.2 = 0 ∧ (readT bs limit).2.1 ≤ bs.length ∧ (readT bs limit).1.length ≤ bs.length) ∨ ((readT bs limit).1 = [] ∧ (readT bs limit).2.1 = 0 ∧ (readT bs limit).2.2 ≠ 0) := by
  have hf := read_fair bs limit
  unfold readT
  split
  · rename_i h; exact Or.inr ⟨rfl, rfl, h⟩
  · rename_i h
    split
    · exact Or.inr ⟨rfl, rfl, by simp⟩
    · rename_i h2
      rcases hf with ⟨h0, h1, h3, h4⟩ | ⟨_, _, h3⟩
      · exact Or.inl ⟨rfl, by simp; omega, by simp; omega⟩
      · omega

end Go.Proofs.YtjkdcpalgfakhaaGreat
/-
  How bytes lie in memory, what a call leaves as it was, and how a writer and a reader of bytes lie in memory. No conditions beyond what each theorem states.
-/
namespace Go.Proofs.YtjkdcpalgfakhaaGreat
open Go.ChangeShapes Go.WideShapes Go.ChangeAt Go.RowKit Go.Lib
set_option linter.unusedVariables false
set_option linter.unusedSimpArgs false

theorem infoB : (Tryz.prog.info? 5).map (fun i => (i.zero, i.size, i.bytes)) = some (some (.int .u8 0), 1, 1) := by kernel_rfl

/-- The byte at a place. -/
def atB (bs : List UInt8) (i : Nat) : Int := ((bs.getD i 0).toNat : Int)
theorem atB_range (bs : List UInt8) (i : Nat) : 0 ≤ atB bs i ∧ atB bs i < 256 := by
  have := (bs.getD i 0).toNat_lt
  unfold atB; omega
theorem atB_get {bs : List UInt8} {i : Nat} (h : i < bs.length) : (byteCells bs)[i]? = some (.int .u8 (atB bs i)) := by simp [byteCells, atB, h]
theorem atB_drop (bs : List UInt8) (k i : Nat) : atB (bs.drop k) i = atB bs (k + i) := by simp [atB, List.getElem?_drop]
theorem atB_take {bs : List UInt8} {k i : Nat} (h : i < k) : atB (bs.take k) i = atB bs i := by simp [atB, List.getElem?_take, h]
theorem drop_atB {bs : List UInt8} {k : Nat} (h : k < bs.length) : bs.drop k = bs.getD k 0 :: bs.drop (k + 1) := by
  rw [List.drop_eq_getElem_cons h]; simp [h]

/-- Bytes that lie behind an address. -/
def BRow (w : World) (p : Option Addr) (bs : List UInt8) : Prop :=
  ∀ i, i < bs.length → ∃ b o, p = some ⟨b, o, none⟩ ∧ w.cell? ⟨b, o + i, none⟩ = some (.int .u8 (atB bs i))
theorem BRow.below {w w' : World} {p : Option Addr} {bs : List UInt8} (h : BRow w p bs) (hb : Below w.heap.size w w') : BRow w' p bs := fun i hi => by
  obtain ⟨b, o, e, h1⟩ := h i hi
  exact ⟨b, o, e, by rw [hb.cell (block_lt_of_cell h1)]; exact h1⟩
theorem BRow.nil (w : World) (p : Option Addr) : BRow w p [] := fun i hi => by simp at hi
theorem below_step {w w' w'' : World} (h : Below w.heap.size w w') (k : Below w'.heap.size w' w'') : Below w.heap.size w w'' := h.trans (k.mono h.size)
theorem below_alloc {w W : World} (h : Below w.heap.size w W) (o : Obj) : Below w.heap.size w (W.alloc o) := h.alloc h.size o

/-- All blocks are as they were, but those in S; new ones may have come. -/
structure Kept (S : Nat → Prop) (w w' : World) : Prop where
  os : w'.os = w.os
  tape : w'.tape = w.tape
  output : w'.output = w.output
  size : w.heap.size ≤ w'.heap.size
  block : ∀ k, k < w.heap.size → ¬ S k → w'.heap[k]? = w.heap[k]?
theorem Kept.refl (S : Nat → Prop) (w : World) : Kept S w w := ⟨rfl, rfl, rfl, Nat.le_refl _, fun _ _ _ => rfl⟩
theorem Kept.trans {S T : Nat → Prop} {a b c : World} (h : Kept S a b) (k : Kept T b c) (hT : ∀ i, i < a.heap.size → T i → S i) : Kept S a c :=
  ⟨k.os.trans h.os, k.tape.trans h.tape, k.output.trans h.output, Nat.le_trans h.size k.size, fun i hi hn => (k.block i (Nat.lt_of_lt_of_le hi h.size) (fun t => hn (hT i hi t))).trans (h.block i hi hn)⟩
theorem Kept.mono {S T : Nat → Prop} {a b : World} (h : Kept S a b) (hT : ∀ i, i < a.heap.size → S i → T i) : Kept T a b := ⟨h.os, h.tape, h.output, h.size, fun i hi hn => h.block i hi (fun s => hn (hT i hi s))⟩
theorem Kept.ofBelow {S : Nat → Prop} {a b : World} (h : Below a.heap.size a b) : Kept S a b := ⟨h.os, h.tape, h.output, h.size, fun i hi _ => h.block i hi⟩
theorem Kept.ofGrown {S : Nat → Prop} {a b : World} {r : Option Nat} (h : a.grownBy b r) (hr : ∀ k, r = some k → S k) : Kept S a b := ⟨h.os, h.tape, h.output, h.size, fun i hi hn => h.block i hi (fun e => hn (hr i e.symm))⟩
theorem Kept.set {S : Nat → Prop} {a b : World} (h : Kept S a b) {K o : Nat} (hK : S K) (u : Value) : Kept S a (b.setCell ⟨K, o, none⟩ u) :=
  h.trans (T := fun i => i = K) ⟨rfl, rfl, rfl, by simp [World.setCell], fun k _ hn => Below.heap_setCell _ _ _ _ hn⟩ (fun i _ e => by subst e; exact hK)
theorem Kept.alloc {S : Nat → Prop} {a b : World} (h : Kept S a b) (o : Obj) : Kept S a (b.alloc o) := h.trans (T := fun _ => False) (.ofBelow (below_alloc (Below.refl _ _) o)) (fun _ _ f => f.elim)
theorem Kept.below {S : Nat → Prop} {B : Nat} {a b : World} (h : Kept S a b) (hB : B ≤ a.heap.size) (hS : ∀ k, S k → B ≤ k) : Below B a b := ⟨h.os, h.tape, h.output, h.size, fun k hk => h.block k (by omega) (fun s => by have := hS k s; omega)⟩
theorem Kept.stays {S : Nat → Prop} {a b : World} (h : Kept S a b) {k : Nat} {o : Obj} (ho : a.heap[k]? = some o) (hn : ¬ S k) : b.heap[k]? = some o := by
  rw [h.block k (Array.getElem?_eq_some_iff.1 ho).1 hn]; exact ho
theorem Kept.row {S : Nat → Prop} {a b : World} (h : Kept S a b) {B n : Nat} {e : TypeId} {v : Value} {xs : List Value} (ho : a.ownsRow B e 1 v n xs) (hn : ∀ k, v.ownBlock = some k → ¬ S k) : b.ownsRow B e 1 v n xs := by
  refine ⟨ho.1, ?_⟩
  rcases ho.2 with hv | ⟨g, cap, cur, rfl, hb, hgg, rest⟩
  · exact .inl hv
  · exact .inr ⟨g, cap, cur, rfl, hb, h.stays hgg (hn g rfl), rest⟩
theorem Kept.brow {S : Nat → Prop} {a b : World} (h : Kept S a b) {p : Option Addr} {bs : List UInt8} (ho : BRow a p bs) (hn : ∀ q, p = some q → ¬ S q.block) : BRow b p bs := fun i hi => by
  obtain ⟨k, o, e, h1⟩ := ho i hi
  refine ⟨k, o, e, ?_⟩
  rw [World.cell?_of_block (w := a) (h.block k (block_lt_of_cell h1) (hn _ e))]; exact h1
theorem cell_of_block {w : World} {K o : Nat} {cs : Array Value} {t : TypeId} {f : Nat × Nat} (h : w.heap[K]? = some (.cells cs t f)) : w.cell? ⟨K, o, none⟩ = cs[o]? := by simp [World.cell?, h]
theorem frozen_of_block {w : World} {K o : Nat} {cs : Array Value} {t : TypeId} (h : w.heap[K]? = some (.cells cs t (0, 0))) : w.frozen? ⟨K, o, none⟩ = false := by simp [World.frozen?, h]
theorem lt_of_block {w : World} {K : Nat} {o : Obj} (h : w.heap[K]? = some o) : K < w.heap.size := (Array.getElem?_eq_some_iff.1 h).1

/-- Bytes of a block that holds just them. -/
theorem brow_block {w : World} {D : Nat} {bs : List UInt8} {t : TypeId} {f : Nat × Nat} (h : w.heap[D]? = some (.cells (byteCells bs).toArray t f)) : BRow w (some ⟨D, 0, none⟩) bs := fun i hi =>
  ⟨D, 0, rfl, by rw [cell_of_block h, Nat.zero_add]; simpa using atB_get hi⟩
theorem brow_owns {w : World} {B n : Nat} {v : Value} {e : TypeId} {bs : List UInt8} (h : w.ownsRow B e 1 v n (byteCells bs)) : ∃ p c, v = .slice p bs.length c ∧ n = bs.length ∧ BRow w p bs ∧ ∀ q, p = some q → v.ownBlock = some q.block := by
  have hn : n = bs.length := by have := h.1; rw [byteCells_length] at this; omega
  subst hn
  rcases h.2 with ⟨hv, h0⟩ | ⟨g, cap, cur, rfl, hb, hh, h1, h2, h3, h4⟩
  · exact ⟨none, 0, by rw [hv, h0], rfl, fun i hi => by omega, by intro q hq; cases hq⟩
  · refine ⟨_, cap, rfl, rfl, fun i hi => ⟨g, 0, rfl, ?_⟩, by intro q hq; cases hq; rfl⟩
    rw [h.cellAt (0 + i) (by omega), Nat.zero_add]; exact atB_get hi
theorem owns_slice {w : World} {B n s : Nat} {v : Value} {e : TypeId} {xs : List Value} (h : w.ownsRow B e s v n xs) : ∃ p c, v = .slice p n c := by
  rcases h.2 with ⟨hv, h0⟩ | ⟨g, cap, cur, rfl, _⟩
  · exact ⟨none, 0, by rw [hv, h0]⟩
  · exact ⟨_, cap, rfl⟩
theorem brow_news {w : World} {a : Addr} {bs : List UInt8} (h : BRow w (some a) bs) : ∀ j u, (byteCells bs)[j]? = some u → w.cell? (a.add j) = some u := by
  intro j u hj
  have hlt : j < bs.length := by have := (List.getElem?_eq_some_iff.1 hj).1; rwa [byteCells_length] at this
  obtain ⟨b, o, e, hc⟩ := h j hlt
  cases e
  rw [atB_get hlt] at hj
  cases hj
  rw [Addr.add_lit]; exact hc

/-- A scope with one label to which the run jumps back: at the label J holds, the first time too. -/
theorem wp_scope_loop {P : Program} {a : Act} {w : World} {Q : Exit → Act → World → Prop} {c rest : Code} (l : Nat) (J : Act → World → Prop) (m : Act → World → Nat) (hf : findLabel c l = some (Code.skip.seq rest))
    (first : (∀ a w, J a w → rest.wp P (Exit.jump l J Q) a w) → c.wp P (Exit.jump l J Q) a w)
    (pass : ∀ a w, J a w → rest.wp P (Exit.jump l (fun a' w' => J a' w' ∧ m a' w' < m a w) Q) a w) : (Code.scope c).wp P Q a w :=
  wp_scope_jumps l J m hf (first fun a w h => Code.wp_mono (fun e a' w' h' => by cases e <;> first | exact h' | exact ⟨h'.1, h'.2.1⟩) (pass a w h)) fun a w h => wp_seq (wp_skip (pass a w h))
def natOf : Value → Nat | .int _ q => q.toNat | _ => 0

end Go.Proofs.YtjkdcpalgfakhaaGreat
/-
  How things of one kind, so many cells each, lie behind an address: rows that come in, and rows that a call has made. Of no program; no conditions beyond what each theorem states.
-/
namespace Go.Proofs.YtjkdcpalgfakhaaGreat
open Go.ChangeShapes Go.WideShapes Go.ChangeAt Go.RowKit Go.Lib
set_option linter.unusedVariables false
set_option linter.unusedSimpArgs false

/-- A kind of things: how many cells one takes, and what they hold. -/
structure Lay (α : Type) where
  k : Nat
  enc : α → List Value
  len : ∀ x, (enc x).length = k
  one : ∀ x, ∀ u ∈ enc x, u.oneCell' = true
def Lay.flat {α : Type} (L : Lay α) (xs : List α) : List Value := xs.flatMap L.enc
theorem Lay.flat_nil {α : Type} (L : Lay α) : L.flat [] = [] := rfl
theorem Lay.flat_cons {α : Type} (L : Lay α) (x : α) (xs : List α) : L.flat (x :: xs) = L.enc x ++ L.flat xs := by simp [Lay.flat]
theorem Lay.flat_append {α : Type} (L : Lay α) (xs ys : List α) : L.flat (xs ++ ys) = L.flat xs ++ L.flat ys := by simp [Lay.flat]
theorem Lay.flat_one {α : Type} (L : Lay α) (x : α) : L.flat [x] = L.enc x := by simp [Lay.flat]
theorem Lay.flat_length {α : Type} (L : Lay α) (xs : List α) : (L.flat xs).length = xs.length * L.k := by
  induction xs with
  | nil => simp [Lay.flat]
  | cons x xs ih => rw [L.flat_cons, List.length_append, ih, L.len, List.length_cons, Nat.add_mul, Nat.one_mul, Nat.add_comm]
theorem Lay.flat_one' {α : Type} (L : Lay α) (xs : List α) : ∀ u ∈ L.flat xs, u.oneCell' = true := by
  intro u hu
  obtain ⟨x, _, hx⟩ := List.mem_flatMap.1 hu
  exact L.one x u hx
theorem Lay.flat_at {α : Type} (L : Lay α) (d : α) : ∀ (xs : List α) (i j : Nat), i < xs.length → j < L.k → (L.flat xs)[i * L.k + j]? = (L.enc (xs.getD i d))[j]? := by
  intro xs
  induction xs with
  | nil => intro i j h; simp at h
  | cons x xs ih =>
    intro i j hi hj
    have hl := L.len x
    cases i with
    | zero => rw [L.flat_cons, Nat.zero_mul, Nat.zero_add, List.getElem?_append_left (by omega)]; simp
    | succ i =>
      rw [L.flat_cons, List.getElem?_append_right (by rw [hl, Nat.add_mul]; omega), hl, show (i + 1) * L.k + j - L.k = i * L.k + j by rw [Nat.add_mul]; omega, ih i j (by simpa using hi) hj]
      simp
theorem flat_take {α : Type} (L : Lay α) (d : α) {xs : List α} {i : Nat} (h : i < xs.length) : L.flat (xs.take (i + 1)) = L.flat (xs.take i) ++ L.enc (xs.getD i d) := by
  rw [List.take_add_one, L.flat_append, List.getElem?_eq_getElem h, List.getD_eq_getElem?_getD, List.getElem?_eq_getElem h]
  simp [L.flat_one]
theorem take_getD {α : Type} (d : α) {xs : List α} {i : Nat} (h : i < xs.length) : xs.take (i + 1) = xs.take i ++ [xs.getD i d] := by
  rw [List.take_add_one, List.getElem?_eq_getElem h, List.getD_eq_getElem?_getD, List.getElem?_eq_getElem h]
  simp
theorem getD_mem {α : Type} (d : α) {xs : List α} {i : Nat} (h : i < xs.length) : xs.getD i d ∈ xs := by
  rw [List.getD_eq_getElem?_getD, List.getElem?_eq_getElem h]; exact List.getElem_mem h
theorem mem_getD {α : Type} (d : α) {xs : List α} {x : α} (h : x ∈ xs) : ∃ i, i < xs.length ∧ xs.getD i d = x := by
  obtain ⟨i, hi, e⟩ := List.getElem_of_mem h
  exact ⟨i, hi, by simp [hi, e]⟩
theorem ext_getD {α : Type} (d : α) {xs ys : List α} (h : xs.length = ys.length) (ha : ∀ i, i < xs.length → xs.getD i d = ys.getD i d) : xs = ys := by
  apply List.ext_getElem h
  intro i h1 h2
  have := ha i h1
  simpa [h1, h2] using this

/-- Things that lie behind an address. -/
def GRow {α : Type} (L : Lay α) (w : World) (p : Option Addr) (xs : List α) : Prop := ∀ m u, (L.flat xs)[m]? = some u → ∃ b o, p = some ⟨b, o, none⟩ ∧ w.cell? ⟨b, o + m, none⟩ = some u
theorem GRow.nil {α : Type} (L : Lay α) (w : World) (p : Option Addr) : GRow L w p [] := fun m u h => by simp [Lay.flat] at h
theorem GRow.below {α : Type} {L : Lay α} {w w' : World} {p : Option Addr} {xs : List α} (h : GRow L w p xs) (hb : Below w.heap.size w w') : GRow L w' p xs := fun m u hm => by
  obtain ⟨b, o, e, h1⟩ := h m u hm
  exact ⟨b, o, e, by rw [hb.cell (block_lt_of_cell h1)]; exact h1⟩
theorem GRow.alloc {α : Type} {L : Lay α} {w : World} {p : Option Addr} {xs : List α} (h : GRow L w p xs) (o : Obj) : GRow L (w.alloc o) p xs := h.below (below_alloc (Below.refl _ _) o)
theorem GRow.kept {α : Type} {L : Lay α} {S : Nat → Prop} {a b : World} {p : Option Addr} {xs : List α} (h : GRow L a p xs) (hk : Kept S a b) (hn : ∀ q, p = some q → ¬ S q.block) : GRow L b p xs := fun m u hm => by
  obtain ⟨k, o, e, h1⟩ := h m u hm
  refine ⟨k, o, e, ?_⟩
  rw [World.cell?_of_block (w := a) (hk.block k (block_lt_of_cell h1) (hn _ e))]; exact h1
/-- One cell of one thing. -/
theorem GRow.cell {α : Type} {L : Lay α} {w : World} {p : Option Addr} {xs : List α} (h : GRow L w p xs) (d : α) {i j : Nat} (hi : i < xs.length) {u : Value} (hu : (L.enc (xs.getD i d))[j]? = some u) : ∃ b o, p = some ⟨b, o, none⟩ ∧ w.cell? ⟨b, o + (i * L.k + j), none⟩ = some u := by
  have hj : j < L.k := by have := (List.getElem?_eq_some_iff.1 hu).1; rwa [L.len] at this
  exact h _ _ (by rw [L.flat_at d xs i j hi hj]; exact hu)
theorem GRow.take {α : Type} {L : Lay α} {w : World} {p : Option Addr} {xs : List α} (h : GRow L w p xs) (n : Nat) : GRow L w p (xs.take n) := fun m u hm => by
  apply h
  have e : L.flat xs = L.flat (xs.take n) ++ L.flat (xs.drop n) := by rw [← L.flat_append, List.take_append_drop]
  rw [e, List.getElem?_append_left (List.getElem?_eq_some_iff.1 hm).1]; exact hm
theorem GRow.drop {α : Type} {L : Lay α} {w : World} {a : Addr} {xs : List α} (h : GRow L w (some a) xs) {n : Nat} (hn : n ≤ xs.length) : GRow L w (some (a.add (n * L.k))) (xs.drop n) := fun m u hm => by
  have e : L.flat xs = L.flat (xs.take n) ++ L.flat (xs.drop n) := by rw [← L.flat_append, List.take_append_drop]
  have hl : (L.flat (xs.take n)).length = n * L.k := by rw [L.flat_length, List.length_take, Nat.min_eq_left hn]
  obtain ⟨b, o, ea, h1⟩ := h (n * L.k + m) u (by rw [e, List.getElem?_append_right (by omega), hl, show n * L.k + m - n * L.k = m by omega]; exact hm)
  cases ea
  exact ⟨b, o + n * L.k, by rw [Addr.add_lit], by rw [Nat.add_assoc]; exact h1⟩
theorem GRow.news {α : Type} {L : Lay α} {w : World} {a : Addr} {xs : List α} (h : GRow L w (some a) xs) : ∀ j u, (L.flat xs)[j]? = some u → w.cell? (a.add j) = some u := by
  intro j u hj
  obtain ⟨b, o, e, hc⟩ := h j u hj
  cases e
  rw [Addr.add_lit]; exact hc
theorem GRow.none_nil {α : Type} {L : Lay α} {w : World} {p : Option Addr} {xs : List α} (hk : 0 < L.k) (h : GRow L w p xs) (hp : p = none) : xs = [] := by
  cases xs with
  | nil => rfl
  | cons x xs =>
    have hlen : (L.flat (x :: xs)).length = (xs.length + 1) * L.k := L.flat_length _
    have hpos : 0 < (xs.length + 1) * L.k := Nat.mul_pos (by omega) hk
    have h0 : (L.flat (x :: xs))[0]? = some ((L.flat (x :: xs))[0]'(by omega)) := List.getElem?_eq_getElem (by omega)
    obtain ⟨b, o, e, _⟩ := h 0 _ h0
    rw [hp] at e; cases e
/-- A block that holds just these. -/
theorem grow_block {α : Type} {L : Lay α} {w : World} {B : Nat} {xs : List α} {t : TypeId} {f : Nat × Nat} (h : w.heap[B]? = some (.cells (L.flat xs).toArray t f)) : GRow L w (some ⟨B, 0, none⟩) xs := fun m u hm =>
  ⟨B, 0, rfl, by rw [cell_of_block h, Nat.zero_add]; simpa using hm⟩
/-- What a call's own row holds, read. -/
theorem grow_owns {α : Type} {L : Lay α} (hk : 0 < L.k) {w : World} {base n : Nat} {e : TypeId} {v : Value} {xs : List α} (h : w.ownsRow base e L.k v n (L.flat xs)) : ∃ p c, v = .slice p xs.length c ∧ n = xs.length ∧ GRow L w p xs ∧ xs.length ≤ c ∧ (p = none → c = 0) := by
  have hn : n = xs.length := by
    have := h.1
    rw [L.flat_length] at this
    exact (Nat.eq_of_mul_eq_mul_right hk this).symm
  subst hn
  rcases h.2 with ⟨hv, h0⟩ | ⟨g, cap, cur, rfl, hb, hh, h1, h2, h3, h4⟩
  · exact ⟨none, 0, by rw [hv, h0], rfl, (by rw [List.eq_nil_of_length_eq_zero h0]; exact GRow.nil _ _ _), by omega, fun _ => rfl⟩
  · refine ⟨_, cap, rfl, rfl, fun m u hm => ⟨g, 0, rfl, ?_⟩, h1, by intro h; cases h⟩
    have hlt := (List.getElem?_eq_some_iff.1 hm).1
    rw [L.flat_length] at hlt
    rw [h.cellAt (0 + m) (by omega), Nat.zero_add]; exact hm

/-- What the call holds so far: its own row, and all below as it was. -/
def Hold {α : Type} (L : Lay α) (w : World) (e : TypeId) (v : Value) (xs : List α) (wr : World) : Prop := wr.ownsRow w.heap.size e L.k v xs.length (L.flat xs) ∧ Below w.heap.size w wr
theorem Hold.nil {α : Type} (L : Lay α) (w : World) (e : TypeId) : Hold L w e (.slice none 0 0) [] w := ⟨World.ownsRow_nil w w.heap.size e L.k, Below.refl _ _⟩
theorem Hold.alloc {α : Type} {L : Lay α} {w wr : World} {e : TypeId} {v : Value} {xs : List α} (h : Hold L w e v xs wr) (o : Obj) : Hold L w e v xs (wr.alloc o) := ⟨h.1.alloc o, below_alloc h.2 o⟩
theorem Hold.drewN {α : Type} {L : Lay α} {w wr : World} {e : TypeId} {v : Value} {xs : List α} (h : Hold L w e v xs wr) (n : Nat) : Hold L w e v xs (wr.drewN n) := ⟨h.1, below_drewN h.2 n⟩
theorem Hold.below {α : Type} {L : Lay α} {w wr w1 : World} {e : TypeId} {v : Value} {xs : List α} (h : Hold L w e v xs wr) (hb : Below wr.heap.size wr w1) : Hold L w e v xs w1 :=
  ⟨h.1.kept (row := none) ⟨hb.os, hb.tape, hb.output, hb.size, fun k hk _ => hb.block k hk⟩ (by cases v.ownBlock <;> simp), below_step h.2 hb⟩
theorem Hold.onto {α : Type} {L : Lay α} {w wr w1 : World} {e : TypeId} {v v' : Value} {xs ys : List α} {n : Nat} {cs : List Value} (h : Hold L w e v xs wr) (hcs : cs = L.flat ys) (hn : n = xs.length + ys.length) (hown : w1.ownsRow w.heap.size e L.k v' n (L.flat xs ++ cs)) (hg : wr.grownBy w1 v.ownBlock) : Hold L w e v' (xs ++ ys) w1 :=
  ⟨by rw [L.flat_append, List.length_append, ← hn, ← hcs]; exact hown, h.2.grown hg h.2.size (fun j hj => (h.1.lt j hj).1)⟩
theorem Hold.gave {α : Type} {L : Lay α} (hk : 0 < L.k) {w wr : World} {e : TypeId} {v : Value} {xs : List α} (h : Hold L w e v xs wr) : ∃ p c, v = .slice p xs.length c ∧ GRow L wr p xs ∧ xs.length ≤ c ∧ (p = none → c = 0) := by
  obtain ⟨p, c, h1, -, h2, h3, h4⟩ := grow_owns hk h.1
  exact ⟨p, c, h1, h2, h3, h4⟩
/-- A slice that a call tells, holding these, and all below as it was. -/
def Gave {α : Type} (L : Lay α) (w : World) (xs : List α) (e : Ending) (w' : World) : Prop := ∃ p c, e = .returned (.slice p xs.length c) ∧ GRow L w' p xs ∧ xs.length ≤ c ∧ (p = none → c = 0) ∧ Below w.heap.size w w'
/-- .. and its memory is the call's own. -/
def Made {α : Type} (L : Lay α) (t : TypeId) (w : World) (xs : List α) (e : Ending) (w' : World) : Prop := ∃ v, e = .returned v ∧ Hold L w t v xs w'
theorem Made.gave {α : Type} {L : Lay α} (hk : 0 < L.k) {t : TypeId} {w w' : World} {xs : List α} {e : Ending} (h : Made L t w xs e w') : Gave L w xs e w' := by
  obtain ⟨v, rfl, hh⟩ := h
  obtain ⟨p, c, rfl, h1, h2, h3⟩ := hh.gave hk
  exact ⟨p, c, rfl, h1, h2, h3, hh.2⟩
theorem cellU {w w' : World} {a : Addr} {v : Value} (h : w.cell? a = some v) (hb : Below w.heap.size w w') : w'.cell? a = some v := by rw [hb.cell (block_lt_of_cell h)]; exact h
/-- A new block, read. -/
theorem cells_new {W : World} {cs : List Value} {t : TypeId} : ∀ j u, cs[j]? = some u → (W.alloc (.cells cs.toArray t)).cell? ((⟨W.heap.size, 0, none⟩ : Addr).add j) = some u := by
  intro j u hj
  rw [Addr.add_lit, Nat.zero_add, cell_of_block (heap_alloc_new W _)]
  simpa using hj

end Go.Proofs.YtjkdcpalgfakhaaGreat
/-
  Names and spans of names as plain lists. Of no program; no conditions beyond what each theorem states.
-/
namespace Go.Proofs.YtjkdcpalgfakhaaGreat
open Go.ChangeShapes Go.WideShapes Go.ChangeAt Go.RowKit Go.Lib
set_option linter.unusedVariables false
set_option linter.unusedSimpArgs false

/-- A name: its replica and its number. A span: its first name, and how many. -/
abbrev Nm := Int × Int
abbrev Sp := Int × Int × Int
def n0 : Nm := (0, 0)
def s0 : Sp := (0, 0, 0)
def layI : Lay Nm := ⟨2, fun x => [.int .u16 x.1, .int .u32 x.2], fun _ => rfl, fun x u hu => by simp at hu; rcases hu with rfl | rfl <;> rfl⟩
def layS : Lay Sp := ⟨3, fun x => [.int .u16 x.1, .int .u32 x.2.1, .int .i64 x.2.2], fun _ => rfl, fun x u hu => by simp at hu; rcases hu with rfl | rfl | rfl <;> rfl⟩
theorem layI_enc (x : Nm) : layI.enc x = [.int .u16 x.1, .int .u32 x.2] := rfl
theorem layS_enc (x : Sp) : layS.enc x = [.int .u16 x.1, .int .u32 x.2.1, .int .i64 x.2.2] := rfl
theorem layI_pos : 0 < layI.k := by decide
theorem layS_pos : 0 < layS.k := by decide
theorem irow_at {w : World} {p : Option Addr} {xs : List Nm} (h : GRow layI w p xs) {i : Nat} (hi : i < xs.length) : ∃ b o, p = some ⟨b, o, none⟩ ∧ w.cell? ⟨b, o + i * 2, none⟩ = some (.int .u16 (xs.getD i n0).1) ∧ w.cell? ⟨b, o + i * 2 + 1, none⟩ = some (.int .u32 (xs.getD i n0).2) := by
  obtain ⟨b, o, e, h0⟩ := h.cell n0 hi (j := 0) rfl
  obtain ⟨b1, o1, e1, h1⟩ := h.cell n0 hi (j := 1) rfl
  rw [e] at e1
  cases e1
  exact ⟨b, o, e, h0, h1⟩
theorem srow_at {w : World} {p : Option Addr} {xs : List Sp} (h : GRow layS w p xs) {i : Nat} (hi : i < xs.length) : ∃ b o, p = some ⟨b, o, none⟩ ∧ w.cell? ⟨b, o + i * 3, none⟩ = some (.int .u16 (xs.getD i s0).1) ∧ w.cell? ⟨b, o + i * 3 + 1, none⟩ = some (.int .u32 (xs.getD i s0).2.1) ∧ w.cell? ⟨b, o + i * 3 + 2, none⟩ = some (.int .i64 (xs.getD i s0).2.2) := by
  obtain ⟨b, o, e, h0⟩ := h.cell s0 hi (j := 0) rfl
  obtain ⟨b1, o1, e1, h1⟩ := h.cell s0 hi (j := 1) rfl
  obtain ⟨b2, o2, e2, h2⟩ := h.cell s0 hi (j := 2) rfl
  rw [e] at e1 e2
  cases e1
  cases e2
  exact ⟨b, o, e, h0, h1, h2⟩

/-- Values that the kinds hold. -/
def FitN (x : Nm) : Prop := 0 ≤ x.1 ∧ x.1 ≤ 65535 ∧ 0 ≤ x.2 ∧ x.2 ≤ 4294967295
def FitS (x : Sp) : Prop := 0 ≤ x.1 ∧ x.1 ≤ 65535 ∧ 0 ≤ x.2.1 ∧ x.2.1 ≤ 4294967295 ∧ -9223372036854775808 ≤ x.2.2 ∧ x.2.2 ≤ 9223372036854775807
def FitNs (xs : List Nm) : Prop := ∀ x ∈ xs, FitN x
def FitSs (xs : List Sp) : Prop := ∀ x ∈ xs, FitS x
theorem FitNs.at {xs : List Nm} (h : FitNs xs) {i : Nat} (hi : i < xs.length) : FitN (xs.getD i n0) := h _ (getD_mem n0 hi)
theorem FitSs.at {xs : List Sp} (h : FitSs xs) {i : Nat} (hi : i < xs.length) : FitS (xs.getD i s0) := h _ (getD_mem s0 hi)

/-- Is it a span? -/
def rightS (s : Sp) : Bool := decide (1 ≤ s.2.1 ∧ 1 ≤ s.2.2 ∧ s.2.2 ≤ 1024 ∧ s.2.1 ≤ 268435456 ∧ s.2.1 + s.2.2 - 1 ≤ 268435456)
theorem rightS_iff {s : Sp} : rightS s = true ↔ 1 ≤ s.2.1 ∧ 1 ≤ s.2.2 ∧ s.2.2 ≤ 1024 ∧ s.2.1 ≤ 268435456 ∧ s.2.1 + s.2.2 - 1 ≤ 268435456 := by simp [rightS]
def RightS (xs : List Sp) : Prop := ∀ x ∈ xs, rightS x = true
theorem RightS.at {xs : List Sp} (h : RightS xs) {i : Nat} (hi : i < xs.length) : rightS (xs.getD i s0) = true := h _ (getD_mem s0 hi)
theorem RightS.take {xs : List Sp} (h : RightS xs) (n : Nat) : RightS (xs.take n) := fun x hx => h x (List.mem_of_mem_take hx)
/-- A name that an atom may have. -/
def rightN (x : Nm) : Bool := decide (1 ≤ x.2 ∧ x.2 ≤ 268435456)
def RightN (xs : List Nm) : Prop := ∀ x ∈ xs, rightN x = true
theorem rightN_iff {x : Nm} : rightN x = true ↔ 1 ≤ x.2 ∧ x.2 ≤ 268435456 := by simp [rightN]
theorem RightN.at {xs : List Nm} (h : RightN xs) {i : Nat} (hi : i < xs.length) : rightN (xs.getD i n0) = true := h _ (getD_mem n0 hi)

/-- The first so many names of a span, and all of spans. -/
def idsN (s : Sp) (k : Nat) : List Nm := (List.range k).map fun i : Nat => (s.1, s.2.1 + (i : Int))
def idsS (s : Sp) : List Nm := idsN s s.2.2.toNat
def idsL (l : List Sp) : List Nm := l.flatMap idsS
theorem idsN_succ (s : Sp) (k : Nat) : idsN s (k + 1) = idsN s k ++ [(s.1, s.2.1 + (k : Int))] := by simp [idsN, List.range_succ]
theorem idsN_length (s : Sp) (k : Nat) : (idsN s k).length = k := by simp [idsN]
theorem idsS_length (s : Sp) : (idsS s).length = s.2.2.toNat := idsN_length _ _
theorem idsL_append (a b : List Sp) : idsL (a ++ b) = idsL a ++ idsL b := by simp [idsL]
theorem idsL_cons (a : Sp) (b : List Sp) : idsL (a :: b) = idsS a ++ idsL b := by simp [idsL]
theorem idsL_one (a : Sp) : idsL [a] = idsS a := by simp [idsL]
theorem idsL_nil : idsL [] = [] := rfl
theorem idsL_take {l : List Sp} {i : Nat} (h : i < l.length) : idsL (l.take (i + 1)) = idsL (l.take i) ++ idsS (l.getD i s0) := by rw [take_getD s0 h, idsL_append, idsL_one]
theorem mem_idsS {s : Sp} {a : Nm} : a ∈ idsS s ↔ a.1 = s.1 ∧ s.2.1 ≤ a.2 ∧ a.2 < s.2.1 + (s.2.2.toNat : Int) := by
  unfold idsS idsN
  rw [List.mem_map]
  constructor
  · rintro ⟨i, hi, rfl⟩
    rw [List.mem_range] at hi
    exact ⟨rfl, by simp; omega, by simp; omega⟩
  · rintro ⟨h1, h2, h3⟩
    refine ⟨(a.2 - s.2.1).toNat, by rw [List.mem_range]; omega, ?_⟩
    apply Prod.ext
    · exact h1.symm
    · simp; omega
theorem mem_idsL {l : List Sp} {a : Nm} : a ∈ idsL l ↔ ∃ s ∈ l, a ∈ idsS s := by simp [idsL, List.mem_flatMap]
/-- How many names. -/
def totalL (l : List Sp) : Nat := (idsL l).length
theorem totalL_nil : totalL [] = 0 := rfl
theorem totalL_cons (a : Sp) (b : List Sp) : totalL (a :: b) = a.2.2.toNat + totalL b := by unfold totalL; rw [idsL_cons, List.length_append, idsS_length]
theorem totalL_append (a b : List Sp) : totalL (a ++ b) = totalL a + totalL b := by unfold totalL; rw [idsL_append, List.length_append]
theorem totalL_take {l : List Sp} {i : Nat} (h : i < l.length) : totalL (l.take (i + 1)) = totalL (l.take i) + (l.getD i s0).2.2.toNat := by
  unfold totalL; rw [idsL_take h, List.length_append, idsS_length]
theorem totalL_take_le (l : List Sp) (i : Nat) : totalL (l.take i) ≤ totalL l := by
  conv => rhs; rw [← List.take_append_drop i l]
  rw [totalL_append]; omega
theorem rightN_ids {l : List Sp} (h : RightS l) : RightN (idsL l) := by
  intro a ha
  obtain ⟨s, hs, hm⟩ := mem_idsL.1 ha
  have := rightS_iff.1 (h s hs)
  obtain ⟨_, h2, h3⟩ := mem_idsS.1 hm
  rw [rightN_iff]; omega
theorem fitN_ids {l : List Sp} (h : RightS l) (hf : FitSs l) : FitNs (idsL l) := by
  intro a ha
  obtain ⟨s, hs, hm⟩ := mem_idsL.1 ha
  have h0 := rightS_iff.1 (h s hs)
  have h1 := hf s hs
  obtain ⟨e, h2, h3⟩ := mem_idsS.1 hm
  unfold FitS at h1
  unfold FitN
  omega

/-- Does a name follow one, in its replica? -/
def follows (a b : Nm) : Bool := decide (a.1 = b.1 ∧ a.2 + 1 = b.2)
/-- One more name behind spans, whose last name is the one told. -/
def pushOf (out : List Sp) (prev : Option Nm) (x : Nm) : List Sp :=
  match prev, out.getLast? with
  | some a, some s => if follows a x = true ∧ s.2.2 < 1024 then out.dropLast ++ [(s.1, s.2.1, s.2.2 + 1)] else out ++ [(x.1, x.2, 1)]
  | _, _ => out ++ [(x.1, x.2, 1)]
/-- Spans of names: behind the first so many. -/
def ofA : List Sp → Option Nm → List Nm → List Sp
  | out, _, [] => out
  | out, prev, x :: xs => ofA (pushOf out prev x) (some x) xs
def ofL (ids : List Nm) : List Sp := ofA [] none ids

/-- Have two spans a name in common? -/
def meetS (a b : Sp) : Bool := decide (a.1 = b.1 ∧ a.2.1 < b.2.1 + b.2.2 ∧ b.2.1 < a.2.1 + a.2.2)
/-- Is no name there twice? -/
def Apart (l : List Sp) : Prop := ∀ i, i < l.length → ∀ k, k < i → meetS (l.getD i s0) (l.getD k s0) = false
def apartB (l : List Sp) : Bool := (List.range l.length).all fun i => (List.range i).all fun k => !meetS (l.getD i s0) (l.getD k s0)
theorem apartB_iff {l : List Sp} : apartB l = true ↔ Apart l := by
  unfold apartB Apart
  simp only [List.all_eq_true, List.mem_range, Bool.not_eq_true']
theorem apartB_no {l : List Sp} {i k : Nat} (hi : i < l.length) (hk : k < i) (h : meetS (l.getD i s0) (l.getD k s0) = true) : apartB l = false := by
  cases hb : apartB l with
  | false => rfl
  | true => have := apartB_iff.1 hb i hi k hk; rw [h] at this; cases this
/-- May spans be those of an operation? Else its error. -/
def fitA : Int → List Sp → Int
  | _, [] => 0
  | n, s :: l => if rightS s = false then 11 else if n + s.2.2 > 1024 then 15 else fitA (n + s.2.2) l
def fitL (l : List Sp) : Int := if l.length = 0 then 11 else if l.length > 1024 then 13 else if fitA 0 l ≠ 0 then fitA 0 l else if apartB l = true then 0 else 16
theorem drop_getD {α : Type} (d : α) {xs : List α} {k : Nat} (h : k < xs.length) : xs.drop k = xs.getD k d :: xs.drop (k + 1) := by
  rw [List.drop_eq_getElem_cons h]; simp [h]
/-- The names of some that aren't among others, as spans. -/
def lessN (l wo : List Sp) : List Nm := (idsL l).filter fun a => decide (a ∉ idsL wo)
def lessL (l wo : List Sp) : List Sp := ofL (lessN l wo)

end Go.Proofs.YtjkdcpalgfakhaaGreat
/-
  What the document's Right, meet, Has of layer 7 hand back. No conditions beyond what each theorem states.
-/
namespace Go.Proofs.YtjkdcpalgfakhaaGreat
open Go.ChangeShapes Go.WideShapes Go.ChangeAt Go.RowKit Go.Lib
set_option linter.unusedVariables false
set_option linter.unusedSimpArgs false

theorem infoSp : (Tryz.prog.info? 119).map (fun i => (i.zero, i.size, i.bytes)) = some (some (.agg #[.int .u16 0, .int .u32 0, .int .i64 0]), 3, 16) := by kernel_rfl
theorem infoRS : (Tryz.prog.info? 136).map (fun i => (i.zero, i.size, i.bytes)) = some (some (.agg #[.int .u16 0, .int .u32 0, .int .i64 0]), 3, 16) := by kernel_rfl
theorem infoRI : (Tryz.prog.info? 105).map (fun i => (i.zero, i.size, i.bytes)) = some (some (.agg #[.int .u16 0, .int .u32 0]), 2, 8) := by kernel_rfl
theorem infoII : (Tryz.prog.info? 96).map (fun i => (i.zero, i.size, i.bytes)) = some (some (.agg #[.int .u16 0, .int .u32 0]), 2, 8) := by kernel_rfl
def sv (s : Sp) : Value := .agg #[.int .u16 s.1, .int .u32 s.2.1, .int .i64 s.2.2]
def nv (a : Nm) : Value := .agg #[.int .u16 a.1, .int .u32 a.2]

set_option maxHeartbeats 800000 in
theorem refright_any (s : Sp) (w : World) (hf : FitS s) :
    Calls Tryz.prog 97 #[sv s] w fun e w' => e = .returned (.bool (rightS s)) ∧ Below w.heap.size w w' := by
  obtain ⟨r, n, l⟩ := s
  unfold FitS at hf
  simp only at hf
  obtain ⟨_, _, hn0, hn1, hl0, hl1⟩ := hf
  have HR : Hid (rightS (r, n, l) = decide (1 ≤ n ∧ 1 ≤ l ∧ l ≤ 1024 ∧ n ≤ 268435456 ∧ n + l - 1 ≤ 268435456)) := rfl
  unfold sv
  simp only
  go_enter Tryz.func97, Tryz.ntmps97
  by_cases h1 : 1 ≤ n
  · by_cases h2 : 1 ≤ l
    · by_cases h3 : l ≤ 1024
      · by_cases h4 : n ≤ 268435456
        · by_cases h5 : n + l - 1 ≤ 268435456
          · have HT : Hid (rightS (r, n, l) = true) := by rw [HR.out]; exact decide_eq_true ⟨h1, h2, h3, h4, h5⟩
            go_wp2
            go_ret
            exact ⟨by rw [HT.out]; rfl, below_alloc (Below.refl _ _) _⟩
          · have HT : Hid (rightS (r, n, l) = false) := by rw [HR.out]; exact decide_eq_false fun h => h5 h.2.2.2.2
            go_wp2
            go_ret
            exact ⟨by rw [HT.out]; rfl, below_alloc (Below.refl _ _) _⟩
        · have HT : Hid (rightS (r, n, l) = false) := by rw [HR.out]; exact decide_eq_false fun h => h4 h.2.2.2.1
          go_wp2
          go_ret
          exact ⟨by rw [HT.out]; rfl, below_alloc (Below.refl _ _) _⟩
      · have HT : Hid (rightS (r, n, l) = false) := by rw [HR.out]; exact decide_eq_false fun h => h3 h.2.2.1
        go_wp2
        go_ret
        exact ⟨by rw [HT.out]; rfl, below_alloc (Below.refl _ _) _⟩
    · have HT : Hid (rightS (r, n, l) = false) := by rw [HR.out]; exact decide_eq_false fun h => h2 h.2.1
      go_wp2
      go_ret
      exact ⟨by rw [HT.out]; rfl, below_alloc (Below.refl _ _) _⟩
  · have HT : Hid (rightS (r, n, l) = false) := by rw [HR.out]; exact decide_eq_false fun h => h1 h.1
    go_wp2
    go_ret
    exact ⟨by rw [HT.out]; rfl, below_alloc (Below.refl _ _) _⟩

set_option maxHeartbeats 1600000 in
theorem refmeet_any (s t : Sp) (w : World) (hs : rightS s = true) (ht : rightS t = true) :
    Calls Tryz.prog 104 #[sv s, sv t] w fun e w' => e = .returned (.bool (meetS s t)) ∧ Below w.heap.size w w' := by
  obtain ⟨r, n, l⟩ := s
  obtain ⟨q, m, k⟩ := t
  obtain ⟨n1, l1, l2, n2, _⟩ := rightS_iff.1 hs
  obtain ⟨m1, k1, k2, m2, _⟩ := rightS_iff.1 ht
  simp only at n1 l1 l2 n2 m1 k1 k2 m2
  have HM : Hid (meetS (r, n, l) (q, m, k) = decide (r = q ∧ n < m + k ∧ m < n + l)) := rfl
  clear hs ht
  unfold sv
  simp only
  by_cases h1 : r = q
  · subst h1
    by_cases h2 : n < m + k
    · by_cases h3 : m < n + l
      · have HT : Hid (meetS (r, n, l) (r, m, k) = true) := by rw [HM.out]; exact decide_eq_true ⟨rfl, h2, h3⟩
        go_enter Tryz.func104, Tryz.ntmps104
        go_wp2
        go_ret
        exact ⟨by rw [HT.out]; rfl, below_alloc (below_alloc (Below.refl _ _) _) _⟩
      · have HT : Hid (meetS (r, n, l) (r, m, k) = false) := by rw [HM.out]; exact decide_eq_false fun h => h3 h.2.2
        go_enter Tryz.func104, Tryz.ntmps104
        go_wp2
        go_ret
        exact ⟨by rw [HT.out]; rfl, below_alloc (below_alloc (Below.refl _ _) _) _⟩
    · have HT : Hid (meetS (r, n, l) (r, m, k) = false) := by rw [HM.out]; exact decide_eq_false fun h => h2 h.2.1
      go_enter Tryz.func104, Tryz.ntmps104
      go_wp2
      go_ret
      exact ⟨by rw [HT.out]; rfl, below_alloc (below_alloc (Below.refl _ _) _) _⟩
  · have h1' : (r == q) = false := by simp [h1]
    have HT : Hid (meetS (r, n, l) (q, m, k) = false) := by rw [HM.out]; exact decide_eq_false fun h => h1 h.1
    go_enter Tryz.func104, Tryz.ntmps104
    go_wp2
    go_ret
    exact ⟨by rw [HT.out]; rfl, below_alloc (below_alloc (Below.refl _ _) _) _⟩

end Go.Proofs.YtjkdcpalgfakhaaGreat
/-
  What the document's Has and IDs of layer 7 hand back. No conditions beyond what each theorem states.
-/
namespace Go.Proofs.YtjkdcpalgfakhaaGreat
open Go.ChangeShapes Go.WideShapes Go.ChangeAt Go.RowKit Go.Lib
set_option linter.unusedVariables false
set_option linter.unusedSimpArgs false

theorem drewN_cell (w : World) (n : Nat) (a : Addr) : (w.drewN n).cell? a = w.cell? a := rfl
/-- append onto a row of the call's own, as one step of a region that draws. -/
theorem step_append_own {P : Program} {ops : Array Oper} {o : Oper} {a : Act} {w : World} {K : Act → World → Prop} {Q : Exit → Act → World → Prop} {E : Prop}
    (hg : o.guard = none) (s x : Operand) (t : TypeId) (hop : o.op = Op.call { callee := Callee.builtin Builtin.append, args := #[s, x], argTypes := #[t, t] })
    (base : Nat) (e : TypeId) (i : TypeInfo) (z : Value) (size bytes : Nat) (h1 : P.underlying t = some (.slice e)) (h2 : P.info? e = some i) (h3 : i.zero = some z) (h4 : i.size = size) (h5 : i.bytes = bytes) (h6 : z.cells.size = size) (h7 : 0 < size)
    (v : Value) (n : Nat) (xs : List Value) (hs : a.eval s = v) (hown : w.ownsRow base e size v n xs)
    (ad : Addr) (m c : Nat) (news : List Value) (hx : a.eval x = .slice (some ad) m c) (hn : news.length = m * size) (hc : ∀ j u, news[j]? = some u → w.cell? (ad.add j) = some u) (h1c : ∀ u ∈ news, u.oneCell' = true)
    (b1 : n + m ≤ maxLen) (b2 : (n + m) * bytes ≤ 140737488355328) (hbase : base ≤ w.heap.size)
    (hK : ∀ v' w', w'.ownsRow base e size v' (n + m) (xs ++ news) → w.grownBy w' v.ownBlock → K (a.put o.dst v') w') :
    if Region.wanted o (yielded ops a.tmps) = true then Oper.wp P o a w K Q else E := by
  have hw : Region.wanted o (yielded ops a.tmps) = true := by simp [Region.wanted, hg]
  rw [if_pos hw]
  obtain ⟨v', w', hrun, r1, r2, _⟩ := run_append_own (P := P) w base t o.type e i z size bytes h1 h2 h3 h4 h5 h6 h7 v n xs hown ad m c news hn hc h1c b1 b2 hbase
  unfold Oper.wp
  simp [execOp, hop, resolve, invoke, builtin, hs, hx, hrun, Result.andThen]
  exact hK v' w' r1 r2

set_option maxHeartbeats 3200000 in
set_option maxRecDepth 20000 in
theorem refids_any (l : List Sp) (p : Option Addr) (c : Nat) (w : World) (hR : GRow layS w p l) (hr : RightS l) (hl : l.length ≤ 100000) (ht : totalL l ≤ 100000) :
    Calls Tryz.prog 83 #[.slice p l.length c] w (Made layI 105 w (idsL l)) := by
  obtain ⟨i0, hi, hz0, hz1, hz2⟩ := info_parts infoRI
  have HR := Lib.hid hR
  have HT := Lib.hid ht
  have HRT := Lib.hid hr
  clear hR ht hr
  go_enter Tryz.func83, Tryz.ntmps83
  go_wp2
  go_loopg [3, 4] l.length (fun g v i wr => ∃ k : Nat, k ≤ l.length ∧ l.length - k ≤ g ∧ i = .int .i64 (k : Int) ∧ Hold layI w 105 v (idsL (l.take k)) wr)
  case atStart => exact ⟨0, Nat.zero_le _, by omega, rfl, Hold.nil _ _ _⟩
  case round =>
    obtain ⟨k, hk, hg, rfl, hO⟩ := hrel
    have HO := Lib.hid hO
    clear hO
    by_cases hlt : k < l.length
    · have hri := rightS_iff.1 (HRT.out.at hlt)
      have HTK : Hid (totalL (l.take k) + (l.getD k s0).2.2.toNat ≤ 100000) := by
        show totalL (l.take k) + (l.getD k s0).2.2.toNat ≤ 100000
        rw [← totalL_take hlt]; exact Nat.le_trans (totalL_take_le _ _) HT.out
      have HIT : Hid (idsL (l.take (k + 1)) = idsL (l.take k) ++ idsN (l.getD k s0) (l.getD k s0).2.2.toNat) := idsL_take hlt
      have hc := srow_at HR.out hlt
      obtain ⟨r, n, m, hs⟩ : ∃ r n m, l.getD k s0 = (r, n, m) := ⟨_, _, _, rfl⟩
      rw [hs] at hri HTK HIT hc
      simp only at hri HTK HIT hc
      obtain ⟨b, o, rfl, c0, c1, c2⟩ := hc
      obtain ⟨M, rfl⟩ : ∃ M : Nat, m = (M : Int) := ⟨m.toNat, by omega⟩
      rw [Int.toNat_natCast] at HTK HIT
      have HS := Lib.hid hs
      have HTL : Hid (totalL (l.take k) = (idsL (l.take k)).length) := rfl
      generalize idsL (l.take k) = A at HO HIT HTL
      rw [HTL.out] at HTK
      obtain ⟨hr1, hr2, hr3, hr4, hr5⟩ := hri
      clear hs
      go_wp2
      go_loopg [3, 5] M (fun g v i wq => ∃ j : Nat, j ≤ M ∧ M - j ≤ g ∧ i = .int .i64 (j : Int) ∧ Hold layI w 105 v (A ++ idsN (r, n, (M : Int)) j) wq)
      case atStart => exact ⟨0, Nat.zero_le _, by omega, rfl, by rw [show idsN (r, n, (M : Int)) 0 = [] from rfl, List.append_nil]; exact HO.out⟩
      case round =>
        clear HO
        obtain ⟨j, hj, hgj, rfl, hO⟩ := hrel
        have HO := Lib.hid hO
        clear hO
        have d0 := cellU c0 HO.out.2
        have d1 := cellU c1 HO.out.2
        have d2 := cellU c2 HO.out.2
        by_cases hjm : j < M
        · have hll : (A ++ idsN (r, n, (M : Int)) j).length ≤ 100000 := by
            rw [List.length_append, idsN_length]; have := HTK.out; omega
          have HNX : Hid (A ++ idsN (r, n, (M : Int)) (j + 1) = (A ++ idsN (r, n, (M : Int)) j) ++ [(r, n + (j : Int))]) := by
            show _ = _
            rw [idsN_succ, List.append_assoc]
          generalize A ++ idsN (r, n, (M : Int)) j = C at HO HNX hll
          have q1 : IntKind.u32.wrap (j : Int) = (j : Int) := by rw [IntKind.wrap_u32]; omega
          have q2 : IntKind.u32.wrap (n + (j : Int)) = n + (j : Int) := by rw [IntKind.wrap_u32]; omega
          go_wp2_with fail
          go_region_law (refine step_append_own rfl (.tmp 21) (.tmp 38) 145 rfl w.heap.size 105 i0 (.agg #[.int .u16 0, .int .u32 0]) 2 8 Tryz.underlying145 hi hz0 hz1 hz2 rfl (by decide) u3 C.length (layI.flat C) (by simp [Act.eval, Act.put]) (by first | exact (HO.out.alloc _).1 | exact ((HO.out.drewN 1).alloc _).1) ⟨wr.heap.size, 0, none⟩ 1 1 [.int .u16 r, .int .u32 (n + (j : Int))] (by simp [Act.eval, Act.put]) rfl (cells_new (cs := [.int .u16 r, .int .u32 (n + (j : Int))])) (layI.one (r, n + (j : Int))) (by unfold maxLen; omega) (by omega) (by have := HO.out.2.size; simp; omega) ?_; intro v' w1 hown' hgrow)
          all_goals
            have HO2 : Hid (Hold layI w 105 v' (A ++ idsN (r, n, (M : Int)) (j + 1)) w1) := by
              rw [HNX.out]
              first | exact (HO.out.alloc _).onto rfl rfl hown' hgrow | exact ((HO.out.drewN 1).alloc _).onto rfl rfl hown' hgrow
            clear hown' hgrow
            go_wp2
            go_roundg (M - (j + 1))
            case measure => omega
            case rel => exact ⟨j + 1, by omega, Nat.le_refl _, by go_num, HO2.out⟩
        · have : j = M := by omega
          subst this
          rw [← HIT.out] at HO
          go_wp2
          go_roundg (l.length - (k + 1))
          case measure => omega
          case rel => exact ⟨k + 1, by omega, Nat.le_refl _, by go_num, HO.out⟩
    · have : k = l.length := by omega
      subst this
      rw [List.take_length] at HO
      go_wp2
      go_ret
      exact ⟨_, rfl, HO.out⟩

end Go.Proofs.YtjkdcpalgfakhaaGreat
/-
  Spans of names, one name more at a time; what the document's Of of layer 7 hands back. No conditions beyond what each theorem states.
-/
namespace Go.Proofs.YtjkdcpalgfakhaaGreat
open Go.ChangeShapes Go.WideShapes Go.ChangeAt Go.RowKit Go.Lib
set_option linter.unusedVariables false
set_option linter.unusedSimpArgs false

theorem ofA_snoc (xs : List Nm) : ∀ out prev x, ofA out prev (xs ++ [x]) = pushOf (ofA out prev xs) (if xs = [] then prev else xs.getLast?) x := by
  induction xs with
  | nil => intro out prev x; rfl
  | cons y ys ih =>
    intro out prev x
    rw [List.cons_append, ofA, ih, ofA]
    congr 1
    cases ys with
    | nil => simp
    | cons z zs => simp [List.getLast?_cons_cons]
theorem pushOf_ne (out : List Sp) (prev : Option Nm) (x : Nm) : pushOf out prev x ≠ [] := by
  unfold pushOf
  split
  · split <;> simp
  · simp
theorem ofA_ne (xs : List Nm) : ∀ out prev, (out ≠ [] ∨ xs ≠ []) → ofA out prev xs ≠ [] := by
  induction xs with
  | nil => intro out prev h; rcases h with h | h; exact h; exact absurd rfl h
  | cons y ys ih => intro out prev _; exact ih _ _ (Or.inl (pushOf_ne _ _ _))
theorem ofL_first {ids : List Nm} (h : 0 < ids.length) : ofL (ids.take 1) = [((ids.getD 0 n0).1, (ids.getD 0 n0).2, 1)] := by
  cases ids with
  | nil => simp at h
  | cons x xs => rfl
/-- Behind one name more: it is in the last span, or in one of its own. -/
theorem ofL_next {ids : List Nm} {k : Nat} (h0 : 0 < k) (h : k < ids.length) : ∃ D s, ofL (ids.take k) = D ++ [s] ∧
    ofL (ids.take (k + 1)) = if follows (ids.getD (k - 1) n0) (ids.getD k n0) = true ∧ s.2.2 < 1024 then D ++ [(s.1, s.2.1, s.2.2 + 1)] else (D ++ [s]) ++ [((ids.getD k n0).1, (ids.getD k n0).2, 1)] := by
  have hne : ids.take k ≠ [] := by
    intro e
    have := congrArg List.length e
    rw [List.length_take, List.length_nil] at this; omega
  have hl : (ids.take k).getLast? = some (ids.getD (k - 1) n0) := by
    rw [List.getLast?_eq_getElem?, List.length_take, Nat.min_eq_left (by omega), List.getElem?_take, if_pos (by omega), List.getElem?_eq_getElem (by omega), List.getD_eq_getElem?_getD, List.getElem?_eq_getElem (by omega)]
    rfl
  have hne2 : ofL (ids.take k) ≠ [] := ofA_ne _ _ _ (Or.inr hne)
  refine ⟨(ofL (ids.take k)).dropLast, (ofL (ids.take k)).getLast hne2, (List.dropLast_concat_getLast hne2).symm, ?_⟩
  rw [take_getD n0 h]
  unfold ofL at hne2 ⊢
  rw [ofA_snoc, if_neg hne, hl]
  unfold pushOf
  rw [List.getLast?_eq_some_getLast hne2, List.dropLast_concat_getLast hne2]
theorem ofL_len_le (ids : List Nm) : ∀ k, k ≤ ids.length → (ofL (ids.take k)).length ≤ k := by
  intro k
  induction k with
  | zero => intro _; simp [ofL, ofA]
  | succ k ih =>
    intro h
    have ih := ih (by omega)
    cases k with
    | zero => rw [ofL_first (by omega)]; simp
    | succ k =>
      obtain ⟨D, s, e1, e2⟩ := ofL_next (ids := ids) (k := k + 1) (by omega) (by omega)
      rw [e1] at ih
      rw [e2]
      rw [List.length_append] at ih
      split <;> simp at ih ⊢ <;> omega
/-- All have from 1 to 1024 names. -/
theorem ofL_lens (ids : List Nm) : ∀ k, k ≤ ids.length → ∀ s ∈ ofL (ids.take k), 1 ≤ s.2.2 ∧ s.2.2 ≤ 1024 := by
  intro k
  induction k with
  | zero => intro _ s hs; simp [ofL, ofA] at hs
  | succ k ih =>
    intro h
    have ih := ih (by omega)
    cases k with
    | zero => rw [ofL_first (by omega)]; intro s hs; simp at hs; subst hs; simp
    | succ k =>
      obtain ⟨D, t, e1, e2⟩ := ofL_next (ids := ids) (k := k + 1) (by omega) (by omega)
      rw [e1] at ih
      rw [e2]
      have ht := ih t (by simp)
      intro s hs
      split at hs
      · rename_i hc
        simp only [List.mem_append, List.mem_singleton] at hs
        rcases hs with hs | rfl
        · exact ih s (by simp [hs])
        · simp only; omega
      · simp only [List.mem_append, List.mem_singleton] at hs
        rcases hs with (hs | rfl) | rfl
        · exact ih s (by simp [hs])
        · exact ht
        · simp

theorem owns_head {w : World} {B n size : Nat} {e : TypeId} {v : Value} {xs : List Value} (h : w.ownsRow B e size v n xs) (hn : 0 < n) : ∃ g cap, v = .slice (some ⟨g, 0, none⟩) n cap ∧ B ≤ g ∧ ∀ o, w.frozen? ⟨g, o, none⟩ = false := by
  rcases h.2 with ⟨_, h0⟩ | ⟨g, cap, cur, rfl, hb, hg, _⟩
  · omega
  · exact ⟨g, cap, rfl, hb, fun o => frozen_of_block hg⟩

end Go.Proofs.YtjkdcpalgfakhaaGreat
/-
  What the document's Of of layer 7 hands back. No conditions beyond what each theorem states.
-/
namespace Go.Proofs.YtjkdcpalgfakhaaGreat
open Go.ChangeShapes Go.WideShapes Go.ChangeAt Go.RowKit Go.Lib
set_option linter.unusedVariables false
set_option linter.unusedSimpArgs false

theorem flat_last (D : List Sp) (s : Sp) (l : Int) : (layS.flat (D ++ [s])).set (D.length * 3 + 2) (.int .i64 l) = layS.flat (D ++ [(s.1, s.2.1, l)]) := by
  have hl : (layS.flat D).length = D.length * 3 := layS.flat_length D
  rw [layS.flat_append, layS.flat_append, List.set_append_right _ _ (by omega), hl, layS.flat_one, layS.flat_one, show D.length * 3 + 2 - D.length * 3 = 2 by omega]
  rfl
end Go.Proofs.YtjkdcpalgfakhaaGreat
