
/-
  How bytes lie in memory, what a call leaves as it was, and how a writer and a reader of bytes lie in memory. No conditions beyond what each theorem states.
-/
import Derived.Test.YtafhjccghbpbbaaPackMath
import Derived.WalkKit
import Derived.ProofKit
import Derived.OpenShut
import Derived.Below
import Derived.BigQuiet
import Derived.WalkSpells
import Derived.WalkLawsBesides
import Derived.Deep.LoopGhost
import Derived.Lib.Hide
import Derived.Lib.SmallJoins
import Derived.Lib.AppendStr
import Derived.Lib.UnsafeStr
import Derived.Lib.BufferWrite
import Derived.Maps.AppendAt
import Derived.Laws.CopyOwn
import Derived.Laws.IdiomStrings
import Derived.ScopeJumps
namespace Go.Proofs.Ytafhjccghbpbbaa
open Go.ChangeShapes Go.WideShapes Go.ChangeAt Go.RowKit Go.Lib
set_option linter.unusedVariables false
set_option linter.unusedSimpArgs false

theorem infoB : (Try.prog.info? 5).map (fun i => (i.zero, i.size, i.bytes)) = some (some (.int .u8 0), 1, 1) := by kernel_rfl

/-- The byte at a place. -/
def atB (bs : List UInt8) (i : Nat) : Int := ((bs.getD i 0).toNat : Int)
theorem atB_range (bs : List UInt8) (i : Nat) : 0 ≤ atB bs i ∧ atB bs i < 256 := by
  have := (bs.getD i 0).toNat_lt
  unfold atB; omega
theorem atB_get {bs : List UInt8} {i : Nat} (h : i < bs.length) : (byteCells bs)[i]? = some (.int .u8 (atB bs i)) := by simp [byteCells, atB, h]
theorem atB_drop (bs : List UInt8) (k i : Nat) : atB (bs.drop k) i = atB bs (k + i) := by simp [atB, List.getElem?_drop]
theorem atB_take {bs : List UInt8} {k i : Nat} (h : i < k) : atB (bs.take k) i = atB bs i := by simp [atB, List.getElem?_take, h]
theorem drop_atB {bs : List UInt8} {k : Nat} (h : k < bs.length) : bs.drop k = bs.getD k 0 :: bs.drop (k + 1) := by
  rw [List.drop_eq_getElem_cons h]; simp [h]

/-- Bytes that lie behind an address. -/
def BRow (w : World) (p : Option Addr) (bs : List UInt8) : Prop :=
  ∀ i, i < bs.length → ∃ b o, p = some ⟨b, o, none⟩ ∧ w.cell? ⟨b, o + i, none⟩ = some (.int .u8 (atB bs i))
theorem BRow.below {w w' : World} {p : Option Addr} {bs : List UInt8} (h : BRow w p bs) (hb : Below w.heap.size w w') : BRow w' p bs := fun i hi => by
  obtain ⟨b, o, e, h1⟩ := h i hi
  exact ⟨b, o, e, by rw [hb.cell (block_lt_of_cell h1)]; exact h1⟩
theorem BRow.nil (w : World) (p : Option Addr) : BRow w p [] := fun i hi => by simp at hi
theorem below_step {w w' w'' : World} (h : Below w.heap.size w w') (k : Below w'.heap.size w' w'') : Below w.heap.size w w'' := h.trans (k.mono h.size)
theorem below_alloc {w W : World} (h : Below w.heap.size w W) (o : Obj) : Below w.heap.size w (W.alloc o) := h.alloc h.size o

/-- All blocks are as they were, but those in S; new ones may have come. -/
structure Kept (S : Nat → Prop) (w w' : World) : Prop where
  os : w'.os = w.os
  tape : w'.tape = w.tape
  output : w'.output = w.output
  size : w.heap.size ≤ w'.heap.size
  block : ∀ k, k < w.heap.size → ¬ S k → w'.heap[k]? = w.heap[k]?
theorem Kept.refl (S : Nat → Prop) (w : World) : Kept S w w := ⟨rfl, rfl, rfl, Nat.le_refl _, fun _ _ _ => rfl⟩
theorem Kept.trans {S T : Nat → Prop} {a b c : World} (h : Kept S a b) (k : Kept T b c) (hT : ∀ i, i < a.heap.size → T i → S i) : Kept S a c :=
  ⟨k.os.trans h.os, k.tape.trans h.tape, k.output.trans h.output, Nat.le_trans h.size k.size, fun i hi hn => (k.block i (Nat.lt_of_lt_of_le hi h.size) (fun t => hn (hT i hi t))).trans (h.block i hi hn)⟩
theorem Kept.mono {S T : Nat → Prop} {a b : World} (h : Kept S a b) (hT : ∀ i, i < a.heap.size → S i → T i) : Kept T a b := ⟨h.os, h.tape, h.output, h.size, fun i hi hn => h.block i hi (fun s => hn (hT i hi s))⟩
theorem Kept.ofBelow {S : Nat → Prop} {a b : World} (h : Below a.heap.size a b) : Kept S a b := ⟨h.os, h.tape, h.output, h.size, fun i hi _ => h.block i hi⟩
theorem Kept.ofGrown {S : Nat → Prop} {a b : World} {r : Option Nat} (h : a.grownBy b r) (hr : ∀ k, r = some k → S k) : Kept S a b := ⟨h.os, h.tape, h.output, h.size, fun i hi hn => h.block i hi (fun e => hn (hr i e.symm))⟩
theorem Kept.set {S : Nat → Prop} {a b : World} (h : Kept S a b) {K o : Nat} (hK : S K) (u : Value) : Kept S a (b.setCell ⟨K, o, none⟩ u) :=
  h.trans (T := fun i => i = K) ⟨rfl, rfl, rfl, by simp [World.setCell], fun k _ hn => Below.heap_setCell _ _ _ _ hn⟩ (fun i _ e => by subst e; exact hK)
theorem Kept.alloc {S : Nat → Prop} {a b : World} (h : Kept S a b) (o : Obj) : Kept S a (b.alloc o) := h.trans (T := fun _ => False) (.ofBelow (below_alloc (Below.refl _ _) o)) (fun _ _ f => f.elim)
theorem Kept.below {S : Nat → Prop} {B : Nat} {a b : World} (h : Kept S a b) (hB : B ≤ a.heap.size) (hS : ∀ k, S k → B ≤ k) : Below B a b := ⟨h.os, h.tape, h.output, h.size, fun k hk => h.block k (by omega) (fun s => by have := hS k s; omega)⟩
theorem Kept.stays {S : Nat → Prop} {a b : World} (h : Kept S a b) {k : Nat} {o : Obj} (ho : a.heap[k]? = some o) (hn : ¬ S k) : b.heap[k]? = some o := by
  rw [h.block k (Array.getElem?_eq_some_iff.1 ho).1 hn]; exact ho
theorem Kept.row {S : Nat → Prop} {a b : World} (h : Kept S a b) {B n : Nat} {e : TypeId} {v : Value} {xs : List Value} (ho : a.ownsRow B e 1 v n xs) (hn : ∀ k, v.ownBlock = some k → ¬ S k) : b.ownsRow B e 1 v n xs := by
  refine ⟨ho.1, ?_⟩
  rcases ho.2 with hv | ⟨g, cap, cur, rfl, hb, hgg, rest⟩
  · exact .inl hv
  · exact .inr ⟨g, cap, cur, rfl, hb, h.stays hgg (hn g rfl), rest⟩
theorem Kept.brow {S : Nat → Prop} {a b : World} (h : Kept S a b) {p : Option Addr} {bs : List UInt8} (ho : BRow a p bs) (hn : ∀ q, p = some q → ¬ S q.block) : BRow b p bs := fun i hi => by
  obtain ⟨k, o, e, h1⟩ := ho i hi
  refine ⟨k, o, e, ?_⟩
  rw [World.cell?_of_block (w := a) (h.block k (block_lt_of_cell h1) (hn _ e))]; exact h1
theorem cell_of_block {w : World} {K o : Nat} {cs : Array Value} {t : TypeId} {f : Nat × Nat} (h : w.heap[K]? = some (.cells cs t f)) : w.cell? ⟨K, o, none⟩ = cs[o]? := by simp [World.cell?, h]
theorem frozen_of_block {w : World} {K o : Nat} {cs : Array Value} {t : TypeId} (h : w.heap[K]? = some (.cells cs t (0, 0))) : w.frozen? ⟨K, o, none⟩ = false := by simp [World.frozen?, h]
theorem lt_of_block {w : World} {K : Nat} {o : Obj} (h : w.heap[K]? = some o) : K < w.heap.size := (Array.getElem?_eq_some_iff.1 h).1

/-- Bytes of a block that holds just them. -/
theorem brow_block {w : World} {D : Nat} {bs : List UInt8} {t : TypeId} {f : Nat × Nat} (h : w.heap[D]? = some (.cells (byteCells bs).toArray t f)) : BRow w (some ⟨D, 0, none⟩) bs := fun i hi =>
  ⟨D, 0, rfl, by rw [cell_of_block h, Nat.zero_add]; simpa using atB_get hi⟩
theorem brow_owns {w : World} {B n : Nat} {v : Value} {e : TypeId} {bs : List UInt8} (h : w.ownsRow B e 1 v n (byteCells bs)) : ∃ p c, v = .slice p bs.length c ∧ n = bs.length ∧ BRow w p bs ∧ ∀ q, p = some q → v.ownBlock = some q.block := by
  have hn : n = bs.length := by have := h.1; rw [byteCells_length] at this; omega
  subst hn
  rcases h.2 with ⟨hv, h0⟩ | ⟨g, cap, cur, rfl, hb, hh, h1, h2, h3, h4⟩
  · exact ⟨none, 0, by rw [hv, h0], rfl, fun i hi => by omega, by intro q hq; cases hq⟩
  · refine ⟨_, cap, rfl, rfl, fun i hi => ⟨g, 0, rfl, ?_⟩, by intro q hq; cases hq; rfl⟩
    rw [h.cellAt (0 + i) (by omega), Nat.zero_add]; exact atB_get hi
theorem owns_slice {w : World} {B n s : Nat} {v : Value} {e : TypeId} {xs : List Value} (h : w.ownsRow B e s v n xs) : ∃ p c, v = .slice p n c := by
  rcases h.2 with ⟨hv, h0⟩ | ⟨g, cap, cur, rfl, _⟩
  · exact ⟨none, 0, by rw [hv, h0]⟩
  · exact ⟨_, cap, rfl⟩
theorem brow_news {w : World} {a : Addr} {bs : List UInt8} (h : BRow w (some a) bs) : ∀ j u, (byteCells bs)[j]? = some u → w.cell? (a.add j) = some u := by
  intro j u hj
  have hlt : j < bs.length := by have := (List.getElem?_eq_some_iff.1 hj).1; rwa [byteCells_length] at this
  obtain ⟨b, o, e, hc⟩ := h j hlt
  cases e
  rw [atB_get hlt] at hj
  cases hj
  rw [Addr.add_lit]; exact hc

/-- A scope with one label to which the run jumps back: at the label J holds, the first time too. -/
theorem wp_scope_loop {P : Program} {a : Act} {w : World} {Q : Exit → Act → World → Prop} {c rest : Code} (l : Nat) (J : Act → World → Prop) (m : Act → World → Nat) (hf : findLabel c l = some (Code.skip.seq rest))
    (first : (∀ a w, J a w → rest.wp P (Exit.jump l J Q) a w) → c.wp P (Exit.jump l J Q) a w)
    (pass : ∀ a w, J a w → rest.wp P (Exit.jump l (fun a' w' => J a' w' ∧ m a' w' < m a w) Q) a w) : (Code.scope c).wp P Q a w :=
  wp_scope_jumps l J m hf (first fun a w h => Code.wp_mono (fun e a' w' h' => by cases e <;> first | exact h' | exact ⟨h'.1, h'.2.1⟩) (pass a w h)) fun a w h => wp_seq (wp_skip (pass a w h))
def natOf : Value → Nat | .int _ q => q.toNat | _ => 0

end Go.Proofs.Ytafhjccghbpbbaa
