
/-
  How things of one kind, so many cells each, lie behind an address: rows that come in, and rows that a call has made. Of no program; no conditions beyond what each theorem states.
-/
import Derived.Test.YtafhjccghbpbbaaPackBase
namespace Go.Proofs.Ytafhjccghbpbbaa
open Go.ChangeShapes Go.WideShapes Go.ChangeAt Go.RowKit Go.Lib
set_option linter.unusedVariables false
set_option linter.unusedSimpArgs false

/-- A kind of things: how many cells one takes, and what they hold. -/
structure Lay (α : Type) where
  k : Nat
  enc : α → List Value
  len : ∀ x, (enc x).length = k
  one : ∀ x, ∀ u ∈ enc x, u.oneCell' = true
def Lay.flat {α : Type} (L : Lay α) (xs : List α) : List Value := xs.flatMap L.enc
theorem Lay.flat_nil {α : Type} (L : Lay α) : L.flat [] = [] := rfl
theorem Lay.flat_cons {α : Type} (L : Lay α) (x : α) (xs : List α) : L.flat (x :: xs) = L.enc x ++ L.flat xs := by simp [Lay.flat]
theorem Lay.flat_append {α : Type} (L : Lay α) (xs ys : List α) : L.flat (xs ++ ys) = L.flat xs ++ L.flat ys := by simp [Lay.flat]
theorem Lay.flat_one {α : Type} (L : Lay α) (x : α) : L.flat [x] = L.enc x := by simp [Lay.flat]
theorem Lay.flat_length {α : Type} (L : Lay α) (xs : List α) : (L.flat xs).length = xs.length * L.k := by
  induction xs with
  | nil => simp [Lay.flat]
  | cons x xs ih => rw [L.flat_cons, List.length_append, ih, L.len, List.length_cons, Nat.add_mul, Nat.one_mul, Nat.add_comm]
theorem Lay.flat_one' {α : Type} (L : Lay α) (xs : List α) : ∀ u ∈ L.flat xs, u.oneCell' = true := by
  intro u hu
  obtain ⟨x, _, hx⟩ := List.mem_flatMap.1 hu
  exact L.one x u hx
theorem Lay.flat_at {α : Type} (L : Lay α) (d : α) : ∀ (xs : List α) (i j : Nat), i < xs.length → j < L.k → (L.flat xs)[i * L.k + j]? = (L.enc (xs.getD i d))[j]? := by
  intro xs
  induction xs with
  | nil => intro i j h; simp at h
  | cons x xs ih =>
    intro i j hi hj
    have hl := L.len x
    cases i with
    | zero => rw [L.flat_cons, Nat.zero_mul, Nat.zero_add, List.getElem?_append_left (by omega)]; simp
    | succ i =>
      rw [L.flat_cons, List.getElem?_append_right (by rw [hl, Nat.add_mul]; omega), hl, show (i + 1) * L.k + j - L.k = i * L.k + j by rw [Nat.add_mul]; omega, ih i j (by simpa using hi) hj]
      simp
theorem flat_take {α : Type} (L : Lay α) (d : α) {xs : List α} {i : Nat} (h : i < xs.length) : L.flat (xs.take (i + 1)) = L.flat (xs.take i) ++ L.enc (xs.getD i d) := by
  rw [List.take_add_one, L.flat_append, List.getElem?_eq_getElem h, List.getD_eq_getElem?_getD, List.getElem?_eq_getElem h]
  simp [L.flat_one]
theorem take_getD {α : Type} (d : α) {xs : List α} {i : Nat} (h : i < xs.length) : xs.take (i + 1) = xs.take i ++ [xs.getD i d] := by
  rw [List.take_add_one, List.getElem?_eq_getElem h, List.getD_eq_getElem?_getD, List.getElem?_eq_getElem h]
  simp
theorem getD_mem {α : Type} (d : α) {xs : List α} {i : Nat} (h : i < xs.length) : xs.getD i d ∈ xs := by
  rw [List.getD_eq_getElem?_getD, List.getElem?_eq_getElem h]; exact List.getElem_mem h
theorem mem_getD {α : Type} (d : α) {xs : List α} {x : α} (h : x ∈ xs) : ∃ i, i < xs.length ∧ xs.getD i d = x := by
  obtain ⟨i, hi, e⟩ := List.getElem_of_mem h
  exact ⟨i, hi, by simp [hi, e]⟩
theorem ext_getD {α : Type} (d : α) {xs ys : List α} (h : xs.length = ys.length) (ha : ∀ i, i < xs.length → xs.getD i d = ys.getD i d) : xs = ys := by
  apply List.ext_getElem h
  intro i h1 h2
  have := ha i h1
  simpa [h1, h2] using this

/-- Things that lie behind an address. -/
def GRow {α : Type} (L : Lay α) (w : World) (p : Option Addr) (xs : List α) : Prop := ∀ m u, (L.flat xs)[m]? = some u → ∃ b o, p = some ⟨b, o, none⟩ ∧ w.cell? ⟨b, o + m, none⟩ = some u
theorem GRow.nil {α : Type} (L : Lay α) (w : World) (p : Option Addr) : GRow L w p [] := fun m u h => by simp [Lay.flat] at h
theorem GRow.below {α : Type} {L : Lay α} {w w' : World} {p : Option Addr} {xs : List α} (h : GRow L w p xs) (hb : Below w.heap.size w w') : GRow L w' p xs := fun m u hm => by
  obtain ⟨b, o, e, h1⟩ := h m u hm
  exact ⟨b, o, e, by rw [hb.cell (block_lt_of_cell h1)]; exact h1⟩
theorem GRow.alloc {α : Type} {L : Lay α} {w : World} {p : Option Addr} {xs : List α} (h : GRow L w p xs) (o : Obj) : GRow L (w.alloc o) p xs := h.below (below_alloc (Below.refl _ _) o)
theorem GRow.kept {α : Type} {L : Lay α} {S : Nat → Prop} {a b : World} {p : Option Addr} {xs : List α} (h : GRow L a p xs) (hk : Kept S a b) (hn : ∀ q, p = some q → ¬ S q.block) : GRow L b p xs := fun m u hm => by
  obtain ⟨k, o, e, h1⟩ := h m u hm
  refine ⟨k, o, e, ?_⟩
  rw [World.cell?_of_block (w := a) (hk.block k (block_lt_of_cell h1) (hn _ e))]; exact h1
/-- One cell of one thing. -/
theorem GRow.cell {α : Type} {L : Lay α} {w : World} {p : Option Addr} {xs : List α} (h : GRow L w p xs) (d : α) {i j : Nat} (hi : i < xs.length) {u : Value} (hu : (L.enc (xs.getD i d))[j]? = some u) : ∃ b o, p = some ⟨b, o, none⟩ ∧ w.cell? ⟨b, o + (i * L.k + j), none⟩ = some u := by
  have hj : j < L.k := by have := (List.getElem?_eq_some_iff.1 hu).1; rwa [L.len] at this
  exact h _ _ (by rw [L.flat_at d xs i j hi hj]; exact hu)
theorem GRow.take {α : Type} {L : Lay α} {w : World} {p : Option Addr} {xs : List α} (h : GRow L w p xs) (n : Nat) : GRow L w p (xs.take n) := fun m u hm => by
  apply h
  have e : L.flat xs = L.flat (xs.take n) ++ L.flat (xs.drop n) := by rw [← L.flat_append, List.take_append_drop]
  rw [e, List.getElem?_append_left (List.getElem?_eq_some_iff.1 hm).1]; exact hm
theorem GRow.drop {α : Type} {L : Lay α} {w : World} {a : Addr} {xs : List α} (h : GRow L w (some a) xs) {n : Nat} (hn : n ≤ xs.length) : GRow L w (some (a.add (n * L.k))) (xs.drop n) := fun m u hm => by
  have e : L.flat xs = L.flat (xs.take n) ++ L.flat (xs.drop n) := by rw [← L.flat_append, List.take_append_drop]
  have hl : (L.flat (xs.take n)).length = n * L.k := by rw [L.flat_length, List.length_take, Nat.min_eq_left hn]
  obtain ⟨b, o, ea, h1⟩ := h (n * L.k + m) u (by rw [e, List.getElem?_append_right (by omega), hl, show n * L.k + m - n * L.k = m by omega]; exact hm)
  cases ea
  exact ⟨b, o + n * L.k, by rw [Addr.add_lit], by rw [Nat.add_assoc]; exact h1⟩
theorem GRow.news {α : Type} {L : Lay α} {w : World} {a : Addr} {xs : List α} (h : GRow L w (some a) xs) : ∀ j u, (L.flat xs)[j]? = some u → w.cell? (a.add j) = some u := by
  intro j u hj
  obtain ⟨b, o, e, hc⟩ := h j u hj
  cases e
  rw [Addr.add_lit]; exact hc
theorem GRow.none_nil {α : Type} {L : Lay α} {w : World} {p : Option Addr} {xs : List α} (hk : 0 < L.k) (h : GRow L w p xs) (hp : p = none) : xs = [] := by
  cases xs with
  | nil => rfl
  | cons x xs =>
    have hlen : (L.flat (x :: xs)).length = (xs.length + 1) * L.k := L.flat_length _
    have hpos : 0 < (xs.length + 1) * L.k := Nat.mul_pos (by omega) hk
    have h0 : (L.flat (x :: xs))[0]? = some ((L.flat (x :: xs))[0]'(by omega)) := List.getElem?_eq_getElem (by omega)
    obtain ⟨b, o, e, _⟩ := h 0 _ h0
    rw [hp] at e; cases e
/-- A block that holds just these. -/
theorem grow_block {α : Type} {L : Lay α} {w : World} {B : Nat} {xs : List α} {t : TypeId} {f : Nat × Nat} (h : w.heap[B]? = some (.cells (L.flat xs).toArray t f)) : GRow L w (some ⟨B, 0, none⟩) xs := fun m u hm =>
  ⟨B, 0, rfl, by rw [cell_of_block h, Nat.zero_add]; simpa using hm⟩
/-- What a call's own row holds, read. -/
theorem grow_owns {α : Type} {L : Lay α} (hk : 0 < L.k) {w : World} {base n : Nat} {e : TypeId} {v : Value} {xs : List α} (h : w.ownsRow base e L.k v n (L.flat xs)) : ∃ p c, v = .slice p xs.length c ∧ n = xs.length ∧ GRow L w p xs ∧ xs.length ≤ c ∧ (p = none → c = 0) := by
  have hn : n = xs.length := by
    have := h.1
    rw [L.flat_length] at this
    exact (Nat.eq_of_mul_eq_mul_right hk this).symm
  subst hn
  rcases h.2 with ⟨hv, h0⟩ | ⟨g, cap, cur, rfl, hb, hh, h1, h2, h3, h4⟩
  · exact ⟨none, 0, by rw [hv, h0], rfl, (by rw [List.eq_nil_of_length_eq_zero h0]; exact GRow.nil _ _ _), by omega, fun _ => rfl⟩
  · refine ⟨_, cap, rfl, rfl, fun m u hm => ⟨g, 0, rfl, ?_⟩, h1, by intro h; cases h⟩
    have hlt := (List.getElem?_eq_some_iff.1 hm).1
    rw [L.flat_length] at hlt
    rw [h.cellAt (0 + m) (by omega), Nat.zero_add]; exact hm

/-- What the call holds so far: its own row, and all below as it was. -/
def Hold {α : Type} (L : Lay α) (w : World) (e : TypeId) (v : Value) (xs : List α) (wr : World) : Prop := wr.ownsRow w.heap.size e L.k v xs.length (L.flat xs) ∧ Below w.heap.size w wr
theorem Hold.nil {α : Type} (L : Lay α) (w : World) (e : TypeId) : Hold L w e (.slice none 0 0) [] w := ⟨World.ownsRow_nil w w.heap.size e L.k, Below.refl _ _⟩
theorem Hold.alloc {α : Type} {L : Lay α} {w wr : World} {e : TypeId} {v : Value} {xs : List α} (h : Hold L w e v xs wr) (o : Obj) : Hold L w e v xs (wr.alloc o) := ⟨h.1.alloc o, below_alloc h.2 o⟩
theorem Hold.drewN {α : Type} {L : Lay α} {w wr : World} {e : TypeId} {v : Value} {xs : List α} (h : Hold L w e v xs wr) (n : Nat) : Hold L w e v xs (wr.drewN n) := ⟨h.1, below_drewN h.2 n⟩
theorem Hold.below {α : Type} {L : Lay α} {w wr w1 : World} {e : TypeId} {v : Value} {xs : List α} (h : Hold L w e v xs wr) (hb : Below wr.heap.size wr w1) : Hold L w e v xs w1 :=
  ⟨h.1.kept (row := none) ⟨hb.os, hb.tape, hb.output, hb.size, fun k hk _ => hb.block k hk⟩ (by cases v.ownBlock <;> simp), below_step h.2 hb⟩
theorem Hold.onto {α : Type} {L : Lay α} {w wr w1 : World} {e : TypeId} {v v' : Value} {xs ys : List α} {n : Nat} {cs : List Value} (h : Hold L w e v xs wr) (hcs : cs = L.flat ys) (hn : n = xs.length + ys.length) (hown : w1.ownsRow w.heap.size e L.k v' n (L.flat xs ++ cs)) (hg : wr.grownBy w1 v.ownBlock) : Hold L w e v' (xs ++ ys) w1 :=
  ⟨by rw [L.flat_append, List.length_append, ← hn, ← hcs]; exact hown, h.2.grown hg h.2.size (fun j hj => (h.1.lt j hj).1)⟩
theorem Hold.gave {α : Type} {L : Lay α} (hk : 0 < L.k) {w wr : World} {e : TypeId} {v : Value} {xs : List α} (h : Hold L w e v xs wr) : ∃ p c, v = .slice p xs.length c ∧ GRow L wr p xs ∧ xs.length ≤ c ∧ (p = none → c = 0) := by
  obtain ⟨p, c, h1, -, h2, h3, h4⟩ := grow_owns hk h.1
  exact ⟨p, c, h1, h2, h3, h4⟩
/-- A slice that a call tells, holding these, and all below as it was. -/
def Gave {α : Type} (L : Lay α) (w : World) (xs : List α) (e : Ending) (w' : World) : Prop := ∃ p c, e = .returned (.slice p xs.length c) ∧ GRow L w' p xs ∧ xs.length ≤ c ∧ (p = none → c = 0) ∧ Below w.heap.size w w'
/-- .. and its memory is the call's own. -/
def Made {α : Type} (L : Lay α) (t : TypeId) (w : World) (xs : List α) (e : Ending) (w' : World) : Prop := ∃ v, e = .returned v ∧ Hold L w t v xs w'
theorem Made.gave {α : Type} {L : Lay α} (hk : 0 < L.k) {t : TypeId} {w w' : World} {xs : List α} {e : Ending} (h : Made L t w xs e w') : Gave L w xs e w' := by
  obtain ⟨v, rfl, hh⟩ := h
  obtain ⟨p, c, rfl, h1, h2, h3⟩ := hh.gave hk
  exact ⟨p, c, rfl, h1, h2, h3, hh.2⟩
theorem cellU {w w' : World} {a : Addr} {v : Value} (h : w.cell? a = some v) (hb : Below w.heap.size w w') : w'.cell? a = some v := by rw [hb.cell (block_lt_of_cell h)]; exact h
/-- A new block, read. -/
theorem cells_new {W : World} {cs : List Value} {t : TypeId} : ∀ j u, cs[j]? = some u → (W.alloc (.cells cs.toArray t)).cell? ((⟨W.heap.size, 0, none⟩ : Addr).add j) = some u := by
  intro j u hj
  rw [Addr.add_lit, Nat.zero_add, cell_of_block (heap_alloc_new W _)]
  simpa using hj

end Go.Proofs.Ytafhjccghbpbbaa
