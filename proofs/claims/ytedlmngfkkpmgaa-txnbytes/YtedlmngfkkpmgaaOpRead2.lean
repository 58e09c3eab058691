
/-
  Reading's ground for layer 8: the operation that is read, as a variable of the call, and three numbers behind so many of them. No conditions beyond what each theorem states.
-/
import Derived.Test.YtedlmngfkkpmgaaKinds
import Derived.Test.YtedlmngfkkpmgaaOpRead1
import Derived.Test.YtedlmngfkkpmgaaSpanPack3
namespace Go.Proofs.Ytedlmngfkkpmgaa
open Go.ChangeShapes Go.WideShapes Go.ChangeAt Go.RowKit Go.Lib
set_option linter.unusedVariables false
set_option linter.unusedSimpArgs false

/-- What Read holds: its result (still nothing), and what it has read so far. -/
structure RS (w : World) (k a b c : Int) (s : ByteArray) (v : Value) (q : Int) (W : World) : Prop where
  res : W.heap[w.heap.size]? = some (.cells #[.int .i64 0, .int .u16 0, .int .u32 0, .int .u32 0, .string ⟨#[]⟩, .slice none 0 0, .int .u32 0] 49 (0, 0))
  box : W.heap[w.heap.size + 1]? = some (.cells #[.int .i64 k, .int .u16 a, .int .u32 b, .int .u32 c, .string s, v, .int .u32 q] 49 (0, 0))
  bel : Below w.heap.size w W
theorem RS.new (w : World) : RS w 0 0 0 0 ⟨#[]⟩ (.slice none 0 0) 0 ((w.alloc (.cells #[.int .i64 0, .int .u16 0, .int .u32 0, .int .u32 0, .string ⟨#[]⟩, .slice none 0 0, .int .u32 0] 49)).alloc (.cells #[.int .i64 0, .int .u16 0, .int .u32 0, .int .u32 0, .string ⟨#[]⟩, .slice none 0 0, .int .u32 0] 49)) :=
  ⟨heap_alloc2_old w _ _, heap_alloc2_new w _ _, below_alloc (below_alloc (Below.refl _ _) _) _⟩
theorem RS.below {w W W' : World} {k a b c q : Int} {s : ByteArray} {v : Value} (h : RS w k a b c s v q W) (hb : Below W.heap.size W W') : RS w k a b c s v q W' := ⟨kept_box h.res hb, kept_box h.box hb, below_step h.bel hb⟩
theorem RS.set {w W : World} {k a b c q : Int} {s : ByteArray} {v : Value} (h : RS w k a b c s v q W) (i : Nat) (u : Value) {k' a' b' c' q' : Int} {s' : ByteArray} {v' : Value}
    (e : (#[.int .i64 k, .int .u16 a, .int .u32 b, .int .u32 c, .string s, v, .int .u32 q] : Array Value).setIfInBounds i u = #[.int .i64 k', .int .u16 a', .int .u32 b', .int .u32 c', .string s', v', .int .u32 q']) : RS w k' a' b' c' s' v' q' (W.setCell ⟨w.heap.size + 1, i, none⟩ u) :=
  ⟨by rw [heap_setCell_other _ _ _ _ (by simp)]; exact h.res, by rw [heap_setCell_same W _ i _ _ u h.box, e], h.bel.setCell (p := ⟨w.heap.size + 1, i, none⟩) (by simp) _⟩
theorem RS.other {w W : World} {k a b c q : Int} {s : ByteArray} {v : Value} (h : RS w k a b c s v q W) {V o : Nat} (hV : w.heap.size + 1 < V) (u : Value) : RS w k a b c s v q (W.setCell ⟨V, o, none⟩ u) :=
  ⟨by rw [heap_setCell_other _ _ _ _ (by simp; omega)]; exact h.res, by rw [heap_setCell_other _ _ _ _ (by simp; omega)]; exact h.box, h.bel.setCell (p := ⟨V, o, none⟩) (by simp; omega) _⟩
theorem RS.frozen {w W : World} {k a b c q : Int} {s : ByteArray} {v : Value} (h : RS w k a b c s v q W) : (∀ o, W.frozen? ⟨w.heap.size, o, none⟩ = false) ∧ (∀ o, W.frozen? ⟨w.heap.size + 1, o, none⟩ = false) := ⟨fun o => frozen_of_block h.res, fun o => frozen_of_block h.box⟩
theorem results_ctt {P : Program} {fn : Func} {p t u : Tmp} {ty : TypeId} (h : fn.results = #[.cell p ty, .tmp t, .tmp u]) (tmps : Array Value) (w : World) (a : Addr) (va : Value)
    (hp : tmps.getD p undef = .pointer (some a)) (la : (loadVar ty a).run P w = .ok va w) :
    (results fn tmps).run P w = .ok (.tuple #[va, tmps.getD t undef, tmps.getD u undef]) w := by
  have hp' : tmps[p]?.getD undef = .pointer (some a) := by simpa using hp
  simp [results, h, hp', asAddr, la]
theorem load8 {w : World} {B : Nat} {cs : Array Value} {t : TypeId} (h : w.heap[B]? = some (.cells cs t (0, 0))) (hs : cs.size = 7) : (loadVar 49 ⟨B, 0, none⟩).run Try.prog w = .ok (.agg cs) w :=
  run_loadVar_row w B t 49 _ (0, 0) _ h Try.underlying49 rfl (by rw [hs]; exact sz8)
/-- Three numbers behind so many of them: anchor and number. -/
def St8 (bs : List UInt8) (q0 : Nat) (i : Nat) (a b c q e : Nat) : Prop :=
  match i with
  | 0 => a = 0 ∧ b = 0 ∧ c = 0 ∧ q = q0 ∧ e = 0
  | 1 => (a, q, e) = rdN bs q0 0 65535 ∧ b = 0 ∧ c = 0
  | 2 => ∃ q1 e1, (a, q1, e1) = rdN bs q0 0 65535 ∧ (b, q, e) = rdN bs q1 e1 268435456 ∧ c = 0
  | _ => ∃ q1 e1 q2 e2, (a, q1, e1) = rdN bs q0 0 65535 ∧ (b, q2, e2) = rdN bs q1 e1 268435456 ∧ (c, q, e) = rdN bs q2 e2 268435456
theorem St8.done {bs : List UInt8} {q0 i a b c q e : Nat} (h : St8 bs q0 i a b c q e) (hi : i ≤ 3) (hd : i = 3 ∨ e ≠ 0) : rdP bs q0 0 = ((a, b, c), q, e) := by
  have : i = 0 ∨ i = 1 ∨ i = 2 ∨ i = 3 := by omega
  unfold rdP
  rcases this with rfl | rfl | rfl | rfl
  · obtain ⟨_, _, _, _, rfl⟩ := h
    rcases hd with hd | hd
    · cases hd
    · exact absurd rfl hd
  · obtain ⟨h1, rfl, rfl⟩ := h
    have he : e ≠ 0 := by rcases hd with hd | hd; cases hd; exact hd
    rw [← h1]
    simp only
    rw [rdN_err he]
    simp only
    rw [rdN_err he]
  · obtain ⟨q1, e1, h1, h2, rfl⟩ := h
    have he : e ≠ 0 := by rcases hd with hd | hd; cases hd; exact hd
    rw [← h1]
    simp only
    rw [← h2]
    simp only
    rw [rdN_err he]
  · obtain ⟨q1, e1, q2, e2, h1, h2, h3⟩ := h
    rw [← h1]
    simp only
    rw [← h2]
    simp only
    rw [← h3]
theorem St8.next0 {bs : List UInt8} {q0 a b c q : Nat} (h : St8 bs q0 0 a b c q 0) : St8 bs q0 1 (rdN bs q 0 65535).1 b c (rdN bs q 0 65535).2.1 (rdN bs q 0 65535).2.2 := by
  obtain ⟨rfl, rfl, rfl, rfl, _⟩ := h; exact ⟨rfl, rfl, rfl⟩
theorem St8.next1 {bs : List UInt8} {q0 a b c q : Nat} (h : St8 bs q0 1 a b c q 0) : St8 bs q0 2 a (rdN bs q 0 268435456).1 c (rdN bs q 0 268435456).2.1 (rdN bs q 0 268435456).2.2 := by
  obtain ⟨h1, rfl, rfl⟩ := h; exact ⟨q, 0, h1, rfl, rfl⟩
theorem St8.next2 {bs : List UInt8} {q0 a b c q : Nat} (h : St8 bs q0 2 a b c q 0) : St8 bs q0 3 a b (rdN bs q 0 268435456).1 (rdN bs q 0 268435456).2.1 (rdN bs q 0 268435456).2.2 := by
  obtain ⟨q1, e1, h1, h2, rfl⟩ := h; exact ⟨q1, e1, q, 0, h1, h2, rfl⟩
/-- What the document's Read tells, at a place. -/
def Read8At (bs : List UInt8) (Q : Nat) (w : World) (r : Ending) (w' : World) : Prop := ∃ p c q', r = .returned (.tuple #[ov (readO bs Q 0).1 p c, .int .i64 (q' : Int), .int .i64 ((readO bs Q 0).2.2 : Int)]) ∧ GRow layS w' p (readO bs Q 0).1.spans ∧ ((readO bs Q 0).2.2 = 0 → q' = ((readO bs Q 0).2.1 : Nat)) ∧ Below w.heap.size w w' ∧ KindAt 101 w' p
def Read8 (bs : List UInt8) (w : World) (r : Ending) (w' : World) : Prop := ∃ p c q', r = .returned (.tuple #[ov (readO bs 0 0).1 p c, .int .i64 (q' : Int), .int .i64 ((readO bs 0 0).2.2 : Int)]) ∧ GRow layS w' p (readO bs 0 0).1.spans ∧ ((readO bs 0 0).2.2 = 0 → q' = ((readO bs 0 0).2.1 : Nat)) ∧ Below w.heap.size w w'
/-- Nothing is told behind an error. -/
theorem read8_zero {bs : List UInt8} {Q : Nat} {w W : World} {k a b c q : Int} {s : ByteArray} {v : Value} {qq e pos : Nat} (h : RS w k a b c s v q W) (he : readO bs Q 0 = (o0, qq, e)) (h0 : e ≠ 0) :
    Read8At bs Q w (.returned (.tuple #[.agg #[.int .i64 0, .int .u16 0, .int .u32 0, .int .u32 0, .string ⟨#[]⟩, .slice none 0 0, .int .u32 0], .int .i64 (pos : Int), .int .i64 (e : Int)])) (((((((W.setCell ⟨w.heap.size, 0, none⟩ (.int .i64 0)).setCell ⟨w.heap.size, 1, none⟩ (.int .u16 0)).setCell ⟨w.heap.size, 2, none⟩ (.int .u32 0)).setCell ⟨w.heap.size, 3, none⟩ (.int .u32 0)).setCell ⟨w.heap.size, 4, none⟩ (.string ⟨#[]⟩)).setCell ⟨w.heap.size, 5, none⟩ (.slice none 0 0)).setCell ⟨w.heap.size, 6, none⟩ (.int .u32 0)) := by
  have hS := only_seven W w.heap.size (.int .i64 0) (.int .u16 0) (.int .u32 0) (.int .u32 0) (.string ⟨#[]⟩) (.slice none 0 0) (.int .u32 0)
  refine ⟨none, 0, pos, by rw [he]; rfl, by rw [he]; exact GRow.nil _ _ _, fun h => by rw [he] at h; exact absurd h h0, ?_, KindAt.nil _ _⟩
  exact h.bel.trans (hS.below (Nat.le_trans h.bel.size (Nat.le_refl _)) (by intro k ek; have ek : k = w.heap.size := ek; omega))
/-- What was read is told. -/
theorem read8_some {bs : List UInt8} {Q : Nat} {w W : World} {o : Om} {p : Option Addr} {cc : Nat} {q pos : Nat} (h : RS w o.kind o.r o.n o.num ⟨o.text.toArray⟩ (.slice p o.spans.length cc) o.seq W) (hG : GRow layS W p o.spans) (hp : ∀ a, p = some a → a.block ≠ w.heap.size) (hk : KindAt 101 W p) (he : readO bs Q 0 = (o, pos, 0)) :
    Read8At bs Q w (.returned (.tuple #[.agg #[.int .i64 o.kind, .int .u16 o.r, .int .u32 o.n, .int .u32 o.num, .string ⟨o.text.toArray⟩, .slice p o.spans.length cc, .int .u32 o.seq], .int .i64 (pos : Int), .int .i64 0])) (((((((W.setCell ⟨w.heap.size, 0, none⟩ (.int .i64 o.kind)).setCell ⟨w.heap.size, 1, none⟩ (.int .u16 o.r)).setCell ⟨w.heap.size, 2, none⟩ (.int .u32 o.n)).setCell ⟨w.heap.size, 3, none⟩ (.int .u32 o.num)).setCell ⟨w.heap.size, 4, none⟩ (.string ⟨o.text.toArray⟩)).setCell ⟨w.heap.size, 5, none⟩ (.slice p o.spans.length cc)).setCell ⟨w.heap.size, 6, none⟩ (.int .u32 o.seq)) := by
  have hS := only_seven W w.heap.size (.int .i64 o.kind) (.int .u16 o.r) (.int .u32 o.n) (.int .u32 o.num) (.string ⟨o.text.toArray⟩) (.slice p o.spans.length cc) (.int .u32 o.seq)
  refine ⟨p, cc, pos, by rw [he]; rfl, by rw [he]; exact hG.kept hS (fun a ea => hp a ea), fun _ => by rw [he], ?_, hk.kept hS (fun a ea => hp a ea)⟩
  exact h.bel.trans (hS.below (Nat.le_trans h.bel.size (Nat.le_refl _)) (by intro k ek; have ek : k = w.heap.size := ek; omega))
end Go.Proofs.Ytedlmngfkkpmgaa
