
/-
  A map from names to bytes: what a look-up tells, what a store of a new name leaves. No conditions beyond what each theorem states.
-/
import Derived.Test.YtafhjccghbpbbaaLogSpec
import Derived.Maps.Own
import Derived.DeepKeys4
import Derived.WideKeyArgs
namespace Go.Proofs.Ytafhjccghbpbbaa
open Go.ChangeShapes Go.WideShapes Go.ChangeAt Go.RowKit Go.Lib
set_option linter.unusedVariables false
set_option linter.unusedSimpArgs false

theorem laidOutL : laidOutB Try.prog = true := by kernel_rfl
theorem rowL : (26 : TypeId) < Try.prog.types.size := of_decide_eq_true (by kernel_rfl)
theorem wideL : (match Try.prog.underlying 26 with | some (.array _ _) | some (.struct _) => true | _ => false) = true := by kernel_rfl
theorem keyedL : Maps.Keyed Try.prog 26 := Maps.Keyed.of_law (deep_law_laid laidOutL (m := 3) (by omega) rowL (by kernel_rfl) wideL)
theorem cellsIdL : Try.prog.cellsOf 26 = 2 := by kernel_rfl
theorem cells16L : Try.prog.cellsOf 23 = 1 := by kernel_rfl
theorem cells32L : Try.prog.cellsOf 24 = 1 := by kernel_rfl
theorem keyTypeL : Try.prog.keyType 26 = true := by kernel_rfl
theorem sizeTL : ∃ n, Try.prog.types.size = n + 2 := ⟨Try.prog.types.size - 2, by have := rowL; have : (2 : Nat) ≤ Try.prog.types.size := of_decide_eq_true (by kernel_rfl); omega⟩
/-- A name as a key. -/
def keyL (r s : Int) : Value := .agg #[.int .u16 r, .int .u32 s]
theorem keyOf_L {r s : Int} (hr : 0 ≤ r ∧ r ≤ 65535) (hs : 0 ≤ s ∧ s ≤ 4294967295) : ∃ kl, keyOf Try.prog 26 (keyL r s) = some kl := by
  obtain ⟨n, hn⟩ := sizeTL
  have w1 : (Lit.int .u16 r).wf = true := WalkArith.wf_u16 hr
  have w2 : (Lit.int .u32 s).wf = true := WalkArith.wf_u32 hs
  refine ⟨.string (keyBytes [.int .u16 r, .int .u32 s]), ?_⟩
  have hf : (keyL r s).formed Try.prog 26 = true := by simp [keyL, Value.formed, Try.underlying26, cellsIdL]
  have hl : Try.prog.keyLits (n + 2 + 1) 26 (keyL r s).cells.toList = some [.int .u16 r, .int .u32 s] := by
    simp [keyL, Value.cells, Program.keyLits, Try.underlying26, Try.underlying23, Try.underlying24, cellsIdL, cells16L, cells32L, w1, w2]
  simp only [keyOf, Try.underlying26, keyTypeL, hf, hn, hl]
  rfl
theorem keyL_inj {r s r' s' : Int} (h : keyL r s = keyL r' s') : r = r' ∧ s = s' := by
  simp [keyL] at h
  exact h
theorem zeroBL (w : World) : (zeroValue 33).run Try.prog w = .ok (.slice none 0 0) w := by kernel_rfl
/-- What the names and the bytes of a list may be. -/
structure FitL (x : Lm) : Prop where
  r : 0 ≤ x.r ∧ x.r ≤ 65535
  s : 0 ≤ x.s ∧ x.s ≤ 4294967295
  b : x.b.length ≤ 500
/-- No name is there twice. -/
def OneL (l : List Lm) : Prop := ∀ i, i < l.length → placeL l (l.getD i l0L).r (l.getD i l0L).s = some i
/-- Bytes as they lie. -/
structure RowB (w : World) (p : Option Addr) (c : Nat) (bs : List UInt8) : Prop where
  row : BRow w p bs
  kind : KindAt 5 w p
  nil : p = none → c = 0
theorem RowB.below {w w' : World} {p : Option Addr} {c : Nat} {bs : List UInt8} (h : RowB w p c bs) (hb : Below w.heap.size w w') : RowB w' p c bs := ⟨h.row.below hb, h.kind.below hb, h.nil⟩
theorem RowB.kept {S : Nat → Prop} {w w' : World} {p : Option Addr} {c : Nat} {bs : List UInt8} (h : RowB w p c bs) (hk : Kept S w w') (hn : ∀ q, p = some q → ¬ S q.block) : RowB w' p c bs := ⟨hk.brow h.row hn, h.kind.kept hk hn, h.nil⟩
theorem RowB.empty (w : World) : RowB w none 0 [] := ⟨BRow.nil _ _, KindAt.nil _ _, fun _ => rfl⟩
/-- A map from names to bytes: its entries in the order in which they came. -/
def MapL (w : World) (M : Nat) (l : List Lm) : Prop := ∃ es clock, w.heap[M]? = some (.map es clock) ∧ es.size = l.length ∧ ∀ i, i < l.length → ∃ e p c, es[i]? = some e ∧ e.key = keyL (l.getD i l0L).r (l.getD i l0L).s ∧ e.val = .slice p (l.getD i l0L).b.length c ∧ RowB w p c (l.getD i l0L).b
theorem MapL.lt {w : World} {M : Nat} {l : List Lm} (h : MapL w M l) : M < w.heap.size := by
  obtain ⟨es, clock, hb, -⟩ := h
  exact lt_of_block hb
theorem MapL.below {w w' : World} {M : Nat} {l : List Lm} (h : MapL w M l) (hb : Below w.heap.size w w') : MapL w' M l := by
  obtain ⟨es, clock, hm, hs, ha⟩ := h
  refine ⟨es, clock, by rw [hb.block M (lt_of_block hm)]; exact hm, hs, fun i hi => ?_⟩
  obtain ⟨e, p, c, h1, h2, h3, h4⟩ := ha i hi
  exact ⟨e, p, c, h1, h2, h3, h4.below hb⟩
/-- Its own block and its bytes' blocks stay. -/
theorem MapL.kept {S : Nat → Prop} {w w' : World} {M : Nat} {l : List Lm} (h : MapL w M l) (hk : Kept S w w') (hM : ¬ S M) (hB : ∀ k, S k → ∀ cs f, w.heap[k]? ≠ some (.cells cs 5 f)) : MapL w' M l := by
  obtain ⟨es, clock, hm, hs, ha⟩ := h
  refine ⟨es, clock, hk.stays hm hM, hs, fun i hi => ?_⟩
  obtain ⟨e, p, c, h1, h2, h3, h4⟩ := ha i hi
  refine ⟨e, p, c, h1, h2, h3, h4.kept hk (fun q hq hS => ?_)⟩
  obtain ⟨cs, f, hc⟩ := h4.kind q hq
  exact hB _ hS cs f hc
theorem MapL.new (w : World) : MapL (w.alloc (.map #[] 0)) w.heap.size [] := ⟨#[], 0, heap_alloc_new w _, rfl, fun i hi => by simp at hi⟩
/-- A map, or none. -/
def MapO (w : World) : Option Nat → List Lm → Prop
  | none, l => l = []
  | some M, l => MapL w M l
theorem MapO.below {w w' : World} {mo : Option Nat} {l : List Lm} (h : MapO w mo l) (hb : Below w.heap.size w w') : MapO w' mo l := by
  cases mo with
  | none => exact h
  | some M => exact MapL.below h hb
theorem MapO.kept {S : Nat → Prop} {w w' : World} {mo : Option Nat} {l : List Lm} (h : MapO w mo l) (hk : Kept S w w') (hM : ∀ M, mo = some M → ¬ S M) (hB : ∀ k, S k → ∀ cs f, w.heap[k]? ≠ some (.cells cs 5 f)) : MapO w' mo l := by
  cases mo with
  | none => exact h
  | some M => exact MapL.kept h hk (hM M rfl) hB
theorem gotL_some {l : List Lm} {r s : Int} {i : Nat} (h : placeL l r s = some i) : gotL l r s = (l.getD i l0L).b ∧ keptL l r s = true := by
  unfold gotL keptL
  rw [h]
  exact ⟨rfl, rfl⟩
theorem gotL_none {l : List Lm} {r s : Int} (h : placeL l r s = none) : gotL l r s = [] ∧ keptL l r s = false := by
  unfold gotL keptL
  rw [h]
  exact ⟨rfl, rfl⟩
/-- A look-up. -/
theorem look_any {w : World} {mo : Option Nat} {l : List Lm} (h : MapO w mo l) (hF : ∀ x ∈ l, FitL x) (hD : OneL l) {r s : Int} (hr : 0 ≤ r ∧ r ≤ 65535) (hs : 0 ≤ s ∧ s ≤ 4294967295) (cm : Bool) :
    ∃ p d, RowB w p d (gotL l r s) ∧ (gotL l r s).length ≤ 500 ∧ ∀ W, (∀ M, mo = some M → W.heap[M]? = w.heap[M]?) → (Instr.lookup 28 (.map mo) (keyL r s) cm).run Try.prog W = .ok (if cm then .tuple #[.slice p (gotL l r s).length d, .bool (keptL l r s)] else .slice p (gotL l r s).length d) W := by
  obtain ⟨kl, hkey⟩ := keyOf_L hr hs
  cases mo with
  | none =>
    have hl : l = [] := h
    subst hl
    refine ⟨none, 0, RowB.empty w, by simp [gotL, placeL], fun W _ => ?_⟩
    rcases keyedL.find W hkey [] (by simp) with ⟨f1, _⟩ | ⟨j, e0, _, f2, _⟩
    · simp [Instr.lookup, run_underlying Try.underlying28, keyedL.check W _ hkey, f1, zeroBL, Result.andThen, gotL, keptL, placeL]
    · simp at f2
  | some M =>
    obtain ⟨es, clock, hm, hsz, ha⟩ := h
    have hkeys : ∀ e ∈ es.toList, ∃ k, keyOf Try.prog 26 e.key = some k := fun e he => by
      obtain ⟨i, hi, rfl⟩ := List.getElem_of_mem he
      have hi' : i < l.length := by simpa [hsz] using hi
      obtain ⟨e, p, c, h1, h2, -⟩ := ha i hi'
      have : es.toList[i] = e := by
        have := h1
        rw [Array.getElem?_eq_getElem (by simpa using hi)] at this
        simpa using this
      rw [this, h2]
      have hfx := hF _ (getD_mem l0L hi')
      exact keyOf_L hfx.r hfx.s
    cases hp : placeL l r s with
    | some i =>
      obtain ⟨hi, hn⟩ := placeL_some hp
      obtain ⟨e, p, c, h1, h2, h3, h4⟩ := ha i hi
      obtain ⟨hg, hk⟩ := gotL_some hp
      rw [hg, hk]
      refine ⟨p, c, h4, (hF _ (getD_mem l0L hi)).b, fun W hW => ?_⟩
      have hm' : W.heap[M]? = some (.map es clock) := by rw [hW M rfl]; exact hm
      obtain ⟨en1, en2⟩ := nameL_iff.1 hn
      rcases keyedL.find W hkey es.toList hkeys with ⟨f1, f2⟩ | ⟨j, e0, f1, f2, f3⟩
      · refine absurd ?_ (f2 e (List.mem_of_getElem? (by simpa using h1)))
        rw [h2, en1, en2]
      · have hj : j < l.length := by
          have := (List.getElem?_eq_some_iff.1 f2).1
          simpa [hsz] using this
        obtain ⟨e', p', c', g1, g2, g3, g4⟩ := ha j hj
        have he : e' = e0 := by
          have : es[j]? = some e0 := by simpa using f2
          rw [g1] at this
          exact Option.some.inj this
        subst he
        rw [g2] at f3
        obtain ⟨k1, k2⟩ := keyL_inj f3
        have hij : j = i := by
          have := hD j hj
          rw [k1, k2, hp] at this
          exact (Option.some.inj this).symm
        subst hij
        rw [h1] at g1
        cases Option.some.inj g1
        simp [Instr.lookup, run_underlying Try.underlying28, MapKept.run_getObj_map hm', keyedL.check W _ hkey, f1, Result.andThen, h3]
    | none =>
      obtain ⟨hg, hk⟩ := gotL_none hp
      rw [hg, hk]
      refine ⟨none, 0, RowB.empty w, by simp, fun W hW => ?_⟩
      have hm' : W.heap[M]? = some (.map es clock) := by rw [hW M rfl]; exact hm
      rcases keyedL.find W hkey es.toList hkeys with ⟨f1, f2⟩ | ⟨j, e0, f1, f2, f3⟩
      · simp [Instr.lookup, run_underlying Try.underlying28, MapKept.run_getObj_map hm', keyedL.check W _ hkey, f1, zeroBL, Result.andThen]
      · have hj : j < l.length := by
          have := (List.getElem?_eq_some_iff.1 f2).1
          simpa [hsz] using this
        obtain ⟨e', p', c', g1, g2, g3, g4⟩ := ha j hj
        have he : e' = e0 := by
          have : es[j]? = some e0 := by simpa using f2
          rw [g1] at this
          exact Option.some.inj this
        subst he
        rw [g2] at f3
        obtain ⟨k1, k2⟩ := keyL_inj f3
        have := hD j hj
        rw [k1, k2, hp] at this
        cases this
/-- A store of a new name. -/
theorem store_any {w : World} {M : Nat} {l : List Lm} (h : MapL w M l) (hF : ∀ x ∈ l, FitL x) {x : Lm} (hx : FitL x) (hno : keptL l x.r x.s = false) (hl : l.length ≤ 1000000) {p : Option Addr} {c : Nat} (hb : RowB w p c x.b) :
    ∃ w', (Instr.mapUpdate 28 (.map (some M)) (keyL x.r x.s) (.slice p x.b.length c)).run Try.prog w = .ok () w' ∧ MapL w' M (l ++ [x]) ∧ Kept (fun k => k = M) w w' ∧ w'.heap.size = w.heap.size := by
  obtain ⟨kl, hkey⟩ := keyOf_L hx.r hx.s
  obtain ⟨es, clock, hm, hsz, ha⟩ := h
  have hkeys : ∀ e ∈ es.toList, ∃ k, keyOf Try.prog 26 e.key = some k := fun e he => by
    obtain ⟨i, hi, rfl⟩ := List.getElem_of_mem he
    have hi' : i < l.length := by simpa [hsz] using hi
    obtain ⟨e, p, c, h1, h2, -⟩ := ha i hi'
    have : es.toList[i] = e := by
      have := h1
      rw [Array.getElem?_eq_getElem (by simpa using hi)] at this
      simpa using this
    rw [this, h2]
    have hfx := hF _ (getD_mem l0L hi')
    exact keyOf_L hfx.r hfx.s
  have hnp : placeL l x.r x.s = none := by
    unfold keptL at hno
    cases hp : placeL l x.r x.s with
    | none => rfl
    | some i => rw [hp] at hno; cases hno
  rcases keyedL.find w hkey es.toList hkeys with ⟨f1, f2⟩ | ⟨j, e0, f1, f2, f3⟩
  · have hk : Kept (fun k => k = M) w (ChangeMaps.setBlock w M (.map (es.push ⟨keyL x.r x.s, .slice p x.b.length c, clock⟩) (clock + 1))) :=
      ⟨rfl, rfl, rfl, by simp [ChangeMaps.setBlock], fun k hk hn => ChangeMaps.heap_setBlock_other hm _ hn⟩
    have hnm : ∀ {p : Option Addr}, KindAt 5 w p → ∀ q, p = some q → ¬ q.block = M := fun hk q hq e => by
      obtain ⟨cs, f, hc⟩ := hk q hq
      rw [e, hm] at hc
      cases hc
    refine ⟨_, by simp [Instr.mapUpdate, run_underlying Try.underlying28, MapKept.run_getObj_map hm, keyedL.check w false hkey, f1, MapKept.run_setObj_map _ hm, Result.andThen, ChangeMaps.setBlock], ⟨es.push ⟨keyL x.r x.s, .slice p x.b.length c, clock⟩, clock + 1, ChangeMaps.heap_setBlock_same hm _, by simp [hsz], fun i hi => ?_⟩, hk, by simp [ChangeMaps.setBlock]⟩
    by_cases hil : i < l.length
    · obtain ⟨e, p', c', h1, h2, h3, h4⟩ := ha i hil
      have eg : (l ++ [x]).getD i l0L = l.getD i l0L := by simp [List.getElem?_append_left hil]
      rw [eg]
      refine ⟨e, p', c', ?_, h2, h3, h4.kept hk (hnm h4.kind)⟩
      rw [Array.getElem?_push]
      rw [if_neg (by omega)]
      exact h1
    · have hie : i = l.length := by simp at hi; omega
      subst hie
      have eg : (l ++ [x]).getD l.length l0L = x := by simp
      rw [eg]
      refine ⟨⟨keyL x.r x.s, .slice p x.b.length c, clock⟩, p, c, ?_, rfl, rfl, hb.kept hk (hnm hb.kind)⟩
      rw [Array.getElem?_push, if_pos hsz.symm]
  · have hj : j < l.length := by
      have := (List.getElem?_eq_some_iff.1 f2).1
      simpa [hsz] using this
    obtain ⟨e', p', c', g1, g2, g3, g4⟩ := ha j hj
    have he : e' = e0 := by
      have : es[j]? = some e0 := by simpa using f2
      rw [g1] at this
      exact Option.some.inj this
    subst he
    rw [g2] at f3
    obtain ⟨k1, k2⟩ := keyL_inj f3
    exfalso
    have : placeL l x.r x.s ≠ none := by
      rw [← k1, ← k2]
      intro hno2
      have key : ∀ (l : List Lm) (j : Nat), j < l.length → placeL l (l.getD j l0L).r (l.getD j l0L).s ≠ none := by
        intro l
        induction l with
        | nil => intro j hj; simp at hj
        | cons y l ih =>
          intro j hj
          rw [placeL]
          by_cases hy : nameL y ((y :: l).getD j l0L).r ((y :: l).getD j l0L).s = true
          · rw [if_pos hy]; simp
          · rw [if_neg hy]
            cases j with
            | zero => exact absurd (nameL_iff.2 ⟨by simp, by simp⟩) hy
            | succ j =>
              have := ih j (by simpa using hj)
              simp only [List.getD_cons_succ]
              intro e
              rw [Option.map_eq_none_iff] at e
              exact this e
      exact key l j hj hno2
    exact this hnp
theorem placeL_app {l : List Lm} {x : Lm} {r s : Int} : placeL (l ++ [x]) r s = match placeL l r s with | some i => some i | none => if nameL x r s = true then some l.length else none := by
  induction l with
  | nil =>
    simp only [List.nil_append, placeL, List.length_nil]
    split <;> rfl
  | cons y l ih =>
    rw [List.cons_append, placeL, placeL, ih]
    by_cases hy : nameL y r s = true
    · rw [if_pos hy, if_pos hy]
    · rw [if_neg hy, if_neg hy]
      cases placeL l r s with
      | some i => rfl
      | none =>
        simp only [Option.map_none, List.length_cons]
        split <;> rfl
theorem OneL.nil : OneL [] := fun i hi => by simp at hi
theorem OneL.add {l : List Lm} {x : Lm} (h : OneL l) (hno : keptL l x.r x.s = false) : OneL (l ++ [x]) := fun i hi => by
  by_cases hil : i < l.length
  · have eg : (l ++ [x]).getD i l0L = l.getD i l0L := by simp [List.getElem?_append_left hil]
    rw [eg, placeL_app, h i hil]
  · have hie : i = l.length := by simp at hi; omega
    subst hie
    have eg : (l ++ [x]).getD l.length l0L = x := by simp
    have hnp : placeL l x.r x.s = none := by
      unfold keptL at hno
      cases hp : placeL l x.r x.s with
      | none => rfl
      | some i => rw [hp] at hno; cases hno
    rw [eg, placeL_app, hnp, if_pos (nameL_iff.2 ⟨rfl, rfl⟩)]
end Go.Proofs.Ytafhjccghbpbbaa
