
/-
  The landed log's memory; what bytes.Clone, Len, Size and Get hand back. No conditions beyond what each theorem states.
-/
import Derived.Test.YtafhjccghbpbbaaLogMap
import Derived.Lib.Walk
namespace Go.Proofs.Ytafhjccghbpbbaa
open Go.ChangeShapes Go.WideShapes Go.ChangeAt Go.RowKit Go.Lib
set_option linter.unusedVariables false
set_option linter.unusedSimpArgs false

theorem owns_emptyL (w : World) : (w.alloc (.cells #[] 5)).ownsRow w.heap.size 5 1 (.slice (some ⟨w.heap.size, 0, none⟩) 0 0) 0 [] :=
  ⟨rfl, .inr ⟨w.heap.size, 0, #[], rfl, Nat.le_refl _, heap_alloc_new w _, by simp, by simp, by simp, by simp⟩⟩
theorem owns_rowB {w : World} {B n : Nat} {v : Value} {bs : List UInt8} (h : w.ownsRow B 5 1 v n (byteCells bs)) : ∃ p c, v = .slice p bs.length c ∧ RowB w p c bs := by
  obtain ⟨p, c, rfl, rfl, hr, _⟩ := brow_owns h
  refine ⟨p, c, rfl, hr, kind_owns h, fun e => ?_⟩
  rcases h.2 with ⟨hv, h0⟩ | ⟨g, cap, cur, hv, hb, _, h1, _⟩
  · injection hv with e1 e2 e3
  · subst e
    cases hv
set_option maxHeartbeats 1600000 in
theorem cloneL_any (bs : List UInt8) (p : Option Addr) (c : Nat) (w : World) (hR : BRow w p bs) (hn : p = none → c = 0) (hl : bs.length ≤ 1000000) :
    Calls Try.prog 14 #[.slice p bs.length c] w fun e w' => ∃ p' c', e = .returned (.slice p' bs.length c') ∧ RowB w' p' c' bs ∧ Below w.heap.size w w' := by
  obtain ⟨i0, hi, hz0, hz1, hz2⟩ := info_parts infoB
  have hnil : ∀ (w : World) (a : Option Addr) (n c n' c' : Nat), (binOp .eql 33 (.slice a n c) (.slice none n' c')).run Try.prog w = .ok (.bool a.isNone) w := fun w a n c n' c' => Lib.run_eql_slice_nil w _ _ a n c n' c' Try.underlying33
  have HR := Lib.hid hR
  clear hR
  cases p with
  | none =>
    have hc : c = 0 := hn rfl
    have h0 : bs = [] := by
      cases bs with
      | nil => rfl
      | cons x xs => obtain ⟨b, o, e, _⟩ := HR.out 0 (by simp); cases e
    subst hc h0
    go_enter Try.func14, Try.ntmps14
    go_wp2
    go_ret
    exact ⟨none, 0, rfl, RowB.empty _, Below.refl _ _⟩
  | some a =>
    go_enter Try.func14, Try.ntmps14
    go_wp2_with (first
      | (at_builtin; refine wpList_append_own_at _ rfl (.tmp 5) (.tmp 6) 33 rfl w.heap.size 5 i0 (.int .u8 0) 1 1 Try.underlying33 hi hz0 hz1 hz2 rfl (by decide) _ 0 [] rfl (owns_emptyL w) a bs.length c (byteCells bs) rfl (by rw [byteCells_length, Nat.mul_one]) (brow_news (HR.out.below (below_alloc (Below.refl _ _) _))) (byteCells_one _) (by unfold maxLen; omega) (by omega) (by simp) ?_))
    intro v2 w2 hown hgrow _ _
    have HB2 : Hid (Below w.heap.size w w2) := (below_alloc (Below.refl _ _) _).grown hgrow (by simp) (by intro k e; cases e; simp)
    have HO := Lib.hid (owns_rowB hown)
    clear hown hgrow
    go_wp2
    go_ret
    obtain ⟨p', c', e, hr⟩ := HO.out
    exact ⟨p', c', by rw [← e]; rfl, hr, HB2.out⟩
/-- The names alone. -/
def layN : Lay Lm := ⟨2, fun x => [.int .u16 x.r, .int .u32 x.s], fun _ => rfl, fun x u hu => by
  simp at hu
  rcases hu with rfl | rfl <;> rfl⟩
theorem layN_pos : 0 < layN.k := by decide
/-- A log at block K, which writes the blocks of S alone, and keeps l. -/
structure LgM (S : Nat → Prop) (K : Nat) (l : List Lm) (mo : Option Nat) (v : Value) (w : World) : Prop where
  head : w.heap[K]? = some (.cells #[.map mo, v, .int .i64 (sizeL l : Int)] 31 (0, 0))
  map : MapO w mo l
  names : w.ownsRow K 26 2 v l.length (layN.flat l)
  own : ∀ k, S k ↔ (k = K ∨ mo = some k ∨ v.ownBlock = some k)
  one : OneL l
  fit : ∀ x ∈ l, FitL x
def Lgg (S : Nat → Prop) (K : Nat) (l : List Lm) (w : World) : Prop := ∃ mo v, LgM S K l mo v w
theorem kept_boxG {w w1 : World} {B : Nat} {cs : Array Value} {t : TypeId} (h : w.heap[B]? = some (.cells cs t (0, 0))) (hb : Below w.heap.size w w1) : w1.heap[B]? = some (.cells cs t (0, 0)) := by
  rw [hb.block B (lt_of_block h)]; exact h
theorem three_cellsG {w : World} {B : Nat} {a b c : Value} {t : TypeId} (h : w.heap[B]? = some (.cells #[a, b, c] t (0, 0))) : w.cell? ⟨B, 0, none⟩ = some a ∧ w.cell? ⟨B, 1, none⟩ = some b ∧ w.cell? ⟨B, 2, none⟩ = some c :=
  ⟨by rw [cell_of_block h]; rfl, by rw [cell_of_block h]; rfl, by rw [cell_of_block h]; rfl⟩
theorem own_below {w w' : World} {base n k : Nat} {e : TypeId} {v : Value} {xs : List Value} (h : w.ownsRow base e k v n xs) (hb : Below w.heap.size w w') : w'.ownsRow base e k v n xs := by
  refine ⟨h.1, ?_⟩
  rcases h.2 with h0 | ⟨g, cap, cur, rfl, hb2, hg, h1, h2, h3, h4⟩
  · exact Or.inl h0
  · exact Or.inr ⟨g, cap, cur, rfl, hb2, by rw [hb.block g (lt_of_block hg)]; exact hg, h1, h2, h3, h4⟩
section
variable {S : Nat → Prop} {K : Nat} {l : List Lm} {mo : Option Nat} {v : Value} {w w' : World}
theorem LgM.below (h : LgM S K l mo v w) (hb : Below w.heap.size w w') : LgM S K l mo v w' :=
  ⟨kept_boxG h.head hb, h.map.below hb, own_below h.names hb, h.own, h.one, h.fit⟩
/-- The kinds of a log's blocks. -/
theorem LgM.kinds (h : LgM S K l mo v w) : ∀ k, S k → (∃ cs f, w.heap[k]? = some (.cells cs 31 f)) ∨ (∃ cs f, w.heap[k]? = some (.cells cs 26 f)) ∨ (∃ es n, w.heap[k]? = some (.map es n)) := fun k hk => by
  rcases (h.own k).1 hk with rfl | hm | hv
  · exact Or.inl ⟨_, _, h.head⟩
  · subst hm
    obtain ⟨es, n, hm, -⟩ := h.map
    exact Or.inr (Or.inr ⟨es, n, hm⟩)
  · obtain ⟨cs, f, hc⟩ := own_kind h.names k hv
    exact Or.inr (Or.inl ⟨cs, f, hc⟩)
theorem LgM.lt (h : LgM S K l mo v w) : ∀ k, S k → k < w.heap.size := fun k hk => by
  rcases h.kinds k hk with ⟨cs, f, hc⟩ | ⟨cs, f, hc⟩ | ⟨cs, f, hc⟩ <;> exact lt_of_block hc
theorem LgM.apart (h : LgM S K l mo v w) {k : Nat} {cs : Array Value} {t : TypeId} {f : Nat × Nat} (hc : w.heap[k]? = some (.cells cs t f)) (h1 : t ≠ 31) (h2 : t ≠ 26) : ¬ S k := fun hk => by
  rcases h.kinds k hk with ⟨cs', f', hc'⟩ | ⟨cs', f', hc'⟩ | ⟨cs', f', hc'⟩
  · rw [hc] at hc'
    simp only [Option.some.injEq, Obj.cells.injEq] at hc'
    exact h1 hc'.2.1
  · rw [hc] at hc'
    simp only [Option.some.injEq, Obj.cells.injEq] at hc'
    exact h2 hc'.2.1
  · rw [hc] at hc'
    cases hc'
/-- What writes blocks of other kinds leaves it. -/
theorem LgM.keptN {N : Nat → Prop} (h : LgM S K l mo v w) (hk : Kept N w w') (hN : ∀ k, S k → ¬ N k) (hB : ∀ k, N k → ∀ cs f, w.heap[k]? ≠ some (.cells cs 5 f)) : LgM S K l mo v w' :=
  ⟨hk.stays h.head (hN _ ((h.own K).2 (Or.inl rfl))), h.map.kept hk (fun M e => hN _ ((h.own M).2 (Or.inr (Or.inl e)))) hB, own_kept h.names hk (fun j hj => hN _ ((h.own j).2 (Or.inr (Or.inr hj)))), h.own, h.one, h.fit⟩
end
section
variable {S : Nat → Prop} {K : Nat} {l : List Lm} {w w' : World}
theorem Lgg.below (h : Lgg S K l w) (hb : Below w.heap.size w w') : Lgg S K l w' := by
  obtain ⟨mo, v, h⟩ := h
  exact ⟨mo, v, h.below hb⟩
theorem Lgg.othersK (h : Lgg S K l w) : ∀ k, S k → ∀ cs t f, w.heap[k]? = some (.cells cs t f) → ¬ KindL t := fun k hk cs t f hc hkl => by
  obtain ⟨mo, v, h⟩ := h
  refine h.apart hc ?_ ?_ hk
  · rcases hkl with rfl | rfl | rfl <;> decide
  · rcases hkl with rfl | rfl | rfl <;> decide
theorem Lgg.apartK {N : Nat → Prop} (h : Lgg S K l w) (hN : ∀ k, N k → ∃ cs t f, w.heap[k]? = some (.cells cs t f) ∧ KindL t) (hk : Kept N w w') : Lgg S K l w' := by
  have h0 := h
  obtain ⟨mo, v, h⟩ := h
  refine ⟨mo, v, h.keptN hk (fun k hs hn => ?_) (fun k hn cs f hc => ?_)⟩
  · obtain ⟨cs, t, f, hc, ht⟩ := hN k hn
    exact h0.othersK k hs cs t f hc ht
  · obtain ⟨cs', t', f', hc', ht'⟩ := hN k hn
    rw [hc] at hc'
    simp only [Option.some.injEq, Obj.cells.injEq] at hc'
    rw [← hc'.2.1] at ht'
    rcases ht' with e | e | e <;> exact absurd e (by decide)
end
theorem Lgg.zero (w : World) : ∃ S, Lgg S w.heap.size [] (w.alloc (.cells #[.map none, .slice none 0 0, .int .i64 0] 31)) ∧ ∀ k, S k → w.heap.size ≤ k :=
  ⟨fun k => k = w.heap.size ∨ none = some k ∨ Value.ownBlock (.slice none 0 0) = some k, ⟨none, .slice none 0 0, heap_alloc_new w _, rfl, World.ownsRow_nil _ _ _ _, fun k => Iff.rfl, OneL.nil, fun x hx => by simp at hx⟩, fun k hk => by
    rcases hk with rfl | e | e
    · exact Nat.le_refl _
    · cases e
    · simp [Value.ownBlock] at e⟩
set_option maxHeartbeats 1600000 in
theorem len_any (S : Nat → Prop) (K : Nat) (l : List Lm) (w : World) (h : Lgg S K l w) : Calls Try.prog 9 #[.pointer (some ⟨K, 0, none⟩)] w fun e w' => e = .returned (.int .i64 (l.length : Int)) ∧ Below w.heap.size w w' := by
  obtain ⟨mo, v, h⟩ := h
  obtain ⟨q, d, rfl⟩ := owns_slice h.names
  obtain ⟨k0, k1, k2⟩ := three_cellsG h.head
  clear h
  go_enter Try.func9, Try.ntmps9
  go_wp2
  go_ret
  exact ⟨rfl, Below.refl _ _⟩
set_option maxHeartbeats 1600000 in
theorem size_any (S : Nat → Prop) (K : Nat) (l : List Lm) (w : World) (h : Lgg S K l w) : Calls Try.prog 10 #[.pointer (some ⟨K, 0, none⟩)] w fun e w' => e = .returned (.int .i64 (sizeL l : Int)) ∧ Below w.heap.size w w' := by
  obtain ⟨mo, v, h⟩ := h
  obtain ⟨k0, k1, k2⟩ := three_cellsG h.head
  clear h
  generalize (sizeL l : Int) = Z at k2 ⊢
  go_enter Try.func10, Try.ntmps10
  go_wp2
  go_ret
  exact ⟨rfl, Below.refl _ _⟩
set_option maxHeartbeats 3200000 in
theorem get_anyL (S : Nat → Prop) (K : Nat) (l : List Lm) (w : World) (r s : Int) (h : Lgg S K l w) (hr : 0 ≤ r ∧ r ≤ 65535) (hs : 0 ≤ s ∧ s ≤ 4294967295) : Calls Try.prog 8 #[.pointer (some ⟨K, 0, none⟩), .agg #[.int .u16 r, .int .u32 s]] w fun e w' => ∃ p c, e = .returned (.tuple #[.slice p (gotL l r s).length c, .bool (keptL l r s)]) ∧ RowB w' p c (gotL l r s) ∧ Below w.heap.size w w' := by
  obtain ⟨mo, v, h⟩ := h
  obtain ⟨p, d, hrow, hlen, hlook⟩ := look_any h.map h.fit h.one hr hs true
  have HB : Hid (Below w.heap.size w (w.alloc (.cells #[.int .u16 r, .int .u32 s] 26))) := below_alloc (Below.refl _ _) _
  obtain ⟨k0, k1, k2⟩ := three_cellsG (kept_boxG h.head HB.out)
  have hlk : ∀ n, (Instr.lookup 28 (.map mo) (.agg #[.int .u16 r, .int .u32 s]) true).run Try.prog ((w.alloc (.cells #[.int .u16 r, .int .u32 s] 26)).drewN n) = .ok (.tuple #[.slice p (gotL l r s).length d, .bool (keptL l r s)]) ((w.alloc (.cells #[.int .u16 r, .int .u32 s] 26)).drewN n) := fun n => hlook _ (fun M e => by
    subst e
    show (w.alloc _).heap[M]? = _
    exact HB.out.block M (MapL.lt h.map))
  have HCL : Hid (∀ W, Below w.heap.size w W → Calls Try.prog 14 #[.slice p (gotL l r s).length d] W fun e w' => ∃ p' c', e = .returned (.slice p' (gotL l r s).length c') ∧ RowB w' p' c' (gotL l r s) ∧ Below W.heap.size W w') := fun W hb => cloneL_any _ _ _ W (hrow.row.below hb) hrow.nil (by omega)
  clear h hrow hlook hlen
  generalize gotL l r s = G at *
  generalize keptL l r s = C at *
  go_enter Try.func8, Try.ntmps8
  go_wp2_with fail
  go_quiet (fail)
  go_wp2_with fail
  refine (HCL.out _ (below_drewN HB.out _)).mono ?_
  rintro e w2 ⟨p2, c2, rfl, hr2, hb2⟩
  have HB2 : Hid (Below w.heap.size w w2) := below_step (below_drewN HB.out _) hb2
  have HR2 := Lib.hid hr2
  clear hr2 hb2 hlk HCL
  go_wp2
  go_ret2
  exact ⟨p2, c2, rfl, HR2.out, HB2.out⟩
end Go.Proofs.Ytafhjccghbpbbaa
