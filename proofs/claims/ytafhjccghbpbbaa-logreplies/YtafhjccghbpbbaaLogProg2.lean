
/-
  What the landed log's Put leaves. No conditions beyond what each theorem states.
-/
import Derived.Test.YtafhjccghbpbbaaLogProg1
import Derived.Test.YtafhjccghbpbbaaMix
import Derived.Deep.Cut
import Derived.Deep.CutRange
namespace Go.Proofs.Ytafhjccghbpbbaa
open Go.ChangeShapes Go.WideShapes Go.ChangeAt Go.RowKit Go.Lib
set_option linter.unusedVariables false
set_option linter.unusedSimpArgs false

theorem step_append_ownAt {P : Program} {ops : Array Oper} {o : Oper} {a : Act} {w : World} {K : Act → World → Prop} {Q : Exit → Act → World → Prop} {E : Prop}
    (hg : o.guard = none) (s x : Operand) (t : TypeId) (hop : o.op = Op.call { callee := Callee.builtin Builtin.append, args := #[s, x], argTypes := #[t, t] })
    (base : Nat) (e : TypeId) (i : TypeInfo) (z : Value) (size bytes : Nat) (h1 : P.underlying t = some (.slice e)) (h2 : P.info? e = some i) (h3 : i.zero = some z) (h4 : i.size = size) (h5 : i.bytes = bytes) (h6 : z.cells.size = size) (h7 : 0 < size)
    (v : Value) (n : Nat) (xs : List Value) (hs : a.eval s = v) (hown : w.ownsRow base e size v n xs)
    (ad : Addr) (m c : Nat) (news : List Value) (hx : a.eval x = .slice (some ad) m c) (hn : news.length = m * size) (hc : ∀ j u, news[j]? = some u → w.cell? (ad.add j) = some u) (h1c : ∀ u ∈ news, u.oneCell' = true)
    (b1 : n + m ≤ maxLen) (b2 : (n + m) * bytes ≤ 140737488355328) (hbase : base ≤ w.heap.size)
    (hK : ∀ v' w', w'.ownsRow base e size v' (n + m) (xs ++ news) → w.grownBy w' v.ownBlock → (v'.ownBlock = v.ownBlock ∨ v'.ownBlock = some w.heap.size) → K (a.put o.dst v') w') :
    if Region.wanted o (yielded ops a.tmps) = true then Oper.wp P o a w K Q else E := by
  have hw : Region.wanted o (yielded ops a.tmps) = true := by simp [Region.wanted, hg]
  rw [if_pos hw]
  obtain ⟨v', w', hrun, r1, r2, _, r4⟩ := run_append_own_at (P := P) w base t o.type e i z size bytes h1 h2 h3 h4 h5 h6 h7 v n xs hown ad m c news hn hc h1c b1 b2 hbase
  unfold Oper.wp
  simp [execOp, hop, resolve, invoke, builtin, hs, hx, hrun, Result.andThen]
  exact hK v' w' r1 r2 r4
theorem infoN12 : (Try.prog.info? 26).map (fun i => (i.zero, i.size, i.bytes)) = some (some (.agg #[.int .u16 0, .int .u32 0]), 2, 8) := by kernel_rfl
theorem eql_mapL (w : World) (mo : Option Nat) : (binOp .eql 28 (.map mo) (.map none)).run Try.prog w = .ok (.bool mo.isNone) w := by
  have h : ∀ d : Nat, (Op.equalIn (d + 1) 28 (.map mo) (.map none)).run Try.prog w = .ok mo.isNone w := fun d => by
    cases mo <;> simp [Op.equalIn, run_underlying Try.underlying28]
  simp only [binOp]
  simp [Op.equal, Op.maxDepth, h 9999]
theorem set_three0 {w : World} {B : Nat} {a b c u : Value} {t : TypeId} (h : w.heap[B]? = some (.cells #[a, b, c] t (0, 0))) : (w.setCell ⟨B, 0, none⟩ u).heap[B]? = some (.cells #[u, b, c] t (0, 0)) := by
  have := heap_setCell_same w B 0 _ t u h
  simpa using this
theorem set_three1 {w : World} {B : Nat} {a b c u : Value} {t : TypeId} (h : w.heap[B]? = some (.cells #[a, b, c] t (0, 0))) : (w.setCell ⟨B, 1, none⟩ u).heap[B]? = some (.cells #[a, u, c] t (0, 0)) := by
  have := heap_setCell_same w B 1 _ t u h
  simpa using this
theorem set_three2 {w : World} {B : Nat} {a b c u : Value} {t : TypeId} (h : w.heap[B]? = some (.cells #[a, b, c] t (0, 0))) : (w.setCell ⟨B, 2, none⟩ u).heap[B]? = some (.cells #[a, b, u] t (0, 0)) := by
  have := heap_setCell_same w B 2 _ t u h
  simpa using this
theorem StepG.ofBelow {S : Nat → Prop} {w w' : World} (h : Below w.heap.size w w') : StepG S S w w' := ⟨Kept.ofBelow h, fun _ _ h => h⟩
theorem StepG.trans {S S' S2 : Nat → Prop} {a b c : World} (h : StepG S S' a b) (k : StepG S' S2 b c) : StepG S S2 a c :=
  ⟨h.kept.trans k.kept (fun i hi hs => h.new i hi hs), fun i hi hs => h.new i hi (k.new i (Nat.lt_of_lt_of_le hi h.kept.size) hs)⟩
theorem sizeG_add (l : List Lm) (x : Lm) : sizeL (l ++ [x]) = sizeL l + x.b.length := by
  unfold sizeL
  rw [List.foldl_append]
  rfl
theorem sizeG_le {l : List Lm} (h : ∀ x ∈ l, FitL x) : sizeL l ≤ 500 * l.length := by
  have key : ∀ (l : List Lm) (n : Nat), (∀ x ∈ l, FitL x) → l.foldl (fun n x => n + x.b.length) n ≤ n + 500 * l.length := by
    intro l
    induction l with
    | nil => intro n _; simp
    | cons y l ih =>
      intro n hy
      have h1 := ih (n + y.b.length) (fun x hx => hy x (List.mem_cons_of_mem _ hx))
      have h2 := (hy y List.mem_cons_self).b
      rw [List.foldl_cons, List.length_cons]
      omega
  have := key l 0 h
  unfold sizeL
  omega
/-- The blocks of a log that has a map. -/
def SetL (K M : Nat) (v : Value) (k : Nat) : Prop := k = K ∨ some M = some k ∨ v.ownBlock = some k
/-- A new map is laid. -/
theorem put_map {S : Nat → Prop} {K : Nat} {l : List Lm} {v : Value} {w : World} (h : LgM S K l none v w) : LgM (SetL K w.heap.size v) K l (some w.heap.size) v ((w.alloc (.map #[] 0)).setCell ⟨K, 0, none⟩ (.map (some w.heap.size))) ∧ StepG S (SetL K w.heap.size v) w ((w.alloc (.map #[] 0)).setCell ⟨K, 0, none⟩ (.map (some w.heap.size))) := by
  have hb : Below w.heap.size w (w.alloc (.map #[] 0)) := below_alloc (Below.refl _ _) _
  have h1 := h.below hb
  have hk : Kept (fun k => k = K) (w.alloc (.map #[] 0)) ((w.alloc (.map #[] 0)).setCell ⟨K, 0, none⟩ (.map (some w.heap.size))) := Kept.set (S := fun k => k = K) (Kept.refl _ _) rfl _
  have hKl : K < w.heap.size := lt_of_block h.head
  have hl : l = [] := h.map
  have hne : ∀ j, v.ownBlock = some j → ¬ j = K := fun j hj e => by
    obtain ⟨cs, f, hc⟩ := own_kind h.names j hj
    rw [e, h.head] at hc
    simp at hc
  refine ⟨⟨set_three0 h1.head, ?_, own_kept h1.names hk hne, fun k => Iff.rfl, h.one, h.fit⟩, (Kept.ofBelow hb).trans hk (fun i _ e => (h.own i).2 (Or.inl e)), fun k hk2 hs => ?_⟩
  · show MapL _ _ _
    rw [hl]
    exact (MapL.new w).kept hk (fun e => by omega) (fun k e cs f hc => by
      rw [e, h1.head] at hc
      simp at hc)
  · rcases hs with e | e | e
    · exact (h.own k).2 (Or.inl e)
    · cases e
      omega
    · exact (h.own k).2 (Or.inr (Or.inr e))
/-- What is stored, appended and counted. -/
theorem put_end {S : Nat → Prop} {K M : Nat} {l : List Lm} {x : Lm} {v v' : Value} {w w6 wa w7 : World} (h : LgM S K l (some M) v w) (hx : FitL x) (hno : keptL l x.r x.s = false) (hm : MapL w6 M (l ++ [x])) (hk6 : Kept (fun k => k = M) w w6) (hb : Below w6.heap.size w6 wa) (hown : w7.ownsRow K 26 2 v' (l.length + 1) (layN.flat l ++ layN.enc x)) (hg : wa.grownBy w7 v.ownBlock) (hloc : v'.ownBlock = v.ownBlock ∨ v'.ownBlock = some wa.heap.size) :
    w7.heap[K]? = some (.cells #[.map (some M), v, .int .i64 (sizeL l : Int)] 31 (0, 0)) ∧ LgM (SetL K M v') K (l ++ [x]) (some M) v' ((w7.setCell ⟨K, 1, none⟩ v').setCell ⟨K, 2, none⟩ (.int .i64 (sizeL (l ++ [x]) : Int))) ∧ StepG S (SetL K M v') w ((w7.setCell ⟨K, 1, none⟩ v').setCell ⟨K, 2, none⟩ (.int .i64 (sizeL (l ++ [x]) : Int))) := by
  have hM : ∃ es n, w.heap[M]? = some (.map es n) := by
    obtain ⟨es, n, hm, -⟩ := (h.map : MapL w M l)
    exact ⟨es, n, hm⟩
  obtain ⟨es, n, hM⟩ := hM
  have hKM : K ≠ M := fun e => by
    rw [← e, h.head] at hM
    cases hM
  have h6 := hk6.stays h.head hKM
  have ha := kept_boxG h6 hb
  have hn6 : w6.ownsRow K 26 2 v l.length (layN.flat l) := own_kept h.names hk6 (fun j hj e => by
    obtain ⟨cs, f, hc⟩ := own_kind h.names j hj
    rw [e, hM] at hc
    cases hc)
  have hna := own_below hn6 hb
  have hvK : ∀ j, v.ownBlock = some j → ¬ j = K := fun j hj e => by
    obtain ⟨cs, f, hc⟩ := own_kind hna j hj
    rw [e, ha] at hc
    simp at hc
  have h7 : w7.heap[K]? = some (.cells #[.map (some M), v, .int .i64 (sizeL l : Int)] 31 (0, 0)) := (hg.block K (lt_of_block ha) (fun e => hvK K e.symm rfl)).trans ha
  have hkg : Kept (fun k => v.ownBlock = some k) wa w7 := Kept.ofGrown hg (fun k e => e)
  have hm7 : MapL w7 M (l ++ [x]) := (hm.below hb).kept hkg (fun e => by
    obtain ⟨cs, f, hc⟩ := own_kind hna M e
    obtain ⟨es2, n2, hm2, -⟩ := hm.below hb
    rw [hm2] at hc
    cases hc) (fun k e cs f hc => by
    obtain ⟨cs2, f2, hc2⟩ := own_kind hna k e
    rw [hc] at hc2
    simp at hc2)
  have hk8 : Kept (fun k => k = K) w7 ((w7.setCell ⟨K, 1, none⟩ v').setCell ⟨K, 2, none⟩ (.int .i64 (sizeL (l ++ [x]) : Int))) := Kept.set (S := fun k => k = K) (Kept.set (S := fun k => k = K) (Kept.refl _ _) rfl _) rfl _
  have hvK' : ∀ j, v'.ownBlock = some j → ¬ j = K := fun j hj e => by
    obtain ⟨cs, f, hc⟩ := own_kind hown j hj
    rw [e, h7] at hc
    simp at hc
  refine ⟨h7, ⟨set_three2 (set_three1 h7), ?_, ?_, fun k => Iff.rfl, h.one.add hno, fun y hy => ?_⟩, ?_, fun k hk2 hs => ?_⟩
  · exact hm7.kept hk8 (fun e => hKM e.symm) (fun k e cs f hc => by
      rw [e, h7] at hc
      simp at hc)
  · have hown2 : w7.ownsRow K 26 2 v' (l ++ [x]).length (layN.flat (l ++ [x])) := by
      rw [List.length_append, layN.flat_append, layN.flat_one]
      exact hown
    exact own_kept hown2 hk8 hvK'
  · rcases List.mem_append.1 hy with hy | hy
    · exact h.fit y hy
    · simp at hy
      subst hy
      exact hx
  · have hSK : S K := (h.own K).2 (Or.inl rfl)
    have hSM : S M := (h.own M).2 (Or.inr (Or.inl rfl))
    have k1 : Kept S w wa := (hk6.mono (fun i _ e => by subst e; exact hSM)).trans (T := fun _ => False) (Kept.ofBelow hb) (fun _ _ f => f.elim)
    have k2 : Kept S w w7 := k1.trans hkg (fun i _ e => (h.own i).2 (Or.inr (Or.inr e)))
    exact k2.trans hk8 (fun i _ e => by subst e; exact hSK)
  · rcases hs with e | e | e
    · exact (h.own k).2 (Or.inl e)
    · exact (h.own k).2 (Or.inr (Or.inl e))
    · rcases hloc with e2 | e2
      · rw [e2] at e
        exact (h.own k).2 (Or.inr (Or.inr e))
      · rw [e2] at e
        cases e
        have : w.heap.size ≤ wa.heap.size := Nat.le_trans hk6.size hb.size
        omega
end Go.Proofs.Ytafhjccghbpbbaa
