/-
  Several texts of one proof, joined: each part says at its head what it proves. No conditions beyond what each theorem states.
-/
import Derived.Lib.QuietBelow
import Derived.BigQuiet
import Derived.OrdersHeld
import Derived.Deep.SlicePairs
import Derived.Deep.DeepHandedRow
import Derived.Carry
import Derived.ChangeSame
import Derived.Test.YtjkdcpalgfakhaaGreatZ07
import Derived.Test.YtjkdcpalgfakhaaGreatZ03
import Derived.Test.YtjkdcpalgfakhaaGreatZ04
import Derived.Test.YtjkdcpalgfakhaaGreatZ01
/-
  A region that draws its order, whose first operations only read (their callees may lay blocks), and whose last ones wait for all ahead of them, each for the one before: one walk in the order of the text serves every order. Of no program. No conditions beyond what each theorem states.
-/
namespace Go.Proofs.YtjkdcpalgfakhaaGreat
open Go Go.Sort Go.RowKit
set_option linter.unusedVariables false
set_option linter.unusedSimpArgs false

/-- The last operations come up one by one. -/
def tailB (md : Region.Mode) (ops : Array Oper) : Nat → Nat → Array Bool → Bool
  | 0, _, listed => (Region.ready md ops listed).isEmpty
  | f + 1, k, listed => (Region.ready md ops listed == [k]) && tailB md ops f (k + 1) (listed.setIfInBounds k true)
/-- All of the last operations wait for number i. -/
def waitsB (md : Region.Mode) (ops : Array Oper) (k0 i : Nat) : Bool :=
  (List.range ops.size).all fun j => decide (j < k0) || match ops[j]? with
    | some oj => oj.after.any (fun e => Region.binds md e && e.on == i)
    | none => true
def lexT (md : Region.Mode) (ops : Array Oper) (k0 f : Nat) : Nat → Nat → Array Bool → Bool
  | 0, _, listed => (Region.ready md ops listed).all (fun j => decide (k0 ≤ j)) && tailB md ops f k0 listed
  | n + 1, k, listed => (Region.ready md ops listed).contains k && Region.free md ops listed k && (decide (k < k0) && waitsB md ops k0 k) && lexT md ops k0 f n (k + 1) (listed.setIfInBounds k true)

/-- Whatever order is picked from here on, of m operations of the first k0. -/
def anyT (P : Program) (md : Region.Mode) (ops : Array Oper) (C : World → Prop) (k0 f : Nat) (Q : Act → Prop) : Nat → Array Bool → Act → Prop
  | 0, listed, a => (∀ j ∈ Region.ready md ops listed, k0 ≤ j) ∧ tailB md ops f k0 listed = true ∧ Q a
  | m + 1, listed, a => Region.ready md ops listed ≠ [] ∧ ∀ i ∈ Region.ready md ops listed, i < k0 ∧ qOp P ops C i (anyT P md ops C k0 f Q m (listed.setIfInBounds i true)) a

theorem any_of_list {P : Program} {ops : Array Oper} {md : Region.Mode} {Q' : Exit → Act → World → Prop} : ∀ (t : List Oper) (k : Nat) (listed : Array Bool) (a : Act) (w : World), (∀ j, t[j]? = ops[k + j]?) → tailB md ops t.length k listed = true →
    wpList P ops Q' t a w → wpAny P md ops Q' t.length listed a w
  | [], _, _, _, _, _, hB, h => ⟨by simpa [tailB] using hB, h⟩
  | o :: t, k, listed, a, w, ht, hB, h => by
    have h0 : ops[k]? = some o := by simpa using (ht 0).symm
    simp only [List.length_cons, tailB, Bool.and_eq_true, beq_iff_eq] at hB
    obtain ⟨hr, hB'⟩ := hB
    have next : ∀ a w, wpList P ops Q' t a w → wpAny P md ops Q' t.length (listed.setIfInBounds k true) a w := fun a w hh =>
      any_of_list t (k + 1) _ a w (fun j => by have := ht (j + 1); simpa [Nat.add_assoc, Nat.add_comm 1 j] using this) hB' hh
    refine ⟨fun e => (by rw [hr] at e; cases e), fun i hi => ?_⟩
    rw [hr, List.mem_singleton] at hi
    subst hi
    refine wpOp_mono next ?_
    unfold wpOp
    simp only [h0]
    exact h

theorem any_of_anyT {P : Program} {ops : Array Oper} {md : Region.Mode} {C : World → Prop} {Q' : Exit → Act → World → Prop} {k0 f : Nat} {Q : Act → Prop} (hR : ∀ listed a w, C w → tailB md ops f k0 listed = true → Q a → wpAny P md ops Q' f listed a w) :
    ∀ (m : Nat) (listed : Array Bool) (a : Act) (w : World), C w → anyT P md ops C k0 f Q m listed a → wpAny P md ops Q' (m + f) listed a w
  | 0, listed, a, w, hw, h => by rw [Nat.zero_add]; exact hR _ _ _ hw h.2.1 h.2.2
  | m + 1, listed, a, w, hw, h => by
    rw [Nat.add_right_comm]
    exact ⟨fun h0 => absurd h0 h.1, fun i hi => wpOp_of_qOp hw (fun a' w' hw' h' => any_of_anyT hR m _ a' w' hw' h') (h.2 i hi).2⟩

theorem not_waits {ops : Array Oper} {md : Region.Mode} {listed : Array Bool} {i j : Nat} (hi : i ∈ Region.ready md ops listed) (hj : j ∈ Region.ready md ops listed) {oj : Oper} (hoj : ops[j]? = some oj) : ∀ e ∈ oj.after, Region.binds md e = true → e.on ≠ i := fun e he hb heq => by
  obtain ⟨-, o, ho, hall⟩ := mem_ready.1 hj
  rw [hoj] at ho
  cases ho
  have h1 := hall e he hb
  have h0 := (mem_ready.1 hi).1
  rw [heq] at h1
  rcases Nat.lt_or_ge i listed.size with h' | h'
  · simp [h'] at h0 h1; rw [h0] at h1; cases h1
  · simp [Array.getElem?_eq_none h'] at h1

theorem waits_spec {ops : Array Oper} {md : Region.Mode} {k0 i : Nat} (h : waitsB md ops k0 i = true) {j : Nat} {oj : Oper} (hoj : ops[j]? = some oj) (hk : k0 ≤ j) : ∃ e ∈ oj.after, Region.binds md e = true ∧ e.on = i := by
  simp only [waitsB, List.all_eq_true, List.mem_range] at h
  have h1 := h j (Array.getElem?_eq_some_iff.1 hoj).1
  have hk' : ¬ j < k0 := by omega
  simp only [hoj, Bool.or_eq_true, decide_eq_true_eq, hk', false_or] at h1
  obtain ⟨e, he, hb⟩ := Array.any_eq_true'.1 h1
  simp only [Bool.and_eq_true, beq_iff_eq] at hb
  exact ⟨e, he, hb.1, hb.2⟩

theorem anyT_first {P : Program} {ops : Array Oper} {md : Region.Mode} {C : World → Prop} {k0 f : Nat} {Q : Act → Prop} {i : Nat} {oi : Oper} {v : Value} (hi : ops[i]? = some oi) (hik : i < k0) (hw : waitsB md ops k0 i = true)
    (hsel : ∀ (j : Nat) (o : Oper) cs b, ops[j]? = some o → o.op ≠ .select cs b) :
    ∀ (m : Nat) (listed : Array Bool) (a : Act),
      (∀ j oj, ops[j]? = some oj → j ≠ i → listed.getD j true = false → (∀ e ∈ oj.after, Region.binds md e = true → e.on ≠ i) → oi.apart ops oj = true) →
      i ∈ Region.ready md ops listed → YieldsIn P ops C oi v a →
      anyT P md ops C k0 f Q m (listed.setIfInBounds i true) (a.put oi.dst v) → anyT P md ops C k0 f Q (m + 1) listed a := by
  have small : ∀ (listed : Array Bool) j, i ∈ Region.ready md ops listed → j ∈ Region.ready md ops listed → j < k0 := fun listed j hr hj => by
    obtain ⟨-, oj, hoj, -⟩ := mem_ready.1 hj
    rcases Nat.lt_or_ge j k0 with h | h
    · exact h
    · obtain ⟨e, he, hb, hon⟩ := waits_spec hw hoj h
      exact absurd hon (not_waits hr hj hoj e he hb)
  intro m
  induction m with
  | zero =>
    intro listed a _ hr hy H
    refine ⟨fun h => (by rw [h] at hr; cases hr), fun j hj => ?_⟩
    by_cases hji : j = i
    · subst hji; exact ⟨hik, hy.qOp hi H⟩
    · have h1 := H.1 j (ready_mono hj hji)
      have h2 := small listed j hr hj
      omega
  | succ m ih =>
    intro listed a hfree hr hy H
    refine ⟨fun h => (by rw [h] at hr; cases hr), fun j hj => ⟨small listed j hr hj, ?_⟩⟩
    by_cases hji : j = i
    · subst hji; exact hy.qOp hi H
    · have h1 := (H.2 j (ready_mono hj hji)).2
      obtain ⟨hjun, oj, hoj, hall⟩ := mem_ready.1 hj
      have hnot := not_waits hr hj hoj
      have h2 := qOp_put hoj (hfree j oj hoj hji hjun hnot) (fun cs b => hsel i oi cs b hi) (fun cs b => hsel j oj cs b hoj) hy h1
      have hfree' : ∀ k ok, ops[k]? = some ok → k ≠ i → (listed.setIfInBounds j true).getD k true = false →
          (∀ e ∈ ok.after, Region.binds md e = true → e.on ≠ i) → oi.apart ops ok = true := fun k ok hk hki hun hno => by
        refine hfree k ok hk hki ?_ hno
        by_cases hjk : j = k
        · subst hjk; exact hjun
        · rw [getD_set_ne true hjk] at hun; exact hun
      refine qOp_mono (fun a' h3 => ih (listed.setIfInBounds j true) a' hfree' (ready_mono hr (Ne.symm hji)) h3.1 ?_) h2
      rw [Array.setIfInBounds_comm _ _ hji]
      exact h3.2

theorem anyT_lex {P : Program} {ops : Array Oper} {md : Region.Mode} {C : World → Prop} {k0 f : Nat} {Q : Act → Prop} (hs : Region.noSelect ops = true) : ∀ (l : List Oper) (k : Nat) (listed : Array Bool) (a : Act), (∀ j, j < l.length → l[j]? = ops[k + j]?) →
    lexT md ops k0 f l.length k listed = true → wpQuiet P ops C Q l a → anyT P md ops C k0 f Q l.length listed a
  | [], _, _, _, _, hB, h => by
    simp only [List.length_nil, lexT, Bool.and_eq_true, List.all_eq_true, decide_eq_true_eq] at hB
    exact ⟨hB.1, hB.2, h⟩
  | o :: l, k, listed, a, hl, hB, h => by
    have h0 : ops[k]? = some o := by simpa using (hl 0 (by simp)).symm
    simp only [List.length_cons, lexT, Bool.and_eq_true, decide_eq_true_eq] at hB
    obtain ⟨⟨⟨hr, hf⟩, hk, hw⟩, hB'⟩ := hB
    have hst : qOp P ops C k (wpQuiet P ops C Q l) a := by unfold qOp; simp only [h0]; exact h
    obtain ⟨v, hy, hK⟩ := yieldsIn_of_qOp h0 hst
    exact anyT_first h0 hk hw (Region.noSelect_spec hs) l.length listed a (Region.free_spec h0 hf) (by simpa using hr) hy
      (anyT_lex hs l (k + 1) _ _ (fun j hj => by have := hl (j + 1) (by simp; omega); simpa [Nat.add_assoc, Nat.add_comm 1 j] using this) hB' hK)

/-- The check over a region's operations, n of which come ahead of the last ones. -/
def Region.tailOk (n : Nat) (ops : List Oper) : Bool := decide (n ≤ ops.length) && Region.noSelect ops.toArray && lexT .any ops.toArray n (ops.length - n) n 0 (Array.replicate ops.length false)

theorem wp_region_tail {P : Program} {C : World → Prop} {id : Nat} {Q : Exit → Act → World → Prop} {a : Act} {w : World} {ops : List Oper} (n : Nat) (hm : P.follows .mixedOrders = true) (hB : Region.tailOk n ops = true) (hC : C { w with drawn := w.drawn + 1 })
    (h : wpQuiet P ops.toArray C (fun a' => ∀ w', C w' → wpList P ops.toArray Q (ops.drop n) a' w') (ops.take n) a) : (Code.region id ops.toArray true).wp P Q a w := by
  simp only [Region.tailOk, Bool.and_eq_true, decide_eq_true_eq] at hB
  obtain ⟨⟨hn, hs⟩, hl⟩ := hB
  have hlen : (ops.take n).length = n := by rw [List.length_take]; omega
  have hlen2 : (ops.drop n).length = ops.length - n := List.length_drop
  have e : ops.toArray.size = (ops.take n).length + (ops.drop n).length := by rw [hlen, hlen2]; simp; omega
  refine wp_region_any hm ?_
  rw [e]
  refine any_of_anyT (k0 := n) (Q := fun a' => ∀ w', C w' → wpList P ops.toArray Q (ops.drop n) a' w') (fun listed a' w' hw' ht hq => ?_) _ _ _ _ hC ?_
  · exact any_of_list (ops.drop n) n listed a' w' (fun j => by simp) ht (hq w' hw')
  · rw [← e, hlen2]
    refine anyT_lex hs (ops.take n) 0 _ a (fun j hj => ?_) ?_ h
    · rw [hlen] at hj
      simp [List.getElem?_take, hj]
    · rw [hlen]
      simpa using hl

/-- The same, whose callees' contracts end in Below. -/
theorem wp_region_tail_below {P : Program} {id : Nat} {Q : Exit → Act → World → Prop} {a : Act} {w : World} {ops : List Oper} (n : Nat) (hm : P.follows .mixedOrders = true) (hB : Region.tailOk n ops = true)
    (h : wpQuiet P ops.toArray (fun w' => ∃ p : Regrown, w' = grow (redrawn w p.d) p.os) (fun a' => ∀ w', (∃ p : Regrown, w' = grow (redrawn w p.d) p.os) → wpList P ops.toArray Q (ops.drop n) a' w') (ops.take n) a) : (Code.region id ops.toArray true).wp P Q a w :=
  wp_region_tail n hm hB ⟨⟨w.drawn + 1, #[]⟩, by rw [grow_empty]; rfl⟩ h

end Go.Proofs.YtjkdcpalgfakhaaGreat
/-
  A region that draws its order: operations that only read, and may be taken first; others that come up one by one and leave what was there as it was; and the last ones, which wait for all that were taken first. One walk serves every order. Of no program. No conditions beyond what each theorem states.
-/
namespace Go.Proofs.YtjkdcpalgfakhaaGreat
open Go Go.Sort Go.RowKit
set_option linter.unusedVariables false
set_option linter.unusedSimpArgs false

/-- An operation that yields a value, or halts. -/
def pureB (o : Oper) : Bool := match o.op with
  | .move _ | .assign _ | .pick .. | .build .. | .load .. | .binOp .. | .unOp .. | .convert .. | .slice .. | .fieldAddr .. | .field .. | .indexAddr .. | .index .. | .extract .. => true
  | .nilCheck _ => true
  | .call c => match c.callee with
    | .builtin .len => true
    | _ => false
  | _ => false
def Valued (r : Result Next) : Prop := (∃ v w, r = .ok (.value v) w) ∨ ∃ h w, r = .halt h w
theorem valued_andThen {α : Type} (r : Result α) {g : α → World → Result Next} (h : ∀ x w', Valued (g x w')) : Valued (r.andThen g) := by
  cases r with
  | ok x w' => exact h x w'
  | halt e w' => exact .inr ⟨e, w', rfl⟩
theorem valued_bind {α : Type} {P : Program} {w : World} (s : Sem α) (g : α → Value) : Valued ((s >>= fun x => (pure (Next.value (g x)) : Sem Next)).run P w) := by
  rw [Sem.run_bind]
  cases h : s.run P w with
  | ok x w' => exact .inl ⟨g x, w', rfl⟩
  | halt e w' => exact .inr ⟨e, w', rfl⟩
theorem valued_of_pure {P : Program} {w : World} {ρ : Operand → Value} {o : Oper} (h : pureB o = true) : Valued ((execOp ρ o).run P w) := by
  unfold pureB at h
  unfold execOp
  split at h
  all_goals (rename_i e)
  case h_15 =>
    simp only [e]
    split
    all_goals first
      | exact .inr ⟨_, _, rfl⟩
      | exact .inl ⟨_, _, rfl⟩
      | skip
    all_goals split
    all_goals first
      | exact .inr ⟨_, _, rfl⟩
      | exact .inl ⟨_, _, rfl⟩
      | skip
    rw [Sem.run_bind]
    refine valued_andThen _ fun a w' => ?_
    rw [Sem.run_bind]
    refine valued_andThen _ fun b w2 => ?_
    split
    · rw [Sem.run_bind]
      exact valued_andThen _ fun _ _ => .inl ⟨_, _, rfl⟩
    · exact .inl ⟨_, _, rfl⟩
  case h_16 c =>
    split at h
    · rename_i hc
      simp only [e]
      unfold resolve invoke
      simp only [hc, Sem.run_bind, Sem.run_pure, Result.andThen_ok]
      exact valued_bind (Builtin.len_ _ _ _) id
    · cases h
  case h_17 => cases h
  all_goals
    simp only [e]
    first
      | exact .inl ⟨_, _, rfl⟩
      | exact valued_bind _ id
      | exact valued_bind _ _

theorem run_of_quiet {P : Program} {C : World → Prop} {w : World} {a : Act} {o : Oper} {v : Value} (h : pureB o = true) (hq : o.quietAt P a C w v) : (execOp a.eval o).run P w = .ok (.value v) w := by
  unfold Oper.quietAt at hq
  rcases valued_of_pure (P := P) (w := w) (ρ := a.eval) h with ⟨u, w', e⟩ | ⟨x, w', e⟩
  · rw [e] at hq ⊢
    obtain ⟨rfl, rfl⟩ := hq
    rfl
  · rw [e] at hq
    exact hq.elim

/-- All operations that are marked wait for number i. -/
def waitsT (md : Region.Mode) (ops : Array Oper) (T : Nat → Bool) (i : Nat) : Bool :=
  (List.range ops.size).all fun j => !T j || match ops[j]? with
    | some oj => oj.after.any (fun e => Region.binds md e && e.on == i)
    | none => true
theorem waitsT_spec {ops : Array Oper} {md : Region.Mode} {T : Nat → Bool} {i : Nat} (h : waitsT md ops T i = true) {j : Nat} {oj : Oper} (hoj : ops[j]? = some oj) (hk : T j = true) : ∃ e ∈ oj.after, Region.binds md e = true ∧ e.on = i := by
  simp only [waitsT, List.all_eq_true, List.mem_range] at h
  have h1 := h j (Array.getElem?_eq_some_iff.1 hoj).1
  simp only [hoj, hk, Bool.not_true, Bool.false_or] at h1
  obtain ⟨e, he, hb⟩ := Array.any_eq_true'.1 h1
  simp only [Bool.and_eq_true, beq_iff_eq] at hb
  exact ⟨e, he, hb.1, hb.2⟩

/-- Whatever order is picked from here on, of m operations that are not marked; behind each the world is of the class. -/
def anyM (P : Program) (md : Region.Mode) (ops : Array Oper) (C : World → Prop) (T : Nat → Bool) (Q : Exit → Act → World → Prop) (f : Nat) : Nat → Array Bool → Act → World → Prop
  | 0, listed, a, w => (∀ j ∈ Region.ready md ops listed, T j = true) ∧ wpAny P md ops Q f listed a w
  | m + 1, listed, a, w => Region.ready md ops listed ≠ [] ∧ ∀ i ∈ Region.ready md ops listed, T i = false ∧ wpOp P ops Q i (fun a' w' => C w' ∧ anyM P md ops C T Q f m (listed.setIfInBounds i true) a' w') a w

theorem any_of_anyM {P : Program} {md : Region.Mode} {ops : Array Oper} {C : World → Prop} {T : Nat → Bool} {Q : Exit → Act → World → Prop} {f : Nat} :
    ∀ (m : Nat) (listed : Array Bool) (a : Act) (w : World), anyM P md ops C T Q f m listed a w → wpAny P md ops Q (m + f) listed a w
  | 0, listed, a, w, h => by rw [Nat.zero_add]; exact h.2
  | m + 1, listed, a, w, h => by
    rw [Nat.add_right_comm]
    exact ⟨fun h0 => absurd h0 h.1, fun i hi => wpOp_mono (fun a' w' h' => any_of_anyM m _ a' w' h'.2) (h.2 i hi).2⟩

theorem anyM_first {P : Program} {md : Region.Mode} {ops : Array Oper} {C : World → Prop} {T : Nat → Bool} {Q : Exit → Act → World → Prop} {f : Nat} {i : Nat} {oi : Oper} {v : Value} (hi : ops[i]? = some oi) (hT : T i = false) (hw : waitsT md ops T i = true)
    (hsel : ∀ (j : Nat) (o : Oper) cs b, ops[j]? = some o → o.op ≠ .select cs b) (hQ : ∀ c a w, Q (.panic c) (a.put oi.dst v) w → Q (.panic c) a w) :
    ∀ (m : Nat) (listed : Array Bool) (a : Act) (w : World),
      (∀ j oj, ops[j]? = some oj → j ≠ i → listed.getD j true = false → (∀ e ∈ oj.after, Region.binds md e = true → e.on ≠ i) → oi.apart ops oj = true) →
      i ∈ Region.ready md ops listed → YieldsIf P ops C oi v a → C w →
      anyM P md ops C T Q f m (listed.setIfInBounds i true) (a.put oi.dst v) w → anyM P md ops C T Q f (m + 1) listed a w := by
  have small : ∀ (listed : Array Bool) j, i ∈ Region.ready md ops listed → j ∈ Region.ready md ops listed → T j = false := fun listed j hr hj => by
    obtain ⟨-, oj, hoj, -⟩ := mem_ready.1 hj
    cases h : T j with
    | false => rfl
    | true =>
      obtain ⟨e, he, hb, hon⟩ := waitsT_spec hw hoj h
      exact absurd hon (not_waits hr hj hoj e he hb)
  intro m
  induction m with
  | zero =>
    intro listed a w _ hr hy hC H
    refine ⟨fun h => (by rw [h] at hr; cases hr), fun j hj => ?_⟩
    by_cases hji : j = i
    · subst hji; exact ⟨hT, hy.wpOp hi hC ⟨hC, H⟩⟩
    · have h1 := H.1 j (ready_mono hj hji)
      rw [small listed j hr hj] at h1
      cases h1
  | succ m ih =>
    intro listed a w hfree hr hy hC H
    refine ⟨fun h => (by rw [h] at hr; cases hr), fun j hj => ⟨small listed j hr hj, ?_⟩⟩
    by_cases hji : j = i
    · subst hji; exact hy.wpOp hi hC ⟨hC, H⟩
    · have h1 := (H.2 j (ready_mono hj hji)).2
      obtain ⟨hjun, oj, hoj, hall⟩ := mem_ready.1 hj
      have hnot := not_waits hr hj hoj
      have h2 := wpOp_putIf hoj (hfree j oj hoj hji hjun hnot) (fun cs b => hsel i oi cs b hi) (fun cs b => hsel j oj cs b hoj) hQ hy h1
      have hfree' : ∀ k ok, ops[k]? = some ok → k ≠ i → (listed.setIfInBounds j true).getD k true = false →
          (∀ e ∈ ok.after, Region.binds md e = true → e.on ≠ i) → oi.apart ops ok = true := fun k ok hk hki hun hno => by
        refine hfree k ok hk hki ?_ hno
        by_cases hjk : j = k
        · subst hjk; exact hjun
        · rw [getD_set_ne true hjk] at hun; exact hun
      refine wpOp_mono (fun a' w' h3 => ⟨h3.2.1, ih (listed.setIfInBounds j true) a' w' hfree' (ready_mono hr (Ne.symm hji)) h3.1 h3.2.1 ?_⟩) h2
      rw [Array.setIfInBounds_comm _ _ hji]
      exact h3.2.2

/-- Those that come up one by one, ahead of the last ones. -/
def seqM (P : Program) (ops : Array Oper) (Q : Exit → Act → World → Prop) (C : World → Prop) (t : List Oper) : List Oper → Act → World → Prop
  | [], a, w => wpList P ops Q t a w
  | o :: rest, a, w => ∀ K : Act → World → Prop, (∀ a' w', C w' → seqM P ops Q C t rest a' w' → K a' w') → wpList P ops (Exit.then K Q) [o] a w
theorem seqM_nil {P : Program} {ops : Array Oper} {Q : Exit → Act → World → Prop} {C : World → Prop} {t : List Oper} {a : Act} {w : World} (h : wpList P ops Q t a w) : seqM P ops Q C t [] a w := h
theorem seqM_step {P : Program} {ops : Array Oper} {Q : Exit → Act → World → Prop} {C : World → Prop} {t rest : List Oper} {o : Oper} {a : Act} {w : World}
    (h : ∀ K : Act → World → Prop, (∀ a' w', C w' → seqM P ops Q C t rest a' w' → K a' w') → wpList P ops (Exit.then K Q) [o] a w) : seqM P ops Q C t (o :: rest) a w := h

theorem upon_then {P : Program} {o : Oper} {a : Act} {K : Act → World → Prop} {Q : Exit → Act → World → Prop} {r : Result Next} (h : o.upon P a (fun a w => Exit.then K Q .normal a w) (Exit.then K Q) r) : o.upon P a K Q r := by
  cases r with
  | ok n w' =>
    cases n <;> simp only [Oper.upon] at h ⊢ <;> exact h
  | halt x w' => cases x <;> simp only [Oper.upon] at h ⊢ <;> exact h
theorem wpOp_of_one {P : Program} {ops : Array Oper} {Q : Exit → Act → World → Prop} {K : Act → World → Prop} {i : Nat} {o : Oper} {a : Act} {w : World} (ho : ops[i]? = some o) (h : wpList P ops (Exit.then K Q) [o] a w) : wpOp P ops Q i K a w := by
  unfold wpOp
  simp only [ho]
  unfold wpList at h
  split at h
  · rename_i hw
    rw [if_pos hw]
    rcases h with h | ⟨h1, a, w, h2⟩
    · exact .inl (upon_then h)
    · exact .inr ⟨h1, a, w, h2⟩
  · rename_i hw
    rw [if_neg hw]
    exact h

def pickOps (ops : List Oper) (is : List Nat) : List Oper := is.filterMap (ops[·]?)
def seqB (md : Region.Mode) (ops : Array Oper) : List Nat → Array Bool → Bool
  | [], listed => (Region.ready md ops listed).isEmpty
  | j :: js, listed => (Region.ready md ops listed == [j]) && decide (j < ops.size) && seqB md ops js (listed.setIfInBounds j true)
def midB (md : Region.Mode) (ops : Array Oper) (T : Nat → Bool) (tail : List Nat) : List Nat → Array Bool → Bool
  | [], listed => (Region.ready md ops listed).all T && seqB md ops tail listed
  | j :: js, listed => (Region.ready md ops listed == [j]) && decide (j < ops.size) && !T j && midB md ops T tail js (listed.setIfInBounds j true)
def mixB (md : Region.Mode) (ops : Array Oper) (T : Nat → Bool) (mid tail : List Nat) : List Nat → Array Bool → Bool
  | [], listed => midB md ops T tail mid listed
  | i :: is, listed => (Region.ready md ops listed).contains i && Region.free md ops listed i && !T i && waitsT md ops T i && (match ops[i]? with | some o => pureB o | none => false) && mixB md ops T mid tail is (listed.setIfInBounds i true)

theorem pick_cons {ops : List Oper} {j : Nat} {js : List Nat} {o : Oper} (h : ops[j]? = some o) : pickOps ops (j :: js) = o :: pickOps ops js := by
  unfold pickOps
  rw [List.filterMap_cons_some h]

theorem any_of_seq {P : Program} {ops : List Oper} {md : Region.Mode} {Q : Exit → Act → World → Prop} : ∀ (js : List Nat) (listed : Array Bool) (a : Act) (w : World), seqB md ops.toArray js listed = true →
    wpList P ops.toArray Q (pickOps ops js) a w → wpAny P md ops.toArray Q js.length listed a w
  | [], _, _, _, hB, h => ⟨by simpa [seqB] using hB, h⟩
  | j :: js, listed, a, w, hB, h => by
    simp only [seqB, Bool.and_eq_true, beq_iff_eq, decide_eq_true_eq] at hB
    obtain ⟨⟨hr, hj⟩, hB'⟩ := hB
    have hj' : j < ops.length := by simpa using hj
    have h0 : ops[j]? = some ops[j] := List.getElem?_eq_getElem hj'
    have h0' : ops.toArray[j]? = some ops[j] := by simp [hj']
    rw [pick_cons h0] at h
    refine ⟨fun e => (by rw [hr] at e; cases e), fun i hi => ?_⟩
    rw [hr, List.mem_singleton] at hi
    subst hi
    refine wpOp_mono (fun a w hh => any_of_seq js _ a w hB' hh) ?_
    unfold wpOp
    simp only [h0']
    exact h

theorem anyM_mid {P : Program} {ops : List Oper} {md : Region.Mode} {C : World → Prop} {T : Nat → Bool} {Q : Exit → Act → World → Prop} {tail : List Nat} : ∀ (js : List Nat) (listed : Array Bool) (a : Act) (w : World), midB md ops.toArray T tail js listed = true →
    seqM P ops.toArray Q C (pickOps ops tail) (pickOps ops js) a w → anyM P md ops.toArray C T Q tail.length js.length listed a w
  | [], listed, a, w, hB, h => by
    simp only [midB, Bool.and_eq_true, List.all_eq_true] at hB
    exact ⟨hB.1, any_of_seq tail listed a w hB.2 h⟩
  | j :: js, listed, a, w, hB, h => by
    simp only [midB, Bool.and_eq_true, beq_iff_eq, decide_eq_true_eq, Bool.not_eq_true'] at hB
    obtain ⟨⟨⟨hr, hj⟩, hT⟩, hB'⟩ := hB
    have hj' : j < ops.length := by simpa using hj
    have h0 : ops[j]? = some ops[j] := List.getElem?_eq_getElem hj'
    have h0' : ops.toArray[j]? = some ops[j] := by simp [hj']
    rw [pick_cons h0] at h
    refine ⟨fun e => (by rw [hr] at e; cases e), fun i hi => ?_⟩
    rw [hr, List.mem_singleton] at hi
    subst hi
    exact ⟨hT, wpOp_of_one h0' (h _ fun a' w' hC hs => ⟨hC, anyM_mid js _ a' w' hB' hs⟩)⟩

theorem anyM_mix {P : Program} {ops : List Oper} {md : Region.Mode} {C : World → Prop} {T : Nat → Bool} {Q : Exit → Act → World → Prop} {mid tail : List Nat} {w : World} (hs : Region.noSelect ops.toArray = true) (hQ : ∀ c (a : Act) d v w, Q (.panic c) (a.put d v) w → Q (.panic c) a w) (hC : C w) : ∀ (is : List Nat) (listed : Array Bool) (a : Act), mixB md ops.toArray T mid tail is listed = true →
    wpQuiet P ops.toArray C (fun a' => seqM P ops.toArray Q C (pickOps ops tail) (pickOps ops mid) a' w) (pickOps ops is) a → anyM P md ops.toArray C T Q tail.length (is.length + mid.length) listed a w
  | [], listed, a, hB, h => by
    rw [List.length_nil, Nat.zero_add]
    exact anyM_mid mid listed a w hB h
  | i :: is, listed, a, hB, h => by
    simp only [mixB, Bool.and_eq_true, Bool.not_eq_true'] at hB
    obtain ⟨⟨⟨⟨⟨hr, hf⟩, hT⟩, hw⟩, hp⟩, hB'⟩ := hB
    cases h0 : ops.toArray[i]? with
    | none => rw [h0] at hp; cases hp
    | some o =>
      rw [h0] at hp
      simp only at hp
      rw [pick_cons (by simpa using h0)] at h
      have hst : qOp P ops.toArray C i (wpQuiet P ops.toArray C (fun a' => seqM P ops.toArray Q C (pickOps ops tail) (pickOps ops mid) a' w) (pickOps ops is)) a := by unfold qOp; simp only [h0]; exact h
      obtain ⟨v, hy, hK⟩ := yieldsIn_of_qOp h0 hst
      have hy' : YieldsIf P ops.toArray C o v a := hy.imp (fun ⟨h1, h2⟩ => ⟨h1, fun w hw => run_of_quiet hp (h2 w hw)⟩) id
      have hl : (i :: is).length + mid.length = (is.length + mid.length) + 1 := by simp only [List.length_cons]; omega
      rw [hl]
      exact anyM_first h0 hT hw (Region.noSelect_spec hs) (fun c a w h => hQ c a _ _ w h) _ listed a w (Region.free_spec h0 hf) (by simpa using hr) hy' hC (anyM_mix hs hQ hC is _ _ hB' hK)

/-- The check over a region's operations: which are taken first, which come up one by one, and which are the last. -/
def Region.mixOk (take mid tail : List Nat) (ops : List Oper) : Bool := decide (take.length + mid.length + tail.length = ops.length) && Region.noSelect ops.toArray && mixB .any ops.toArray (fun j => tail.contains j) mid tail take (Array.replicate ops.length false)

theorem wp_region_mix {P : Program} {C : World → Prop} {id : Nat} {Q : Exit → Act → World → Prop} {a : Act} {w : World} {ops : List Oper} (take mid tail : List Nat) (hm : P.follows .mixedOrders = true) (hB : Region.mixOk take mid tail ops = true) (hQ : ∀ c (a : Act) d v w, Q (.panic c) (a.put d v) w → Q (.panic c) a w) (hC : C w.drew)
    (h : wpQuiet P ops.toArray C (fun a' => seqM P ops.toArray Q C (pickOps ops tail) (pickOps ops mid) a' w.drew) (pickOps ops take) a) : (Code.region id ops.toArray true).wp P Q a w := by
  simp only [Region.mixOk, Bool.and_eq_true, decide_eq_true_eq] at hB
  obtain ⟨⟨hn, hs⟩, hl⟩ := hB
  refine wp_region_any hm ?_
  rw [show ops.toArray.size = take.length + mid.length + tail.length by rw [hn]; simp]
  refine any_of_anyM (C := C) (T := fun j => tail.contains j) _ _ _ _ ?_
  rw [hn]
  exact anyM_mix hs hQ hC take _ a hl h

theorem below_of_drew {w w' : World} (h : Below w.drew.heap.size w.drew w') : Below w.heap.size w w' := ⟨h.os, h.tape, h.output, h.size, h.block⟩

/-- The same at the class of worlds in which of what was there nothing has turned. -/
theorem wp_region_mix_below {P : Program} {id : Nat} {Q : Exit → Act → World → Prop} {a : Act} {w : World} {ops : List Oper} (take mid tail : List Nat) (hm : P.follows .mixedOrders = true) (hB : Region.mixOk take mid tail ops = true) (hQ : ∀ c (a : Act) d v w, Q (.panic c) (a.put d v) w → Q (.panic c) a w)
    (h : wpQuiet P ops.toArray (fun w' => ∃ p : Regrown, w' = grow (redrawn w p.d) p.os) (fun a' => seqM P ops.toArray Q (fun w' => ∃ p : Regrown, w' = grow (redrawn w p.d) p.os) (pickOps ops tail) (pickOps ops mid) a' w.drew) (pickOps ops take) a) : (Code.region id ops.toArray true).wp P Q a w :=
  wp_region_mix take mid tail hm hB hQ ⟨⟨w.drawn + 1, #[]⟩, by rw [grow_empty]; rfl⟩ h

end Go.Proofs.YtjkdcpalgfakhaaGreat
/-
  What the laws' own copyistmade.Op hands back. No conditions beyond what each theorem states.
-/
namespace Go.Proofs.YtjkdcpalgfakhaaGreat
open Go.ChangeShapes Go.WideShapes Go.ChangeAt Go.RowKit Go.Lib
set_option linter.unusedVariables false
set_option linter.unusedSimpArgs false

theorem Hold.skind {w wr : World} {v : Value} {l : List Sp} (h : Hold layS w 136 v l wr) : ∃ p c, v = .slice p l.length c ∧ GRow layS wr p l ∧ l.length ≤ c ∧ (p = none → c = 0) ∧ KindAt 136 wr p := by
  obtain ⟨p, c, rfl, h1, h2, h3⟩ := h.gave layS_pos
  exact ⟨p, c, rfl, h1, h2, h3, kind_owns h.1⟩
/-- An operation that a call hands back, with spans of its own in a block of their kind. -/
def MadeO (o : Om) (w : World) (e : Ending) (w' : World) : Prop := ∃ p c, e = .returned (ov o p c) ∧ GRow layS w' p o.spans ∧ o.spans.length ≤ c ∧ (p = none → c = 0) ∧ KindAt 136 w' p ∧ Below w.heap.size w w'
theorem szR8 : (Tryz.prog.info? 108).map (·.size) = some 7 := by kernel_rfl
set_option maxHeartbeats 3200000 in
set_option maxRecDepth 20000 in
theorem mop_any (o : Om) (p : Option Addr) (c : Nat) (w : World) (hR : GRow layS w p o.spans) (hl : o.spans.length ≤ 8796093021952) :
    Calls Tryz.prog 48 #[ov o p c] w (MadeO o w) := by
  have HM : Hid (∀ W, Below w.heap.size w W → Calls Tryz.prog 71 #[.slice p o.spans.length c] W (Made layS 136 W o.spans)) := fun W hb => mspans_any o.spans p c W (hR.below hb) hl
  clear hR
  obtain ⟨kind, r, n, num, text, spans, seq⟩ := o
  unfold MadeO ov
  simp only at HM hl ⊢
  generalize (⟨text.toArray⟩ : ByteArray) = bt
  go_enter Tryz.func48, Tryz.ntmps48
  go_wp2_with fail
  have HX := Lib.hid (heap_alloc2_new w (.cells #[.int .i64 kind, .int .u16 r, .int .u32 n, .int .u32 num, .string bt, .slice p spans.length c, .int .u32 seq] 99) (.cells #[.int .i64 0, .int .u16 0, .int .u32 0, .int .u32 0, .string ⟨#[]⟩, .slice none 0 0, .int .u32 0] 108))
  have HY := Lib.hid (heap_alloc2_old w (.cells #[.int .i64 kind, .int .u16 r, .int .u32 n, .int .u32 num, .string bt, .slice p spans.length c, .int .u32 seq] 99) (.cells #[.int .i64 0, .int .u16 0, .int .u32 0, .int .u32 0, .string ⟨#[]⟩, .slice none 0 0, .int .u32 0] 108))
  obtain ⟨s0, s1, s2, s3, s4, s5, s6⟩ := seven_cells HY.out
  have t0 := cell_regrown s0
  have t1 := cell_regrown s1
  have t2 := cell_regrown s2
  have t3 := cell_regrown s3
  have t4 := cell_regrown s4
  have t5 := cell_regrown s5
  have t6 := cell_regrown s6
  clear s0 s1 s2 s3 s4 s5 s6
  refine wp_region_mix_below [0, 1, 2, 3, 4, 5, 6, 7, 8, 9, 11, 12] [10, 13] [14] (by kernel_rfl) (by kernel_rfl) (fun _ _ d _ _ h => by cases d <;> exact h) ?_
  simp only [pickOps, List.filterMap_cons, List.filterMap_nil, List.getElem?_cons_zero, List.getElem?_cons_succ]
  repeat (first | go_big_quiet_step (fail) | quiet_step (fail))
  refine wpQuiet_nil ?_
  clear t0 t1 t2 t3 t4 t5 t6
  refine seqM_step fun K hK => ?_
  go_wp2_with fail
  refine (HM.out _ (below_drewN (below_alloc (below_alloc (Below.refl _ _) _) _) 1)).mono ?_
  rintro e w4 ⟨v4, rfl, hH⟩
  obtain ⟨p4, c4, rfl, hG, hc4, hp4, hS⟩ := hH.skind
  have HB := Lib.hid (below_of_drew hH.2)
  have HG := Lib.hid hG
  have HS := Lib.hid hS
  have HX4 := Lib.hid (kept_box HX.out HB.out)
  clear hH hG hS
  go_wp2_with fail
  refine hK _ _ (regrown_of_below HB.out) ?_
  clear hK K
  refine seqM_step fun K hK => ?_
  go_wp2_with fail
  refine hK _ _ (regrown_of_below HB.out) ?_
  clear hK K
  refine seqM_nil ?_
  obtain ⟨x0, x1, x2, x3, x4, x5, x6⟩ := seven_cells HX4.out
  have fx : ∀ o, w4.frozen? ⟨w.heap.size + 1, o, none⟩ = false := fun o => frozen_of_block HX4.out
  go_wp2
  (try simp only [Exit.inBlock, Exit.then])
  have hS7 := only_seven w4 (w.heap.size + 1) (.int .i64 kind) (.int .u16 r) (.int .u32 n) (.int .u32 num) (.string bt) (.slice p4 spans.length c4) (.int .u32 seq)
  refine bodyPost_ret (results_cell_row rfl _ _ (w.heap.size + 1) 108 #[.int .i64 kind, .int .u16 r, .int .u32 n, .int .u32 num, .string bt, .slice p4 spans.length c4, .int .u32 seq] (0, 0) _ rfl (box_seven HX4.out) Tryz.underlying108 rfl szR8) rfl ?_
  have hap := HS.out.apart (by decide) HX4.out
  refine ⟨p4, c4, rfl, HG.out.kept hS7 hap, hc4, hp4, HS.out.kept hS7 hap, ?_⟩
  have hB4 : Below w.heap.size w w4 := below_step (below_alloc (below_alloc (Below.refl _ _) _) _) HB.out
  exact hB4.trans (hS7.below (Nat.le_trans hB4.size (Nat.le_refl _)) (fun k ek => by have ek : k = w.heap.size + 1 := ek; omega))
end Go.Proofs.YtjkdcpalgfakhaaGreat
/-
  How a slice of things of one kind that comes in lies in memory. Of no program but its own alias; no conditions beyond what each theorem states.
-/
namespace Go.Proofs.YtjkdcpalgfakhaaGreat
open Go.ChangeShapes Go.WideShapes Go.ChangeAt Go.RowKit Go.Joins Go.Lib
set_option linter.unusedVariables false
set_option linter.unusedSimpArgs false

theorem own : ownKnob Tryz.prog.godebug = none := by kernel_rfl
theorem laidOut : laidOutB Tryz.prog = true := by kernel_rfl

set_option maxRecDepth 100000 in
/-- Things that come in: each of its cells read by 'dec'. -/
theorem lay_open {α : Type} [Inhabited α] (L : Lay α) (Fit : α → Prop) (hpos : 0 < L.k) {H : Type} {enc : TypeId × Value → H} {W : World} {r : Reach} {base : Nat} {t e : TypeId} {v : Value} {d : DataW H} {ps : List MemPlace} (hu : Tryz.prog.underlying t = some (.slice e)) (hk : Tryz.prog.cellsOf e = L.k)
    (dec : ∀ n cs' x, DataW.trod enc Tryz.prog W 0 (fun _ => true) true n e cs' = some x → cs'.length = L.k → ∃ a, cs' = L.enc a ∧ Fit a)
    (hv : Value.okWide Tryz.prog W r base t v) (h : DataW.Trod enc Tryz.prog W 0 (fun _ => true) true t v d ps) :
    ∃ l p c, v = .slice p l.length c ∧ GRow L W p l ∧ (∀ x ∈ l, Fit x) ∧ l.length ≤ c ∧ (p = none → c = 0) ∧ l.length ≤ 9223372036854775807 ∧ (l = [] ∨ ∃ el sp, d = .slice el sp ∧ l.length = el.length) := by
  obtain ⟨a0, len, cap, rfl⟩ := okWide_slice hu hv
  obtain ⟨fuel, hf⟩ := h
  rcases Go.Deep.open_slice hu hf with ⟨hcs, -⟩ | ⟨a, len', cap', m, n, D, Pl, hcs, -, hl, hm, hmm, hx, hc⟩
  · simp [Value.cells] at hcs
    obtain ⟨rfl, rfl, rfl⟩ := hcs
    exact ⟨[], none, 0, rfl, GRow.nil _ _ _, (by intro x hx; simp at hx), by simp, fun _ => rfl, by simp, Or.inl rfl⟩
  · simp [Value.cells] at hcs
    obtain ⟨rfl, rfl, rfl⟩ := hcs
    have hlm : len ≤ m := by rw [hmm]; split <;> omega
    have each : ∀ i, i < len → ∃ x : α, (∀ j u, (L.enc x)[j]? = some u → W.cell? (a.add (i * L.k + j)) = some u) ∧ Fit x := fun i hi => by
      obtain ⟨cs', h1, h2⟩ := hc i (by omega)
      rw [hk] at h1
      obtain ⟨_, hlen, hcell⟩ := World.cells?_some h1
      obtain ⟨x, rfl, hfx⟩ := dec _ _ _ h2 hlen
      refine ⟨x, fun j u hj => ?_, hfx⟩
      have hjk : j < L.k := by have := (List.getElem?_eq_some_iff.1 hj).1; rwa [L.len] at this
      have := hcell j hjk
      rw [Go.Deep.add_add] at this
      rw [this]; exact hj
    obtain ⟨q, hq⟩ := Go.Deep.choose_lt each
    refine ⟨(List.range len).map q, some a, cap, by simp, ?_, ?_, by simpa using hl, (by intro h; cases h), (by simp; unfold maxLen at hm; omega), Or.inr ⟨_, _, (Prod.mk.inj hx).1, by simp⟩⟩
    · intro m' u hm'
      have hlt : m' < len * L.k := by
        have := (List.getElem?_eq_some_iff.1 hm').1
        rw [L.flat_length] at this
        simpa using this
      have hi : m' / L.k < len := Nat.div_lt_of_lt_mul (by rw [Nat.mul_comm]; exact hlt)
      have hj : m' % L.k < L.k := Nat.mod_lt _ hpos
      have hmm : m' = (m' / L.k) * L.k + m' % L.k := by rw [Nat.mul_comm]; exact (Nat.div_add_mod m' L.k).symm
      have hfl := L.flat_at (q 0) ((List.range len).map q) (m' / L.k) (m' % L.k) (by simpa using hi) hj
      rw [← hmm, hm'] at hfl
      have hgd : ((List.range len).map q).getD (m' / L.k) (q 0) = q (m' / L.k) := by simp [hi]
      rw [hgd] at hfl
      have hcell := (hq _ hi).1 _ _ hfl.symm
      rw [← hmm] at hcell
      obtain ⟨b, o, s⟩ := a
      have h00 := (hq 0 (Nat.lt_of_le_of_lt (Nat.zero_le _) hi)).1 0 _ (List.getElem?_eq_getElem (by rw [L.len]; exact hpos))
      have hs : s = none := by simpa [Addr.add] using World.cell?_spot h00
      subst hs
      rw [Addr.add_lit] at hcell
      exact ⟨b, o, rfl, hcell⟩
    · intro x hx
      simp only [List.mem_map, List.mem_range] at hx
      obtain ⟨i, hi, rfl⟩ := hx
      exact (hq i hi).2

end Go.Proofs.YtjkdcpalgfakhaaGreat
/-
  How spans, names, and one name that come in lie in memory. No conditions beyond what each theorem states.
-/
namespace Go.Proofs.YtjkdcpalgfakhaaGreat
open Go.ChangeShapes Go.WideShapes Go.ChangeAt Go.RowKit Go.Joins Go.Lib
set_option linter.unusedVariables false
set_option linter.unusedSimpArgs false
set_option maxRecDepth 100000

theorem cellsSp : Tryz.prog.cellsOf 119 = 3 := by kernel_rfl
theorem cellsII : Tryz.prog.cellsOf 96 = 2 := by kernel_rfl
theorem cellsR : Tryz.prog.cellsOf 31 = 1 := by kernel_rfl
theorem cellsN : Tryz.prog.cellsOf 32 = 1 := by kernel_rfl
theorem cellsInt : Tryz.prog.cellsOf 3 = 1 := by kernel_rfl
theorem bytesSp : Tryz.prog.bytesOf 119 = 16 := by kernel_rfl

theorem id_dec {H : Type} {enc : TypeId × Value → H} {W : World} {sp : Nat → Bool} (n : Nat) (cs' : List Value) (x : DataW H × List MemPlace) (h : DataW.trod enc Tryz.prog W 0 sp true n 96 cs' = some x) (hl : cs'.length = 2) : ∃ a : Nm, cs' = [.int .u16 a.1, .int .u32 a.2] ∧ FitN a := by
  obtain ⟨y0, y1, m, -, -, h0, h1⟩ := trod_struct2 Tryz.underlying96 h
  match cs', hl with
  | [v0, v1], _ =>
    simp [cellsR, cellsN] at h0 h1
    obtain ⟨a, e0, -, wa⟩ := DataW.trod_int Tryz.underlying31 h0
    obtain ⟨b, e1, -, wb⟩ := DataW.trod_int Tryz.underlying32 h1
    simp at e0 e1
    have b0 := bounds_u16 wa
    have b1 := bounds_u32 wb
    exact ⟨(a, b), by rw [e0, e1], b0.1, by have := b0.2; simp only; omega, b1.1, by have := b1.2; simp only; omega⟩
theorem span_dec {H : Type} {enc : TypeId × Value → H} {W : World} {sp : Nat → Bool} (n : Nat) (cs' : List Value) (x : DataW H × List MemPlace) (h : DataW.trod enc Tryz.prog W 0 sp true n 119 cs' = some x) (hl : cs'.length = 3) : ∃ a : Sp, cs' = [.int .u16 a.1, .int .u32 a.2.1, .int .i64 a.2.2] ∧ FitS a := by
  obtain ⟨y0, y1, m, -, -, h0, h1⟩ := trod_struct2 Tryz.underlying119 h
  match cs', hl with
  | [v0, v1, v2], _ =>
    simp [cellsII, cellsInt] at h0 h1
    obtain ⟨a, e0, hfa⟩ := id_dec _ _ _ h0 rfl
    obtain ⟨b, e1, -, wb⟩ := DataW.trod_int Tryz.underlying3 h1
    simp at e0 e1
    obtain ⟨rfl, rfl⟩ := e0
    subst e1
    have b1 := bounds_i64 wb
    unfold FitN at hfa
    exact ⟨(a.1, a.2, b), rfl, hfa.1, hfa.2.1, hfa.2.2.1, hfa.2.2.2, b1.1, by have := b1.2; simp only; omega⟩
/-- Spans that come in. -/
theorem spans_open {H : Type} {enc : TypeId × Value → H} {W : World} {r : Reach} {base : Nat} {v : Value} {d : DataW H} {ps : List MemPlace} (hv : Value.okWide Tryz.prog W r base 97 v) (h : DataW.Trod enc Tryz.prog W 0 (fun _ => true) true 97 v d ps) :
    ∃ l p c, v = .slice p l.length c ∧ GRow layS W p l ∧ FitSs l ∧ l.length ≤ c ∧ (p = none → c = 0) ∧ l.length ≤ 9223372036854775807 ∧ (l = [] ∨ ∃ el sp, d = .slice el sp ∧ l.length = el.length) :=
  lay_open layS FitS layS_pos Tryz.underlying97 cellsSp (fun n cs' x h hl => span_dec n cs' x h hl) hv h
theorem spans_again {H : Type} {enc : TypeId × Value → H} {W W' : World} {v : Value} {d : DataW H} {ps : List MemPlace} (h : DataW.Trod enc Tryz.prog W 0 (fun _ => true) true 97 v d ps) (hb : Below W.heap.size W W') (hlt : ∀ x ∈ ps, x.block < W.heap.size) :
    DataW.Trod enc Tryz.prog W' 0 (fun b => decide (b < W.heap.size)) true 97 v d ps :=
  Below.trod laidOut (by kernel_rfl) (of_decide_eq_true (by kernel_rfl)) h hb hlt
end Go.Proofs.YtjkdcpalgfakhaaGreat
/-
  Operations that come in, opened; and that they are as they were. No conditions beyond what each theorem states.
-/
namespace Go.Proofs.YtjkdcpalgfakhaaGreat
open Go.ChangeShapes Go.WideShapes Go.ChangeAt Go.RowKit Go.Lib
set_option linter.unusedVariables false
set_option linter.unusedSimpArgs false
set_option maxRecDepth 100000

/-- Things behind a slice that is one of several cells. -/
theorem lay_cells {α : Type} [Inhabited α] (L : Lay α) (Fit : α → Prop) (hpos : 0 < L.k) {H : Type} {enc : TypeId × Value → H} {W : World} {fuel : Nat} {t e : TypeId} {cs : List Value} {x : DataW H × List MemPlace} (hu : Tryz.prog.underlying t = some (.slice e)) (hk : Tryz.prog.cellsOf e = L.k)
    (dec : ∀ n cs' x, DataW.trod enc Tryz.prog W 0 (fun _ => true) true n e cs' = some x → cs'.length = L.k → ∃ a, cs' = L.enc a ∧ Fit a)
    (hf : DataW.trod enc Tryz.prog W 0 (fun _ => true) true fuel t cs = some x) :
    ∃ l p c, cs = [.slice p l.length c] ∧ GRow L W p l ∧ (∀ x ∈ l, Fit x) ∧ l.length ≤ c ∧ (p = none → c = 0) ∧ l.length ≤ 9223372036854775807 := by
  rcases Go.Deep.open_slice hu hf with ⟨hcs, -⟩ | ⟨a, len, cap, m, n, D, Pl, hcs, -, hl, hm, hmm, hx, hc⟩
  · exact ⟨[], none, 0, hcs, GRow.nil _ _ _, (by intro x hx; simp at hx), by simp, fun _ => rfl, by simp⟩
  · subst hcs
    have hlm : len ≤ m := by rw [hmm]; split <;> omega
    have each : ∀ i, i < len → ∃ x : α, (∀ j u, (L.enc x)[j]? = some u → W.cell? (a.add (i * L.k + j)) = some u) ∧ Fit x := fun i hi => by
      obtain ⟨cs', h1, h2⟩ := hc i (by omega)
      rw [hk] at h1
      obtain ⟨_, hlen, hcell⟩ := World.cells?_some h1
      obtain ⟨x, rfl, hfx⟩ := dec _ _ _ h2 hlen
      refine ⟨x, fun j u hj => ?_, hfx⟩
      have hjk : j < L.k := by have := (List.getElem?_eq_some_iff.1 hj).1; rwa [L.len] at this
      have := hcell j hjk
      rw [Go.Deep.add_add] at this
      rw [this]; exact hj
    obtain ⟨q, hq⟩ := Go.Deep.choose_lt each
    refine ⟨(List.range len).map q, some a, cap, by simp, ?_, ?_, by simpa using hl, (by intro h; cases h), (by simp; unfold maxLen at hm; omega)⟩
    · intro m' u hm'
      have hlt : m' < len * L.k := by
        have := (List.getElem?_eq_some_iff.1 hm').1
        rw [L.flat_length] at this
        simpa using this
      have hi : m' / L.k < len := Nat.div_lt_of_lt_mul (by rw [Nat.mul_comm]; exact hlt)
      have hj : m' % L.k < L.k := Nat.mod_lt _ hpos
      have hmm : m' = (m' / L.k) * L.k + m' % L.k := by rw [Nat.mul_comm]; exact (Nat.div_add_mod m' L.k).symm
      have hfl := L.flat_at (q 0) ((List.range len).map q) (m' / L.k) (m' % L.k) (by simpa using hi) hj
      rw [← hmm, hm'] at hfl
      have hgd : ((List.range len).map q).getD (m' / L.k) (q 0) = q (m' / L.k) := by simp [hi]
      rw [hgd] at hfl
      have hcell := (hq _ hi).1 _ _ hfl.symm
      rw [← hmm] at hcell
      obtain ⟨b, o, s⟩ := a
      have h00 := (hq 0 (Nat.lt_of_le_of_lt (Nat.zero_le _) hi)).1 0 _ (List.getElem?_eq_getElem (by rw [L.len]; exact hpos))
      have hs : s = none := by simpa [Addr.add] using World.cell?_spot h00
      subst hs
      rw [Addr.add_lit] at hcell
      exact ⟨b, o, rfl, hcell⟩
    · intro x hx
      simp only [List.mem_map, List.mem_range] at hx
      obtain ⟨i, hi, rfl⟩ := hx
      exact (hq i hi).2


theorem cells8 : Tryz.prog.cellsOf 99 = 7 := by kernel_rfl
theorem cellsSt : Tryz.prog.cellsOf 9 = 1 := by kernel_rfl
theorem cellsSl : Tryz.prog.cellsOf 97 = 1 := by kernel_rfl
theorem array7 {cs : Array Value} (h : cs.size = 7) : ∃ a b c d e f g, cs = #[a, b, c, d, e, f, g] := by
  obtain ⟨l⟩ := cs
  match l, h with
  | [a, b, c, d, e, f, g], _ => exact ⟨a, b, c, d, e, f, g, rfl⟩
theorem list6 {α : Type} {l : List α} (h : l.length = 6) : ∃ a b c d e f, l = [a, b, c, d, e, f] := by
  match l, h with
  | [a, b, c, d, e, f], _ => exact ⟨a, b, c, d, e, f, rfl⟩
/-- An operation that comes in. -/
theorem op_open {H : Type} {enc : TypeId × Value → H} {W : World} {r : Reach} {base : Nat} {v : Value} {d : DataW H} {ps : List MemPlace} (hv : Value.okWide Tryz.prog W r base 99 v) (h : DataW.Trod enc Tryz.prog W 0 (fun _ => true) true 99 v d ps) :
    ∃ o p c, v = ov o p c ∧ InO o p c W ∧ o.text.length ≤ 9223372036854775807 ∧ o.spans.length ≤ 9223372036854775807 := by
  obtain ⟨cs, rfl, hsz⟩ := okWide_struct Tryz.underlying99 hv
  obtain ⟨c0, c1, c2, c3, c4, c5, c6, rfl⟩ := array7 (hsz.trans cells8)
  obtain ⟨fuel, hf⟩ := h
  obtain ⟨xs, n, -, -, -, hlen, hfs⟩ := DataW.trod_struct Tryz.underlying99 hf
  obtain ⟨z0, z1, z2, z3, z4, z5, rfl⟩ := list6 (by simpa using hlen)
  have h0 := hfs 0 _ rfl
  have h1 := hfs 1 _ rfl
  have h2 := hfs 2 _ rfl
  have h3 := hfs 3 _ rfl
  have h4 := hfs 4 _ rfl
  have h5 := hfs 5 _ rfl
  simp [Value.cells, cellsInt, cellsII, cellsN, cellsSt, cellsSl] at h0 h1 h2 h3 h4 h5
  obtain ⟨k, e0, -, w0⟩ := DataW.trod_int Tryz.underlying3 h0
  obtain ⟨a, e1, fa⟩ := id_dec _ _ _ h1 rfl
  obtain ⟨m, e2, -, w2⟩ := DataW.trod_int Tryz.underlying32 h2
  obtain ⟨s, e3, -, hs⟩ := DataW.trod_string Tryz.underlying9 h3
  obtain ⟨l, p, c, e4, hG, hF, hc, hp, hll⟩ := lay_cells layS FitS layS_pos Tryz.underlying97 cellsSp (fun n cs' x h hl => span_dec n cs' x h hl) h4
  obtain ⟨q, e5, -, w5⟩ := DataW.trod_int Tryz.underlying32 h5
  simp at e0 e1 e2 e3 e4 e5
  obtain ⟨rfl, rfl⟩ := e1
  subst e0 e2 e3 e4 e5
  have b0 := bounds_i64 w0
  have b2 := bounds_u32 w2
  have b5 := bounds_u32 w5
  unfold FitN at fa
  obtain ⟨sd⟩ := s
  obtain ⟨sl⟩ := sd
  refine ⟨⟨k, a.1, a.2, m, sl, l, q⟩, p, c, rfl, ⟨⟨b0.1, by have := b0.2; simp only; omega, fa.1, fa.2.1, fa.2.2.1, fa.2.2.2, b2.1, by have := b2.2; simp only; omega, hF, b5.1, by have := b5.2; simp only; omega⟩, hG, hc, hp⟩, ?_, hll⟩
  unfold maxLen at hs
  have : (⟨⟨sl⟩⟩ : ByteArray).size = sl.length := rfl
  simp only
  omega
theorem op_again {H : Type} {enc : TypeId × Value → H} {W W' : World} {v : Value} {d : DataW H} {ps : List MemPlace} (h : DataW.Trod enc Tryz.prog W 0 (fun _ => true) true 99 v d ps) (hb : Below W.heap.size W W') (hlt : ∀ x ∈ ps, x.block < W.heap.size) :
    DataW.Trod enc Tryz.prog W' 0 (fun b => decide (b < W.heap.size)) true 99 v d ps :=
  Below.trod laidOut (by kernel_rfl) (of_decide_eq_true (by kernel_rfl)) h hb hlt

end Go.Proofs.YtjkdcpalgfakhaaGreat
/-
  Rows of operations, each with its own spans. No conditions beyond what each theorem states.
-/
namespace Go.Proofs.YtjkdcpalgfakhaaGreat
open Go.ChangeShapes Go.WideShapes Go.ChangeAt Go.RowKit Go.Lib
set_option linter.unusedVariables false
set_option linter.unusedSimpArgs false
set_option maxRecDepth 100000

/-- An operation as it lies in memory: what it is, and where its spans lie. -/
abbrev OV := Om × Option Addr × Nat
def ov0 : OV := (o0, none, 0)
def layO : Lay OV := ⟨7, fun x => [.int .i64 x.1.kind, .int .u16 x.1.r, .int .u32 x.1.n, .int .u32 x.1.num, .string ⟨x.1.text.toArray⟩, .slice x.2.1 x.1.spans.length x.2.2, .int .u32 x.1.seq], fun _ => rfl, fun x u hu => by
  simp at hu
  rcases hu with rfl | rfl | rfl | rfl | rfl | rfl | rfl <;> rfl⟩
theorem layO_pos : 0 < layO.k := by decide
theorem orow_at {w : World} {p : Option Addr} {xs : List OV} (h : GRow layO w p xs) {i : Nat} (hi : i < xs.length) : ∃ b o, p = some ⟨b, o, none⟩ ∧ w.cell? ⟨b, o + i * 7, none⟩ = some (.int .i64 (xs.getD i ov0).1.kind) ∧ w.cell? ⟨b, o + i * 7 + 1, none⟩ = some (.int .u16 (xs.getD i ov0).1.r) ∧ w.cell? ⟨b, o + i * 7 + 2, none⟩ = some (.int .u32 (xs.getD i ov0).1.n) ∧ w.cell? ⟨b, o + i * 7 + 3, none⟩ = some (.int .u32 (xs.getD i ov0).1.num) ∧ w.cell? ⟨b, o + i * 7 + 4, none⟩ = some (.string ⟨(xs.getD i ov0).1.text.toArray⟩) ∧ w.cell? ⟨b, o + i * 7 + 5, none⟩ = some (.slice (xs.getD i ov0).2.1 (xs.getD i ov0).1.spans.length (xs.getD i ov0).2.2) ∧ w.cell? ⟨b, o + i * 7 + 6, none⟩ = some (.int .u32 (xs.getD i ov0).1.seq) := by
  obtain ⟨b, o, rfl, h0⟩ := h.cell ov0 (j := 0) hi rfl
  obtain ⟨b1, o1, e1, h1⟩ := h.cell ov0 (j := 1) hi rfl
  obtain ⟨b2, o2, e2, h2⟩ := h.cell ov0 (j := 2) hi rfl
  obtain ⟨b3, o3, e3, h3⟩ := h.cell ov0 (j := 3) hi rfl
  obtain ⟨b4, o4, e4, h4⟩ := h.cell ov0 (j := 4) hi rfl
  obtain ⟨b5, o5, e5, h5⟩ := h.cell ov0 (j := 5) hi rfl
  obtain ⟨b6, o6, e6, h6⟩ := h.cell ov0 (j := 6) hi rfl
  cases e1; cases e2; cases e3; cases e4; cases e5; cases e6
  exact ⟨b, o, rfl, h0, h1, h2, h3, h4, h5, h6⟩
/-- Operations behind an address, each one with its spans. -/
structure ORow (w : World) (p : Option Addr) (xs : List OV) : Prop where
  row : GRow layO w p xs
  each : ∀ x ∈ xs, InO x.1 x.2.1 x.2.2 w
theorem ORow.below {w w' : World} {p : Option Addr} {xs : List OV} (h : ORow w p xs) (hb : Below w.heap.size w w') : ORow w' p xs := ⟨h.row.below hb, fun x hx => (h.each x hx).below hb⟩
theorem ORow.at {w : World} {p : Option Addr} {xs : List OV} (h : ORow w p xs) {i : Nat} (hi : i < xs.length) : InO (xs.getD i ov0).1 (xs.getD i ov0).2.1 (xs.getD i ov0).2.2 w := h.each _ (getD_mem ov0 hi)
/-- One operation's cells, read. -/
theorem op_dec {H : Type} {enc : TypeId × Value → H} {W : World} (n : Nat) (cs' : List Value) (x : DataW H × List MemPlace) (h : DataW.trod enc Tryz.prog W 0 (fun _ => true) true n 99 cs' = some x) (hl : cs'.length = 7) : ∃ a : OV, cs' = layO.enc a ∧ InO a.1 a.2.1 a.2.2 W ∧ a.1.text.length ≤ 9223372036854775807 ∧ a.1.spans.length ≤ 9223372036854775807 := by
  obtain ⟨xs, n, -, -, -, hlen, hfs⟩ := DataW.trod_struct Tryz.underlying99 h
  obtain ⟨z0, z1, z2, z3, z4, z5, rfl⟩ := list6 (by simpa using hlen)
  match cs', hl with
  | [c0, c1, c2, c3, c4, c5, c6], _ =>
    have h0 := hfs 0 _ rfl
    have h1 := hfs 1 _ rfl
    have h2 := hfs 2 _ rfl
    have h3 := hfs 3 _ rfl
    have h4 := hfs 4 _ rfl
    have h5 := hfs 5 _ rfl
    simp [cellsInt, cellsII, cellsN, cellsSt, cellsSl] at h0 h1 h2 h3 h4 h5
    obtain ⟨k, e0, -, w0⟩ := DataW.trod_int Tryz.underlying3 h0
    obtain ⟨a, e1, fa⟩ := id_dec _ _ _ h1 rfl
    obtain ⟨m, e2, -, w2⟩ := DataW.trod_int Tryz.underlying32 h2
    obtain ⟨s, e3, -, hs⟩ := DataW.trod_string Tryz.underlying9 h3
    obtain ⟨l, p, c, e4, hG, hF, hc, hp, hll⟩ := lay_cells layS FitS layS_pos Tryz.underlying97 cellsSp (fun n cs' x h hl => span_dec n cs' x h hl) h4
    obtain ⟨q, e5, -, w5⟩ := DataW.trod_int Tryz.underlying32 h5
    simp at e0 e1 e2 e3 e4 e5
    obtain ⟨rfl, rfl⟩ := e1
    subst e0 e2 e3 e4 e5
    have b0 := bounds_i64 w0
    have b2 := bounds_u32 w2
    have b5 := bounds_u32 w5
    unfold FitN at fa
    obtain ⟨sd⟩ := s
    obtain ⟨sl⟩ := sd
    refine ⟨(⟨k, a.1, a.2, m, sl, l, q⟩, p, c), rfl, ⟨⟨b0.1, by have := b0.2; simp only; omega, fa.1, fa.2.1, fa.2.2.1, fa.2.2.2, b2.1, by have := b2.2; simp only; omega, hF, b5.1, by have := b5.2; simp only; omega⟩, hG, hc, hp⟩, ?_, hll⟩
    unfold maxLen at hs
    have : (⟨⟨sl⟩⟩ : ByteArray).size = sl.length := rfl
    simp only
    omega
end Go.Proofs.YtjkdcpalgfakhaaGreat
/-
  Transactions that come in, opened; and that they are as they were. No conditions beyond what each theorem states.
-/
namespace Go.Proofs.YtjkdcpalgfakhaaGreat
open Go.ChangeShapes Go.WideShapes Go.ChangeAt Go.RowKit Go.Lib
set_option linter.unusedVariables false
set_option linter.unusedSimpArgs false
set_option maxRecDepth 100000

/-- A transaction as a value: its parts, and where its operations lie. -/
def tv (t : Tm) (p : Option Addr) (c : Nat) : Value := .agg #[.int .u16 t.r, .int .u32 t.seq, .int .u64 t.clock, .int .i64 t.user, .slice p t.ops.length c]
/-- A transaction that comes in: its operations behind their address, each with its spans. -/
structure InT (t : Tm) (xs : List OV) (p : Option Addr) (c : Nat) (w : World) : Prop where
  fit : FitTm t
  ops : t.ops = xs.map (·.1)
  row : ORow w p xs
  cap : t.ops.length ≤ c
  nil : p = none → c = 0
theorem InT.below {t : Tm} {xs : List OV} {p : Option Addr} {c : Nat} {w w' : World} (h : InT t xs p c w) (hb : Below w.heap.size w w') : InT t xs p c w' := ⟨h.fit, h.ops, h.row.below hb, h.cap, h.nil⟩
/-- A transaction that lies behind an address: what the document's own functions lean on. -/
structure LieT (t : Tm) (xs : List OV) (p : Option Addr) (w : World) : Prop where
  fit : FitTm t
  ops : t.ops = xs.map (·.1)
  row : GRow layO w p xs
  each : ∀ x ∈ xs, GRow layS w x.2.1 x.1.spans
theorem LieT.below {t : Tm} {xs : List OV} {p : Option Addr} {w w' : World} (h : LieT t xs p w) (hb : Below w.heap.size w w') : LieT t xs p w' := ⟨h.fit, h.ops, h.row.below hb, fun x hx => (h.each x hx).below hb⟩
theorem LieT.fitOf {t : Tm} {xs : List OV} {p : Option Addr} {w : World} (h : LieT t xs p w) {x : OV} (hx : x ∈ xs) : FitOm x.1 := h.fit.2.2.2.2.2.2.2.2 x.1 (by rw [h.ops]; exact List.mem_map.2 ⟨x, hx, rfl⟩)
theorem LieT.fitAt {t : Tm} {xs : List OV} {p : Option Addr} {w : World} (h : LieT t xs p w) {k : Nat} (hk : k < xs.length) : FitOm (xs.getD k ov0).1 := h.fitOf (getD_mem ov0 hk)
theorem LieT.rowAt {t : Tm} {xs : List OV} {p : Option Addr} {w : World} (h : LieT t xs p w) {k : Nat} (hk : k < xs.length) : GRow layS w (xs.getD k ov0).2.1 (xs.getD k ov0).1.spans := h.each _ (getD_mem ov0 hk)
theorem InT.lie {t : Tm} {xs : List OV} {p : Option Addr} {c : Nat} {w : World} (h : InT t xs p c w) : LieT t xs p w := ⟨h.fit, h.ops, h.row.row, fun x hx => (h.row.each x hx).row⟩
theorem cells9 : Tryz.prog.cellsOf 36 = 5 := by kernel_rfl
theorem cellsC : Tryz.prog.cellsOf 33 = 1 := by kernel_rfl
theorem cellsOs : Tryz.prog.cellsOf 34 = 1 := by kernel_rfl
theorem array5 {cs : Array Value} (h : cs.size = 5) : ∃ a b c d e, cs = #[a, b, c, d, e] := by
  obtain ⟨l⟩ := cs
  match l, h with
  | [a, b, c, d, e], _ => exact ⟨a, b, c, d, e, rfl⟩
theorem list5 {α : Type} {l : List α} (h : l.length = 5) : ∃ a b c d e, l = [a, b, c, d, e] := by
  match l, h with
  | [a, b, c, d, e], _ => exact ⟨a, b, c, d, e, rfl⟩
/-- A transaction that comes in. -/
theorem txn_open {H : Type} {enc : TypeId × Value → H} {W : World} {r : Reach} {base : Nat} {v : Value} {d : DataW H} {ps : List MemPlace} (hv : Value.okWide Tryz.prog W r base 36 v) (h : DataW.Trod enc Tryz.prog W 0 (fun _ => true) true 36 v d ps) :
    ∃ t xs p c, v = tv t p c ∧ InT t xs p c W ∧ t.ops.length ≤ 9223372036854775807 ∧ ∀ x ∈ xs, x.1.text.length ≤ 9223372036854775807 ∧ x.1.spans.length ≤ 9223372036854775807 := by
  obtain ⟨cs, rfl, hsz⟩ := okWide_struct Tryz.underlying36 hv
  obtain ⟨c0, c1, c2, c3, c4, rfl⟩ := array5 (hsz.trans cells9)
  obtain ⟨fuel, hf⟩ := h
  obtain ⟨xs, n, -, -, -, hlen, hfs⟩ := DataW.trod_struct Tryz.underlying36 hf
  obtain ⟨z0, z1, z2, z3, z4, rfl⟩ := list5 (by simpa using hlen)
  have h0 := hfs 0 _ rfl
  have h1 := hfs 1 _ rfl
  have h2 := hfs 2 _ rfl
  have h3 := hfs 3 _ rfl
  have h4 := hfs 4 _ rfl
  simp [Value.cells, cellsInt, cellsR, cellsN, cellsC, cellsOs] at h0 h1 h2 h3 h4
  obtain ⟨R, e0, -, w0⟩ := DataW.trod_int Tryz.underlying31 h0
  obtain ⟨S, e1, -, w1⟩ := DataW.trod_int Tryz.underlying32 h1
  obtain ⟨C, e2, -, w2⟩ := DataW.trod_int Tryz.underlying33 h2
  obtain ⟨U, e3, -, w3⟩ := DataW.trod_int Tryz.underlying3 h3
  obtain ⟨l, p, c, e4, hG, hF, hc, hp, hll⟩ := @lay_cells OV ⟨ov0⟩ layO (fun a => InO a.1 a.2.1 a.2.2 W ∧ a.1.text.length ≤ 9223372036854775807 ∧ a.1.spans.length ≤ 9223372036854775807) layO_pos H enc W _ _ _ _ _ Tryz.underlying34 cells8 (fun n cs' x h hl => op_dec n cs' x h hl) h4
  simp at e0 e1 e2 e3 e4
  subst e0 e1 e2 e3 e4
  have b0 := bounds_u16 w0
  have b1 := bounds_u32 w1
  have b2 := bounds_u64 w2
  have b3 := bounds_i64 w3
  refine ⟨⟨R, S, C, U, l.map (·.1)⟩, l, p, c, by unfold tv; simp, ⟨⟨b0.1, by have := b0.2; simp only; omega, b1.1, by have := b1.2; simp only; omega, b2.1, by have := b2.2; simp only; omega, b3.1, by have := b3.2; simp only; omega, ?_⟩, rfl, ⟨hG, fun x hx => (hF x hx).1⟩, by simpa using hc, hp⟩, by simpa using hll, fun x hx => (hF x hx).2⟩
  intro o ho
  obtain ⟨x, hx, rfl⟩ := List.mem_map.1 ho
  exact (hF x hx).1.fit
theorem txn_again {H : Type} {enc : TypeId × Value → H} {W W' : World} {v : Value} {d : DataW H} {ps : List MemPlace} (h : DataW.Trod enc Tryz.prog W 0 (fun _ => true) true 36 v d ps) (hb : Below W.heap.size W W') (hlt : ∀ x ∈ ps, x.block < W.heap.size) :
    DataW.Trod enc Tryz.prog W' 0 (fun b => decide (b < W.heap.size)) true 36 v d ps :=
  Below.trod laidOut (by kernel_rfl) (of_decide_eq_true (by kernel_rfl)) h hb hlt
end Go.Proofs.YtjkdcpalgfakhaaGreat
