
/-
  A region that draws its order, whose first operations only read (their callees may lay blocks), and whose last ones wait for all ahead of them, each for the one before: one walk in the order of the text serves every order. Of no program. No conditions beyond what each theorem states.
-/
import Derived.Lib.QuietBelow
import Derived.BigQuiet
namespace Go.Proofs.Ytafhjccghbpbbaa
open Go Go.Sort Go.RowKit
set_option linter.unusedVariables false
set_option linter.unusedSimpArgs false

/-- The last operations come up one by one. -/
def tailB (md : Region.Mode) (ops : Array Oper) : Nat → Nat → Array Bool → Bool
  | 0, _, listed => (Region.ready md ops listed).isEmpty
  | f + 1, k, listed => (Region.ready md ops listed == [k]) && tailB md ops f (k + 1) (listed.setIfInBounds k true)
/-- All of the last operations wait for number i. -/
def waitsB (md : Region.Mode) (ops : Array Oper) (k0 i : Nat) : Bool :=
  (List.range ops.size).all fun j => decide (j < k0) || match ops[j]? with
    | some oj => oj.after.any (fun e => Region.binds md e && e.on == i)
    | none => true
def lexT (md : Region.Mode) (ops : Array Oper) (k0 f : Nat) : Nat → Nat → Array Bool → Bool
  | 0, _, listed => (Region.ready md ops listed).all (fun j => decide (k0 ≤ j)) && tailB md ops f k0 listed
  | n + 1, k, listed => (Region.ready md ops listed).contains k && Region.free md ops listed k && (decide (k < k0) && waitsB md ops k0 k) && lexT md ops k0 f n (k + 1) (listed.setIfInBounds k true)

/-- Whatever order is picked from here on, of m operations of the first k0. -/
def anyT (P : Program) (md : Region.Mode) (ops : Array Oper) (C : World → Prop) (k0 f : Nat) (Q : Act → Prop) : Nat → Array Bool → Act → Prop
  | 0, listed, a => (∀ j ∈ Region.ready md ops listed, k0 ≤ j) ∧ tailB md ops f k0 listed = true ∧ Q a
  | m + 1, listed, a => Region.ready md ops listed ≠ [] ∧ ∀ i ∈ Region.ready md ops listed, i < k0 ∧ qOp P ops C i (anyT P md ops C k0 f Q m (listed.setIfInBounds i true)) a

theorem any_of_list {P : Program} {ops : Array Oper} {md : Region.Mode} {Q' : Exit → Act → World → Prop} : ∀ (t : List Oper) (k : Nat) (listed : Array Bool) (a : Act) (w : World), (∀ j, t[j]? = ops[k + j]?) → tailB md ops t.length k listed = true →
    wpList P ops Q' t a w → wpAny P md ops Q' t.length listed a w
  | [], _, _, _, _, _, hB, h => ⟨by simpa [tailB] using hB, h⟩
  | o :: t, k, listed, a, w, ht, hB, h => by
    have h0 : ops[k]? = some o := by simpa using (ht 0).symm
    simp only [List.length_cons, tailB, Bool.and_eq_true, beq_iff_eq] at hB
    obtain ⟨hr, hB'⟩ := hB
    have next : ∀ a w, wpList P ops Q' t a w → wpAny P md ops Q' t.length (listed.setIfInBounds k true) a w := fun a w hh =>
      any_of_list t (k + 1) _ a w (fun j => by have := ht (j + 1); simpa [Nat.add_assoc, Nat.add_comm 1 j] using this) hB' hh
    refine ⟨fun e => (by rw [hr] at e; cases e), fun i hi => ?_⟩
    rw [hr, List.mem_singleton] at hi
    subst hi
    refine wpOp_mono next ?_
    unfold wpOp
    simp only [h0]
    exact h

theorem any_of_anyT {P : Program} {ops : Array Oper} {md : Region.Mode} {C : World → Prop} {Q' : Exit → Act → World → Prop} {k0 f : Nat} {Q : Act → Prop} (hR : ∀ listed a w, C w → tailB md ops f k0 listed = true → Q a → wpAny P md ops Q' f listed a w) :
    ∀ (m : Nat) (listed : Array Bool) (a : Act) (w : World), C w → anyT P md ops C k0 f Q m listed a → wpAny P md ops Q' (m + f) listed a w
  | 0, listed, a, w, hw, h => by rw [Nat.zero_add]; exact hR _ _ _ hw h.2.1 h.2.2
  | m + 1, listed, a, w, hw, h => by
    rw [Nat.add_right_comm]
    exact ⟨fun h0 => absurd h0 h.1, fun i hi => wpOp_of_qOp hw (fun a' w' hw' h' => any_of_anyT hR m _ a' w' hw' h') (h.2 i hi).2⟩

theorem not_waits {ops : Array Oper} {md : Region.Mode} {listed : Array Bool} {i j : Nat} (hi : i ∈ Region.ready md ops listed) (hj : j ∈ Region.ready md ops listed) {oj : Oper} (hoj : ops[j]? = some oj) : ∀ e ∈ oj.after, Region.binds md e = true → e.on ≠ i := fun e he hb heq => by
  obtain ⟨-, o, ho, hall⟩ := mem_ready.1 hj
  rw [hoj] at ho
  cases ho
  have h1 := hall e he hb
  have h0 := (mem_ready.1 hi).1
  rw [heq] at h1
  rcases Nat.lt_or_ge i listed.size with h' | h'
  · simp [h'] at h0 h1; rw [h0] at h1; cases h1
  · simp [Array.getElem?_eq_none h'] at h1

theorem waits_spec {ops : Array Oper} {md : Region.Mode} {k0 i : Nat} (h : waitsB md ops k0 i = true) {j : Nat} {oj : Oper} (hoj : ops[j]? = some oj) (hk : k0 ≤ j) : ∃ e ∈ oj.after, Region.binds md e = true ∧ e.on = i := by
  simp only [waitsB, List.all_eq_true, List.mem_range] at h
  have h1 := h j (Array.getElem?_eq_some_iff.1 hoj).1
  have hk' : ¬ j < k0 := by omega
  simp only [hoj, Bool.or_eq_true, decide_eq_true_eq, hk', false_or] at h1
  obtain ⟨e, he, hb⟩ := Array.any_eq_true'.1 h1
  simp only [Bool.and_eq_true, beq_iff_eq] at hb
  exact ⟨e, he, hb.1, hb.2⟩

theorem anyT_first {P : Program} {ops : Array Oper} {md : Region.Mode} {C : World → Prop} {k0 f : Nat} {Q : Act → Prop} {i : Nat} {oi : Oper} {v : Value} (hi : ops[i]? = some oi) (hik : i < k0) (hw : waitsB md ops k0 i = true)
    (hsel : ∀ (j : Nat) (o : Oper) cs b, ops[j]? = some o → o.op ≠ .select cs b) :
    ∀ (m : Nat) (listed : Array Bool) (a : Act),
      (∀ j oj, ops[j]? = some oj → j ≠ i → listed.getD j true = false → (∀ e ∈ oj.after, Region.binds md e = true → e.on ≠ i) → oi.apart ops oj = true) →
      i ∈ Region.ready md ops listed → YieldsIn P ops C oi v a →
      anyT P md ops C k0 f Q m (listed.setIfInBounds i true) (a.put oi.dst v) → anyT P md ops C k0 f Q (m + 1) listed a := by
  have small : ∀ (listed : Array Bool) j, i ∈ Region.ready md ops listed → j ∈ Region.ready md ops listed → j < k0 := fun listed j hr hj => by
    obtain ⟨-, oj, hoj, -⟩ := mem_ready.1 hj
    rcases Nat.lt_or_ge j k0 with h | h
    · exact h
    · obtain ⟨e, he, hb, hon⟩ := waits_spec hw hoj h
      exact absurd hon (not_waits hr hj hoj e he hb)
  intro m
  induction m with
  | zero =>
    intro listed a _ hr hy H
    refine ⟨fun h => (by rw [h] at hr; cases hr), fun j hj => ?_⟩
    by_cases hji : j = i
    · subst hji; exact ⟨hik, hy.qOp hi H⟩
    · have h1 := H.1 j (ready_mono hj hji)
      have h2 := small listed j hr hj
      omega
  | succ m ih =>
    intro listed a hfree hr hy H
    refine ⟨fun h => (by rw [h] at hr; cases hr), fun j hj => ⟨small listed j hr hj, ?_⟩⟩
    by_cases hji : j = i
    · subst hji; exact hy.qOp hi H
    · have h1 := (H.2 j (ready_mono hj hji)).2
      obtain ⟨hjun, oj, hoj, hall⟩ := mem_ready.1 hj
      have hnot := not_waits hr hj hoj
      have h2 := qOp_put hoj (hfree j oj hoj hji hjun hnot) (fun cs b => hsel i oi cs b hi) (fun cs b => hsel j oj cs b hoj) hy h1
      have hfree' : ∀ k ok, ops[k]? = some ok → k ≠ i → (listed.setIfInBounds j true).getD k true = false →
          (∀ e ∈ ok.after, Region.binds md e = true → e.on ≠ i) → oi.apart ops ok = true := fun k ok hk hki hun hno => by
        refine hfree k ok hk hki ?_ hno
        by_cases hjk : j = k
        · subst hjk; exact hjun
        · rw [getD_set_ne true hjk] at hun; exact hun
      refine qOp_mono (fun a' h3 => ih (listed.setIfInBounds j true) a' hfree' (ready_mono hr (Ne.symm hji)) h3.1 ?_) h2
      rw [Array.setIfInBounds_comm _ _ hji]
      exact h3.2

theorem anyT_lex {P : Program} {ops : Array Oper} {md : Region.Mode} {C : World → Prop} {k0 f : Nat} {Q : Act → Prop} (hs : Region.noSelect ops = true) : ∀ (l : List Oper) (k : Nat) (listed : Array Bool) (a : Act), (∀ j, j < l.length → l[j]? = ops[k + j]?) →
    lexT md ops k0 f l.length k listed = true → wpQuiet P ops C Q l a → anyT P md ops C k0 f Q l.length listed a
  | [], _, _, _, _, hB, h => by
    simp only [List.length_nil, lexT, Bool.and_eq_true, List.all_eq_true, decide_eq_true_eq] at hB
    exact ⟨hB.1, hB.2, h⟩
  | o :: l, k, listed, a, hl, hB, h => by
    have h0 : ops[k]? = some o := by simpa using (hl 0 (by simp)).symm
    simp only [List.length_cons, lexT, Bool.and_eq_true, decide_eq_true_eq] at hB
    obtain ⟨⟨⟨hr, hf⟩, hk, hw⟩, hB'⟩ := hB
    have hst : qOp P ops C k (wpQuiet P ops C Q l) a := by unfold qOp; simp only [h0]; exact h
    obtain ⟨v, hy, hK⟩ := yieldsIn_of_qOp h0 hst
    exact anyT_first h0 hk hw (Region.noSelect_spec hs) l.length listed a (Region.free_spec h0 hf) (by simpa using hr) hy
      (anyT_lex hs l (k + 1) _ _ (fun j hj => by have := hl (j + 1) (by simp; omega); simpa [Nat.add_assoc, Nat.add_comm 1 j] using this) hB' hK)

/-- The check over a region's operations, n of which come ahead of the last ones. -/
def Region.tailOk (n : Nat) (ops : List Oper) : Bool := decide (n ≤ ops.length) && Region.noSelect ops.toArray && lexT .any ops.toArray n (ops.length - n) n 0 (Array.replicate ops.length false)

theorem wp_region_tail {P : Program} {C : World → Prop} {id : Nat} {Q : Exit → Act → World → Prop} {a : Act} {w : World} {ops : List Oper} (n : Nat) (hm : P.follows .mixedOrders = true) (hB : Region.tailOk n ops = true) (hC : C { w with drawn := w.drawn + 1 })
    (h : wpQuiet P ops.toArray C (fun a' => ∀ w', C w' → wpList P ops.toArray Q (ops.drop n) a' w') (ops.take n) a) : (Code.region id ops.toArray true).wp P Q a w := by
  simp only [Region.tailOk, Bool.and_eq_true, decide_eq_true_eq] at hB
  obtain ⟨⟨hn, hs⟩, hl⟩ := hB
  have hlen : (ops.take n).length = n := by rw [List.length_take]; omega
  have hlen2 : (ops.drop n).length = ops.length - n := List.length_drop
  have e : ops.toArray.size = (ops.take n).length + (ops.drop n).length := by rw [hlen, hlen2]; simp; omega
  refine wp_region_any hm ?_
  rw [e]
  refine any_of_anyT (k0 := n) (Q := fun a' => ∀ w', C w' → wpList P ops.toArray Q (ops.drop n) a' w') (fun listed a' w' hw' ht hq => ?_) _ _ _ _ hC ?_
  · exact any_of_list (ops.drop n) n listed a' w' (fun j => by simp) ht (hq w' hw')
  · rw [← e, hlen2]
    refine anyT_lex hs (ops.take n) 0 _ a (fun j hj => ?_) ?_ h
    · rw [hlen] at hj
      simp [List.getElem?_take, hj]
    · rw [hlen]
      simpa using hl

/-- The same, whose callees' contracts end in Below. -/
theorem wp_region_tail_below {P : Program} {id : Nat} {Q : Exit → Act → World → Prop} {a : Act} {w : World} {ops : List Oper} (n : Nat) (hm : P.follows .mixedOrders = true) (hB : Region.tailOk n ops = true)
    (h : wpQuiet P ops.toArray (fun w' => ∃ p : Regrown, w' = grow (redrawn w p.d) p.os) (fun a' => ∀ w', (∃ p : Regrown, w' = grow (redrawn w p.d) p.os) → wpList P ops.toArray Q (ops.drop n) a' w') (ops.take n) a) : (Code.region id ops.toArray true).wp P Q a w :=
  wp_region_tail n hm hB ⟨⟨w.drawn + 1, #[]⟩, by rw [grow_empty]; rfl⟩ h

end Go.Proofs.Ytafhjccghbpbbaa
