
/-
  A region that draws its order: operations that only read, and may be taken first; others that come up one by one and leave what was there as it was; and the last ones, which wait for all that were taken first. One walk serves every order. Of no program. No conditions beyond what each theorem states.
-/
import Derived.Test.YtafhjccghbpbbaaTail
import Derived.OrdersHeld
namespace Go.Proofs.Ytafhjccghbpbbaa
open Go Go.Sort Go.RowKit
set_option linter.unusedVariables false
set_option linter.unusedSimpArgs false

/-- An operation that yields a value, or halts. -/
def pureB (o : Oper) : Bool := match o.op with
  | .move _ | .assign _ | .pick .. | .build .. | .load .. | .binOp .. | .unOp .. | .convert .. | .slice .. | .fieldAddr .. | .field .. | .indexAddr .. | .index .. | .extract .. => true
  | .nilCheck _ => true
  | .call c => match c.callee with
    | .builtin .len => true
    | _ => false
  | _ => false
def Valued (r : Result Next) : Prop := (∃ v w, r = .ok (.value v) w) ∨ ∃ h w, r = .halt h w
theorem valued_andThen {α : Type} (r : Result α) {g : α → World → Result Next} (h : ∀ x w', Valued (g x w')) : Valued (r.andThen g) := by
  cases r with
  | ok x w' => exact h x w'
  | halt e w' => exact .inr ⟨e, w', rfl⟩
theorem valued_bind {α : Type} {P : Program} {w : World} (s : Sem α) (g : α → Value) : Valued ((s >>= fun x => (pure (Next.value (g x)) : Sem Next)).run P w) := by
  rw [Sem.run_bind]
  cases h : s.run P w with
  | ok x w' => exact .inl ⟨g x, w', rfl⟩
  | halt e w' => exact .inr ⟨e, w', rfl⟩
theorem valued_of_pure {P : Program} {w : World} {ρ : Operand → Value} {o : Oper} (h : pureB o = true) : Valued ((execOp ρ o).run P w) := by
  unfold pureB at h
  unfold execOp
  split at h
  all_goals (rename_i e)
  case h_15 =>
    simp only [e]
    split
    all_goals first
      | exact .inr ⟨_, _, rfl⟩
      | exact .inl ⟨_, _, rfl⟩
      | skip
    all_goals split
    all_goals first
      | exact .inr ⟨_, _, rfl⟩
      | exact .inl ⟨_, _, rfl⟩
      | skip
    rw [Sem.run_bind]
    refine valued_andThen _ fun a w' => ?_
    rw [Sem.run_bind]
    refine valued_andThen _ fun b w2 => ?_
    split
    · rw [Sem.run_bind]
      exact valued_andThen _ fun _ _ => .inl ⟨_, _, rfl⟩
    · exact .inl ⟨_, _, rfl⟩
  case h_16 c =>
    split at h
    · rename_i hc
      simp only [e]
      unfold resolve invoke
      simp only [hc, Sem.run_bind, Sem.run_pure, Result.andThen_ok]
      exact valued_bind (Builtin.len_ _ _ _) id
    · cases h
  case h_17 => cases h
  all_goals
    simp only [e]
    first
      | exact .inl ⟨_, _, rfl⟩
      | exact valued_bind _ id
      | exact valued_bind _ _

theorem run_of_quiet {P : Program} {C : World → Prop} {w : World} {a : Act} {o : Oper} {v : Value} (h : pureB o = true) (hq : o.quietAt P a C w v) : (execOp a.eval o).run P w = .ok (.value v) w := by
  unfold Oper.quietAt at hq
  rcases valued_of_pure (P := P) (w := w) (ρ := a.eval) h with ⟨u, w', e⟩ | ⟨x, w', e⟩
  · rw [e] at hq ⊢
    obtain ⟨rfl, rfl⟩ := hq
    rfl
  · rw [e] at hq
    exact hq.elim

/-- All operations that are marked wait for number i. -/
def waitsT (md : Region.Mode) (ops : Array Oper) (T : Nat → Bool) (i : Nat) : Bool :=
  (List.range ops.size).all fun j => !T j || match ops[j]? with
    | some oj => oj.after.any (fun e => Region.binds md e && e.on == i)
    | none => true
theorem waitsT_spec {ops : Array Oper} {md : Region.Mode} {T : Nat → Bool} {i : Nat} (h : waitsT md ops T i = true) {j : Nat} {oj : Oper} (hoj : ops[j]? = some oj) (hk : T j = true) : ∃ e ∈ oj.after, Region.binds md e = true ∧ e.on = i := by
  simp only [waitsT, List.all_eq_true, List.mem_range] at h
  have h1 := h j (Array.getElem?_eq_some_iff.1 hoj).1
  simp only [hoj, hk, Bool.not_true, Bool.false_or] at h1
  obtain ⟨e, he, hb⟩ := Array.any_eq_true'.1 h1
  simp only [Bool.and_eq_true, beq_iff_eq] at hb
  exact ⟨e, he, hb.1, hb.2⟩

/-- Whatever order is picked from here on, of m operations that are not marked; behind each the world is of the class. -/
def anyM (P : Program) (md : Region.Mode) (ops : Array Oper) (C : World → Prop) (T : Nat → Bool) (Q : Exit → Act → World → Prop) (f : Nat) : Nat → Array Bool → Act → World → Prop
  | 0, listed, a, w => (∀ j ∈ Region.ready md ops listed, T j = true) ∧ wpAny P md ops Q f listed a w
  | m + 1, listed, a, w => Region.ready md ops listed ≠ [] ∧ ∀ i ∈ Region.ready md ops listed, T i = false ∧ wpOp P ops Q i (fun a' w' => C w' ∧ anyM P md ops C T Q f m (listed.setIfInBounds i true) a' w') a w

theorem any_of_anyM {P : Program} {md : Region.Mode} {ops : Array Oper} {C : World → Prop} {T : Nat → Bool} {Q : Exit → Act → World → Prop} {f : Nat} :
    ∀ (m : Nat) (listed : Array Bool) (a : Act) (w : World), anyM P md ops C T Q f m listed a w → wpAny P md ops Q (m + f) listed a w
  | 0, listed, a, w, h => by rw [Nat.zero_add]; exact h.2
  | m + 1, listed, a, w, h => by
    rw [Nat.add_right_comm]
    exact ⟨fun h0 => absurd h0 h.1, fun i hi => wpOp_mono (fun a' w' h' => any_of_anyM m _ a' w' h'.2) (h.2 i hi).2⟩

theorem anyM_first {P : Program} {md : Region.Mode} {ops : Array Oper} {C : World → Prop} {T : Nat → Bool} {Q : Exit → Act → World → Prop} {f : Nat} {i : Nat} {oi : Oper} {v : Value} (hi : ops[i]? = some oi) (hT : T i = false) (hw : waitsT md ops T i = true)
    (hsel : ∀ (j : Nat) (o : Oper) cs b, ops[j]? = some o → o.op ≠ .select cs b) (hQ : ∀ c a w, Q (.panic c) (a.put oi.dst v) w → Q (.panic c) a w) :
    ∀ (m : Nat) (listed : Array Bool) (a : Act) (w : World),
      (∀ j oj, ops[j]? = some oj → j ≠ i → listed.getD j true = false → (∀ e ∈ oj.after, Region.binds md e = true → e.on ≠ i) → oi.apart ops oj = true) →
      i ∈ Region.ready md ops listed → YieldsIf P ops C oi v a → C w →
      anyM P md ops C T Q f m (listed.setIfInBounds i true) (a.put oi.dst v) w → anyM P md ops C T Q f (m + 1) listed a w := by
  have small : ∀ (listed : Array Bool) j, i ∈ Region.ready md ops listed → j ∈ Region.ready md ops listed → T j = false := fun listed j hr hj => by
    obtain ⟨-, oj, hoj, -⟩ := mem_ready.1 hj
    cases h : T j with
    | false => rfl
    | true =>
      obtain ⟨e, he, hb, hon⟩ := waitsT_spec hw hoj h
      exact absurd hon (not_waits hr hj hoj e he hb)
  intro m
  induction m with
  | zero =>
    intro listed a w _ hr hy hC H
    refine ⟨fun h => (by rw [h] at hr; cases hr), fun j hj => ?_⟩
    by_cases hji : j = i
    · subst hji; exact ⟨hT, hy.wpOp hi hC ⟨hC, H⟩⟩
    · have h1 := H.1 j (ready_mono hj hji)
      rw [small listed j hr hj] at h1
      cases h1
  | succ m ih =>
    intro listed a w hfree hr hy hC H
    refine ⟨fun h => (by rw [h] at hr; cases hr), fun j hj => ⟨small listed j hr hj, ?_⟩⟩
    by_cases hji : j = i
    · subst hji; exact hy.wpOp hi hC ⟨hC, H⟩
    · have h1 := (H.2 j (ready_mono hj hji)).2
      obtain ⟨hjun, oj, hoj, hall⟩ := mem_ready.1 hj
      have hnot := not_waits hr hj hoj
      have h2 := wpOp_putIf hoj (hfree j oj hoj hji hjun hnot) (fun cs b => hsel i oi cs b hi) (fun cs b => hsel j oj cs b hoj) hQ hy h1
      have hfree' : ∀ k ok, ops[k]? = some ok → k ≠ i → (listed.setIfInBounds j true).getD k true = false →
          (∀ e ∈ ok.after, Region.binds md e = true → e.on ≠ i) → oi.apart ops ok = true := fun k ok hk hki hun hno => by
        refine hfree k ok hk hki ?_ hno
        by_cases hjk : j = k
        · subst hjk; exact hjun
        · rw [getD_set_ne true hjk] at hun; exact hun
      refine wpOp_mono (fun a' w' h3 => ⟨h3.2.1, ih (listed.setIfInBounds j true) a' w' hfree' (ready_mono hr (Ne.symm hji)) h3.1 h3.2.1 ?_⟩) h2
      rw [Array.setIfInBounds_comm _ _ hji]
      exact h3.2.2

/-- Those that come up one by one, ahead of the last ones. -/
def seqM (P : Program) (ops : Array Oper) (Q : Exit → Act → World → Prop) (C : World → Prop) (t : List Oper) : List Oper → Act → World → Prop
  | [], a, w => wpList P ops Q t a w
  | o :: rest, a, w => ∀ K : Act → World → Prop, (∀ a' w', C w' → seqM P ops Q C t rest a' w' → K a' w') → wpList P ops (Exit.then K Q) [o] a w
theorem seqM_nil {P : Program} {ops : Array Oper} {Q : Exit → Act → World → Prop} {C : World → Prop} {t : List Oper} {a : Act} {w : World} (h : wpList P ops Q t a w) : seqM P ops Q C t [] a w := h
theorem seqM_step {P : Program} {ops : Array Oper} {Q : Exit → Act → World → Prop} {C : World → Prop} {t rest : List Oper} {o : Oper} {a : Act} {w : World}
    (h : ∀ K : Act → World → Prop, (∀ a' w', C w' → seqM P ops Q C t rest a' w' → K a' w') → wpList P ops (Exit.then K Q) [o] a w) : seqM P ops Q C t (o :: rest) a w := h

theorem upon_then {P : Program} {o : Oper} {a : Act} {K : Act → World → Prop} {Q : Exit → Act → World → Prop} {r : Result Next} (h : o.upon P a (fun a w => Exit.then K Q .normal a w) (Exit.then K Q) r) : o.upon P a K Q r := by
  cases r with
  | ok n w' =>
    cases n <;> simp only [Oper.upon] at h ⊢ <;> exact h
  | halt x w' => cases x <;> simp only [Oper.upon] at h ⊢ <;> exact h
theorem wpOp_of_one {P : Program} {ops : Array Oper} {Q : Exit → Act → World → Prop} {K : Act → World → Prop} {i : Nat} {o : Oper} {a : Act} {w : World} (ho : ops[i]? = some o) (h : wpList P ops (Exit.then K Q) [o] a w) : wpOp P ops Q i K a w := by
  unfold wpOp
  simp only [ho]
  unfold wpList at h
  split at h
  · rename_i hw
    rw [if_pos hw]
    rcases h with h | ⟨h1, a, w, h2⟩
    · exact .inl (upon_then h)
    · exact .inr ⟨h1, a, w, h2⟩
  · rename_i hw
    rw [if_neg hw]
    exact h

def pickOps (ops : List Oper) (is : List Nat) : List Oper := is.filterMap (ops[·]?)
def seqB (md : Region.Mode) (ops : Array Oper) : List Nat → Array Bool → Bool
  | [], listed => (Region.ready md ops listed).isEmpty
  | j :: js, listed => (Region.ready md ops listed == [j]) && decide (j < ops.size) && seqB md ops js (listed.setIfInBounds j true)
def midB (md : Region.Mode) (ops : Array Oper) (T : Nat → Bool) (tail : List Nat) : List Nat → Array Bool → Bool
  | [], listed => (Region.ready md ops listed).all T && seqB md ops tail listed
  | j :: js, listed => (Region.ready md ops listed == [j]) && decide (j < ops.size) && !T j && midB md ops T tail js (listed.setIfInBounds j true)
def mixB (md : Region.Mode) (ops : Array Oper) (T : Nat → Bool) (mid tail : List Nat) : List Nat → Array Bool → Bool
  | [], listed => midB md ops T tail mid listed
  | i :: is, listed => (Region.ready md ops listed).contains i && Region.free md ops listed i && !T i && waitsT md ops T i && (match ops[i]? with | some o => pureB o | none => false) && mixB md ops T mid tail is (listed.setIfInBounds i true)

theorem pick_cons {ops : List Oper} {j : Nat} {js : List Nat} {o : Oper} (h : ops[j]? = some o) : pickOps ops (j :: js) = o :: pickOps ops js := by
  unfold pickOps
  rw [List.filterMap_cons_some h]

theorem any_of_seq {P : Program} {ops : List Oper} {md : Region.Mode} {Q : Exit → Act → World → Prop} : ∀ (js : List Nat) (listed : Array Bool) (a : Act) (w : World), seqB md ops.toArray js listed = true →
    wpList P ops.toArray Q (pickOps ops js) a w → wpAny P md ops.toArray Q js.length listed a w
  | [], _, _, _, hB, h => ⟨by simpa [seqB] using hB, h⟩
  | j :: js, listed, a, w, hB, h => by
    simp only [seqB, Bool.and_eq_true, beq_iff_eq, decide_eq_true_eq] at hB
    obtain ⟨⟨hr, hj⟩, hB'⟩ := hB
    have hj' : j < ops.length := by simpa using hj
    have h0 : ops[j]? = some ops[j] := List.getElem?_eq_getElem hj'
    have h0' : ops.toArray[j]? = some ops[j] := by simp [hj']
    rw [pick_cons h0] at h
    refine ⟨fun e => (by rw [hr] at e; cases e), fun i hi => ?_⟩
    rw [hr, List.mem_singleton] at hi
    subst hi
    refine wpOp_mono (fun a w hh => any_of_seq js _ a w hB' hh) ?_
    unfold wpOp
    simp only [h0']
    exact h

theorem anyM_mid {P : Program} {ops : List Oper} {md : Region.Mode} {C : World → Prop} {T : Nat → Bool} {Q : Exit → Act → World → Prop} {tail : List Nat} : ∀ (js : List Nat) (listed : Array Bool) (a : Act) (w : World), midB md ops.toArray T tail js listed = true →
    seqM P ops.toArray Q C (pickOps ops tail) (pickOps ops js) a w → anyM P md ops.toArray C T Q tail.length js.length listed a w
  | [], listed, a, w, hB, h => by
    simp only [midB, Bool.and_eq_true, List.all_eq_true] at hB
    exact ⟨hB.1, any_of_seq tail listed a w hB.2 h⟩
  | j :: js, listed, a, w, hB, h => by
    simp only [midB, Bool.and_eq_true, beq_iff_eq, decide_eq_true_eq, Bool.not_eq_true'] at hB
    obtain ⟨⟨⟨hr, hj⟩, hT⟩, hB'⟩ := hB
    have hj' : j < ops.length := by simpa using hj
    have h0 : ops[j]? = some ops[j] := List.getElem?_eq_getElem hj'
    have h0' : ops.toArray[j]? = some ops[j] := by simp [hj']
    rw [pick_cons h0] at h
    refine ⟨fun e => (by rw [hr] at e; cases e), fun i hi => ?_⟩
    rw [hr, List.mem_singleton] at hi
    subst hi
    exact ⟨hT, wpOp_of_one h0' (h _ fun a' w' hC hs => ⟨hC, anyM_mid js _ a' w' hB' hs⟩)⟩

theorem anyM_mix {P : Program} {ops : List Oper} {md : Region.Mode} {C : World → Prop} {T : Nat → Bool} {Q : Exit → Act → World → Prop} {mid tail : List Nat} {w : World} (hs : Region.noSelect ops.toArray = true) (hQ : ∀ c (a : Act) d v w, Q (.panic c) (a.put d v) w → Q (.panic c) a w) (hC : C w) : ∀ (is : List Nat) (listed : Array Bool) (a : Act), mixB md ops.toArray T mid tail is listed = true →
    wpQuiet P ops.toArray C (fun a' => seqM P ops.toArray Q C (pickOps ops tail) (pickOps ops mid) a' w) (pickOps ops is) a → anyM P md ops.toArray C T Q tail.length (is.length + mid.length) listed a w
  | [], listed, a, hB, h => by
    rw [List.length_nil, Nat.zero_add]
    exact anyM_mid mid listed a w hB h
  | i :: is, listed, a, hB, h => by
    simp only [mixB, Bool.and_eq_true, Bool.not_eq_true'] at hB
    obtain ⟨⟨⟨⟨⟨hr, hf⟩, hT⟩, hw⟩, hp⟩, hB'⟩ := hB
    cases h0 : ops.toArray[i]? with
    | none => rw [h0] at hp; cases hp
    | some o =>
      rw [h0] at hp
      simp only at hp
      rw [pick_cons (by simpa using h0)] at h
      have hst : qOp P ops.toArray C i (wpQuiet P ops.toArray C (fun a' => seqM P ops.toArray Q C (pickOps ops tail) (pickOps ops mid) a' w) (pickOps ops is)) a := by unfold qOp; simp only [h0]; exact h
      obtain ⟨v, hy, hK⟩ := yieldsIn_of_qOp h0 hst
      have hy' : YieldsIf P ops.toArray C o v a := hy.imp (fun ⟨h1, h2⟩ => ⟨h1, fun w hw => run_of_quiet hp (h2 w hw)⟩) id
      have hl : (i :: is).length + mid.length = (is.length + mid.length) + 1 := by simp only [List.length_cons]; omega
      rw [hl]
      exact anyM_first h0 hT hw (Region.noSelect_spec hs) (fun c a w h => hQ c a _ _ w h) _ listed a w (Region.free_spec h0 hf) (by simpa using hr) hy' hC (anyM_mix hs hQ hC is _ _ hB' hK)

/-- The check over a region's operations: which are taken first, which come up one by one, and which are the last. -/
def Region.mixOk (take mid tail : List Nat) (ops : List Oper) : Bool := decide (take.length + mid.length + tail.length = ops.length) && Region.noSelect ops.toArray && mixB .any ops.toArray (fun j => tail.contains j) mid tail take (Array.replicate ops.length false)

theorem wp_region_mix {P : Program} {C : World → Prop} {id : Nat} {Q : Exit → Act → World → Prop} {a : Act} {w : World} {ops : List Oper} (take mid tail : List Nat) (hm : P.follows .mixedOrders = true) (hB : Region.mixOk take mid tail ops = true) (hQ : ∀ c (a : Act) d v w, Q (.panic c) (a.put d v) w → Q (.panic c) a w) (hC : C w.drew)
    (h : wpQuiet P ops.toArray C (fun a' => seqM P ops.toArray Q C (pickOps ops tail) (pickOps ops mid) a' w.drew) (pickOps ops take) a) : (Code.region id ops.toArray true).wp P Q a w := by
  simp only [Region.mixOk, Bool.and_eq_true, decide_eq_true_eq] at hB
  obtain ⟨⟨hn, hs⟩, hl⟩ := hB
  refine wp_region_any hm ?_
  rw [show ops.toArray.size = take.length + mid.length + tail.length by rw [hn]; simp]
  refine any_of_anyM (C := C) (T := fun j => tail.contains j) _ _ _ _ ?_
  rw [hn]
  exact anyM_mix hs hQ hC take _ a hl h

theorem below_of_drew {w w' : World} (h : Below w.drew.heap.size w.drew w') : Below w.heap.size w w' := ⟨h.os, h.tape, h.output, h.size, h.block⟩

/-- The same at the class of worlds in which of what was there nothing has turned. -/
theorem wp_region_mix_below {P : Program} {id : Nat} {Q : Exit → Act → World → Prop} {a : Act} {w : World} {ops : List Oper} (take mid tail : List Nat) (hm : P.follows .mixedOrders = true) (hB : Region.mixOk take mid tail ops = true) (hQ : ∀ c (a : Act) d v w, Q (.panic c) (a.put d v) w → Q (.panic c) a w)
    (h : wpQuiet P ops.toArray (fun w' => ∃ p : Regrown, w' = grow (redrawn w p.d) p.os) (fun a' => seqM P ops.toArray Q (fun w' => ∃ p : Regrown, w' = grow (redrawn w p.d) p.os) (pickOps ops tail) (pickOps ops mid) a' w.drew) (pickOps ops take) a) : (Code.region id ops.toArray true).wp P Q a w :=
  wp_region_mix take mid tail hm hB hQ ⟨⟨w.drawn + 1, #[]⟩, by rw [grow_empty]; rfl⟩ h

end Go.Proofs.Ytafhjccghbpbbaa
