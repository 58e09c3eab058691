
/-
  A region that draws its order, of a function that calls its yield: operations that only read, and may be taken first; others that come up one by one and leave what was there as it was; and the last ones, which wait, through whatever else, for all that were taken first. One walk serves every order. Of no program. No conditions beyond what each theorem states.
-/
import Derived.Test.YtafhjccghbpbbaaMix
import Derived.OrdersIn
import Derived.TacticsIn
namespace Go.Proofs.Ytafhjccghbpbbaa
open Go Go.Sort Go.RowKit
set_option linter.unusedVariables false
set_option linter.unusedSimpArgs false

/-- Where nothing else comes of it than a value, it goes in a fence that is wide, too. -/
def NoneQ : Exit → Act → World → Prop := fun _ _ _ => False
theorem upon_wideR {P : Program} {n : Nat} {o : Oper} {a : Act} {next next' : Act → World → Prop} {Q : Exit → Act → World → Prop} {r : Result Next} (hn : ∀ a w, next a w → next' a w) (h : o.upon P a next NoneQ r) : o.uponIn Fence.wide n P a next' Q r := by
  cases r with
  | ok x w' =>
    cases x with
    | value v => exact hn _ _ h
    | skip => exact hn _ _ h
    | defer d => exact hn _ _ h
    | enter f args =>
      refine ⟨fun h => (by cases h), callsIn_wide.2 (Calls.mono h ?_)⟩
      intro e w2 he
      cases e with
      | returned v => exact hn _ _ he
      | panicked c => exact False.elim he
      | outgrown =>
        obtain ⟨_, _, he⟩ := he
        exact he.elim
    | row row args => exact ⟨fun h => (by cases h), fun c cs _ => let ⟨v, w2, r, s⟩ := h c cs; ⟨v, w2, hn _ _ r, stepsIn_wide.2 s⟩⟩
    | round _ _ _ _ _ => exact False.elim h
    | _ => exact False.elim h
  | halt x w' =>
    cases x with
    | panic v => exact False.elim h
    | _ => exact False.elim h
theorem opIn_of_op {P : Program} {n : Nat} {ops : Array Oper} {Q : Exit → Act → World → Prop} {i : Nat} {K K' : Act → World → Prop} {a : Act} {w : World} (hn : ∀ a w, K a w → K' a w) (h : wpOp P ops NoneQ i K a w) : wpOpIn Fence.wide n P ops Q i K' a w := by
  unfold wpOp at h
  unfold wpOpIn
  cases ho : ops[i]? with
  | none =>
    rw [ho] at h
    exact hn _ _ h
  | some o =>
    rw [ho] at h
    simp only at h ⊢
    by_cases hw : Region.wanted o (yielded ops a.tmps)
    · rw [if_pos hw] at h ⊢
      rcases h with h | ⟨_, a, W, h⟩
      · exact ⟨fun f _ => trivial, upon_wideR hn h⟩
      · exact h.elim
    · rw [if_neg hw] at h ⊢
      exact ⟨fun f _ => trivial, hn _ _ h⟩
/-- j waits for i, through at most n others. -/
def reachB (md : Region.Mode) (ops : Array Oper) : Nat → Nat → Nat → Bool
  | 0, _, _ => false
  | n + 1, j, i => match ops[j]? with
    | some oj => oj.after.any (fun e => Region.binds md e && (e.on == i || reachB md ops n e.on i))
    | none => false
def ClosedR (md : Region.Mode) (ops : Array Oper) (listed : Array Bool) : Prop := ∀ (j : Nat) oj, ops[j]? = some oj → listed.getD j false = true → ∀ e ∈ oj.after, Region.binds md e = true → listed.getD e.on false = true
theorem reach_listed {md : Region.Mode} {ops : Array Oper} {listed : Array Bool} {i : Nat} (hc : ClosedR md ops listed) : ∀ (n j : Nat), reachB md ops n j i = true → (∀ oj, ops[j]? = some oj → ∀ e ∈ oj.after, Region.binds md e = true → listed.getD e.on false = true) → listed.getD i false = true
  | 0, _, h, _ => by cases h
  | n + 1, j, h, hd => by
    unfold reachB at h
    cases ho : ops[j]? with
    | none => rw [ho] at h; cases h
    | some oj =>
      rw [ho] at h
      obtain ⟨e, he, hb⟩ := Array.any_eq_true'.1 h
      simp only [Bool.and_eq_true, Bool.or_eq_true, beq_iff_eq] at hb
      obtain ⟨hb1, hb2⟩ := hb
      have hl := hd oj ho e he hb1
      rcases hb2 with rfl | hr
      · exact hl
      · exact reach_listed hc n e.on hr (fun oj' ho' => hc e.on oj' ho' hl)
theorem ready_deps {md : Region.Mode} {ops : Array Oper} {listed : Array Bool} {j : Nat} (hj : j ∈ Region.ready md ops listed) : ∀ oj, ops[j]? = some oj → ∀ e ∈ oj.after, Region.binds md e = true → listed.getD e.on false = true := fun oj ho e he hb => by
  obtain ⟨-, o, ho', hall⟩ := mem_ready.1 hj
  rw [ho] at ho'
  cases ho'
  exact hall e he hb
theorem getD_set_mono {listed : Array Bool} {j k : Nat} (h : listed.getD k false = true) : (listed.setIfInBounds j true).getD k false = true := by
  have hlt : k < listed.size := by
    rcases Nat.lt_or_ge k listed.size with h' | h'
    · exact h'
    · simp [Array.getElem?_eq_none h'] at h
  by_cases e : j = k
  · subst e; simp [hlt]
  · rw [getD_set_ne false e]; exact h
theorem closed_set {md : Region.Mode} {ops : Array Oper} {listed : Array Bool} (hc : ClosedR md ops listed) {j : Nat} (hj : j ∈ Region.ready md ops listed) : ClosedR md ops (listed.setIfInBounds j true) := fun k ok hk hl e he hb => by
  by_cases hjk : j = k
  · subst hjk
    exact getD_set_mono (ready_deps hj ok hk e he hb)
  · refine getD_set_mono (hc k ok hk ?_ e he hb)
    rw [getD_set_ne false hjk] at hl
    exact hl
theorem closed_none {md : Region.Mode} {ops : Array Oper} (n : Nat) : ClosedR md ops (Array.replicate n false) := fun j oj _ h e _ _ => by
  by_cases hj : j < n
  · simp [hj] at h
  · simp [Array.getElem?_replicate, hj] at h
/-- All operations that are marked wait for number i, through whatever else. -/
def waitsR (md : Region.Mode) (ops : Array Oper) (T : Nat → Bool) (i : Nat) : Bool := (List.range ops.size).all fun j => !T j || reachB md ops ops.size j i
theorem small_R {md : Region.Mode} {ops : Array Oper} {T : Nat → Bool} {i : Nat} (hw : waitsR md ops T i = true) {listed : Array Bool} {j : Nat} (hc : ClosedR md ops listed) (hi : i ∈ Region.ready md ops listed) (hj : j ∈ Region.ready md ops listed) : T j = false := by
  cases h : T j with
  | false => rfl
  | true =>
    obtain ⟨hun, oj, hoj, -⟩ := mem_ready.1 hj
    simp only [waitsR, List.all_eq_true, List.mem_range] at hw
    have h1 := hw j (Array.getElem?_eq_some_iff.1 hoj).1
    simp only [h, Bool.not_true, Bool.false_or] at h1
    have h2 := reach_listed hc _ j h1 (ready_deps hj)
    have h0 := (mem_ready.1 hi).1
    rcases Nat.lt_or_ge i listed.size with h' | h'
    · simp [h'] at h0 h2; rw [h0] at h2; cases h2
    · simp [Array.getElem?_eq_none h'] at h2
/-- Whatever order is picked from here on, of m operations that are not marked; behind each the world is of the class. -/
def anyR (P : Program) (md : Region.Mode) (ops : Array Oper) (C : World → Prop) (T : Nat → Bool) (tail : List Nat) (R : Act → World → Prop) : Nat → Array Bool → Act → World → Prop
  | 0, listed, a, w => ((∀ j ∈ Region.ready md ops listed, T j = true) ∧ seqB md ops tail listed = true) ∧ R a w
  | m + 1, listed, a, w => Region.ready md ops listed ≠ [] ∧ ∀ i ∈ Region.ready md ops listed, T i = false ∧ wpOp P ops NoneQ i (fun a' w' => C w' ∧ anyR P md ops C T tail R m (listed.setIfInBounds i true) a' w') a w
theorem anyIn_of_anyR {P : Program} {n : Nat} {md : Region.Mode} {ops : Array Oper} {C : World → Prop} {T : Nat → Bool} {tail : List Nat} {R : Act → World → Prop} {Q : Exit → Act → World → Prop} (hR : ∀ listed a w, seqB md ops tail listed = true → R a w → wpAnyIn Fence.wide n P md ops Q tail.length listed a w) :
    ∀ (m : Nat) (listed : Array Bool) (a : Act) (w : World), anyR P md ops C T tail R m listed a w → wpAnyIn Fence.wide n P md ops Q (m + tail.length) listed a w
  | 0, listed, a, w, h => by rw [Nat.zero_add]; exact hR _ _ _ h.1.2 h.2
  | m + 1, listed, a, w, h => by
    rw [Nat.add_right_comm]
    exact ⟨fun h0 => absurd h0 h.1, fun i hi => opIn_of_op (fun a' w' h' => anyIn_of_anyR hR m _ a' w' h'.2) (h.2 i hi).2⟩
theorem anyR_first {P : Program} {md : Region.Mode} {ops : Array Oper} {C : World → Prop} {T : Nat → Bool} {tail : List Nat} {R : Act → World → Prop} {i : Nat} {oi : Oper} {v : Value} (hi : ops[i]? = some oi) (hT : T i = false) (hw : waitsR md ops T i = true)
    (hsel : ∀ (j : Nat) (o : Oper) cs b, ops[j]? = some o → o.op ≠ .select cs b) :
    ∀ (m : Nat) (listed : Array Bool) (a : Act) (w : World), ClosedR md ops listed →
      (∀ j oj, ops[j]? = some oj → j ≠ i → listed.getD j true = false → (∀ e ∈ oj.after, Region.binds md e = true → e.on ≠ i) → oi.apart ops oj = true) →
      i ∈ Region.ready md ops listed → YieldsIf P ops C oi v a → C w →
      anyR P md ops C T tail R m (listed.setIfInBounds i true) (a.put oi.dst v) w → anyR P md ops C T tail R (m + 1) listed a w := by
  intro m
  induction m with
  | zero =>
    intro listed a w hcl _ hr hy hC H
    refine ⟨fun h => (by rw [h] at hr; cases hr), fun j hj => ?_⟩
    by_cases hji : j = i
    · subst hji; exact ⟨hT, hy.wpOp hi hC ⟨hC, H⟩⟩
    · have h1 := H.1.1 j (ready_mono hj hji)
      rw [small_R hw hcl hr hj] at h1
      cases h1
  | succ m ih =>
    intro listed a w hcl hfree hr hy hC H
    refine ⟨fun h => (by rw [h] at hr; cases hr), fun j hj => ⟨small_R hw hcl hr hj, ?_⟩⟩
    by_cases hji : j = i
    · subst hji; exact hy.wpOp hi hC ⟨hC, H⟩
    · have h1 := (H.2 j (ready_mono hj hji)).2
      obtain ⟨hjun, oj, hoj, hall⟩ := mem_ready.1 hj
      have hnot := not_waits hr hj hoj
      have h2 := wpOp_putIf hoj (hfree j oj hoj hji hjun hnot) (fun cs b => hsel i oi cs b hi) (fun cs b => hsel j oj cs b hoj) (fun _ _ _ h => h) hy h1
      have hfree' : ∀ k ok, ops[k]? = some ok → k ≠ i → (listed.setIfInBounds j true).getD k true = false →
          (∀ e ∈ ok.after, Region.binds md e = true → e.on ≠ i) → oi.apart ops ok = true := fun k ok hk hki hun hno => by
        refine hfree k ok hk hki ?_ hno
        by_cases hjk : j = k
        · subst hjk; exact hjun
        · rw [getD_set_ne true hjk] at hun; exact hun
      refine wpOp_mono (fun a' w' h3 => ⟨h3.2.1, ih (listed.setIfInBounds j true) a' w' (closed_set hcl hj) hfree' (ready_mono hr (Ne.symm hji)) h3.1 h3.2.1 ?_⟩) h2
      rw [Array.setIfInBounds_comm _ _ hji]
      exact h3.2.2
/-- Those that come up one by one, ahead of the last ones. -/
def seqR (P : Program) (ops : Array Oper) (C : World → Prop) (R : Act → World → Prop) : List Oper → Act → World → Prop
  | [], a, w => R a w
  | o :: rest, a, w => ∀ K : Act → World → Prop, (∀ a' w', C w' → seqR P ops C R rest a' w' → K a' w') → wpList P ops (Exit.then K NoneQ) [o] a w
theorem seqR_nil {P : Program} {ops : Array Oper} {C : World → Prop} {R : Act → World → Prop} {a : Act} {w : World} (h : R a w) : seqR P ops C R [] a w := h
theorem seqR_step {P : Program} {ops : Array Oper} {C : World → Prop} {R : Act → World → Prop} {rest : List Oper} {o : Oper} {a : Act} {w : World}
    (h : ∀ K : Act → World → Prop, (∀ a' w', C w' → seqR P ops C R rest a' w' → K a' w') → wpList P ops (Exit.then K NoneQ) [o] a w) : seqR P ops C R (o :: rest) a w := h
def midR (md : Region.Mode) (ops : Array Oper) (T : Nat → Bool) (tail : List Nat) : List Nat → Array Bool → Bool
  | [], listed => (Region.ready md ops listed).all T && seqB md ops tail listed
  | j :: js, listed => (Region.ready md ops listed == [j]) && decide (j < ops.size) && !T j && midR md ops T tail js (listed.setIfInBounds j true)
def mixR (md : Region.Mode) (ops : Array Oper) (T : Nat → Bool) (mid tail : List Nat) : List Nat → Array Bool → Bool
  | [], listed => midR md ops T tail mid listed
  | i :: is, listed => (Region.ready md ops listed).contains i && Region.free md ops listed i && !T i && waitsR md ops T i && (match ops[i]? with | some o => pureB o | none => false) && mixR md ops T mid tail is (listed.setIfInBounds i true)
theorem anyR_mid {P : Program} {ops : List Oper} {md : Region.Mode} {C : World → Prop} {T : Nat → Bool} {R : Act → World → Prop} {tail : List Nat} : ∀ (js : List Nat) (listed : Array Bool) (a : Act) (w : World), midR md ops.toArray T tail js listed = true →
    seqR P ops.toArray C R (pickOps ops js) a w → anyR P md ops.toArray C T tail R js.length listed a w
  | [], listed, a, w, hB, h => by
    simp only [midR, Bool.and_eq_true, List.all_eq_true] at hB
    exact ⟨⟨hB.1, hB.2⟩, h⟩
  | j :: js, listed, a, w, hB, h => by
    simp only [midR, Bool.and_eq_true, beq_iff_eq, decide_eq_true_eq, Bool.not_eq_true'] at hB
    obtain ⟨⟨⟨hr, hj⟩, hT⟩, hB'⟩ := hB
    have hj' : j < ops.length := by simpa using hj
    have h0 : ops[j]? = some ops[j] := List.getElem?_eq_getElem hj'
    have h0' : ops.toArray[j]? = some ops[j] := by simp [hj']
    rw [pick_cons h0] at h
    refine ⟨fun e => (by rw [hr] at e; cases e), fun i hi => ?_⟩
    rw [hr, List.mem_singleton] at hi
    subst hi
    exact ⟨hT, wpOp_of_one h0' (h _ fun a' w' hC hs => ⟨hC, anyR_mid js _ a' w' hB' hs⟩)⟩
theorem anyR_mix {P : Program} {ops : List Oper} {md : Region.Mode} {C : World → Prop} {T : Nat → Bool} {R : Act → World → Prop} {mid tail : List Nat} {w : World} (hs : Region.noSelect ops.toArray = true) (hC : C w) : ∀ (is : List Nat) (listed : Array Bool) (a : Act), ClosedR md ops.toArray listed → mixR md ops.toArray T mid tail is listed = true →
    wpQuiet P ops.toArray C (fun a' => seqR P ops.toArray C R (pickOps ops mid) a' w) (pickOps ops is) a → anyR P md ops.toArray C T tail R (is.length + mid.length) listed a w
  | [], listed, a, _, hB, h => by
    rw [List.length_nil, Nat.zero_add]
    exact anyR_mid mid listed a w hB h
  | i :: is, listed, a, hcl, hB, h => by
    simp only [mixR, Bool.and_eq_true, Bool.not_eq_true'] at hB
    obtain ⟨⟨⟨⟨⟨hr, hf⟩, hT⟩, hw⟩, hp⟩, hB'⟩ := hB
    cases h0 : ops.toArray[i]? with
    | none => rw [h0] at hp; cases hp
    | some o =>
      rw [h0] at hp
      simp only at hp
      rw [pick_cons (by simpa using h0)] at h
      have hst : qOp P ops.toArray C i (wpQuiet P ops.toArray C (fun a' => seqR P ops.toArray C R (pickOps ops mid) a' w) (pickOps ops is)) a := by unfold qOp; simp only [h0]; exact h
      obtain ⟨v, hy, hK⟩ := yieldsIn_of_qOp h0 hst
      have hy' : YieldsIf P ops.toArray C o v a := hy.imp (fun ⟨h1, h2⟩ => ⟨h1, fun w hw => run_of_quiet hp (h2 w hw)⟩) id
      have hl : (i :: is).length + mid.length = (is.length + mid.length) + 1 := by simp only [List.length_cons]; omega
      rw [hl]
      have hr' : i ∈ Region.ready md ops.toArray listed := by simpa using hr
      exact anyR_first h0 hT hw (Region.noSelect_spec hs) _ listed a w hcl (Region.free_spec h0 hf) hr' hy' hC (anyR_mix hs hC is _ _ (closed_set hcl hr') hB' hK)
theorem anyIn_of_seq {P : Program} {n : Nat} {ops : List Oper} {md : Region.Mode} {Q : Exit → Act → World → Prop} : ∀ (js : List Nat) (listed : Array Bool) (a : Act) (w : World), seqB md ops.toArray js listed = true →
    wpListIn Fence.wide n P ops.toArray Q (pickOps ops js) a w → wpAnyIn Fence.wide n P md ops.toArray Q js.length listed a w
  | [], _, _, _, hB, h => ⟨by simpa [seqB] using hB, h⟩
  | j :: js, listed, a, w, hB, h => by
    simp only [seqB, Bool.and_eq_true, beq_iff_eq, decide_eq_true_eq] at hB
    obtain ⟨⟨hr, hj⟩, hB'⟩ := hB
    have hj' : j < ops.length := by simpa using hj
    have h0 : ops[j]? = some ops[j] := List.getElem?_eq_getElem hj'
    have h0' : ops.toArray[j]? = some ops[j] := by simp [hj']
    rw [pick_cons h0] at h
    refine ⟨fun e => (by rw [hr] at e; cases e), fun i hi => ?_⟩
    rw [hr, List.mem_singleton] at hi
    subst hi
    refine wpOpIn_mono (fun a w hh => anyIn_of_seq js _ a w hB' hh) ?_
    unfold wpOpIn
    simp only [h0']
    exact h
/-- The check over a region's operations. -/
def Region.mixOkR (take mid tail : List Nat) (ops : List Oper) : Bool := decide (take.length + mid.length + tail.length = ops.length) && Region.noSelect ops.toArray && mixR .any ops.toArray (fun j => tail.contains j) mid tail take (Array.replicate ops.length false)
theorem wpIn_region_mixR {P : Program} {n id : Nat} {Q : Exit → Act → World → Prop} {a : Act} {w : World} {ops : List Oper} (take mid tail : List Nat) (hm : P.follows .mixedOrders = true) (hB : Region.mixOkR take mid tail ops = true)
    (h : wpQuiet P ops.toArray (fun w' => ∃ p : Regrown, w' = grow (redrawn w p.d) p.os) (fun a' => seqR P ops.toArray (fun w' => ∃ p : Regrown, w' = grow (redrawn w p.d) p.os) (fun a2 w2 => wpListIn Fence.wide n P ops.toArray Q (pickOps ops tail) a2 w2) (pickOps ops mid) a' w.drew) (pickOps ops take) a) : (Code.region id ops.toArray true).wpIn Fence.wide n P Q a w := by
  simp only [Region.mixOkR, Bool.and_eq_true, decide_eq_true_eq] at hB
  obtain ⟨⟨hn, hs⟩, hl⟩ := hB
  refine wpIn_region_any hm ?_
  rw [show ops.toArray.size = (take.length + mid.length) + tail.length by rw [hn]; simp]
  refine anyIn_of_anyR (C := fun w' => ∃ p : Regrown, w' = grow (redrawn w p.d) p.os) (T := fun j => tail.contains j) (R := fun a2 w2 => wpListIn Fence.wide n P ops.toArray Q (pickOps ops tail) a2 w2) (fun listed a w hB h => anyIn_of_seq tail listed a w hB h) _ _ _ _ ?_
  rw [hn]
  exact anyR_mix hs ⟨⟨w.drawn + 1, #[]⟩, by rw [grow_empty]; rfl⟩ take _ a (closed_none _) hl h
end Go.Proofs.Ytafhjccghbpbbaa
