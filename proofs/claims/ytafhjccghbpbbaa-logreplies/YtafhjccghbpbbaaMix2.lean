
/-
  A region that draws its order, step by step: those marked true only read and may be taken now; the others come up alone; the last ones wait for all. One walk serves every order. Of no program. No conditions beyond what each theorem states.
-/
import Derived.Test.YtafhjccghbpbbaaMix
namespace Go.Proofs.Ytafhjccghbpbbaa
open Go Go.Sort Go.RowKit
set_option linter.unusedVariables false
set_option linter.unusedSimpArgs false

def pickG (ops : List Oper) (is : List (Bool × Nat)) : List (Bool × Oper) := is.filterMap fun x => (ops[x.2]?).map fun o => (x.1, o)
theorem pickG_cons {ops : List Oper} {b : Bool} {j : Nat} {js : List (Bool × Nat)} {o : Oper} (h : ops[j]? = some o) : pickG ops ((b, j) :: js) = (b, o) :: pickG ops js := by
  unfold pickG
  rw [List.filterMap_cons_some (b := (b, o))]
  simp [h]
def seqG (P : Program) (ops : Array Oper) (Q : Exit → Act → World → Prop) (C : World → Prop) (t : List Oper) : List (Bool × Oper) → Act → World → Prop
  | [], a, w => wpList P ops Q t a w
  | (true, o) :: rest, a, w => wpQuiet P ops C (fun a' => seqG P ops Q C t rest a' w) [o] a
  | (false, o) :: rest, a, w => ∀ K : Act → World → Prop, (∀ a' w', C w' → seqG P ops Q C t rest a' w' → K a' w') → wpList P ops (Exit.then K Q) [o] a w
theorem seqG_nil {P : Program} {ops : Array Oper} {Q : Exit → Act → World → Prop} {C : World → Prop} {t : List Oper} {a : Act} {w : World} (h : wpList P ops Q t a w) : seqG P ops Q C t [] a w := h
theorem seqG_quiet {P : Program} {ops : Array Oper} {Q : Exit → Act → World → Prop} {C : World → Prop} {t : List Oper} {rest : List (Bool × Oper)} {o : Oper} {a : Act} {w : World} (h : wpQuiet P ops C (fun a' => seqG P ops Q C t rest a' w) [o] a) : seqG P ops Q C t ((true, o) :: rest) a w := h
theorem seqG_step {P : Program} {ops : Array Oper} {Q : Exit → Act → World → Prop} {C : World → Prop} {t : List Oper} {rest : List (Bool × Oper)} {o : Oper} {a : Act} {w : World}
    (h : ∀ K : Act → World → Prop, (∀ a' w', C w' → seqG P ops Q C t rest a' w' → K a' w') → wpList P ops (Exit.then K Q) [o] a w) : seqG P ops Q C t ((false, o) :: rest) a w := h
def mixG (md : Region.Mode) (ops : Array Oper) (T : Nat → Bool) (tail : List Nat) : List (Bool × Nat) → Array Bool → Bool
  | [], listed => (Region.ready md ops listed).all T && seqB md ops tail listed
  | (true, i) :: is, listed => (Region.ready md ops listed).contains i && Region.free md ops listed i && !T i && waitsT md ops T i && (match ops[i]? with | some o => pureB o | none => false) && mixG md ops T tail is (listed.setIfInBounds i true)
  | (false, j) :: js, listed => (Region.ready md ops listed == [j]) && decide (j < ops.size) && !T j && mixG md ops T tail js (listed.setIfInBounds j true)
theorem anyM_mixG {P : Program} {ops : List Oper} {md : Region.Mode} {C : World → Prop} {T : Nat → Bool} {Q : Exit → Act → World → Prop} {tail : List Nat} (hs : Region.noSelect ops.toArray = true) (hQ : ∀ c (a : Act) d v w, Q (.panic c) (a.put d v) w → Q (.panic c) a w) : ∀ (is : List (Bool × Nat)) (listed : Array Bool) (a : Act) (w : World), C w → mixG md ops.toArray T tail is listed = true →
    seqG P ops.toArray Q C (pickOps ops tail) (pickG ops is) a w → anyM P md ops.toArray C T Q tail.length is.length listed a w
  | [], listed, a, w, _, hB, h => by
    simp only [mixG, Bool.and_eq_true, List.all_eq_true] at hB
    exact ⟨hB.1, any_of_seq tail listed a w hB.2 h⟩
  | (false, j) :: js, listed, a, w, _, hB, h => by
    simp only [mixG, Bool.and_eq_true, beq_iff_eq, decide_eq_true_eq, Bool.not_eq_true'] at hB
    obtain ⟨⟨⟨hr, hj⟩, hT⟩, hB'⟩ := hB
    have hj' : j < ops.length := by simpa using hj
    have h0 : ops[j]? = some ops[j] := List.getElem?_eq_getElem hj'
    have h0' : ops.toArray[j]? = some ops[j] := by simp [hj']
    rw [pickG_cons h0] at h
    refine ⟨fun e => (by rw [hr] at e; cases e), fun i hi => ?_⟩
    rw [hr, List.mem_singleton] at hi
    subst hi
    exact ⟨hT, wpOp_of_one h0' (h _ fun a' w' hC hs' => ⟨hC, anyM_mixG hs hQ js _ a' w' hC hB' hs'⟩)⟩
  | (true, i) :: is, listed, a, w, hC, hB, h => by
    simp only [mixG, Bool.and_eq_true, Bool.not_eq_true'] at hB
    obtain ⟨⟨⟨⟨⟨hr, hf⟩, hT⟩, hw⟩, hp⟩, hB'⟩ := hB
    cases h0 : ops.toArray[i]? with
    | none => rw [h0] at hp; cases hp
    | some o =>
      rw [h0] at hp
      simp only at hp
      rw [pickG_cons (by simpa using h0)] at h
      have h : wpQuiet P ops.toArray C (fun a' => seqG P ops.toArray Q C (pickOps ops tail) (pickG ops is) a' w) [o] a := h
      have hst : qOp P ops.toArray C i (wpQuiet P ops.toArray C (fun a' => seqG P ops.toArray Q C (pickOps ops tail) (pickG ops is) a' w) []) a := by unfold qOp; simp only [h0]; exact h
      obtain ⟨v, hy, hK⟩ := yieldsIn_of_qOp h0 hst
      have hy' : YieldsIf P ops.toArray C o v a := hy.imp (fun ⟨h1, h2⟩ => ⟨h1, fun w hw => run_of_quiet hp (h2 w hw)⟩) id
      exact anyM_first h0 hT hw (Region.noSelect_spec hs) (fun c a w h => hQ c a _ _ w h) _ listed a w (Region.free_spec h0 hf) (by simpa using hr) hy' hC (anyM_mixG hs hQ is _ _ w hC hB' hK)
def Region.mixOkG (is : List (Bool × Nat)) (tail : List Nat) (ops : List Oper) : Bool := decide (is.length + tail.length = ops.length) && Region.noSelect ops.toArray && mixG .any ops.toArray (fun j => tail.contains j) tail is (Array.replicate ops.length false)
theorem wp_region_mixG_below {P : Program} {id : Nat} {Q : Exit → Act → World → Prop} {a : Act} {w : World} {ops : List Oper} (is : List (Bool × Nat)) (tail : List Nat) (hm : P.follows .mixedOrders = true) (hB : Region.mixOkG is tail ops = true) (hQ : ∀ c (a : Act) d v w, Q (.panic c) (a.put d v) w → Q (.panic c) a w)
    (h : seqG P ops.toArray Q (fun w' => ∃ p : Regrown, w' = grow (redrawn w p.d) p.os) (pickOps ops tail) (pickG ops is) a w.drew) : (Code.region id ops.toArray true).wp P Q a w := by
  simp only [Region.mixOkG, Bool.and_eq_true, decide_eq_true_eq] at hB
  obtain ⟨⟨hn, hs⟩, hl⟩ := hB
  refine wp_region_any hm ?_
  rw [show ops.toArray.size = is.length + tail.length by rw [hn]; simp]
  refine any_of_anyM (C := fun w' => ∃ p : Regrown, w' = grow (redrawn w p.d) p.os) (T := fun j => tail.contains j) _ _ _ _ ?_
  rw [hn]
  exact anyM_mixG hs hQ is _ a _ ⟨⟨w.drawn + 1, #[]⟩, by rw [grow_empty]; rfl⟩ hl h
end Go.Proofs.Ytafhjccghbpbbaa
