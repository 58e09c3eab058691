
/-
  A region that draws its order, from where some of its operations have run: what is left only reads (callees that leave what was there as it was), and one walk serves every order. Of no program. No conditions beyond what each theorem states.
-/
import Derived.Lib.QuietBelow
import Derived.BigQuiet
namespace Go.Proofs.Ytedlmngfkkpmgaa
open Go Go.Sort Go.RowKit
set_option linter.unusedVariables false
set_option linter.unusedSimpArgs false

/-- The last operations, from number k on, in a region whose earlier ones have run. -/
theorem any_rest {P : Program} {ops : List Oper} {Q : Exit → Act → World → Prop} {listed : Array Bool} {a : Act} {w : World} (k : Nat) (hs : Region.noSelect ops.toArray = true) (hB : Region.lexFrom .any ops.toArray (ops.drop k).length k listed = true)
    (h : wpQuiet P ops.toArray (fun w' => ∃ p : Regrown, w' = grow (redrawn w p.d) p.os) (fun a' => ∀ w', (∃ p : Regrown, w' = grow (redrawn w p.d) p.os) → Q .normal a' w') (ops.drop k) a) : wpAny P .any ops.toArray Q (ops.drop k).length listed a w :=
  wpAny_of_quiet (C := fun w' => ∃ p : Regrown, w' = grow (redrawn w p.d) p.os) (Q := fun a' => ∀ w', (∃ p : Regrown, w' = grow (redrawn w p.d) p.os) → Q .normal a' w') (fun _ w' hw' h => h w' hw') _ _ _ _ ⟨⟨w.drawn, #[]⟩, by rw [grow_empty]; rfl⟩
    (wpAnyQ_lex hs (ops.drop k) k listed a (fun j => by simp [List.getElem?_drop]) hB h)
end Go.Proofs.Ytedlmngfkkpmgaa
