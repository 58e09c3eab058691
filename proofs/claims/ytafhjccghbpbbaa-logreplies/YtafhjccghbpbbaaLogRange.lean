
/-
  A range over a function whose iterator says, at each call of yield, what holds of what it hands and of the world then. Of no program; no conditions beyond what each theorem states.
-/
import Derived.RangeFuncNested
import Derived.RangeFuncBound
import Derived.RangeFuncCalls
import Derived.RangeFuncLeaves
import Derived.Test.YtafhjccghbpbbaaPackBase
namespace Go.Proofs.Ytafhjccghbpbbaa
open Go.ChangeShapes Go.WideShapes Go.ChangeAt Go.RowKit Go.Lib
set_option linter.unusedVariables false
set_option linter.unusedSimpArgs false

variable {F : Fence} {n : Nat} {P : Program}
/-- What a round of loop l keeps: all but the blocks of N and the loop's own two. -/
def RoundK (N : Nat → Prop) (l : Nat) (W W' : World) : Prop := Kept (fun k => N k ∨ k = l ∨ k + 1 = l) W W'
theorem RoundK.refl (N : Nat → Prop) (l : Nat) (W : World) : RoundK N l W W := Kept.refl _ _
theorem RoundK.trans {N : Nat → Prop} {l : Nat} {A B C : World} (h : RoundK N l A B) (k : RoundK N l B C) : RoundK N l A C := Kept.trans h k (fun _ _ h => h)
theorem RoundK.put {N : Nat → Prop} {l : Nat} (W : World) (o : Obj) : RoundK N l W (W.putObj l o) := Kept.ofGrown (grownBy_putObj' W l o) (fun k e => by cases e; exact Or.inr (Or.inl rfl))
theorem RoundK.alloc {N : Nat → Prop} {l : Nat} {A B : World} (h : RoundK N l A B) (o : Obj) : RoundK N l A (B.alloc o) := Kept.alloc h o
theorem RoundK.set {N : Nat → Prop} {l K o : Nat} {A B : World} (h : RoundK N l A B) (hK : N K) (u : Value) : RoundK N l A (B.setCell ⟨K, o, none⟩ u) := Kept.set h (Or.inl hK) u
/-- An iterator that tells, one by one: `R pre x W`: x is what comes behind pre, as it lies in W. Rounds write the blocks of N alone. -/
def SeqTells {α : Type} (F : Fence) (n : Nat) (P : Program) (g : Nat) (lb : Array Value) (encs : α → Array Value) (N : Nat → Prop) (R : List α → α → World → Prop) (S Sp : List α → Prop) (w : World) : Prop :=
  ∀ (l : Nat) (J Jx : List α → World → Prop) (W : World), w.heap.size < l → Below w.heap.size w W → OwnFrom W.heap.size J → OwnFrom W.heap.size Jx →
    (∀ pre x W1, J pre W1 → R pre x W1 → YieldAt F (n - 1) P l (encs x) W1 fun e W' => (e = .returned (.bool true) ∧ J (pre ++ [x]) W' ∧ RoundK N l W1 W') ∨ (e = .returned (.bool false) ∧ Jx (pre ++ [x]) W')) →
    J [] W →
    CallsIn F n P g (#[.func (.yield l) #[] #[]] ++ lb) W fun e W' => (∃ v, e = .returned v) ∧ ((∃ xs, S xs ∧ J xs W') ∨ (∃ pre, Sp pre ∧ Jx pre W'))
/-- The loop's two blocks. -/
structure Bkd (D : Nat) (r : Loop) (W : World) : Prop where
  lp : W.heap[D + 1]? = some (.loop r)
  df : W.heap[D]? = some (.deferred (some []))
theorem Bkd.keeps {D : Nat} {r : Loop} {W W' : World} (h : Bkd D r W) (k : KeepsFrom D W W') : Bkd D r W' := ⟨k.same _ _ (by omega) h.lp rfl, k.same _ _ (Nat.le_refl _) h.df rfl⟩
theorem Bkd.turn {D : Nat} {r : Loop} {W : World} (h : Bkd D r W) (r' : Loop) : Bkd D r' (W.putObj (D + 1) (.loop r')) := ⟨World.putObj_heap_same (Array.getElem?_eq_some_iff.1 h.lp).1, (World.putObj_heap_other (by omega)).trans h.df⟩
theorem bkd_own {β : Type} {B D : Nat} (r : β → Loop) (hB : D + 2 ≤ B) : OwnFrom B (fun s W => Bkd D (r s) W) := fun s W W' row h hg hr => by
  have hne : ∀ k : Nat, k < B → some k ≠ row := fun k hk e => by have := (hr k e.symm).1; omega
  exact ⟨(hg.block _ (Array.getElem?_eq_some_iff.1 h.lp).1 (hne _ (by omega))).trans h.lp, (hg.block _ (Array.getElem?_eq_some_iff.1 h.df).1 (hne _ (by omega))).trans h.df⟩
theorem ownFrom_up {β : Type} {B B' : Nat} {I : β → World → Prop} (h : OwnFrom B I) (hB : B ≤ B') : OwnFrom B' I := fun s W W' row hs hg hr => h s W W' row hs hg (fun r e => ⟨Nat.le_trans hB (hr r e).1, (hr r e).2⟩)
theorem ownFrom_block {β : Type} {B k : Nat} (hk : k < B) (o : β → Obj) : OwnFrom B (fun s W => W.heap[k]? = some (o s)) := fun s W W' row h hg hr => (hg.block k (Array.getElem?_eq_some_iff.1 h).1 (fun e => by have := (hr k e.symm).1; omega)).trans h
/-- The statement, at an outermost loop. -/
theorem wpIn_rangeTells {α : Type} {w : World} {g : Operand} {ps : Array Tmp} {assign body : Code} {Q : Exit → Act → World → Prop} {a : Act}
    (hro : F.round = none) (h1 : 1 ≤ n) {gf : Nat} {lb : Array Value} (hg : a.eval g = .func (.func gf) #[] lb) (hFg : F.fn gf) (eg : ∀ args w, (callFunc gf args).run P w = .ok (.enter gf args) w)
    {encs : α → Array Value} {N : Nat → Prop} {R : List α → α → World → Prop} {S Sp : List α → Prop} (hseq : SeqTells F (n - 1) P gf lb encs N R S Sp w) (hps : ∀ x, (encs x).size = ps.size)
    (I : List α → World → Prop) (Ix : Code → List α → World → Prop) (hI : OwnFrom w.heap.size I) (hIx : ∀ c, OwnFrom w.heap.size (Ix c)) (h0 : I [] w)
    (hround : ∀ (l : Nat) (pre : List α) (x : α) (W : World), w.heap.size ≤ l → (∃ o, W.heap[l]? = some o ∧ o.isCells = false) → I pre W → R pre x W → assign.wpIn (F.inRound l) (n - 1 - 1) P (Exit.then (fun a' W0 => KeepsFrom w.heap.size W W0 ∧ RoundK N l W W0 ∧ ∀ W2, W0.grownBy W2 (some l) → body.wpIn (F.inRound l) (n - 1 - 1) P (ownPostG w.heap.size (RoundK N l) I Ix (pre ++ [x]) W2) a' W2) (fun _ _ _ => False)) { tmps := (ps.zip (encs x)).foldl (fun t (p, v) => t.setIfInBounds p v) a.tmps, defers := [] } W)
    (hdone : ∀ (D : Nat) (xs : List α) (W : World), w.heap.size ≤ D → S xs → I xs W → W.heap[D]? = some (.deferred (some [])) → Q .normal { a with defers := { target := .collected D, args := #[] } :: a.defers } W)
    (hstop : ∀ (D : Nat) (c : Code) (pre : List α) (W : World), w.heap.size ≤ D → Sp pre → Ix c pre W → W.heap[D]? = some (.deferred (some [])) → c.wpIn F n P Q { a with defers := { target := .collected D, args := #[] } :: a.defers } W) :
    (Code.rangeFunc g ps assign body).wpIn F n P Q a w := by
  refine wpIn_rangeFunc fun fn hfn => ?_
  rw [hro]
  generalize hD : w.heap.size = D
  have hrec : ∃ lo : LoopState → Option Code → Loop, ∀ st pe, lo st pe = { state := st, pending := pe, fn, tmps := a.tmps, params := ps, assign, body, defers := D } := ⟨fun st pe => _, fun _ _ => rfl⟩
  obtain ⟨lo, hlo⟩ := hrec
  have hW : ∃ W1, (w.alloc (.deferred (some []))).alloc (.loop (lo .ready none)) = W1 := ⟨_, rfl⟩
  obtain ⟨W1, hW⟩ := hW
  have hB1 : Bkd D (lo .ready none) W1 := by
    subst hW
    have e1 := World.alloc_heap_new (w.alloc (.deferred (some []))) (.loop (lo .ready none))
    rw [World.size_alloc, hD] at e1
    have e2 := World.alloc_heap_new w (.deferred (some []))
    rw [hD] at e2
    exact ⟨e1, (Below.heap_alloc _ _ _ (by simp; omega)).trans e2⟩
  have hS1 : W1.heap.size = D + 2 := by subst hW; simp [hD]
  have hI1 : I [] W1 := by subst hW; exact hI.alloc _ (hI.alloc _ h0)
  have hb1 : Below w.heap.size w W1 := by subst hW; exact ((Below.refl _ w).alloc (Nat.le_refl _) _).alloc (by simp) _
  rw [hD] at hI hIx hround hdone hstop
  refine ⟨D + 1, [{ target := .collected D, args := #[] }], W1, { target := .fn (.func gf) lb, args := #[.func (.yield (D + 1)) #[] #[]] }, W1, gf, #[.func (.yield (D + 1)) #[] #[]] ++ lb, W1, ?_, ?_, ?_, ?_, fun _ => h1, ?_⟩
  · have := run_enterLoop_outer (P := P) (w := w) fn a.tmps ps assign body
    rw [hD] at this
    rw [this, ← hW, hlo]
  · simp only [resolve, hg]
    simp [go_sem]
  · intro f' hf'
    simp [Target.leads] at hf'
    subst hf'
    exact hFg
  · simp [invoke, go_sem, eg]
  · refine (hseq (D + 1) (fun pre W => I pre W ∧ Bkd D (lo .ready none) W) (fun pre W => ∃ c, Ix c pre W ∧ Bkd D (lo .done (some c)) W) W1 (by omega) hb1 ((ownFrom_up hI (by omega)).and (bkd_own (fun _ => lo .ready none) (by omega))) ?_ ?_ ⟨hI1, hB1⟩).mono ?_
    · rintro s A B row ⟨c, h2, h3⟩ hg' hr
      exact ⟨c, ownFrom_up (hIx c) (by omega) s A B row h2 hg' hr, bkd_own (fun (_ : Unit) => lo .done (some c)) (by omega) () A B row h3 hg' hr⟩
    · rintro pre x W ⟨hi, hb⟩ hrx
      have hy := run_yield (P := P) (args := encs x) hb.lp (by rw [hlo]; exact hps x)
      rw [hlo] at hy
      refine ⟨fn, _, assign, body, hy, roundIn_of_wpIn hfn (wpIn_mono (hround (D + 1) pre x W (by omega) ⟨_, hb.lp, rfl⟩ hi hrx) ?_)⟩
      intro e0 a' W0 hp0
      cases e0 with
      | normal => ?_
      | ret => exact hp0.elim
      | exit id => exact hp0.elim
      | goto t => exact hp0.elim
      | panic ch => exact hp0.elim
      | outgrown => exact hp0.elim
      obtain ⟨hk0, hb0, hB⟩ := hp0
      have hbb := hb.keeps hk0
      refine ⟨_, run_beginRound hbb.lp (by rw [hlo]), ?_⟩
      have hb2 := hbb.turn ({ lo .ready none with state := .busy })
      have hbl := hb0.trans (RoundK.put W0 (.loop ({ lo .ready none with state := .busy })))
      refine wpIn_mono (hB _ (grownBy_putObj' W0 (D + 1) _)) ?_
      generalize W0.putObj (D + 1) (.loop { lo .ready none with state := .busy }) = W2 at hb2 hbl ⊢
      have fin : ∀ (jump : Option Code) (W3 : World), KeepsFrom D W2 W3 → (Instr.endRound (D + 1) jump).run P W3 = .ok (.bool jump.isNone) (W3.putObj (D + 1) (.loop (lo (if jump.isNone then .ready else .done) jump))) ∧ Bkd D { lo .ready none with state := .busy } W3 := fun jump W3 hk => by
        have h3 := hb2.keeps hk
        have h4 := run_endRound (P := P) jump h3.lp
        simp only [hlo] at h4 h3 ⊢
        exact ⟨h4, h3⟩
      rintro e a3 W3 hp
      cases e with
      | normal =>
        obtain ⟨hk3, hp3, hi3⟩ := hp
        obtain ⟨h4, h5⟩ := fin none W3 hk3
        exact ⟨_, _, h4, Or.inl ⟨rfl, ⟨hI.putObj _ hi3 (by omega) h5.lp rfl, h5.turn _⟩, (hbl.trans hp3).trans (RoundK.put _ _)⟩⟩
      | ret =>
        obtain ⟨hk3, hi3⟩ := hp
        obtain ⟨h4, h5⟩ := fin (some .ret) W3 hk3
        exact ⟨_, _, h4, Or.inr ⟨rfl, .ret, (hIx _).putObj _ hi3 (by omega) h5.lp rfl, h5.turn _⟩⟩
      | exit id =>
        obtain ⟨hk3, hi3⟩ := hp
        obtain ⟨h4, h5⟩ := fin (some (.exit id)) W3 hk3
        exact ⟨_, _, h4, Or.inr ⟨rfl, .exit id, (hIx _).putObj _ hi3 (by omega) h5.lp rfl, h5.turn _⟩⟩
      | goto t =>
        obtain ⟨hk3, hi3⟩ := hp
        obtain ⟨h4, h5⟩ := fin (some (.goto t)) W3 hk3
        exact ⟨_, _, h4, Or.inr ⟨rfl, .goto t, (hIx _).putObj _ hi3 (by omega) h5.lp rfl, h5.turn _⟩⟩
      | panic ch => exact hp.elim
      | outgrown => exact hp.elim
    · rintro e W2 ⟨⟨v, rfl⟩, (⟨xs, hS, hi, hb⟩ | ⟨pre, hSp, c, hi, hb⟩)⟩
      · have h4 := run_endLoop (P := P) hb.lp (by rw [hlo]; simp)
        exact ⟨none, _, by rw [h4, hlo], hdone _ xs _ (by omega) hS (hI.putObj _ hi (by omega) hb.lp rfl) (hb.turn _).df⟩
      · have h4 := run_endLoop (P := P) hb.lp (by rw [hlo]; simp)
        exact ⟨some c, _, by rw [h4, hlo], hstop _ c pre _ (by omega) hSp ((hIx c).putObj _ hi (by omega) hb.lp rfl) (hb.turn _).df⟩
end Go.Proofs.Ytafhjccghbpbbaa
