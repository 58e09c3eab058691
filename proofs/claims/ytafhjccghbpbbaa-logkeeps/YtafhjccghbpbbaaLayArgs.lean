
/-
  How a slice of things of one kind that comes in lies in memory. Of no program but its own alias; no conditions beyond what each theorem states.
-/
import Derived.Test.YtafhjccghbpbbaaLay
import Derived.Deep.SlicePairs
import Derived.Deep.DeepHandedRow
import Derived.Carry
import Derived.ChangeSame
namespace Go.Proofs.Ytafhjccghbpbbaa
open Go.ChangeShapes Go.WideShapes Go.ChangeAt Go.RowKit Go.Joins Go.Lib
set_option linter.unusedVariables false
set_option linter.unusedSimpArgs false

theorem own : ownKnob Try.prog.godebug = none := by kernel_rfl
theorem laidOut : laidOutB Try.prog = true := by kernel_rfl

set_option maxRecDepth 100000 in
/-- Things that come in: each of its cells read by 'dec'. -/
theorem lay_open {α : Type} [Inhabited α] (L : Lay α) (Fit : α → Prop) (hpos : 0 < L.k) {H : Type} {enc : TypeId × Value → H} {W : World} {r : Reach} {base : Nat} {t e : TypeId} {v : Value} {d : DataW H} {ps : List MemPlace} (hu : Try.prog.underlying t = some (.slice e)) (hk : Try.prog.cellsOf e = L.k)
    (dec : ∀ n cs' x, DataW.trod enc Try.prog W 0 (fun _ => true) true n e cs' = some x → cs'.length = L.k → ∃ a, cs' = L.enc a ∧ Fit a)
    (hv : Value.okWide Try.prog W r base t v) (h : DataW.Trod enc Try.prog W 0 (fun _ => true) true t v d ps) :
    ∃ l p c, v = .slice p l.length c ∧ GRow L W p l ∧ (∀ x ∈ l, Fit x) ∧ l.length ≤ c ∧ (p = none → c = 0) ∧ l.length ≤ 9223372036854775807 ∧ (l = [] ∨ ∃ el sp, d = .slice el sp ∧ l.length = el.length) := by
  obtain ⟨a0, len, cap, rfl⟩ := okWide_slice hu hv
  obtain ⟨fuel, hf⟩ := h
  rcases Go.Deep.open_slice hu hf with ⟨hcs, -⟩ | ⟨a, len', cap', m, n, D, Pl, hcs, -, hl, hm, hmm, hx, hc⟩
  · simp [Value.cells] at hcs
    obtain ⟨rfl, rfl, rfl⟩ := hcs
    exact ⟨[], none, 0, rfl, GRow.nil _ _ _, (by intro x hx; simp at hx), by simp, fun _ => rfl, by simp, Or.inl rfl⟩
  · simp [Value.cells] at hcs
    obtain ⟨rfl, rfl, rfl⟩ := hcs
    have hlm : len ≤ m := by rw [hmm]; split <;> omega
    have each : ∀ i, i < len → ∃ x : α, (∀ j u, (L.enc x)[j]? = some u → W.cell? (a.add (i * L.k + j)) = some u) ∧ Fit x := fun i hi => by
      obtain ⟨cs', h1, h2⟩ := hc i (by omega)
      rw [hk] at h1
      obtain ⟨_, hlen, hcell⟩ := World.cells?_some h1
      obtain ⟨x, rfl, hfx⟩ := dec _ _ _ h2 hlen
      refine ⟨x, fun j u hj => ?_, hfx⟩
      have hjk : j < L.k := by have := (List.getElem?_eq_some_iff.1 hj).1; rwa [L.len] at this
      have := hcell j hjk
      rw [Go.Deep.add_add] at this
      rw [this]; exact hj
    obtain ⟨q, hq⟩ := Go.Deep.choose_lt each
    refine ⟨(List.range len).map q, some a, cap, by simp, ?_, ?_, by simpa using hl, (by intro h; cases h), (by simp; unfold maxLen at hm; omega), Or.inr ⟨_, _, (Prod.mk.inj hx).1, by simp⟩⟩
    · intro m' u hm'
      have hlt : m' < len * L.k := by
        have := (List.getElem?_eq_some_iff.1 hm').1
        rw [L.flat_length] at this
        simpa using this
      have hi : m' / L.k < len := Nat.div_lt_of_lt_mul (by rw [Nat.mul_comm]; exact hlt)
      have hj : m' % L.k < L.k := Nat.mod_lt _ hpos
      have hmm : m' = (m' / L.k) * L.k + m' % L.k := by rw [Nat.mul_comm]; exact (Nat.div_add_mod m' L.k).symm
      have hfl := L.flat_at (q 0) ((List.range len).map q) (m' / L.k) (m' % L.k) (by simpa using hi) hj
      rw [← hmm, hm'] at hfl
      have hgd : ((List.range len).map q).getD (m' / L.k) (q 0) = q (m' / L.k) := by simp [hi]
      rw [hgd] at hfl
      have hcell := (hq _ hi).1 _ _ hfl.symm
      rw [← hmm] at hcell
      obtain ⟨b, o, s⟩ := a
      have h00 := (hq 0 (Nat.lt_of_le_of_lt (Nat.zero_le _) hi)).1 0 _ (List.getElem?_eq_getElem (by rw [L.len]; exact hpos))
      have hs : s = none := by simpa [Addr.add] using World.cell?_spot h00
      subst hs
      rw [Addr.add_lit] at hcell
      exact ⟨b, o, rfl, hcell⟩
    · intro x hx
      simp only [List.mem_map, List.mem_range] at hx
      obtain ⟨i, hi, rfl⟩ := hx
      exact (hq i hi).2

end Go.Proofs.Ytafhjccghbpbbaa
