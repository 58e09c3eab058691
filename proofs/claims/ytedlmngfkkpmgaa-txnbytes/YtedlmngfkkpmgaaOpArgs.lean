
/-
  Operations that come in, opened; and that they are as they were. No conditions beyond what each theorem states.
-/
import Derived.Test.YtedlmngfkkpmgaaOpSpec
import Derived.Test.YtedlmngfkkpmgaaSpanArgs
namespace Go.Proofs.Ytedlmngfkkpmgaa
open Go.ChangeShapes Go.WideShapes Go.ChangeAt Go.RowKit Go.Lib
set_option linter.unusedVariables false
set_option linter.unusedSimpArgs false
set_option maxRecDepth 100000

/-- Things behind a slice that is one of several cells. -/
theorem lay_cells {α : Type} [Inhabited α] (L : Lay α) (Fit : α → Prop) (hpos : 0 < L.k) {H : Type} {enc : TypeId × Value → H} {W : World} {fuel : Nat} {t e : TypeId} {cs : List Value} {x : DataW H × List MemPlace} (hu : Try.prog.underlying t = some (.slice e)) (hk : Try.prog.cellsOf e = L.k)
    (dec : ∀ n cs' x, DataW.trod enc Try.prog W 0 (fun _ => true) true n e cs' = some x → cs'.length = L.k → ∃ a, cs' = L.enc a ∧ Fit a)
    (hf : DataW.trod enc Try.prog W 0 (fun _ => true) true fuel t cs = some x) :
    ∃ l p c, cs = [.slice p l.length c] ∧ GRow L W p l ∧ (∀ x ∈ l, Fit x) ∧ l.length ≤ c ∧ (p = none → c = 0) ∧ l.length ≤ 9223372036854775807 := by
  rcases Go.Deep.open_slice hu hf with ⟨hcs, -⟩ | ⟨a, len, cap, m, n, D, Pl, hcs, -, hl, hm, hmm, hx, hc⟩
  · exact ⟨[], none, 0, hcs, GRow.nil _ _ _, (by intro x hx; simp at hx), by simp, fun _ => rfl, by simp⟩
  · subst hcs
    have hlm : len ≤ m := by rw [hmm]; split <;> omega
    have each : ∀ i, i < len → ∃ x : α, (∀ j u, (L.enc x)[j]? = some u → W.cell? (a.add (i * L.k + j)) = some u) ∧ Fit x := fun i hi => by
      obtain ⟨cs', h1, h2⟩ := hc i (by omega)
      rw [hk] at h1
      obtain ⟨_, hlen, hcell⟩ := World.cells?_some h1
      obtain ⟨x, rfl, hfx⟩ := dec _ _ _ h2 hlen
      refine ⟨x, fun j u hj => ?_, hfx⟩
      have hjk : j < L.k := by have := (List.getElem?_eq_some_iff.1 hj).1; rwa [L.len] at this
      have := hcell j hjk
      rw [Go.Deep.add_add] at this
      rw [this]; exact hj
    obtain ⟨q, hq⟩ := Go.Deep.choose_lt each
    refine ⟨(List.range len).map q, some a, cap, by simp, ?_, ?_, by simpa using hl, (by intro h; cases h), (by simp; unfold maxLen at hm; omega)⟩
    · intro m' u hm'
      have hlt : m' < len * L.k := by
        have := (List.getElem?_eq_some_iff.1 hm').1
        rw [L.flat_length] at this
        simpa using this
      have hi : m' / L.k < len := Nat.div_lt_of_lt_mul (by rw [Nat.mul_comm]; exact hlt)
      have hj : m' % L.k < L.k := Nat.mod_lt _ hpos
      have hmm : m' = (m' / L.k) * L.k + m' % L.k := by rw [Nat.mul_comm]; exact (Nat.div_add_mod m' L.k).symm
      have hfl := L.flat_at (q 0) ((List.range len).map q) (m' / L.k) (m' % L.k) (by simpa using hi) hj
      rw [← hmm, hm'] at hfl
      have hgd : ((List.range len).map q).getD (m' / L.k) (q 0) = q (m' / L.k) := by simp [hi]
      rw [hgd] at hfl
      have hcell := (hq _ hi).1 _ _ hfl.symm
      rw [← hmm] at hcell
      obtain ⟨b, o, s⟩ := a
      have h00 := (hq 0 (Nat.lt_of_le_of_lt (Nat.zero_le _) hi)).1 0 _ (List.getElem?_eq_getElem (by rw [L.len]; exact hpos))
      have hs : s = none := by simpa [Addr.add] using World.cell?_spot h00
      subst hs
      rw [Addr.add_lit] at hcell
      exact ⟨b, o, rfl, hcell⟩
    · intro x hx
      simp only [List.mem_map, List.mem_range] at hx
      obtain ⟨i, hi, rfl⟩ := hx
      exact (hq i hi).2


theorem cells8 : Try.prog.cellsOf 69 = 7 := by kernel_rfl
theorem cellsSt : Try.prog.cellsOf 9 = 1 := by kernel_rfl
theorem cellsSl : Try.prog.cellsOf 67 = 1 := by kernel_rfl
theorem array7 {cs : Array Value} (h : cs.size = 7) : ∃ a b c d e f g, cs = #[a, b, c, d, e, f, g] := by
  obtain ⟨l⟩ := cs
  match l, h with
  | [a, b, c, d, e, f, g], _ => exact ⟨a, b, c, d, e, f, g, rfl⟩
theorem list6 {α : Type} {l : List α} (h : l.length = 6) : ∃ a b c d e f, l = [a, b, c, d, e, f] := by
  match l, h with
  | [a, b, c, d, e, f], _ => exact ⟨a, b, c, d, e, f, rfl⟩
/-- An operation that comes in. -/
theorem op_open {H : Type} {enc : TypeId × Value → H} {W : World} {r : Reach} {base : Nat} {v : Value} {d : DataW H} {ps : List MemPlace} (hv : Value.okWide Try.prog W r base 69 v) (h : DataW.Trod enc Try.prog W 0 (fun _ => true) true 69 v d ps) :
    ∃ o p c, v = ov o p c ∧ InO o p c W ∧ o.text.length ≤ 9223372036854775807 ∧ o.spans.length ≤ 9223372036854775807 := by
  obtain ⟨cs, rfl, hsz⟩ := okWide_struct Try.underlying69 hv
  obtain ⟨c0, c1, c2, c3, c4, c5, c6, rfl⟩ := array7 (hsz.trans cells8)
  obtain ⟨fuel, hf⟩ := h
  obtain ⟨xs, n, -, -, -, hlen, hfs⟩ := DataW.trod_struct Try.underlying69 hf
  obtain ⟨z0, z1, z2, z3, z4, z5, rfl⟩ := list6 (by simpa using hlen)
  have h0 := hfs 0 _ rfl
  have h1 := hfs 1 _ rfl
  have h2 := hfs 2 _ rfl
  have h3 := hfs 3 _ rfl
  have h4 := hfs 4 _ rfl
  have h5 := hfs 5 _ rfl
  simp [Value.cells, cellsInt, cellsII, cellsN, cellsSt, cellsSl] at h0 h1 h2 h3 h4 h5
  obtain ⟨k, e0, -, w0⟩ := DataW.trod_int Try.underlying3 h0
  obtain ⟨a, e1, fa⟩ := id_dec _ _ _ h1 rfl
  obtain ⟨m, e2, -, w2⟩ := DataW.trod_int Try.underlying23 h2
  obtain ⟨s, e3, -, hs⟩ := DataW.trod_string Try.underlying9 h3
  obtain ⟨l, p, c, e4, hG, hF, hc, hp, hll⟩ := lay_cells layS FitS layS_pos Try.underlying67 cellsSp (fun n cs' x h hl => span_dec n cs' x h hl) h4
  obtain ⟨q, e5, -, w5⟩ := DataW.trod_int Try.underlying23 h5
  simp at e0 e1 e2 e3 e4 e5
  obtain ⟨rfl, rfl⟩ := e1
  subst e0 e2 e3 e4 e5
  have b0 := bounds_i64 w0
  have b2 := bounds_u32 w2
  have b5 := bounds_u32 w5
  unfold FitN at fa
  obtain ⟨sd⟩ := s
  obtain ⟨sl⟩ := sd
  refine ⟨⟨k, a.1, a.2, m, sl, l, q⟩, p, c, rfl, ⟨⟨b0.1, by have := b0.2; simp only; omega, fa.1, fa.2.1, fa.2.2.1, fa.2.2.2, b2.1, by have := b2.2; simp only; omega, hF, b5.1, by have := b5.2; simp only; omega⟩, hG, hc, hp⟩, ?_, hll⟩
  unfold maxLen at hs
  have : (⟨⟨sl⟩⟩ : ByteArray).size = sl.length := rfl
  simp only
  omega
theorem op_again {H : Type} {enc : TypeId × Value → H} {W W' : World} {v : Value} {d : DataW H} {ps : List MemPlace} (h : DataW.Trod enc Try.prog W 0 (fun _ => true) true 69 v d ps) (hb : Below W.heap.size W W') (hlt : ∀ x ∈ ps, x.block < W.heap.size) :
    DataW.Trod enc Try.prog W' 0 (fun b => decide (b < W.heap.size)) true 69 v d ps :=
  Below.trod laidOut (by kernel_rfl) (of_decide_eq_true (by kernel_rfl)) h hb hlt

end Go.Proofs.Ytedlmngfkkpmgaa
