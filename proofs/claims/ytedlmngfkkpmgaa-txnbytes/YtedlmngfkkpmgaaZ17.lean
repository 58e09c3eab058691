/-
  Several texts of one proof, joined: each part says at its head what it proves. No conditions beyond what each theorem states.
-/
import Derived.Test.YtedlmngfkkpmgaaZ07
/-
  Transactions that come in, and how much they hold. No conditions beyond what each theorem states.
-/
namespace Go.Proofs.Ytedlmngfkkpmgaa
open Go.ChangeShapes Go.WideShapes Go.ChangeAt Go.RowKit Go.Lib
set_option linter.unusedVariables false
set_option linter.unusedSimpArgs false
set_option maxRecDepth 100000

theorem bytesSp9 : Try.prog.bytesOf 114 = 16 := by kernel_rfl
theorem bytesO9 : Try.prog.bytesOf 69 = 72 := by kernel_rfl
theorem weights_all_mem {H : Type} {P : Program} {e : TypeId} {d : DataW H} : ∀ {ds : List (DataW H)}, d ∈ ds → ∀ n ∈ d.weights P e, n ∈ DataW.weightsAll P e ds
  | d0 :: ds, h, n, hn => by
    simp only [DataW.weightsAll, List.mem_append]
    rcases List.mem_cons.1 h with rfl | h
    · exact Or.inl hn
    · exact Or.inr (weights_all_mem h n hn)
theorem lay_cells_w {α : Type} [Inhabited α] (R : Nat) (L : Lay α) (Fit : α → Prop) (hpos : 0 < L.k) {H : Type} {enc : TypeId × Value → H} {W : World} {fuel : Nat} {t e : TypeId} {cs : List Value} {x : DataW H × List MemPlace} (hu : Try.prog.underlying t = some (.slice e)) (hk : Try.prog.cellsOf e = L.k)
    (dec : ∀ n cs' x, DataW.trod enc Try.prog W 0 (fun _ => true) true n e cs' = some x → cs'.length = L.k → (∀ m ∈ x.1.weights Try.prog e, m ≤ R) → ∃ a, cs' = L.enc a ∧ Fit a)
    (hf : DataW.trod enc Try.prog W 0 (fun _ => true) true fuel t cs = some x) (hw : ∀ m ∈ x.1.weights Try.prog t, m ≤ R) :
    ∃ l p c, cs = [.slice p l.length c] ∧ GRow L W p l ∧ (∀ x ∈ l, Fit x) ∧ l.length ≤ c ∧ (p = none → c = 0) ∧ l.length ≤ 9223372036854775807 ∧ l.length * Try.prog.bytesOf e ≤ R := by
  rcases Go.Deep.open_slice hu hf with ⟨hcs, -⟩ | ⟨a, len, cap, m, n, D, Pl, hcs, -, hl, hm, hmm, hx, hc⟩
  · exact ⟨[], none, 0, hcs, GRow.nil _ _ _, (by intro x hx; simp at hx), by simp, fun _ => rfl, by simp, by simp⟩
  · subst hcs
    subst hx
    simp only [DataW.weights, hu] at hw
    have hlm : len ≤ m := by rw [hmm]; split <;> omega
    have each : ∀ i, i < len → ∃ x : α, (∀ j u, (L.enc x)[j]? = some u → W.cell? (a.add (i * L.k + j)) = some u) ∧ Fit x := fun i hi => by
      obtain ⟨cs', h1, h2⟩ := hc i (by omega)
      rw [hk] at h1
      obtain ⟨_, hlen, hcell⟩ := World.cells?_some h1
      obtain ⟨x, rfl, hfx⟩ := dec _ _ _ h2 hlen (fun m hm => hw m (List.mem_cons_of_mem _ (List.mem_append_left _ (weights_all_mem (List.mem_map.2 ⟨i, List.mem_range.2 hi, rfl⟩) m hm))))
      refine ⟨x, fun j u hj => ?_, hfx⟩
      have hjk : j < L.k := by have := (List.getElem?_eq_some_iff.1 hj).1; rwa [L.len] at this
      have := hcell j hjk
      rw [Go.Deep.add_add] at this
      rw [this]; exact hj
    obtain ⟨q, hq⟩ := Go.Deep.choose_lt each
    refine ⟨(List.range len).map q, some a, cap, by simp, ?_, ?_, by simpa using hl, (by intro h; cases h), (by simp; unfold maxLen at hm; omega), ?_⟩
    · intro m' u hm'
      have hlt : m' < len * L.k := by
        have := (List.getElem?_eq_some_iff.1 hm').1
        rw [L.flat_length] at this
        simpa using this
      have hi : m' / L.k < len := Nat.div_lt_of_lt_mul (by rw [Nat.mul_comm]; exact hlt)
      have hj : m' % L.k < L.k := Nat.mod_lt _ hpos
      have hmm : m' = (m' / L.k) * L.k + m' % L.k := by rw [Nat.mul_comm]; exact (Nat.div_add_mod m' L.k).symm
      have hfl := L.flat_at (q 0) ((List.range len).map q) (m' / L.k) (m' % L.k) (by simpa using hi) hj
      rw [← hmm, hm'] at hfl
      have hgd : ((List.range len).map q).getD (m' / L.k) (q 0) = q (m' / L.k) := by simp [hi]
      rw [hgd] at hfl
      have hcell := (hq _ hi).1 _ _ hfl.symm
      rw [← hmm] at hcell
      obtain ⟨b, o, s⟩ := a
      have h00 := (hq 0 (Nat.lt_of_le_of_lt (Nat.zero_le _) hi)).1 0 _ (List.getElem?_eq_getElem (by rw [L.len]; exact hpos))
      have hs : s = none := by simpa [Addr.add] using World.cell?_spot h00
      subst hs
      rw [Addr.add_lit] at hcell
      exact ⟨b, o, rfl, hcell⟩
    · intro x hx
      simp only [List.mem_map, List.mem_range] at hx
      obtain ⟨i, hi, rfl⟩ := hx
      exact (hq i hi).2
    · have := hw _ (List.mem_cons_self ..)
      simp only [List.length_map, List.length_range] at this ⊢
      exact Nat.le_trans (Nat.mul_le_mul_right _ (by omega)) this
/-- One operation's cells, read, and how much they hold. -/
theorem op_dec_w (R : Nat) {H : Type} {enc : TypeId × Value → H} {W : World} (n : Nat) (cs' : List Value) (x : DataW H × List MemPlace) (h : DataW.trod enc Try.prog W 0 (fun _ => true) true n 69 cs' = some x) (hl : cs'.length = 7) (hw : ∀ m ∈ x.1.weights Try.prog 69, m ≤ R) : ∃ a : OV, cs' = layO.enc a ∧ InO a.1 a.2.1 a.2.2 W ∧ a.1.text.length ≤ 9223372036854775807 ∧ a.1.spans.length ≤ 9223372036854775807 ∧ a.1.spans.length * 16 ≤ R := by
  obtain ⟨xs, n, -, hx, -, hlen, hfs⟩ := DataW.trod_struct Try.underlying69 h
  subst hx
  obtain ⟨z0, z1, z2, z3, z4, z5, rfl⟩ := list6 (by simpa using hlen)
  match cs', hl with
  | [c0, c1, c2, c3, c4, c5, c6], _ =>
    have hw4 : ∀ m ∈ z4.1.weights Try.prog 67, m ≤ R := fun m hm => hw m (by
      simp only [DataW.weights, Try.underlying69]
      exact DataW.weights_mem_each (j := 4) rfl rfl m hm)
    have h0 := hfs 0 _ rfl
    have h1 := hfs 1 _ rfl
    have h2 := hfs 2 _ rfl
    have h3 := hfs 3 _ rfl
    have h4 := hfs 4 _ rfl
    have h5 := hfs 5 _ rfl
    simp [cellsInt, cellsII, cellsN, cellsSt, cellsSl] at h0 h1 h2 h3 h4 h5
    obtain ⟨k, e0, -, w0⟩ := DataW.trod_int Try.underlying3 h0
    obtain ⟨a, e1, fa⟩ := id_dec _ _ _ h1 rfl
    obtain ⟨m, e2, -, w2⟩ := DataW.trod_int Try.underlying23 h2
    obtain ⟨s, e3, -, hs⟩ := DataW.trod_string Try.underlying9 h3
    obtain ⟨l, p, c, e4, hG, hF, hc, hp, hll, hb⟩ := lay_cells_w R layS FitS layS_pos Try.underlying67 cellsSp (fun n cs' x h hl _ => span_dec n cs' x h hl) h4 hw4
    obtain ⟨q, e5, -, w5⟩ := DataW.trod_int Try.underlying23 h5
    simp at e0 e1 e2 e3 e4 e5
    obtain ⟨rfl, rfl⟩ := e1
    subst e0 e2 e3 e4 e5
    have b0 := bounds_i64 w0
    have b2 := bounds_u32 w2
    have b5 := bounds_u32 w5
    unfold FitN at fa
    obtain ⟨sd⟩ := s
    obtain ⟨sl⟩ := sd
    refine ⟨(⟨k, a.1, a.2, m, sl, l, q⟩, p, c), rfl, ⟨⟨b0.1, by have := b0.2; simp only; omega, fa.1, fa.2.1, fa.2.2.1, fa.2.2.2, b2.1, by have := b2.2; simp only; omega, hF, b5.1, by have := b5.2; simp only; omega⟩, hG, hc, hp⟩, ?_, hll, by rw [bytesSp9] at hb; exact hb⟩
    unfold maxLen at hs
    have : (⟨⟨sl⟩⟩ : ByteArray).size = sl.length := rfl
    simp only
    omega
/-- A transaction that comes in, and how much it holds. -/
theorem txn_sized {H : Type} {enc : TypeId × Value → H} {W : World} {r : Reach} {base : Nat} {v : Value} {d : DataW H} {ps : List MemPlace} (hv : Value.okWide Try.prog W r base 27 v) (h : DataW.Trod enc Try.prog W 0 (fun _ => true) true 27 v d ps) (RB : Nat) (hw : ∀ m ∈ d.weights Try.prog 27, m ≤ RB) :
    ∃ t xs p c, v = tv t p c ∧ InT t xs p c W ∧ t.ops.length ≤ 9223372036854775807 ∧ t.ops.length * 72 ≤ RB ∧ ∀ x ∈ xs, x.1.text.length ≤ 9223372036854775807 ∧ x.1.spans.length ≤ 9223372036854775807 ∧ x.1.spans.length * 16 ≤ RB := by
  obtain ⟨cs, rfl, hsz⟩ := okWide_struct Try.underlying27 hv
  obtain ⟨c0, c1, c2, c3, c4, rfl⟩ := array5 (hsz.trans cells9)
  obtain ⟨fuel, hf⟩ := h
  obtain ⟨xs, n, -, hx, -, hlen, hfs⟩ := DataW.trod_struct Try.underlying27 hf
  obtain ⟨rfl, -⟩ := Prod.mk.inj hx
  obtain ⟨z0, z1, z2, z3, z4, rfl⟩ := list5 (by simpa using hlen)
  have hw4 : ∀ m ∈ z4.1.weights Try.prog 25, m ≤ RB := fun m hm => hw m (by
    simp only [DataW.weights, Try.underlying27]
    exact DataW.weights_mem_each (j := 4) rfl rfl m hm)
  have h0 := hfs 0 _ rfl
  have h1 := hfs 1 _ rfl
  have h2 := hfs 2 _ rfl
  have h3 := hfs 3 _ rfl
  have h4 := hfs 4 _ rfl
  simp [Value.cells, cellsInt, cellsR, cellsN, cellsC, cellsOs] at h0 h1 h2 h3 h4
  obtain ⟨R, e0, -, w0⟩ := DataW.trod_int Try.underlying22 h0
  obtain ⟨S, e1, -, w1⟩ := DataW.trod_int Try.underlying23 h1
  obtain ⟨C, e2, -, w2⟩ := DataW.trod_int Try.underlying24 h2
  obtain ⟨U, e3, -, w3⟩ := DataW.trod_int Try.underlying3 h3
  obtain ⟨l, p, c, e4, hG, hF, hc, hp, hll, hb⟩ := @lay_cells_w OV ⟨ov0⟩ RB layO (fun a => InO a.1 a.2.1 a.2.2 W ∧ a.1.text.length ≤ 9223372036854775807 ∧ a.1.spans.length ≤ 9223372036854775807 ∧ a.1.spans.length * 16 ≤ RB) layO_pos H enc W _ _ _ _ _ Try.underlying25 cells8 (fun n cs' x h hl hw => op_dec_w RB n cs' x h hl hw) h4 hw4
  simp at e0 e1 e2 e3 e4
  subst e0 e1 e2 e3 e4
  have b0 := bounds_u16 w0
  have b1 := bounds_u32 w1
  have b2 := bounds_u64 w2
  have b3 := bounds_i64 w3
  refine ⟨⟨R, S, C, U, l.map (·.1)⟩, l, p, c, by unfold tv; simp, ⟨⟨b0.1, by have := b0.2; simp only; omega, b1.1, by have := b1.2; simp only; omega, b2.1, by have := b2.2; simp only; omega, b3.1, by have := b3.2; simp only; omega, ?_⟩, rfl, ⟨hG, fun x hx => (hF x hx).1⟩, by simpa using hc, hp⟩, by simpa using hll, by rw [bytesO9] at hb; simpa using hb, fun x hx => (hF x hx).2⟩
  intro o ho
  obtain ⟨x, hx, rfl⟩ := List.mem_map.1 ho
  exact (hF x hx).1.fit
end Go.Proofs.Ytedlmngfkkpmgaa
