
/-
  What the program's join and Of of layer 7 hand back. No conditions beyond what each theorem states.
-/
import Derived.Test.YtedlmngfkkpmgaaSpanProg1
namespace Go.Proofs.Ytedlmngfkkpmgaa
open Go.ChangeShapes Go.WideShapes Go.ChangeAt Go.RowKit Go.Lib
set_option linter.unusedVariables false
set_option linter.unusedSimpArgs false

/-- One name more behind spans. -/
def joinL (A : List Sp) (a : Nm) : List Sp :=
  match A.getLast? with
  | none => A ++ [(a.1, a.2, 1)]
  | some s => if s.2.2 < 1024 ∧ s.1 = a.1 ∧ s.2.1 + s.2.2 = a.2 then A.dropLast ++ [(s.1, s.2.1, s.2.2 + 1)] else A ++ [(a.1, a.2, 1)]
theorem joinL_nil (a : Nm) : joinL [] a = [] ++ [(a.1, a.2, 1)] := rfl
theorem joinL_snoc (D : List Sp) (s : Sp) (a : Nm) : joinL (D ++ [s]) a = if s.2.2 < 1024 ∧ s.1 = a.1 ∧ s.2.1 + s.2.2 = a.2 then D ++ [(s.1, s.2.1, s.2.2 + 1)] else (D ++ [s]) ++ [(a.1, a.2, 1)] := by
  unfold joinL
  rw [List.getLast?_concat, List.dropLast_concat]
theorem ofL_join {xs : List Nm} (hr : RightN xs) (a : Nm) : ofL (xs ++ [a]) = joinL (ofL xs) a := by
  by_cases h0 : xs = []
  · subst h0; rfl
  · have hp : 0 < xs.length := List.length_pos_iff.2 h0
    obtain ⟨D, s, e1, e2⟩ := ofL_next (ids := xs ++ [a]) (k := xs.length) hp (by simp)
    have hT : (xs ++ [a]).take xs.length = xs := by simp
    have hT1 : (xs ++ [a]).take (xs.length + 1) = xs ++ [a] := by rw [List.take_of_length_le (by simp)]
    have hG : (xs ++ [a]).getD xs.length n0 = a := by simp
    have hI := of_inv hr xs.length (Nat.le_refl _)
    unfold OfInv at hI
    rw [List.take_length] at hI
    rw [hT] at e1
    rw [hT1, hG] at e2
    have hL := hI.2.2 D s e1
    have hG1 : (xs ++ [a]).getD (xs.length - 1) n0 = xs.getD (xs.length - 1) n0 := by
      rw [List.getD_eq_getElem?_getD, List.getD_eq_getElem?_getD, List.getElem?_append_left (by omega)]
    rw [e2, e1, joinL_snoc, hG1, ← hL]
    unfold follows
    simp only
    congr 1
    apply propext
    rw [decide_eq_true_eq]
    constructor
    · rintro ⟨⟨h1, h2⟩, h3⟩; exact ⟨h3, h1, by omega⟩
    · rintro ⟨h1, h2, h3⟩; exact ⟨⟨h2, by omega⟩, h1⟩

/-- Where append puts a row of the call's own: where it was, or in a new block. -/
theorem append_where {P : Program} {w : World} (base : Nat) (t ty e : TypeId) (i : TypeInfo) (z : Value) (size bytes : Nat) (ht : P.underlying t = some (.slice e)) (hi : P.info? e = some i) (hz : i.zero = some z)
    (hsize : i.size = size) (hby : i.bytes = bytes) (hzs : z.cells.size = size) (hsz : 0 < size)
    (v : Value) (n : Nat) (xs : List Value) (hown : w.ownsRow base e size v n xs)
    (a : Addr) (m c : Nat) (news : List Value) (hl : news.length = m * size) (hnews : ∀ j u, news[j]? = some u → w.cell? (a.add j) = some u) (h1 : ∀ u ∈ news, u.oneCell' = true)
    (h63 : n + m ≤ maxLen) (hbytes : (n + m) * bytes ≤ 140737488355328) (hm : 0 < m) {v' : Value} {w' : World}
    (hrun : (Builtin.append_ #[t, t] ty #[v, .slice (some a) m c]).run P w = .ok v' w') : ∀ j, v'.ownBlock = some j → v.ownBlock = some j ∨ w.heap.size ≤ j := by
  subst hsize
  subst hby
  have hsmall : n + m ≤ 9223372036854775807 := by simp only [maxLen] at h63; omega
  intro j hj
  rcases hown.2 with ⟨rfl, rfl⟩ | ⟨g, cap, cur, rfl, hbg, hg, hnc, hcm, hcs, htake⟩
  · have hr := run_append_nil (P := P) w t ty e i z ht hi hz a m c news hl hnews (by omega) (by omega) (by have hb := hbytes; simp only [Nat.zero_add] at hb; omega)
    rw [hr] at hrun
    cases hrun
    simp [Value.ownBlock] at hj
    exact Or.inr (by omega)
  · by_cases hroom : n + m ≤ cap
    · have hfit : n * i.size + news.length ≤ cur.size := by rw [hl, hcs, ← Nat.add_mul]; exact Nat.mul_le_mul_right _ hroom
      have hr := run_append_room (P := P) w t ty e i ht hi g n cap cur hg a m c news hl hnews h1 hroom hfit
      rw [hr] at hrun
      cases hrun
      simp [Value.ownBlock] at hj
      exact Or.inl (by simp [Value.ownBlock, hj])
    · have holds : ∀ j u, xs[j]? = some u → w.cell? ((⟨g, 0, none⟩ : Addr).add j) = some u := hown.cells (g := g) rfl
      have hr := run_append_grow (P := P) w t ty e i z ht hi hz ⟨g, 0, none⟩ n cap xs hown.1 holds a m c news hl hnews (by omega) (by omega) (growslice_fits (by omega) hbytes)
      rw [hr] at hrun
      cases hrun
      simp [Value.ownBlock] at hj
      exact Or.inr (by omega)
theorem wpList_append_where {P : Program} (w : World) {ops : Array Oper} {rest : List Oper} {o : Oper} {a : Act} {Q : Exit → Act → World → Prop} (hgd : o.guard = none) (s x : Operand) (t : TypeId)
    (ho : o.op = .call { callee := .builtin .append, args := #[s, x], argTypes := #[t, t] })
    (base : Nat) (e : TypeId) (i : TypeInfo) (z : Value) (size bytes : Nat) (ht : P.underlying t = some (.slice e)) (hi : P.info? e = some i) (hz : i.zero = some z)
    (hsize : i.size = size) (hby : i.bytes = bytes) (hzs : z.cells.size = size) (hsz : 0 < size)
    (v : Value) (n : Nat) (xs : List Value) (hs : a.eval s = v) (hown : w.ownsRow base e size v n xs)
    (ad : Addr) (m c : Nat) (news : List Value) (hx : a.eval x = .slice (some ad) m c) (hl : news.length = m * size) (hnews : ∀ j u, news[j]? = some u → w.cell? (ad.add j) = some u) (h1 : ∀ u ∈ news, u.oneCell' = true)
    (h63 : n + m ≤ maxLen) (hbytes : (n + m) * bytes ≤ 140737488355328) (hbase : base ≤ w.heap.size) (hm : 0 < m)
    (h : ∀ v' w', w'.ownsRow base e size v' (n + m) (xs ++ news) → w.grownBy w' v.ownBlock → (∀ j, v'.ownBlock = some j → v.ownBlock = some j ∨ w.heap.size ≤ j) → wpList P ops Q rest (a.put o.dst v') w') : wpList P ops Q (o :: rest) a w :=
  wpList_plain hgd fun _ hK => by
    obtain ⟨v', w', hr, h2, h3, h4⟩ := run_append_own (P := P) w base t o.type e i z size bytes ht hi hz hsize hby hzs hsz v n xs hown ad m c news hl hnews h1 h63 hbytes hbase
    have h5 := append_where base t o.type e i z size bytes ht hi hz hsize hby hzs hsz v n xs hown ad m c news hl hnews h1 h63 hbytes hm hr
    unfold Oper.wp execOp
    simp only [ho, resolve, invoke, builtin, Sem.run_bind, Sem.run_pure, Result.andThen_ok, List.map_toArray, List.map_cons, List.map_nil, hs, hx, hr]
    exact hK _ _ (h v' w' h2 h3 h5)

end Go.Proofs.Ytedlmngfkkpmgaa
