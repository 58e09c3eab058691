/-
  Several texts of one proof, joined: each part says at its head what it proves. No conditions beyond what each theorem states.
-/
import Derived.Test.YtjkdcpalgfakhaaGreatZ17
import Derived.Test.YtjkdcpalgfakhaaGreatZ07
import Derived.Test.YtjkdcpalgfakhaaGreatZ13
import Derived.Test.YtjkdcpalgfakhaaGreatZ12
import Derived.Test.YtjkdcpalgfakhaaGreatZ09
import Derived.Test.YtjkdcpalgfakhaaGreatZ04
import Derived.Test.YtjkdcpalgfakhaaGreatZ02
import Derived.Test.YtjkdcpalgfakhaaGreatZ03
import Derived.Test.YtjkdcpalgfakhaaGreatZ11
/-
  What hold's own hands back: the same envelope in memory of its own. No conditions beyond what each theorem states.
-/
namespace Go.Proofs.YtjkdcpalgfakhaaGreat
open Go.ChangeShapes Go.WideShapes Go.ChangeAt Go.RowKit Go.Lib
set_option linter.unusedVariables false
set_option linter.unusedSimpArgs false

theorem infoO11 : (Tryz.prog.info? 99).map (fun i => (i.zero, i.size, i.bytes)) = some (some (.agg #[.int .i64 0, .int .u16 0, .int .u32 0, .int .u32 0, .string ⟨#[]⟩, .slice none 0 0, .int .u32 0]), 7, 72) := by kernel_rfl
theorem infoS11 : (Tryz.prog.info? 119).map (fun i => (i.zero, i.size, i.bytes)) = some (some (.agg #[.int .u16 0, .int .u32 0, .int .i64 0]), 3, 16) := by kernel_rfl
/-- A row of the call's own, in a block of its kind. -/
def MadeK {α : Type} (L : Lay α) (t : TypeId) (w : World) (xs : List α) (e : Ending) (w' : World) : Prop := ∃ p c, e = .returned (.slice p xs.length c) ∧ w'.ownsRow w.heap.size t L.k (.slice p xs.length c) xs.length (L.flat xs) ∧ Below w.heap.size w w'
theorem MadeK.of {α : Type} {L : Lay α} {t : TypeId} {w w' : World} {xs : List α} {v : Value} (h : Hold L w t v xs w') : MadeK L t w xs (.returned v) w' := by
  obtain ⟨p, c, rfl⟩ := owns_slice h.1
  exact ⟨p, c, rfl, h.1, h.2⟩
set_option maxHeartbeats 800000 in
theorem oclone_any (xs : List OV) (p : Option Addr) (c : Nat) (w : World) (hR : GRow layO w p xs) (hl : xs.length ≤ 100000) :
    Calls Tryz.prog 55 #[.slice p xs.length c] w (MadeK layO 99 w xs) := by
  have q23 : ∀ (w : World) (a : Option Addr) (n c n' c' : Nat), (binOp .eql 34 (.slice a n c) (.slice none n' c')).run Tryz.prog w = .ok (.bool a.isNone) w := fun w a n c n' c' => Lib.run_eql_slice_nil w _ _ a n c n' c' Tryz.underlying34
  cases p with
  | none =>
    have e := hR.none_nil layO_pos rfl
    subst e
    clear hR
    go_enter Tryz.func55, Tryz.ntmps55
    go_wp2
    go_ret
    exact MadeK.of (Hold.nil layO w 99)
  | some a =>
    obtain ⟨i0, hi, hz0, hz1, hz2⟩ := info_parts infoO11
    have HC : Hid (∀ j u, (layO.flat xs)[j]? = some u → w.cell? (a.add j) = some u) := hR.news
    have hfl : (layO.flat xs).length = xs.length * 7 := layO.flat_length xs
    clear hR
    go_enter Tryz.func55, Tryz.ntmps55
    go_wp2_with (first
      | (at_builtin; refine wpList_append_own _ rfl (.tmp 5) (.tmp 6) 34 rfl w.heap.size 99 i0 (.agg #[.int .i64 0, .int .u16 0, .int .u32 0, .int .u32 0, .string ⟨#[]⟩, .slice none 0 0, .int .u32 0]) 7 72 Tryz.underlying34 hi hz0 hz1 hz2 rfl (by decide) _ _ _ rfl (World.ownsRow_made w #[] 0 (Nat.le_refl _) (Nat.zero_le _) (by simp)) a xs.length c (layO.flat xs) rfl hfl (fun j u hj => cellU (HC.out j u hj) (below_alloc (Below.refl _ _) _)) (layO.flat_one' xs) (by unfold maxLen; omega) (by omega) (by simp) ?_))
    intro v' w1 hown hgrow _
    have HO : Hid (Hold layO w 99 v' xs w1) := ⟨by show w1.ownsRow _ _ 7 _ _ _; simpa using hown, (below_alloc (Below.refl _ _) _).grown hgrow (by simp) (by intro k hk; simp [Value.ownBlock] at hk; omega)⟩
    clear hown hgrow
    go_wp2
    go_ret
    exact MadeK.of HO.out
set_option maxHeartbeats 800000 in
theorem sclone_any (xs : List Sp) (p : Option Addr) (c : Nat) (w : World) (hR : GRow layS w p xs) (hl : xs.length ≤ 100000) :
    Calls Tryz.prog 56 #[.slice p xs.length c] w (MadeK layS 119 w xs) := by
  have q23 : ∀ (w : World) (a : Option Addr) (n c n' c' : Nat), (binOp .eql 97 (.slice a n c) (.slice none n' c')).run Tryz.prog w = .ok (.bool a.isNone) w := fun w a n c n' c' => Lib.run_eql_slice_nil w _ _ a n c n' c' Tryz.underlying97
  cases p with
  | none =>
    have e := hR.none_nil (by decide) rfl
    subst e
    clear hR
    go_enter Tryz.func56, Tryz.ntmps56
    go_wp2
    go_ret
    exact MadeK.of (Hold.nil layS w 119)
  | some a =>
    obtain ⟨i0, hi, hz0, hz1, hz2⟩ := info_parts infoS11
    have HC : Hid (∀ j u, (layS.flat xs)[j]? = some u → w.cell? (a.add j) = some u) := hR.news
    have hfl : (layS.flat xs).length = xs.length * 3 := layS.flat_length xs
    clear hR
    go_enter Tryz.func56, Tryz.ntmps56
    go_wp2_with (first
      | (at_builtin; refine wpList_append_own _ rfl (.tmp 5) (.tmp 6) 97 rfl w.heap.size 119 i0 (.agg #[.int .u16 0, .int .u32 0, .int .i64 0]) 3 16 Tryz.underlying97 hi hz0 hz1 hz2 rfl (by decide) _ _ _ rfl (World.ownsRow_made w #[] 0 (Nat.le_refl _) (Nat.zero_le _) (by simp)) a xs.length c (layS.flat xs) rfl hfl (fun j u hj => cellU (HC.out j u hj) (below_alloc (Below.refl _ _) _)) (layS.flat_one' xs) (by unfold maxLen; omega) (by omega) (by simp) ?_))
    intro v' w1 hown hgrow _
    have HO : Hid (Hold layS w 119 v' xs w1) := ⟨by show w1.ownsRow _ _ 3 _ _ _; simpa using hown, (below_alloc (Below.refl _ _) _).grown hgrow (by simp) (by intro k hk; simp [Value.ownBlock] at hk; omega)⟩
    clear hown hgrow
    go_wp2
    go_ret
    exact MadeK.of HO.out
/-- In blocks of the program's kinds. -/
structure KindX (w : World) (ys : List OV) (p q : Option Addr) : Prop where
  deps : KindAt 74 w p
  ops : KindAt 99 w q
  spans : ∀ y ∈ ys, KindAt 119 w y.2.1
/-- No block of S is of one of these kinds. -/
def OthersX (S : Nat → Prop) (w : World) : Prop := ∀ k, S k → ∀ cs t f, w.heap[k]? = some (.cells cs t f) → t ≠ 74 ∧ t ≠ 99 ∧ t ≠ 119
theorem OthersX.apart {S : Nat → Prop} {w : World} (h : OthersX S w) {t : TypeId} (ht : t = 74 ∨ t = 99 ∨ t = 119) {p : Option Addr} (hk : KindAt t w p) : ∀ q, p = some q → ¬ S q.block := fun q e hs => by
  obtain ⟨cs', f', hq⟩ := hk q e
  obtain ⟨h1, h2, h3⟩ := h _ hs _ _ _ hq
  rcases ht with rfl | rfl | rfl
  · exact h1 rfl
  · exact h2 rfl
  · exact h3 rfl
theorem KindX.kept {S : Nat → Prop} {w w' : World} {ys : List OV} {p q : Option Addr} (h : KindX w ys p q) (hS : OthersX S w) (hk : Kept S w w') : KindX w' ys p q :=
  ⟨h.deps.kept hk (hS.apart (Or.inl rfl) h.deps), h.ops.kept hk (hS.apart (Or.inr (Or.inl rfl)) h.ops), fun y hy => (h.spans y hy).kept hk (hS.apart (Or.inr (Or.inr rfl)) (h.spans y hy))⟩
theorem KindX.below {w w' : World} {ys : List OV} {p q : Option Addr} (h : KindX w ys p q) (hb : Below w.heap.size w w') : KindX w' ys p q := ⟨h.deps.below hb, h.ops.below hb, fun y hy => (h.spans y hy).below hb⟩
theorem InE.keptX {S : Nat → Prop} {e : Em} {ys : List OV} {p q : Option Addr} {c d : Nat} {w w' : World} (h : InE e ys p c q d w) (hx : KindX w ys p q) (hS : OthersX S w) (hk : Kept S w w') : InE e ys p c q d w' :=
  ⟨vrow_kept h.row hk (hS.apart (Or.inl rfl) hx.deps), h.fits, h.cap, h.nil, ⟨h.txn.fit, h.txn.ops, ⟨h.txn.row.row.kept hk (hS.apart (Or.inr (Or.inl rfl)) hx.ops), fun y hy => ⟨(h.txn.row.each y hy).fit, (h.txn.row.each y hy).row.kept hk (hS.apart (Or.inr (Or.inr rfl)) (hx.spans y hy)), (h.txn.row.each y hy).cap, (h.txn.row.each y hy).nil⟩⟩, h.txn.cap, h.txn.nil⟩⟩
/-- The same envelope in memory of its own. -/
def OwnX (e : Em) (xs : List OV) (w : World) (r : Ending) (w' : World) : Prop := ∃ ys p c q d, r = .returned (ev e p c q d) ∧ InE e ys p c q d w' ∧ SmallP ys ∧ ys.length = xs.length ∧ KindX w' ys p q ∧ Below w.heap.size w w'
theorem flat_set5 (o : Om) (p' : Option Addr) (c' : Nat) : ∀ (zs : List OV) (k : Nat), k < zs.length → (zs.getD k ov0).1 = o → layO.flat (zs.set k (o, p', c')) = (layO.flat zs).set (k * 7 + 5) (.slice p' o.spans.length c')
  | [], k, h, _ => by simp at h
  | z :: zs, 0, _, e => by
    obtain ⟨z1, z2, z3⟩ := z
    have e : z1 = o := e
    subst e
    rw [List.set_cons_zero, layO.flat_cons, layO.flat_cons]
    rfl
  | z :: zs, k + 1, h, e => by
    have ih := flat_set5 o p' c' zs k (by simpa using h) (by simpa using e)
    have hl : (layO.enc z).length = 7 := layO.len z
    rw [List.set_cons_succ, layO.flat_cons, layO.flat_cons, ih, List.set_append_right _ _ (by rw [hl]; omega), hl]
    congr 2
    omega
theorem set_getD_same {zs : List OV} {k : Nat} (v : OV) (h : k < zs.length) : (zs.set k v).getD k ov0 = v := by simp [List.getD_eq_getElem?_getD, h]
theorem set_getD_ne {zs : List OV} {k j : Nat} (v : OV) (h : j ≠ k) : (zs.set k v).getD j ov0 = zs.getD j ov0 := by simp [List.getD_eq_getElem?_getD, List.getElem?_set, Ne.symm h]
/-- How far own has come: k operations have spans of their own. -/
structure OwnJ (e : Em) (xs zs : List OV) (w : World) (E c1 d1 : Nat) (p1 q1 : Option Addr) (k : Nat) (wr : World) : Prop where
  len : zs.length = xs.length
  ops : zs.map (·.1) = xs.map (·.1)
  done : ∀ j, j < k → InO (zs.getD j ov0).1 (zs.getD j ov0).2.1 (zs.getD j ov0).2.2 wr ∧ KindAt 119 wr (zs.getD j ov0).2.1
  left : ∀ j, k ≤ j → j < xs.length → zs.getD j ov0 = xs.getD j ov0
  row : 0 < xs.length → ∃ O rest, q1 = some ⟨O, 0, none⟩ ∧ w.heap.size ≤ O ∧ wr.heap[O]? = some (.cells (layO.flat zs ++ rest).toArray 99 (0, 0))
  box : wr.heap[E]? = some (.cells #[.slice p1 e.deps.length c1, .int .u16 e.txn.r, .int .u32 e.txn.seq, .int .u64 e.txn.clock, .int .i64 e.txn.user, .slice q1 xs.length d1] 38 (0, 0))
  res : wr.heap[E + 1]? = some (.cells #[.slice none 0 0, .int .u16 0, .int .u32 0, .int .u64 0, .int .i64 0, .slice none 0 0] 38 (0, 0))
  deps : Vec.Row wr p1 e.deps
  kind : KindAt 74 wr p1
  okind : KindAt 99 wr q1
  base : Below w.heap.size w wr
theorem OwnJ.below {e : Em} {xs zs : List OV} {w : World} {E c1 d1 : Nat} {p1 q1 : Option Addr} {k : Nat} {wr w5 : World} (h : OwnJ e xs zs w E c1 d1 p1 q1 k wr) (hb : Below wr.heap.size wr w5) : OwnJ e xs zs w E c1 d1 p1 q1 k w5 :=
  ⟨h.len, h.ops, fun j hj => ⟨(h.done j hj).1.below hb, (h.done j hj).2.below hb⟩, h.left, fun hx => by
    obtain ⟨O, rest, h1, h2, h3⟩ := h.row hx
    exact ⟨O, rest, h1, h2, kept_box h3 hb⟩, kept_box h.box hb, kept_box h.res hb, h.deps.below hb, h.kind.below hb, h.okind.below hb, below_step h.base hb⟩
theorem OwnJ.put {e : Em} {xs zs : List OV} {w : World} {E c1 d1 : Nat} {p1 q1 : Option Addr} {k : Nat} {wr : World} (h : OwnJ e xs zs w E c1 d1 p1 q1 k wr) (hk : k < xs.length) {O : Nat} (hq : q1 = some ⟨O, 0, none⟩) {o : Om} (ho : (zs.getD k ov0).1 = o) {p' : Option Addr} {c' : Nat} (hin : InO o p' c' wr) (hkd : KindAt 119 wr p') : OwnJ e xs (zs.set k (o, p', c')) w E c1 d1 p1 q1 (k + 1) (wr.setCell ⟨O, k * 7 + 5, none⟩ (.slice p' o.spans.length c')) := by
  obtain ⟨O', rest, h1, h2, h3⟩ := h.row (by omega)
  rw [hq] at h1
  cases h1
  have hK : Kept (fun j => j = O) wr (wr.setCell ⟨O, k * 7 + 5, none⟩ (.slice p' o.spans.length c')) := Kept.set (S := fun j => j = O) (Kept.refl _ _) rfl _
  have hneE : ¬ E = O := fun he => by
    subst he
    have h9 := h.box.symm.trans h3
    simp only [Option.some.injEq, Obj.cells.injEq] at h9
    exact absurd h9.2.1 (by decide)
  have hneR : ¬ E + 1 = O := fun he => by
    subst he
    have h9 := h.res.symm.trans h3
    simp only [Option.some.injEq, Obj.cells.injEq] at h9
    exact absurd h9.2.1 (by decide)
  have hap : ∀ {t : TypeId} {a : Option Addr}, t ≠ 99 → KindAt t wr a → ∀ r, a = some r → ¬ r.block = O := fun ht hk r hr => hk.apart (Ne.symm ht) h3 r hr
  have hB : (wr.setCell ⟨O, k * 7 + 5, none⟩ (.slice p' o.spans.length c')).heap[O]? = some (.cells (layO.flat (zs.set k (o, p', c')) ++ rest).toArray 99 (0, 0)) := by
    rw [setCell_block h3, flat_set5 o p' c' zs k (by rw [h.len]; exact hk) ho, List.set_append_left _ _ (by rw [layO.flat_length, h.len]; have : layO.k = 7 := rfl; rw [this]; omega)]
  have hzk : k < zs.length := by rw [h.len]; exact hk
  refine ⟨by rw [List.length_set]; exact h.len, ?_, fun j hj => ?_, fun j h1 h2 => ?_, fun _ => ⟨O, rest, hq, h2, hB⟩, hK.stays h.box hneE, hK.stays h.res hneR, vrow_kept h.deps hK (hap (by decide) h.kind), h.kind.kept hK (hap (by decide) h.kind), ?_, ?_⟩
  · rw [List.map_set, ← h.ops]
    apply List.ext_getElem?
    intro i
    rw [List.getElem?_set]
    by_cases hik : k = i
    · subst hik
      rw [if_pos rfl, if_pos (by rw [List.length_map]; exact hzk), List.getElem?_map, List.getElem?_eq_getElem hzk]
      rw [List.getD_eq_getElem?_getD, List.getElem?_eq_getElem hzk] at ho
      exact congrArg some ho.symm
    · rw [if_neg hik]
  · by_cases hjk : j = k
    · subst hjk
      rw [set_getD_same _ hzk]
      exact ⟨⟨hin.fit, hin.row.kept hK (hap (by decide) hkd), hin.cap, hin.nil⟩, hkd.kept hK (hap (by decide) hkd)⟩
    · rw [set_getD_ne _ hjk]
      obtain ⟨h5, h6⟩ := h.done j (by omega)
      exact ⟨⟨h5.fit, h5.row.kept hK (hap (by decide) h6), h5.cap, h5.nil⟩, h6.kept hK (hap (by decide) h6)⟩
  · rw [set_getD_ne _ (by omega)]
    exact h.left j (by omega) h2
  · rw [hq]
    intro r hr
    cases hr
    exact ⟨_, _, hB⟩
  · exact h.base.trans (hK.below h.base.size (fun j hj => by omega))
theorem OwnJ.own {e : Em} {xs zs : List OV} {w : World} {E c1 d1 : Nat} {p1 q1 : Option Addr} {wr : World} (h : OwnJ e xs zs w E c1 d1 p1 q1 xs.length wr) (hx : e.txn.ops = xs.map (·.1)) (hf : FitTm e.txn) (hS : SmallP xs) (hfd : Vec.Fits e.deps) (hc1 : e.deps.length ≤ c1) (hn1 : p1 = none → c1 = 0) (hd1 : xs.length ≤ d1) (hn2 : q1 = none → d1 = 0) : InE e zs p1 c1 q1 d1 wr ∧ SmallP zs ∧ KindX wr zs p1 q1 := by
  have hrow : GRow layO wr q1 zs := by
    by_cases h0 : 0 < xs.length
    · obtain ⟨O, rest, rfl, -, h3⟩ := h.row h0
      intro m u hm
      exact ⟨O, 0, rfl, by rw [cell_of_block h3, Nat.zero_add]; simp only [List.getElem?_toArray]; rw [List.getElem?_append_left (List.getElem?_eq_some_iff.1 hm).1]; exact hm⟩
    · have : zs = [] := List.eq_nil_of_length_eq_zero (by rw [h.len]; omega)
      rw [this]; exact GRow.nil _ _ _
  refine ⟨⟨h.deps, hfd, hc1, hn1, ⟨hf, by rw [hx, h.ops], ⟨hrow, fun z hz => ?_⟩, by rw [hx, List.length_map]; exact hd1, hn2⟩⟩, fun z hz => ?_, ⟨h.kind, h.okind, fun z hz => ?_⟩⟩
  · obtain ⟨j, hj, rfl⟩ := mem_getD ov0 hz
    exact (h.done j (by rw [← h.len]; exact hj)).1
  · have : z.1 ∈ xs.map (·.1) := by rw [← h.ops]; exact List.mem_map.2 ⟨z, hz, rfl⟩
    obtain ⟨y, hy, e1⟩ := List.mem_map.1 this
    rw [← e1]; exact hS y hy
  · obtain ⟨j, hj, rfl⟩ := mem_getD ov0 hz
    exact (h.done j (by rw [← h.len]; exact hj)).2
set_option maxHeartbeats 6400000 in
set_option maxRecDepth 20000 in
theorem own_any (e : Em) (xs : List OV) (p q : Option Addr) (c d : Nat) (w : World) (hI : InE e xs p c q d w) (hS : SmallP xs) (hl : xs.length ≤ 40) (hd : e.deps.length ≤ 100) : Calls Tryz.prog 28 #[ev e p c q d] w (OwnX e xs w) := by
  have HI := Lib.hid hI
  have HS := Lib.hid hS
  have hlen : e.txn.ops.length = xs.length := by rw [hI.txn.ops, List.length_map]
  have HCV : Hid (∀ W, Below w.heap.size w W → Calls Tryz.prog 54 #[.slice p e.deps.length c] W fun r w' => ∃ p1 c1, r = .returned (.slice p1 e.deps.length c1) ∧ Vec.Row w' p1 e.deps ∧ e.deps.length ≤ c1 ∧ (p1 = none → c1 = 0) ∧ KindAt 74 w' p1 ∧ Below W.heap.size W w') := fun W hb => (Vec.clone_any e.deps p c W (hI.row.below hb) (by omega)).mono (by
    rintro r w' ⟨v, rfl, hh⟩
    obtain ⟨p1, c1, rfl, h1, h2, h3, h4⟩ := hh.gaveK
    exact ⟨p1, c1, rfl, h1, h2, h3, h4, hh.2⟩)
  have HCO : Hid (∀ W, Below w.heap.size w W → Calls Tryz.prog 55 #[.slice q xs.length d] W (MadeK layO 99 W xs)) := fun W hb => by
    exact oclone_any xs q d W (hI.txn.row.row.below hb) (by omega)
  have HLN := Lib.hid hlen
  unfold ev
  rw [hlen]
  clear hI hS hlen
  go_enter Tryz.func28, Tryz.ntmps28
  go_wp2_with fail
  obtain ⟨W0, hW0⟩ : ∃ W0, W0 = (w.alloc (.cells #[.slice p e.deps.length c, .int .u16 e.txn.r, .int .u32 e.txn.seq, .int .u64 e.txn.clock, .int .i64 e.txn.user, .slice q xs.length d] 38)).alloc (.cells #[.slice none 0 0, .int .u16 0, .int .u32 0, .int .u64 0, .int .i64 0, .slice none 0 0] 38) := ⟨_, rfl⟩
  have HB0 : Hid (Below w.heap.size w W0) := by show Below _ _ _; rw [hW0]; exact below_alloc (below_alloc (Below.refl _ _) _) _
  have HE0 : Hid (W0.heap[w.heap.size]? = some (.cells #[.slice p e.deps.length c, .int .u16 e.txn.r, .int .u32 e.txn.seq, .int .u64 e.txn.clock, .int .i64 e.txn.user, .slice q xs.length d] 38 (0, 0))) := by
    show _ = _
    rw [hW0]
    exact kept_box (heap_alloc_new w _) (below_alloc (Below.refl _ _) _)
  have HR0 : Hid (W0.heap[w.heap.size + 1]? = some (.cells #[.slice none 0 0, .int .u16 0, .int .u32 0, .int .u64 0, .int .i64 0, .slice none 0 0] 38 (0, 0))) := by
    show _ = _
    rw [hW0]
    have := heap_alloc_new (w.alloc (.cells #[.slice p e.deps.length c, .int .u16 e.txn.r, .int .u32 e.txn.seq, .int .u64 e.txn.clock, .int .i64 e.txn.user, .slice q xs.length d] 38)) (.cells #[.slice none 0 0, .int .u16 0, .int .u32 0, .int .u64 0, .int .i64 0, .slice none 0 0] 38)
    simpa using this
  rw [← hW0]
  clear hW0
  obtain ⟨y0', y1', y2', y3', y4', y5'⟩ := six_cells HE0.out
  have y0 := cell_regrown y0'
  have y5 := cell_regrown y5'
  clear y0' y1' y2' y3' y4' y5'
  generalize hEw : w.heap.size = E at HE0 HR0 y0 y5 ⊢
  have HEW := Lib.hid hEw
  clear hEw
  refine wp_region_mixG_below [(true, 0), (true, 1), (true, 3), (true, 4), (true, 5), (false, 2), (true, 7), (false, 6)] [8, 9, 10, 11] (by kernel_rfl) (by kernel_rfl) (fun _ _ d _ _ h => by cases d <;> exact h) ?_
  simp only [pickOps, pickG, List.filterMap_cons, List.filterMap_nil, List.getElem?_cons_zero, List.getElem?_cons_succ, Option.map_some]
  iterate 5
    refine seqG_quiet ?_
    first | go_big_quiet_step (fail) | quiet_step (fail)
    refine wpQuiet_nil ?_
  refine seqG_step fun K hK => ?_
  go_wp2_with fail
  refine (HCV.out _ (below_step HB0.out (by first | exact Below.refl _ _ | exact (Below.refl _ _).drew))).mono ?_
  rintro r w1 ⟨p1, c1, rfl, hr1, hc1, hn1, hk1, hb1⟩
  have HB1 : Hid (Below W0.heap.size W0 w1) := below_of_drew hb1
  have HD1 : Hid (Vec.Row w1 p1 e.deps ∧ e.deps.length ≤ c1 ∧ (p1 = none → c1 = 0) ∧ KindAt 74 w1 p1) := ⟨hr1, hc1, hn1, hk1⟩
  clear hr1 hc1 hn1 hk1 hb1
  go_wp2_with fail
  refine hK _ _ (regrown_of_below HB1.out) ?_
  clear hK K
  refine seqG_quiet ?_
  (first | go_big_quiet_step (fail) | quiet_step (fail))
  refine wpQuiet_nil ?_
  clear y0 y5
  refine seqG_step fun K hK => ?_
  go_wp2_with fail
  refine (HCO.out _ (below_step (below_step HB0.out HB1.out) (by first | exact Below.refl _ _ | exact (Below.refl _ _).drew))).mono ?_
  rintro r w2 ⟨q1, d1, rfl, hown, hb2⟩
  have HB2 : Hid (Below w1.heap.size w1 w2) := by first | exact hb2 | exact below_of_drew hb2
  have HO2 := Lib.hid hown
  clear hown hb2
  go_wp2_with fail
  refine hK _ _ (regrown_of_below (below_step HB1.out HB2.out)) ?_
  clear hK K
  refine seqG_nil ?_
  have hE2 := kept_box HE0.out (below_step HB1.out HB2.out)
  obtain ⟨z0, z1, z2, z3, z4, z5⟩ := six_cells hE2
  have f0 : w2.frozen? ⟨E, 0, none⟩ = false := frozen_of_block hE2
  have f5 : w2.frozen? ⟨E, 5, none⟩ = false := frozen_of_block hE2
  have HE2 := Lib.hid hE2
  clear hE2 z1 z2 z3 z4
  have hW3 : OwnJ e xs xs w E c1 d1 p1 q1 0 ((w2.setCell ⟨E, 0, none⟩ (.slice p1 e.deps.length c1)).setCell ⟨E, 5, none⟩ (.slice q1 xs.length d1)) := by
    have hb2 : Below w.heap.size w w2 := below_step (below_step HB0.out HB1.out) HB2.out
    have hK : Kept (fun j => j = E) w2 ((w2.setCell ⟨E, 0, none⟩ (.slice p1 e.deps.length c1)).setCell ⟨E, 5, none⟩ (.slice q1 xs.length d1)) := Kept.set (S := fun j => j = E) (Kept.set (S := fun j => j = E) (Kept.refl _ _) rfl _) rfl _
    have hE3 := HE2.out
    have hap : ∀ {t : TypeId} {a : Option Addr}, t ≠ 38 → KindAt t w2 a → ∀ r, a = some r → ¬ r.block = E := fun ht hk r hr => hk.apart (Ne.symm ht) hE3 r hr
    have hok : KindAt 99 w2 q1 := kind_owns HO2.out
    have hdk := HD1.out.2.2.2.below HB2.out
    refine ⟨rfl, rfl, fun j hj => absurd hj (Nat.not_lt_zero _), fun j _ _ => rfl, fun h0 => ?_, ?_, hK.stays (kept_box HR0.out (below_step HB1.out HB2.out)) (by omega), vrow_kept (HD1.out.1.below HB2.out) hK (hap (by decide) hdk), hdk.kept hK (hap (by decide) hdk), hok.kept hK (hap (by decide) hok), hb2.trans (hK.below hb2.size (fun j hj => by rw [hj, ← HEW.out]; exact Nat.le_refl _))⟩
    · obtain ⟨O, rest, rfl, h3, h4⟩ : ∃ O rest, q1 = some ⟨O, 0, none⟩ ∧ w.heap.size ≤ O ∧ w2.heap[O]? = some (.cells (layO.flat xs ++ rest).toArray 99 (0, 0)) := by
        rcases HO2.out.2 with ⟨-, h⟩ | ⟨g, cap, cur, hv, hb, hg, hnc, hcm, hcs, htake⟩
        · omega
        · cases hv
          exact ⟨g, cur.toList.drop (xs.length * layO.k), rfl, by have h5 := HB0.out.size; have h6 := HB1.out.size; omega, by rw [hg, ← htake, List.take_append_drop]⟩
      exact ⟨O, rest, rfl, h3, hK.stays h4 (hap (by decide) hok _ rfl)⟩
    · have h1 := setCell_block (o := 0) (w := w2) (cs := [.slice p e.deps.length c, .int .u16 e.txn.r, .int .u32 e.txn.seq, .int .u64 e.txn.clock, .int .i64 e.txn.user, .slice q xs.length d]) hE3 (.slice p1 e.deps.length c1)
      exact setCell_block (o := 5) h1 (.slice q1 xs.length d1)
  have HJ := Lib.hid hW3
  have HD : Hid (e.deps.length ≤ c1 ∧ (p1 = none → c1 = 0) ∧ xs.length ≤ d1 ∧ (q1 = none → d1 = 0)) := by
    obtain ⟨p', c', e1, -, -, h3, h4⟩ := grow_owns layO_pos HO2.out
    cases e1
    exact ⟨HD1.out.2.1, HD1.out.2.2.1, h3, h4⟩
  clear hW3 HE0 HE2 HD1 HO2 HB1 HB2 HCO HCV HB0 HR0
  go_wp2_with fail
  generalize (w2.setCell ⟨E, 0, none⟩ (.slice p1 e.deps.length c1)).setCell ⟨E, 5, none⟩ (.slice q1 xs.length d1) = w3 at HJ ⊢
  clear z0 z5 f0 f5
  have HSC : Hid (∀ k, k < xs.length → ∀ W, Below w.heap.size w W → InO (xs.getD k ov0).1 (xs.getD k ov0).2.1 (xs.getD k ov0).2.2 W ∧ Calls Tryz.prog 56 #[.slice (xs.getD k ov0).2.1 (xs.getD k ov0).1.spans.length (xs.getD k ov0).2.2] W (MadeK layS 119 W (xs.getD k ov0).1.spans)) := fun k hk W hb => by
    have h1 := (HI.out.txn.row.at hk).below hb
    exact ⟨h1, sclone_any _ _ _ W h1.row (by have := (HS.out.at hk).2; omega)⟩
  go_loopg [3, 18] xs.length (fun n s3 u wr => ∃ (k : Nat) (zs : List OV), k ≤ xs.length ∧ xs.length - k ≤ n ∧ u = .int .i64 (k : Int) ∧ OwnJ e xs zs w E c1 d1 p1 q1 k wr)
  case atStart => exact ⟨0, xs, Nat.zero_le _, by omega, rfl, HJ.out⟩
  case round =>
    clear HJ
    obtain ⟨k, zs, hk, hg, rfl, hj⟩ := hrel
    have HJ := Lib.hid hj
    clear hj
    by_cases hlt : k < xs.length
    · have hkl : (k : Int) < (xs.length : Int) := by omega
      obtain ⟨O, rest, hq1, hO1, hO2⟩ := HJ.out.row (by omega)
      have hzl := HJ.out.len
      have hrow : GRow layO wr (some ⟨O, 0, none⟩) zs := fun m u hm => ⟨O, 0, rfl, by rw [cell_of_block hO2, Nat.zero_add]; simp only [List.getElem?_toArray]; rw [List.getElem?_append_left (List.getElem?_eq_some_iff.1 hm).1]; exact hm⟩
      obtain ⟨b', o', e', -, -, -, -, -, t5, -⟩ := orow_at hrow (i := k) (by omega)
      cases e'
      rw [HJ.out.left k (Nat.le_refl _) hlt] at t5
      obtain ⟨y0', y1', y2', y3', y4', y5'⟩ := six_cells HJ.out.box
      have hSK := HSC.out k hlt
      have HOX : Hid ((zs.getD k ov0).1 = (xs.getD k ov0).1) := by show _ = _; rw [HJ.out.left k (Nat.le_refl _) hlt]
      generalize xs.getD k ov0 = X at t5 hSK HOX
      obtain ⟨o, sp, sc⟩ := X
      simp only at t5 hSK HOX
      have HSK := Lib.hid hSK
      have HQ1 := Lib.hid hq1
      have HRB := Lib.hid hO2
      simp only [Nat.zero_add] at t5
      rw [hq1] at y5'
      have y5 := cell_regrown y5'
      have z5 := cell_regrown t5
      clear y0' y1' y2' y3' y4' hO2 hrow hSK hq1
      go_wp2_with fail
      refine wp_region_mix_below [0, 1, 2, 3, 4, 5, 6, 7, 8, 9, 10] [11] [12, 13, 14] (by kernel_rfl) (by kernel_rfl) (fun _ _ d _ _ h => by cases d <;> exact h) ?_
      simp only [pickOps, List.filterMap_cons, List.filterMap_nil, List.getElem?_cons_zero, List.getElem?_cons_succ]
      repeat (first | go_big_quiet_step (fail) | quiet_step (fail))
      refine wpQuiet_nil ?_
      clear y5 z5
      refine seqM_step fun K hK => ?_
      go_wp2_with fail
      refine ((HSK.out _ (below_step HJ.out.base (by first | exact Below.refl _ _ | exact (Below.refl _ _).drew))).2).mono ?_
      rintro r w5 ⟨p5, c5, rfl, hown, hb5⟩
      have HB5 : Hid (Below wr.heap.size wr w5) := below_of_drew hb5
      have HO5 := Lib.hid hown
      clear hown hb5
      go_wp2_with fail
      refine hK _ _ (regrown_of_below HB5.out) ?_
      clear hK K
      refine seqM_nil ?_
      have hO5 := kept_box HRB.out HB5.out
      have g5 : w5.frozen? ⟨O, k * 7 + 5, none⟩ = false := frozen_of_block hO5
      have v5 := cellU t5 HB5.out
      clear hO5 t5 y5'
      have HN : Hid (OwnJ e xs (zs.set k (o, p5, c5)) w E c1 d1 p1 q1 (k + 1) (w5.setCell ⟨O, k * 7 + 5, none⟩ (.slice p5 o.spans.length c5))) := by
        obtain ⟨p', c', e1, -, h2, h3, h4⟩ := grow_owns (by decide) HO5.out
        cases e1
        exact (HJ.out.below HB5.out).put hlt HQ1.out HOX.out ⟨(HSK.out _ HJ.out.base).1.fit, h2, h3, h4⟩ (kind_owns HO5.out)
      clear HJ HO5 HRB HSK HB5
      go_wp2_with fail
      go_roundg (xs.length - (k + 1))
      case measure => omega
      case rel => exact ⟨k + 1, _, by omega, Nat.le_refl _, by go_num, HN.out⟩
    · have : k = xs.length := by omega
      subst this
      have hkl : ¬ (xs.length : Int) < (xs.length : Int) := by omega
      obtain ⟨y0, y1, y2, y3, y4, y5⟩ := six_cells HJ.out.box
      obtain ⟨z0, z1, z2, z3, z4, z5⟩ := six_cells HJ.out.res
      have g : ∀ o, wr.frozen? ⟨E + 1, o, none⟩ = false := fun o => frozen_of_block HJ.out.res
      have g0 := g 0
      have g1 := g 1
      have g2 := g 2
      have g3 := g 3
      have g4 := g 4
      have g5 := g 5
      have HF : Hid (∀ W, Kept (fun j => j = E + 1) wr W → InE e zs p1 c1 q1 d1 W ∧ SmallP zs ∧ zs.length = xs.length ∧ KindX W zs p1 q1 ∧ Below w.heap.size w W) := fun W hK => by
        obtain ⟨h1, h2, h3⟩ := HJ.out.own HI.out.txn.ops HI.out.txn.fit HS.out HI.out.fits HD.out.1 HD.out.2.1 HD.out.2.2.1 HD.out.2.2.2
        have hS : OthersX (fun j => j = E + 1) wr := fun j hj cs t f hh => by
          rw [hj] at hh
          have h9 := HJ.out.res.symm.trans hh
          simp only [Option.some.injEq, Obj.cells.injEq] at h9
          rw [← h9.2.1]
          exact ⟨by decide, by decide, by decide⟩
        exact ⟨h1.keptX h3 hS hK, h2, HJ.out.len, h3.kept hS hK, HJ.out.base.trans (hK.below HJ.out.base.size (fun j hj => by rw [hj, ← HEW.out]; omega))⟩
      have HRS := Lib.hid HJ.out.res
      clear g HJ HSC
      go_wp2_with fail
      refine bodyPost_ret (results_cell_row rfl _ _ (E + 1) 38 #[.slice p1 e.deps.length c1, .int .u16 e.txn.r, .int .u32 e.txn.seq, .int .u64 e.txn.clock, .int .i64 e.txn.user, .slice q1 xs.length d1] (0, 0) _ rfl (box_six HRS.out) Tryz.underlying38 rfl szEnv) rfl ?_
      obtain ⟨h1, h2, h3, h4, h5⟩ := HF.out _ (Kept.set (S := fun j => j = E + 1) (Kept.set (S := fun j => j = E + 1) (Kept.set (S := fun j => j = E + 1) (Kept.set (S := fun j => j = E + 1) (Kept.set (S := fun j => j = E + 1) (Kept.set (S := fun j => j = E + 1) (Kept.refl _ _) rfl _) rfl _) rfl _) rfl _) rfl _) rfl _)
      exact ⟨zs, p1, c1, q1, d1, by unfold ev; rw [HLN.out], h1, h2, h3, h4, h5⟩
end Go.Proofs.YtjkdcpalgfakhaaGreat
/-
  A buffer's memory; what Len, Names and Wants hand back. No conditions beyond what each theorem states.
-/
namespace Go.Proofs.YtjkdcpalgfakhaaGreat
open Go.ChangeShapes Go.WideShapes Go.ChangeAt Go.RowKit Go.Lib
set_option linter.unusedVariables false
set_option linter.unusedSimpArgs false

/-- A buffer at block K, which writes the blocks of S alone, and holds es behind p. -/
structure BufJ (S : Nat → Prop) (K : Nat) (es : List EV) (p : Option Addr) (c : Nat) (w : World) : Prop where
  head : w.heap[K]? = some (.cells #[.slice p es.length c] 29 (0, 0))
  room : RoomE layE w p c es
  own : ∀ k, S k ↔ (k = K ∨ ∃ a, p = some a ∧ k = a.block)
  srt : SrtE es
  len : es.length ≤ 64
  each : ∀ x ∈ es, ArgE w x ∧ KindX w x.ys x.p x.q
/-- .. and these are the envelopes. -/
def Bufr (S : Nat → Prop) (K : Nat) (l : List Em) (w : World) : Prop := ∃ es p c, l = es.map (·.e) ∧ BufJ S K es p c w
section
variable {S : Nat → Prop} {K : Nat} {es : List EV} {p : Option Addr} {c : Nat} {w w' : World}
theorem BufJ.below (h : BufJ S K es p c w) (hb : Below w.heap.size w w') : BufJ S K es p c w' :=
  ⟨kept_box h.head hb, h.room.below hb, h.own, h.srt, h.len, fun x hx => ⟨(h.each x hx).1.below hb, (h.each x hx).2.below hb⟩⟩
/-- The kinds of a buffer's blocks. -/
theorem BufJ.kinds (h : BufJ S K es p c w) : ∀ k, S k → ∃ cs t f, w.heap[k]? = some (.cells cs t f) ∧ (t = 29 ∨ t = 38) := fun k hk => by
  rcases (h.own k).1 hk with rfl | ⟨a, e, rfl⟩
  · exact ⟨_, _, _, h.head, Or.inl rfl⟩
  · rcases h.room.block with ⟨e2, -⟩ | ⟨B, rest, e2, h3, -⟩
    · rw [e] at e2; cases e2
    · rw [e] at e2
      cases e2
      exact ⟨_, _, _, h3, Or.inr rfl⟩
theorem BufJ.others (h : BufJ S K es p c w) : Others S w := fun k hk cs t f hh => by
  obtain ⟨cs', t', f', h1, h2⟩ := h.kinds k hk
  rw [h1] at hh
  simp only [Option.some.injEq, Obj.cells.injEq] at hh
  rw [← hh.2.1]
  rcases h2 with rfl | rfl
  · exact ⟨by decide, by decide, by decide, by decide, by decide⟩
  · exact ⟨by decide, by decide, by decide, by decide, by decide⟩
theorem BufJ.othersX (h : BufJ S K es p c w) : OthersX S w := fun k hk cs t f hh => by
  obtain ⟨cs', t', f', h1, h2⟩ := h.kinds k hk
  rw [h1] at hh
  simp only [Option.some.injEq, Obj.cells.injEq] at hh
  rw [← hh.2.1]
  rcases h2 with rfl | rfl
  · exact ⟨by decide, by decide, by decide⟩
  · exact ⟨by decide, by decide, by decide⟩
theorem BufJ.gap (h : BufJ S K es p c w) {q : Option Addr} (hk : KindAt 69 w q) : ∀ r, q = some r → ¬ S r.block := fun r e hs => by
  obtain ⟨cs, f, hq⟩ := hk r e
  obtain ⟨cs', t', f', h1, h2⟩ := h.kinds _ hs
  rw [hq] at h1
  simp only [Option.some.injEq, Obj.cells.injEq] at h1
  rcases h2 with rfl | rfl
  · exact absurd h1.2.1 (by decide)
  · exact absurd h1.2.1 (by decide)
theorem BufJ.lt (h : BufJ S K es p c w) : ∀ k, S k → k < w.heap.size := fun k hk => by
  obtain ⟨cs, t, f, h1, -⟩ := h.kinds k hk
  exact lt_of_block h1
theorem BufJ.apart (h : BufJ S K es p c w) : ∀ a, p = some a → a.block ≠ K := fun a e he => by
  rcases h.room.block with ⟨e2, -⟩ | ⟨B, rest, e2, h3, -⟩
  · rw [e] at e2; cases e2
  · rw [e] at e2
    cases e2
    simp only at he
    subst he
    have h9 := h.head.symm.trans h3
    simp only [Option.some.injEq, Obj.cells.injEq] at h9
    exact absurd h9.2.1 (by decide)
theorem BufJ.row (h : BufJ S K es p c w) : GRow layE w p es := h.room.row layE_pos
theorem BufJ.cell (h : BufJ S K es p c w) : w.cell? ⟨K, 0, none⟩ = some (.slice p es.length c) := by rw [cell_of_block h.head]; rfl
end
theorem kept_row3 {S : Nat → Prop} {a b : World} {p : Option Addr} {xs : List Vec.Gp} (h : Vec.Row3 a p xs) (hk : Kept S a b) (hn : ∀ q, p = some q → ¬ S q.block) : Vec.Row3 b p xs := fun i hi => by
  obtain ⟨b', o, e, c0, c1, c2⟩ := h i hi
  have hS := hn _ e
  exact ⟨b', o, e, by rw [World.cell?_of_block (w := a) (hk.block _ (block_lt_of_cell c0) hS)]; exact c0, by rw [World.cell?_of_block (w := a) (hk.block _ (block_lt_of_cell c1) hS)]; exact c1, by rw [World.cell?_of_block (w := a) (hk.block _ (block_lt_of_cell c2) hS)]; exact c2⟩
set_option maxHeartbeats 800000 in
theorem len_any {S : Nat → Prop} {K : Nat} {l : List Em} {w : World} (h : Bufr S K l w) : Calls Tryz.prog 40 #[.pointer (some ⟨K, 0, none⟩)] w fun r w' => r = .returned (.int .i64 (l.length : Int)) ∧ Below w.heap.size w w' := by
  obtain ⟨es, p, c, rfl, hJ⟩ := h
  have c0 := hJ.cell
  rw [List.length_map]
  clear hJ
  go_enter Tryz.func40, Tryz.ntmps40
  go_wp2
  go_ret
  exact ⟨rfl, Below.refl _ _⟩
theorem infoID11 : (Tryz.prog.info? 79).map (fun i => (i.zero, i.size, i.bytes)) = some (some (.agg #[.int .u16 0, .int .u32 0]), 2, 8) := by kernel_rfl
theorem infoV11 : (Tryz.prog.info? 24).map (fun i => (i.zero, i.size, i.bytes)) = some (some (.slice none 0 0), 1, 24) := by kernel_rfl
theorem names_step (es : List EV) {k : Nat} (h : k < es.length) : namesM ((es.take (k + 1)).map (·.e)) = namesM ((es.take k).map (·.e)) ++ [((es.getD k x0E).e.txn.r, (es.getD k x0E).e.txn.seq)] := by
  unfold namesM
  rw [take_getD x0E h, List.map_append, List.map_append]
  rfl
theorem names_take_len (es : List EV) {k : Nat} (h : k ≤ es.length) : (namesM ((es.take k).map (·.e))).length = k := by
  unfold namesM
  rw [List.length_map, List.length_map, List.length_take]; omega
set_option maxHeartbeats 3200000 in
set_option maxRecDepth 20000 in
theorem bnames_any {S : Nat → Prop} {K : Nat} {l : List Em} {w : World} (h : Bufr S K l w) : Calls Tryz.prog 39 #[.pointer (some ⟨K, 0, none⟩)] w (Vec.Gave w (namesM l)) := by
  obtain ⟨es, p, c, rfl, hJ⟩ := h
  have c0 := hJ.cell
  have hl := hJ.len
  have HR := Lib.hid hJ.row
  have HIDA : Hid (∀ a b c d p l n W, Calls Tryz.prog 26 #[.agg #[.int .u16 a, .int .u32 b, .int .u64 c, .int .i64 d, .slice p l n]] W fun r w' => r = .returned (.agg #[.int .u16 a, .int .u32 b]) ∧ Below W.heap.size W w') := fun a b c d p l n W => by
    have := idT_spec ⟨a, b, c, d, List.replicate l ⟨0, 0, 0, 0, [], [], 0⟩⟩ p n W
    unfold tv at this
    simp only [List.length_replicate] at this
    exact this
  obtain ⟨i0, hi, hz0, hz1, hz2⟩ := info_parts infoID11
  clear hJ
  go_enter Tryz.func39, Tryz.ntmps39
  go_wp2_with fail
  go_loopg [3, 11] es.length (fun n v i wr => ∃ k : Nat, k ≤ es.length ∧ es.length - k ≤ n ∧ i = .int .i64 (k : Int) ∧ Vec.Holding w 79 v (namesM ((es.take k).map (·.e))) wr)
  case atStart => exact ⟨0, Nat.zero_le _, by omega, rfl, by simpa [namesM] using Vec.Holding.nil w 79⟩
  case round =>
    clear c0
    obtain ⟨k, hk, hg, rfl, hO⟩ := hrel
    have HO := Lib.hid hO
    clear hO
    by_cases hlt : k < es.length
    · have hkl : (k : Int) < (es.length : Int) := by omega
      obtain ⟨o1, o2, rfl, c0, c1, c2, c3, c4, c5⟩ := erow_at (HR.out.below HO.out.2) hlt
      have HNX := Lib.hid (names_step es hlt)
      have hnl := names_take_len es hk
      generalize namesM ((es.take k).map (·.e)) = nn at HO HNX hnl
      generalize xs_def : es.getD k x0E = X1 at c0 c1 c2 c3 c4 c5 HNX
      clear xs_def
      obtain ⟨⟨xd, ⟨xr, xq, xc, xu, xo⟩⟩, xys, xp, xcc, xqq, xdd⟩ := X1
      simp only at c0 c1 c2 c3 c4 c5 HNX
      have HZX := Lib.hid (heap_alloc_new wr (.cells #[.slice xp xd.length xcc, .int .u16 xr, .int .u32 xq, .int .u64 xc, .int .i64 xu, .slice xqq xo.length xdd] 38))
      have HO1 := Lib.hid (HO.out.alloc (.cells #[.slice xp xd.length xcc, .int .u16 xr, .int .u32 xq, .int .u64 xc, .int .i64 xu, .slice xqq xo.length xdd] 38))
      go_wp2_with fail
      generalize (wr.alloc (.cells #[.slice xp xd.length xcc, .int .u16 xr, .int .u32 xq, .int .u64 xc, .int .i64 xu, .slice xqq xo.length xdd] 38)) = w1 at HZX HO1 ⊢
      refine (HIDA.out _ _ _ _ _ _ _ w1).mono ?_
      rintro r w2 ⟨rfl, hb2⟩
      have HO2 : Hid (Vec.Holding w 79 u3 nn w2) := ⟨HO1.out.1.kept (row := none) ⟨hb2.os, hb2.tape, hb2.output, hb2.size, fun k hk _ => hb2.block k hk⟩ (by cases u3.ownBlock <;> simp), below_step HO1.out.2 hb2⟩
      clear hb2 HO HO1 HZX c0 c1 c2 c3 c4 c5
      subst hnl
      go_wp2_with (first
        | (at_builtin; refine wpList_append_own _ rfl (.tmp 15) (.tmp 19) 89 rfl w.heap.size 79 i0 (.agg #[.int .u16 0, .int .u32 0]) 2 8 Tryz.underlying89 hi hz0 hz1 hz2 rfl (by decide) _ nn.length (Vec.cellsL nn) rfl (HO2.out.alloc _).1 ⟨w2.heap.size, 0, none⟩ 1 1 [.int .u16 xr, .int .u32 xq] rfl rfl (Vec.cells_pair 79 (by simp) (by simp)) (by intro u hu; simp at hu; rcases hu with rfl | rfl <;> rfl) (by unfold maxLen; omega) (by omega) (by have := HO2.out.2.size; simp; omega) ?_))
      intro v' w7 hown hgrow _
      have HO7 : Hid (Vec.Holding w 79 v' (nn ++ [(xr, xq)]) w7) := (HO2.out.alloc _).onto hown hgrow
      clear hown hgrow HO2
      go_wp2
      go_roundg (es.length - (nn.length + 1))
      case measure => omega
      case rel => exact ⟨nn.length + 1, by omega, Nat.le_refl _, by go_num, by rw [HNX.out]; exact HO7.out⟩
    · have : k = es.length := by omega
      subst this
      have hkl : ¬ (es.length : Int) < (es.length : Int) := by omega
      rw [List.take_length] at HO
      obtain ⟨p', c', rfl, hr⟩ := HO.out.gave
      have HG := Lib.hid hr
      clear hr
      go_wp2
      go_ret
      exact ⟨p', c', rfl, HG.out, HO.out.2⟩

/-- What must be known ahead of one, as the program joins it. -/
def aheadL (x : EV) : List Vec.En := Vec.withL x.e.deps x.e.txn.r (x.e.txn.seq - 1)
theorem mem_aheadL {x : EV} (h : FairE x.e) (y : Vec.En) : y ∈ aheadL x ↔ y ∈ needsOf x.e := by
  have h0 := (fitE_ok h.fit).2.1
  have hno : ∀ z ∈ x.e.deps, z.1 ≠ x.e.txn.r := fun z hz he => by
    have := Vec.getL_mem (right_sp h.right) hz
    rw [he, h0] at this
    have := (right_mem h.right z hz).1
    omega
  unfold aheadL needsOf
  constructor
  · intro hy
    rcases mem_with hy with hy | ⟨rfl, hs⟩
    · exact List.mem_append_left _ hy
    · rw [if_pos (by omega)]; simp
  · intro hy
    unfold Vec.withL Vec.lo Vec.hi Vec.mid
    rcases List.mem_append.1 hy with hy | hy
    · have := hno y hy
      rcases Int.lt_or_gt_of_ne this with hlt | hgt
      · exact List.mem_append_left _ (List.mem_append_left _ (List.mem_filter.2 ⟨hy, by simpa using hlt⟩))
      · exact List.mem_append_right _ (List.mem_filter.2 ⟨hy, by simpa using hgt⟩)
    · by_cases hq : 1 < x.e.txn.seq
      · rw [if_pos hq] at hy
        rw [if_pos (by omega)]
        exact List.mem_append_left _ (List.mem_append_right _ hy)
      · rw [if_neg hq] at hy; cases hy
theorem ahead_join {es : List EV} (h : ∀ x ∈ es, FairE x.e) : Vec.IsJoin (es.flatMap aheadL) (allM (es.map (·.e))) := by
  have h1 := allM_join (l := es.map (·.e)) (fun y hy => by
    obtain ⟨x, hx, rfl⟩ := List.mem_map.1 hy
    exact h x hx)
  have key : ∀ y, y ∈ (es.map (·.e)).flatMap needsOf ↔ y ∈ es.flatMap aheadL := fun y => by
    rw [List.mem_flatMap, List.mem_flatMap]
    constructor
    · rintro ⟨e, he, hy⟩
      obtain ⟨x, hx, rfl⟩ := List.mem_map.1 he
      exact ⟨x, hx, (mem_aheadL (h x hx) y).2 hy⟩
    · rintro ⟨x, hx, hy⟩
      exact ⟨x.e, List.mem_map.2 ⟨x, hx, rfl⟩, (mem_aheadL (h x hx) y).1 hy⟩
  exact h1.congr (Vec.Dom.of_sub fun y hy => (key y).1 hy) (Vec.Dom.of_sub fun y hy => (key y).2 hy)
theorem ahead_len {es : List EV} (h : ∀ x ∈ es, x.e.deps.length ≤ 100) : (es.flatMap aheadL).length ≤ 101 * es.length := by
  induction es with
  | nil => simp
  | cons x es ih =>
    have h1 := ih (fun y hy => h y (by simp [hy]))
    have h2 := Vec.withL_le x.e.deps x.e.txn.r (x.e.txn.seq - 1)
    have h3 := h x (by simp)
    rw [List.flatMap_cons, List.length_append, List.length_cons]
    unfold aheadL at h1 ⊢
    omega
/-- Vectors, as a slice of them holds them. -/
def layM : Lay Vec.Mo := ⟨1, fun m => [.slice m.1 m.2.2.length m.2.1], fun _ => rfl, fun m u hu => by
  simp at hu
  rw [hu]; rfl⟩
/-- The vectors that have been made so far. -/
structure AheadJ (w : World) (es : List EV) (v : Value) (k : Nat) (ms : List Vec.Mo) (wr : World) : Prop where
  hold : Hold layM w 24 v ms wr
  list : ms.map (·.2.2) = (es.take k).map aheadL
  each : ∀ m ∈ ms, Vec.Row wr m.1 m.2.2 ∧ (m.1 = none → m.2.1 = 0) ∧ KindAt 74 wr m.1
theorem AheadJ.below {w : World} {es : List EV} {v : Value} {k : Nat} {ms : List Vec.Mo} {wr w1 : World} (h : AheadJ w es v k ms wr) (hb : Below wr.heap.size wr w1) : AheadJ w es v k ms w1 :=
  ⟨h.hold.below hb, h.list, fun m hm => ⟨(h.each m hm).1.below hb, (h.each m hm).2.1, (h.each m hm).2.2.below hb⟩⟩
theorem AheadJ.len {w : World} {es : List EV} {v : Value} {k : Nat} {ms : List Vec.Mo} {wr : World} (h : AheadJ w es v k ms wr) (hk : k ≤ es.length) : ms.length = k := by
  have := congrArg List.length h.list
  rw [List.length_map, List.length_map, List.length_take] at this
  omega
theorem AheadJ.onto {w : World} {es : List EV} {v v' : Value} {k : Nat} {ms : List Vec.Mo} {wr w1 : World} (h : AheadJ w es v k ms wr) (hk : k < es.length) {m : Vec.Mo} (hm : m.2.2 = aheadL (es.getD k x0E)) (hr : Vec.Row wr m.1 m.2.2) (hn : m.1 = none → m.2.1 = 0) (hkd : KindAt 74 wr m.1) (hown : w1.ownsRow w.heap.size 24 1 v' (ms.length + 1) (layM.flat ms ++ [.slice m.1 m.2.2.length m.2.1])) (hg : wr.grownBy w1 v.ownBlock) : AheadJ w es v' (k + 1) (ms ++ [m]) w1 := by
  have hK : Kept (fun j => v.ownBlock = some j) wr w1 := Kept.ofGrown hg (fun j hj => hj)
  have hap : ∀ {a : Option Addr}, KindAt 74 wr a → ∀ q, a = some q → ¬ v.ownBlock = some q.block := fun hka q e hv => by
    obtain ⟨p', c', rfl⟩ := owns_slice h.hold.1
    cases p' with
    | none => simp [Value.ownBlock] at hv
    | some b =>
      have := kind_owns h.hold.1 b rfl
      obtain ⟨cs, f, h1⟩ := this
      obtain ⟨cs2, f2, h2⟩ := hka q e
      simp [Value.ownBlock] at hv
      rw [hv, h2] at h1
      simp only [Option.some.injEq, Obj.cells.injEq] at h1
      exact absurd h1.2.1 (by decide)
  refine ⟨h.hold.onto (ys := [m]) (by rw [layM.flat_one]; rfl) (by simp) hown hg, ?_, fun x hx => ?_⟩
  · rw [List.map_append, h.list, take_getD x0E hk, List.map_append]
    simp [hm]
  · rcases List.mem_append.1 hx with hx | hx
    · obtain ⟨h1, h2, h3⟩ := h.each x hx
      exact ⟨vrow_kept h1 hK (hap h3), h2, h3.kept hK (hap h3)⟩
    · rw [List.mem_singleton.1 hx]
      exact ⟨vrow_kept hr hK (hap hkd), hn, hkd.kept hK (hap hkd)⟩
theorem AheadJ.more {w : World} {es : List EV} {v : Value} {ms : List Vec.Mo} {wr : World} (h : AheadJ w es v es.length ms wr) : ∃ q d, v = .slice q ms.length d ∧ Vec.MoreRow wr q ms ∧ Vec.flatM ms = es.flatMap aheadL := by
  obtain ⟨q, d, rfl, hG, -, -⟩ := h.hold.gave (by decide)
  refine ⟨q, d, rfl, fun i hi => ?_, ?_⟩
  · have hm : Vec.atM ms i ∈ ms := getD_mem (none, 0, []) hi
    obtain ⟨h1, h2, -⟩ := h.each _ hm
    obtain ⟨b, o, e, hc⟩ := hG.cell (none, 0, []) (j := 0) hi rfl
    exact ⟨⟨b, o, e, by
      have : layM.k = 1 := rfl
      rw [this, Nat.mul_one, Nat.add_zero] at hc
      exact hc⟩, h1, h2⟩
  · have := h.list
    rw [List.take_length] at this
    unfold Vec.flatM
    rw [List.flatMap_def, List.flatMap_def, this]
set_option maxHeartbeats 3200000 in
set_option maxRecDepth 20000 in
theorem bwants_any {S : Nat → Prop} {K : Nat} {l : List Em} {w : World} (h : List Vec.En) (s : Option Addr) (f : Nat) (hB : Bufr S K l w) (hH : Vec.Row w s h) (hk : Known h s f) : Calls Tryz.prog 20 #[.pointer (some ⟨K, 0, none⟩), .slice s h.length f] w fun r w' => ∃ p c, r = .returned (.slice p (wantsM l h).length c) ∧ Firm S w' (fun W => Vec.Row3 W p (wantsM l h)) ∧ Below w.heap.size w w' := by
  obtain ⟨es, p, c, rfl, hJ⟩ := hB
  have c0 := hJ.cell
  have hl := hJ.len
  have HR := Lib.hid hJ.row
  have HE : Hid (∀ x ∈ es, ArgE w x) := fun x hx => (hJ.each x hx).1
  have HJ := Lib.hid hJ
  have hfair : ∀ x ∈ es, FairE x.e := fun x hx => (HE.out x hx).fair
  have HJN : Hid (Vec.IsJoin (es.flatMap aheadL) (allM (es.map (·.e)))) := ahead_join hfair
  have HLN : Hid ((es.flatMap aheadL).length ≤ 101 * es.length) := ahead_len (fun x hx => (HE.out x hx).deps)
  have hfm : ∀ x ∈ es.map (·.e), FairE x := fun y hy => by
    obtain ⟨x, hx, rfl⟩ := List.mem_map.1 hy
    exact hfair x hx
  have HAF : Hid (Vec.Fits (allM (es.map (·.e)))) := fun y hy => by
    have := mem_allM hfm hy
    exact ⟨this.1, this.2.1, by omega, by omega⟩
  have HAL : Hid ((allM (es.map (·.e))).length ≤ 101 * 64) := by
    have h1 := allM_len (l := es.map (·.e)) (fun y hy => by
      obtain ⟨x, hx, rfl⟩ := List.mem_map.1 hy
      exact (HE.out x hx).deps)
    rw [List.length_map] at h1
    show _ ≤ _
    omega
  have HWI : Hid (∀ k, k < es.length → ∀ W, Below w.heap.size w W → Calls Tryz.prog 43 #[.slice (es.getD k x0E).p (es.getD k x0E).e.deps.length (es.getD k x0E).c, .int .u16 (es.getD k x0E).e.txn.r, .int .u32 ((es.getD k x0E).e.txn.seq - 1)] W (Vec.GaveK 74 W (aheadL (es.getD k x0E)))) := fun k hk W hb => by
    have hx := HE.out _ (getD_mem x0E hk)
    exact Vec.with_kind _ _ _ _ _ W (hx.into.row.below hb) (Vec.srt_of_right hx.fair.right) (by have := hx.deps; omega) hx.into.cap hx.into.nil
  have HSQ : Hid (∀ k, k < es.length → 1 ≤ (es.getD k x0E).e.txn.seq ∧ (es.getD k x0E).e.txn.seq ≤ 268435456) := fun k hk => (HE.out _ (getD_mem x0E hk)).fair.seq
  have HH := Lib.hid hH
  have HK := Lib.hid hk
  obtain ⟨i0, hi, hz0, hz1, hz2⟩ := info_parts infoV11
  clear hJ hH hk hfair hfm
  go_enter Tryz.func20, Tryz.ntmps20
  go_wp2_with fail
  go_loopg [5, 13] es.length (fun n v i wr => ∃ (k : Nat) (ms : List Vec.Mo), k ≤ es.length ∧ es.length - k ≤ n ∧ i = .int .i64 (k : Int) ∧ AheadJ w es v k ms wr)
  case atStart => exact ⟨0, [], Nat.zero_le _, by omega, rfl, ⟨Hold.nil _ _ _, by simp, fun m hm => (by cases hm)⟩⟩
  case round =>
    clear c0
    obtain ⟨k, ms, hk, hg, rfl, hA⟩ := hrel
    have HA := Lib.hid hA
    clear hA
    by_cases hlt : k < es.length
    · have hkl : (k : Int) < (es.length : Int) := by omega
      obtain ⟨o1, o2, rfl, c0, c1, c2, c3, c4, c5⟩ := erow_at (HR.out.below HA.out.hold.2) hlt
      have hml := HA.out.len hk
      have HW1 := Lib.hid (HWI.out k hlt)
      obtain ⟨s1, s2⟩ := HSQ.out k hlt
      have HAX : Hid (aheadL (es.getD k x0E) = aheadL (es.getD k x0E)) := rfl
      have HON : Hid (∀ (wa wb : World) (m : Vec.Mo) (v' : Value), Below wr.heap.size wr wa → m.2.2 = aheadL (es.getD k x0E) → Vec.Row wa m.1 m.2.2 → (m.1 = none → m.2.1 = 0) → KindAt 74 wa m.1 → wb.ownsRow w.heap.size 24 1 v' (ms.length + 1) (layM.flat ms ++ [.slice m.1 m.2.2.length m.2.1]) → wa.grownBy wb u5.ownBlock → AheadJ w es v' (k + 1) (ms ++ [m]) wb) := fun wa wb m v' hb hm hr hn hkd ho hg => (HA.out.below hb).onto hlt hm hr hn hkd ho hg
      generalize aheadL (es.getD k x0E) = AL at HW1 HON
      clear HAX
      generalize xs_def : es.getD k x0E = X1 at c0 c1 c2 c3 c4 c5 HW1 s1 s2
      clear xs_def
      obtain ⟨⟨xd, ⟨xr, xq, xc, xu, xo⟩⟩, xys, xp, xcc, xqq, xdd⟩ := X1
      simp only at c0 c1 c2 c3 c4 c5 HW1 s1 s2
      have hwq : IntKind.u32.wrap (xq - 1) = xq - 1 := by rw [IntKind.wrap_u32]; omega
      have HBX : Hid (Below wr.heap.size wr (wr.alloc (.cells #[.slice xp xd.length xcc, .int .u16 xr, .int .u32 xq, .int .u64 xc, .int .i64 xu, .slice xqq xo.length xdd] 38))) := below_alloc (Below.refl _ _) _
      go_wp2_with fail
      generalize (wr.alloc (.cells #[.slice xp xd.length xcc, .int .u16 xr, .int .u32 xq, .int .u64 xc, .int .i64 xu, .slice xqq xo.length xdd] 38)) = w1 at HBX ⊢
      refine (HW1.out w1 (below_step HA.out.hold.2 HBX.out)).mono ?_
      rintro r w2 ⟨p2, c2', rfl, hr2, hc2, hn2, hk2, hb2⟩
      have HB2 := Lib.hid (below_step HBX.out hb2)
      have HR2 : Hid (Vec.Row w2 p2 AL ∧ (p2 = none → c2' = 0) ∧ KindAt 74 w2 p2) := ⟨hr2, hn2, hk2⟩
      clear hr2 hn2 hk2 hb2 HW1 HBX c0 c1 c2 c3 c4 c5
      have HH2 := Lib.hid (HA.out.hold.below HB2.out)
      subst hml
      go_wp2_with (first
        | (at_builtin; refine wpList_append_own _ rfl (.tmp 17) (.tmp 28) 100 rfl w.heap.size 24 i0 (.slice none 0 0) 1 24 Tryz.underlying100 hi hz0 hz1 hz2 rfl (by decide) _ ms.length (layM.flat ms) rfl (HH2.out.alloc _).1 ⟨w2.heap.size, 0, none⟩ 1 1 [.slice p2 AL.length c2'] rfl rfl (cells_new (cs := [.slice p2 AL.length c2'])) (by intro u hu; simp at hu; rw [hu]; rfl) (by unfold maxLen; omega) (by omega) (by have := HH2.out.2.size; simp; omega) ?_))
      intro v' w7 hown hgrow _
      have hba : Below w2.heap.size w2 (w2.alloc (.cells #[.slice p2 AL.length c2'] 24)) := below_alloc (Below.refl _ _) _
      have HN := Lib.hid (HON.out _ w7 (p2, c2', AL) v' (below_step HB2.out hba) rfl (HR2.out.1.below hba) HR2.out.2.1 (HR2.out.2.2.below hba) hown hgrow)
      clear hown hgrow hba HON HR2 HH2 HA HB2
      go_wp2
      go_roundg (es.length - (ms.length + 1))
      case measure => omega
      case rel => exact ⟨ms.length + 1, _, by omega, Nat.le_refl _, by go_num, HN.out⟩
    · have : k = es.length := by omega
      subst this
      have hkl : ¬ (es.length : Int) < (es.length : Int) := by omega
      obtain ⟨q, d, rfl, hmr, hfl⟩ := HA.out.more
      have hml := HA.out.len hk
      have HBR := Lib.hid HA.out.hold.2
      have HJO : Hid (∀ W pe, Below wr.heap.size wr W → Calls Tryz.prog 45 #[.slice pe 0 0, .slice q ms.length d] W (Vec.GaveV W (allM (es.map (·.e))))) := fun W pe hb => by
        have hmW : Vec.MoreRow W q ms := fun i hi => by
          obtain ⟨⟨b, o, e, h1⟩, h2, h3⟩ := hmr i hi
          exact ⟨⟨b, o, e, cellU h1 hb⟩, h2.below hb, h3⟩
        have hjt := Vec.join_to [] ms (allM (es.map (·.e))) (by rw [List.nil_append, hfl]; exact HJN.out) pe q 0 d W (fun i hi => absurd hi (Nat.not_lt_zero _)) hmW (by rw [hfl]; have := HLN.out; simp only [List.length_nil]; omega) (by omega)
        exact hjt
      have HLK : Hid (∀ W a b, Below w.heap.size w W → Vec.Row W a (allM (es.map (·.e))) → Calls Tryz.prog 44 #[.slice s h.length f, .slice a (allM (es.map (·.e))).length b] W (Vec.Gave3K 69 W (wantsM (es.map (·.e)) h))) := fun W a b hb hr => Vec.lacks_kind h _ s a f b W (HH.out.below hb) hr (Vec.srt_of_right HK.out.right) HK.out.fits HAF.out (by have := HK.out.len; omega) (by have := HAL.out; omega)
      have HFI : Hid (∀ W a, Below w.heap.size w W → Vec.Row3 W a (wantsM (es.map (·.e)) h) → KindAt 69 W a → Firm S W (fun W2 => Vec.Row3 W2 a (wantsM (es.map (·.e)) h))) := fun W a hb hr hk W2 hk2 => kept_row3 hr hk2 ((HJ.out.below hb).gap hk)
      generalize hWL : wantsM (es.map (·.e)) h = WL at HLK HFI
      have HWL := Lib.hid hWL
      clear hWL
      generalize allM (es.map (·.e)) = AM at HJO HLK HJN HAF HAL
      clear HA hmr hfl hml HJ HE HWI HSQ HH HK HJN HLN HAF HAL HR
      go_wp2_with fail
      refine (HJO.out _ _ (below_alloc (Below.refl _ _) _)).mono ?_
      rintro r w3 ⟨p3, c3, rfl, hn3, hr3, hb3⟩
      have HB3 := Lib.hid (below_step HBR.out (below_step (below_alloc (Below.refl _ _) _) hb3))
      have HL3 := Lib.hid (HLK.out w3 p3 c3 HB3.out hr3)
      clear hn3 hr3 hb3 HJO HLK HBR
      go_wp2_with fail
      refine HL3.out.mono ?_
      rintro r w4 ⟨p4, c4, rfl, hr4, hk4, hb4⟩
      have HB4 := Lib.hid (below_step HB3.out hb4)
      have HF4 := Lib.hid (HFI.out w4 p4 HB4.out hr4 hk4)
      clear hr4 hk4 hb4 HL3 HFI HB3
      go_wp2
      go_ret
      rw [HWL.out]
      exact ⟨p4, c4, rfl, HF4.out, HB4.out⟩
end Go.Proofs.YtjkdcpalgfakhaaGreat
/-
  What the document's Bytes of layer 9 hands back, of a transaction that fits. No conditions beyond what each theorem states.
-/
namespace Go.Proofs.YtjkdcpalgfakhaaGreat
open Go.ChangeShapes Go.WideShapes Go.ChangeAt Go.RowKit Go.Lib
set_option linter.unusedVariables false
set_option linter.unusedSimpArgs false

theorem bytesO_range {o : Om} (hf : FitOm o) (h : fitO o = 0) (hl : o.spans.length ≤ 1024) : 1 ≤ (bytesO o).length ∧ (bytesO o).length ≤ 30000 := by
  have hc := fitO_cases h
  unfold FitOm at hf
  obtain ⟨f1, f2, f3, f4, f5, f6, f7, f8, f9, f10, f11⟩ := hf
  have e1 := encN_len (n := o.kind.toNat) (by omega)
  have e2 := encN_len (n := o.r.toNat) (by omega)
  have e3 := encN_len (n := o.n.toNat) (by omega)
  have e4 := encN_len (n := o.num.toNat) (by omega)
  have e5 := encN_len (n := o.seq.toNat) (by omega)
  have e6 := bytesL_len f9 (by omega)
  have e0 := encN_pos o.kind.toNat
  have e7 : o.kind = 1 → (encT o.text).length ≤ 73 := fun hk => by
    have ht : o.text.length ≤ 64 := by
      rcases hc with c | c | c | c
      · exact c.2.2.2.2.2.1
      · have := c.1; omega
      · have := c.1; omega
      · have := c.1; omega
    unfold encT
    rw [List.length_append]
    have := encN_len (n := o.text.length) (by omega)
    omega
  unfold bytesO
  simp only [List.length_append]
  by_cases h1 : o.kind = 1
  · have := e7 h1
    simp only [if_pos h1, if_pos (show o.kind = 1 ∨ o.kind = 3 from Or.inl h1), List.length_append]
    omega
  · simp only [if_neg h1]
    by_cases h3 : o.kind = 1 ∨ o.kind = 3
    · simp only [if_pos h3, List.length_append]
      split <;> omega
    · simp only [if_neg h3, List.length_nil]
      split <;> omega
theorem bytesO_small {o : Om} (hf : FitOm o) (h : fitO o = 0) (hl : o.spans.length ≤ 60) : 1 ≤ (bytesO o).length ∧ (bytesO o).length ≤ 2000 := by
  have hc := fitO_cases h
  unfold FitOm at hf
  obtain ⟨f1, f2, f3, f4, f5, f6, f7, f8, f9, f10, f11⟩ := hf
  have e1 := encN_len (n := o.kind.toNat) (by omega)
  have e2 := encN_len (n := o.r.toNat) (by omega)
  have e3 := encN_len (n := o.n.toNat) (by omega)
  have e4 := encN_len (n := o.num.toNat) (by omega)
  have e5 := encN_len (n := o.seq.toNat) (by omega)
  have e6 := bytesL_len f9 (by omega)
  have e0 := encN_pos o.kind.toNat
  have e7 : o.kind = 1 → (encT o.text).length ≤ 73 := fun hk => by
    have ht : o.text.length ≤ 64 := by
      rcases hc with c | c | c | c
      · exact c.2.2.2.2.2.1
      · have := c.1; omega
      · have := c.1; omega
      · have := c.1; omega
    unfold encT
    rw [List.length_append]
    have := encN_len (n := o.text.length) (by omega)
    omega
  unfold bytesO
  simp only [List.length_append]
  by_cases h1 : o.kind = 1
  · have := e7 h1
    simp only [if_pos h1, if_pos (show o.kind = 1 ∨ o.kind = 3 from Or.inl h1), List.length_append]
    omega
  · simp only [if_neg h1]
    by_cases h3 : o.kind = 1 ∨ o.kind = 3
    · simp only [if_pos h3, List.length_append]
      split <;> omega
    · simp only [if_neg h3, List.length_nil]
      split <;> omega
theorem flatO_take {l : List Om} {k : Nat} (h : k < l.length) : (l.take (k + 1)).flatMap bytesO = (l.take k).flatMap bytesO ++ bytesO (l.getD k o0) := by
  rw [take_getD o0 h]; simp
theorem flatO_len {l : List Om} {M : Nat} (h : ∀ o ∈ l, (bytesO o).length ≤ M) : ∀ k, ((l.take k).flatMap bytesO).length ≤ k * M := by
  intro k
  induction k with
  | zero => simp
  | succ k ih =>
    by_cases hk : k < l.length
    · rw [flatO_take hk, List.length_append]
      have := h _ (getD_mem o0 hk)
      rw [Nat.add_mul, Nat.one_mul]
      omega
    · rw [List.take_of_length_le (by omega)]
      rw [List.take_of_length_le (by omega)] at ih
      exact Nat.le_trans ih (Nat.mul_le_mul_right _ (Nat.le_succ k))
end Go.Proofs.YtjkdcpalgfakhaaGreat
/-
  What the program's Put of layer 7 leaves. No conditions beyond what each theorem states.
-/
namespace Go.Proofs.YtjkdcpalgfakhaaGreat
open Go.ChangeShapes Go.WideShapes Go.ChangeAt Go.RowKit Go.Lib
set_option linter.unusedVariables false
set_option linter.unusedSimpArgs false

/-- A step of a writer that leaves a variable as it was. -/
theorem box_wrote {K X : Nat} {v : Value} {w w' : World} {o : Obj} (h : w.heap[X]? = some o) (hK : X ≠ K) (hv : v.ownBlock ≠ some X) (hk : Kept (fun k => k = K ∨ v.ownBlock = some k) w w') : w'.heap[X]? = some o := hk.stays h (by rintro (e | e); exact hK e; exact hv e)
theorem own_wrote {X : Nat} {v v' : Value} {w : World} {o : Obj} (h : w.heap[X]? = some o) (hv : v.ownBlock ≠ some X) (hv' : v'.ownBlock = v.ownBlock ∨ ∃ g, v'.ownBlock = some g ∧ w.heap.size ≤ g) : v'.ownBlock ≠ some X := by
  rcases hv' with e | ⟨g, e, hg⟩
  · rw [e]; exact hv
  · rw [e]
    intro ee
    injection ee with ee
    have := lt_of_block h
    omega
end Go.Proofs.YtjkdcpalgfakhaaGreat
/-
  What the program's Put of layer 8 leaves. No conditions beyond what each theorem states.
-/
namespace Go.Proofs.YtjkdcpalgfakhaaGreat
open Go.ChangeShapes Go.WideShapes Go.ChangeAt Go.RowKit Go.Lib
set_option linter.unusedVariables false
set_option linter.unusedSimpArgs false

end Go.Proofs.YtjkdcpalgfakhaaGreat
/-
  What the program's Put of layer 9 leaves. No conditions beyond what each theorem states.
-/
namespace Go.Proofs.YtjkdcpalgfakhaaGreat
open Go.ChangeShapes Go.WideShapes Go.ChangeAt Go.RowKit Go.Lib
set_option linter.unusedVariables false
set_option linter.unusedSimpArgs false

end Go.Proofs.YtjkdcpalgfakhaaGreat
/-
  What the program's Fit of layer 9 hands back, and what it leans on. No conditions beyond what each theorem states.
-/
namespace Go.Proofs.YtjkdcpalgfakhaaGreat
open Go.ChangeShapes Go.WideShapes Go.ChangeAt Go.RowKit Go.Lib
set_option linter.unusedVariables false
set_option linter.unusedSimpArgs false

end Go.Proofs.YtjkdcpalgfakhaaGreat
/-
  What the program's Undoes of layer 9 hands back. No conditions beyond what each theorem states.
-/
namespace Go.Proofs.YtjkdcpalgfakhaaGreat
open Go.ChangeShapes Go.WideShapes Go.ChangeAt Go.RowKit Go.Lib
set_option linter.unusedVariables false
set_option linter.unusedSimpArgs false

theorem results_ct9 {P : Program} {fn : Func} {p t : Tmp} {ty : TypeId} (h : fn.results = #[.cell p ty, .tmp t]) (tmps : Array Value) (w : World) (a : Addr) (va : Value)
    (hp : tmps.getD p undef = .pointer (some a)) (la : (loadVar ty a).run P w = .ok va w) :
    (results fn tmps).run P w = .ok (.tuple #[va, tmps.getD t undef]) w := by
  have hp' : tmps[p]?.getD undef = .pointer (some a) := by simpa using hp
  simp [results, h, hp', asAddr, la]
theorem loadTI {w : World} {B : Nat} {cs : Array Value} {t : TypeId} (h : w.heap[B]? = some (.cells cs t (0, 0))) (hs : cs.size = 2) : (loadVar 79 ⟨B, 0, none⟩).run Tryz.prog w = .ok (.agg cs) w :=
  run_loadVar_row w B t 79 _ (0, 0) _ h Tryz.underlying79 rfl (by rw [hs]; exact szTI)
end Go.Proofs.YtjkdcpalgfakhaaGreat
