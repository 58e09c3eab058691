/-
  Several texts of one proof, joined: each part says at its head what it proves. No conditions beyond what each theorem states.
-/
import Derived.Test.YtjkdcpalgfakhaaZ17
/-
  What a buffer's Drop hands back and leaves. No conditions beyond what each theorem states.
-/
namespace Go.Proofs.Ytjkdcpalgfakhaa
open Go.ChangeShapes Go.WideShapes Go.ChangeAt Go.RowKit Go.Lib
set_option linter.unusedVariables false
set_option linter.unusedSimpArgs false

/-- In order, as pairs. -/
def PwE (es : List EV) : Prop := es.Pairwise fun a b => aheadM a.e b.e = true
theorem srt_pw {es : List EV} : SrtE es ↔ PwE es := by
  unfold SrtE PwE
  rw [List.pairwise_iff_getElem]
  constructor
  · intro h i j hi hj hij
    have := h i j hij hj
    rw [List.getD_eq_getElem?_getD, List.getD_eq_getElem?_getD, List.getElem?_eq_getElem hi, List.getElem?_eq_getElem hj] at this
    exact this
  · intro h i j hij hj
    have := h i j (by omega) hj hij
    rw [List.getD_eq_getElem?_getD, List.getD_eq_getElem?_getD, List.getElem?_eq_getElem (show i < es.length by omega), List.getElem?_eq_getElem hj]
    exact this
theorem drop_map (es : List EV) (h : List Vec.En) : (es.filter fun x => !pastE x.e h).map (·.e) = dropM (es.map (·.e)) h := by
  unfold dropM
  rw [List.filter_map]
  rfl
theorem vrow_firm {S : Nat → Prop} {w w' : World} {s : Option Addr} {h : List Vec.En} (hf : Firm S w (fun W => Vec.Row W s h)) {T : Nat → Prop} (hk : Kept T w w') (hT : ∀ k, T k → S k) : Vec.Row w' s h := hf w' (hk.mono fun k _ => hT k)
set_option maxHeartbeats 1600000 in
set_option maxRecDepth 20000 in
/-- The test that Drop hands to the library. -/
theorem dropc_any (e : Em) (xs : List OV) (p q : Option Addr) (c d : Nat) (h : List Vec.En) (s : Option Addr) (f b : Nat) (W : World) (hI : InE e xs p c q d W) (hS : SmallP xs) (hd : e.deps.length ≤ 100) (hf : fitE e = 0) (hH : Vec.Row W s h) (hk : Known h s f) (hb : W.cell? ⟨b, 0, none⟩ = some (.slice s h.length f)) :
    Calls Try.prog 39 #[ev e p c q d, .pointer (some ⟨b, 0, none⟩)] W fun r w' => r = .returned (.bool (pastE e h)) ∧ Below W.heap.size W w' := by
  have HP : Hid (∀ W', Below W.heap.size W W' → Calls Try.prog 40 #[ev e p c q d, .slice s h.length f] W' fun r w' => r = .returned (.bool (pastE e h)) ∧ Below W'.heap.size W' w') := fun W' hb' => pastE_spec e xs h p q s c d f W' (hI.below hb') hS hf (hH.below hb') hk.cap hk.nil hk.fits hk.right hk.len hd
  generalize pastE e h = PV at HP ⊢
  unfold ev at HP ⊢
  have HB0 : Hid (Below W.heap.size W (W.alloc (.cells #[.slice p e.deps.length c, .int .u16 e.txn.r, .int .u32 e.txn.seq, .int .u64 e.txn.clock, .int .i64 e.txn.user, .slice q e.txn.ops.length d] 36))) := below_alloc (Below.refl _ _) _
  have c0 := cellU hb HB0.out
  clear hI hH hk hb hS hf
  go_enter Try.func39, Try.ntmps39
  go_wp2_with fail
  refine (HP.out _ HB0.out).mono ?_
  rintro r w2 ⟨rfl, hb2⟩
  have HB2 := Lib.hid (below_step HB0.out hb2)
  clear hb2 HP HB0
  go_wp2
  go_ret
  exact ⟨rfl, HB2.out⟩
set_option maxHeartbeats 3200000 in
set_option maxRecDepth 20000 in
theorem drop_any {S : Nat → Prop} {K : Nat} {l : List Em} {w : World} (h : List Vec.En) (s : Option Addr) (f : Nat) (hB : Bufr S K l w) (hH : Firm S w (fun W => Vec.Row W s h)) (hk : Known h s f) : Calls Try.prog 21 #[.pointer (some ⟨K, 0, none⟩), .slice s h.length f] w fun r w' => r = .returned (.int .i64 ((l.length : Int) - ((dropM l h).length : Int))) ∧ ∃ S', Bufr S' K (dropM l h) w' ∧ Step S S' w w' := by
  obtain ⟨es, p, c, rfl, hJ⟩ := hB
  have eg : ∀ args w, (callFunc 39 args).run Try.prog w = .ok (.enter 39 args) w := enters_of Try.func39 (by kernel_rfl) rfl
  have hl := hJ.len
  have hlf : (es.filter fun x => !pastE x.e h).length ≤ es.length := List.length_filter_le _ _
  obtain ⟨W0, hW0⟩ : ∃ W0, W0 = w.alloc (.cells #[.slice s h.length f] 24) := ⟨_, rfl⟩
  have hb0 : Below w.heap.size w W0 := by rw [hW0]; exact below_alloc (Below.refl _ _) _
  have hbox : W0.heap[w.heap.size]? = some (.cells #[.slice s h.length f] 24 (0, 0)) := by rw [hW0]; exact heap_alloc_new w _
  have hJ0 := hJ.below hb0
  have hF0 := hH.below hb0
  have HDF := Lib.hid (deleteFunc_any 39 ⟨w.heap.size, 0, none⟩ (fun x => pastE x.e h) es p c W0 eg hJ0.room (by omega) (fun x hx B hpB W hkW => by
    have hT : ∀ k, k = B → (∃ a, p = some a ∧ k = a.block) ∨ p = none := fun k hk => by
      cases p with
      | none => exact Or.inr rfl
      | some a => exact Or.inl ⟨a, rfl, by rw [hk, hpB a rfl]⟩
    cases p with
    | none =>
      have hes := (hJ0.room.row layE_pos).none_nil layE_pos rfl
      rw [hes] at hx; cases hx
    | some a =>
      have hSB : ∀ k, k = B → S k := fun k hk => (hJ0.own k).2 (Or.inr ⟨a, rfl, by rw [hk, hpB a rfl]⟩)
      have hkS : Kept S W0 W := hkW.mono fun k _ => hSB k
      obtain ⟨h1, h2⟩ := hJ0.each x hx
      have hbW := hkW.stays hbox (fun hb => by
        have := hJ.lt _ (hSB _ hb)
        omega)
      exact dropc_any x.e x.ys x.p x.q x.c x.d h s f w.heap.size W (h1.into.keptX h2 hJ0.othersX hkS) h1.small h1.deps h1.fit (hF0 W hkS) hk (by rw [cell_of_block hbW]; rfl)))
  have HJ0 := Lib.hid hJ0
  have HF : Hid (∀ w2 w3, RoomE layE w2 p c (es.filter fun x => !pastE x.e h) → Kept (fun k => ∃ a, p = some a ∧ k = a.block) W0 w2 → w3 = w2.setCell ⟨K, 0, none⟩ (.slice p (es.filter fun x => !pastE x.e h).length c) → ∃ S', Bufr S' K (dropM (es.map (·.e)) h) w3 ∧ Step S S' w w3) := fun w2 w3 hr hk2 hw3 => by
    have hh2 := hk2.stays hJ0.head (fun ⟨a, e, he⟩ => hJ0.apart a e he.symm)
    have hh3 : w3.heap[K]? = some (.cells #[.slice p (es.filter fun x => !pastE x.e h).length c] 28 (0, 0)) := by
      rw [hw3]; exact setCell_block (o := 0) hh2 _
    have hkS : Kept S W0 w3 := by
      rw [hw3]
      exact Kept.set (hk2.mono fun k _ ⟨a, e, he⟩ => (hJ0.own k).2 (Or.inr ⟨a, e, he⟩)) ((hJ0.own K).2 (Or.inl rfl)) _
    refine ⟨S, ⟨_, p, c, (drop_map es h).symm, ⟨hh3, ?_, hJ0.own, srt_pw.2 ((srt_pw.1 hJ0.srt).filter _), by omega, fun x hx => ?_⟩⟩, ⟨(Kept.ofBelow hb0).trans hkS (fun _ _ h => h), fun k _ h => h⟩⟩
    · rcases hr.block with ⟨e1, e2, e3⟩ | ⟨B, rest, e1, h1, h2, h3, h4⟩
      · rw [e3, e1, e2]; exact RoomE.zero _ _
      · rw [e1]
        refine RoomE.of ?_ h2 h3 h4
        rw [hw3]
        exact (Below.heap_setCell w2 _ _ _ (fun he => hJ0.apart _ e1 he)).trans h1
    · obtain ⟨h1, h2⟩ := hJ0.each x (List.mem_filter.1 hx |>.1)
      exact ⟨⟨h1.into.keptX h2 hJ0.othersX hkS, h1.small, h1.ops, h1.deps, h1.fit⟩, h2.kept hJ0.othersX hkS⟩
  have c0 := hJ0.cell
  have HCK : Hid (∀ w2, Kept (fun k => ∃ a, p = some a ∧ k = a.block) W0 w2 → w2.heap[K]? = some (.cells #[.slice p es.length c] 28 (0, 0))) := fun w2 hk2 => hk2.stays hJ0.head (fun ⟨a, e, he⟩ => hJ0.apart a e he.symm)
  rw [← drop_map, List.length_map, List.length_map]
  have HLF := Lib.hid hlf
  generalize hfl : (es.filter fun x => !pastE x.e h).length = FL at HDF hlf HF ⊢
  clear hfl hJ hJ0 hF0 hH hk hbox eg
  subst hW0
  go_enter Try.func21, Try.ntmps21
  go_wp2_with fail
  refine HDF.out.mono ?_
  rintro r w2 ⟨rfl, hr2, hk2⟩
  have hh2 := HCK.out w2 hk2
  have d0 : w2.cell? ⟨K, 0, none⟩ = some (.slice p es.length c) := by rw [cell_of_block hh2]; rfl
  have f0 : w2.frozen? ⟨K, 0, none⟩ = false := frozen_of_block hh2
  have HF2 := Lib.hid (fun w3 he => HF.out w2 w3 hr2 hk2 he)
  have e0 : (w2.setCell ⟨K, 0, none⟩ (.slice p FL c)).cell? ⟨K, 0, none⟩ = some (.slice p FL c) := by rw [cell_of_block (setCell_block (o := 0) (cs := [.slice p es.length c]) hh2 _)]; rfl
  clear hr2 hk2 hh2 HF HDF HCK HJ0
  go_wp2
  go_ret
  rw [drop_map]
  exact ⟨rfl, HF2.out _ rfl⟩
end Go.Proofs.Ytjkdcpalgfakhaa
/-
  What a buffer's Take hands back and leaves. No conditions beyond what each theorem states.
-/
namespace Go.Proofs.Ytjkdcpalgfakhaa
open Go.ChangeShapes Go.WideShapes Go.ChangeAt Go.RowKit Go.Lib
set_option linter.unusedVariables false
set_option linter.unusedSimpArgs false

theorem loadEnv {w : World} {B : Nat} {cs : Array Value} {t : TypeId} (h : w.heap[B]? = some (.cells cs t (0, 0))) (hs : cs.size = 6) : (loadVar 36 ⟨B, 0, none⟩).run Try.prog w = .ok (.agg cs) w :=
  run_loadVar_row w B t 36 _ (0, 0) _ h Try.underlying36 rfl (by rw [hs]; exact szEnv)
theorem ready_at {l : List Em} {h : List Vec.En} {i : Nat} (hi : i < l.length) (hno : ∀ j, j < i → readyE (l.getD j e0) h = false) (hy : readyE (l.getD i e0) h = true) : readyM l h = some i := by
  induction l generalizing i with
  | nil => simp at hi
  | cons x l ih =>
    cases i with
    | zero =>
      have hy : readyE x h = true := by simpa using hy
      rw [readyM, if_pos hy]
    | succ i =>
      have h0 : readyE x h = false := by simpa using hno 0 (by omega)
      rw [readyM, if_neg (by rw [h0]; exact Bool.false_ne_true), ih (i := i) (by simpa using hi) (fun j hj => by have := hno (j + 1) (by omega); simpa using this) (by simpa using hy)]
      rfl
theorem ready_no {l : List Em} {h : List Vec.En} (hno : ∀ j, j < l.length → readyE (l.getD j e0) h = false) : readyM l h = none := by
  induction l with
  | nil => rfl
  | cons x l ih =>
    have h0 : readyE x h = false := by simpa using hno 0 (by simp)
    rw [readyM, if_neg (by rw [h0]; exact Bool.false_ne_true), ih (fun j hj => by have := hno (j + 1) (by simpa using hj); simpa using this)]
    rfl
theorem getD_em (es : List EV) {i : Nat} (h : i < es.length) : (es.map (·.e)).getD i e0 = (es.getD i x0E).e := by simp [List.getD_eq_getElem?_getD, h]
/-- A buffer whose row has been written anew. -/
theorem BufJ.next {S : Nat → Prop} {K : Nat} {es es' : List EV} {p p' : Option Addr} {c c' : Nat} {w w2 : World} (h : BufJ S K es p c w) (hr : RoomE layE w2 p' c' es') (hk : Kept (fun k => ∃ a, p = some a ∧ k = a.block) w w2) (hp : ∀ a, p' = some a → w.heap.size ≤ a.block ∨ ∃ b, p = some b ∧ a.block = b.block) (hs : SrtE es') (hl : es'.length ≤ 64) (he : ∀ x ∈ es', ArgE w x ∧ KindX w x.ys x.p x.q) :
    ∃ S', BufJ S' K es' p' c' (w2.setCell ⟨K, 0, none⟩ (.slice p' es'.length c')) ∧ Step S S' w (w2.setCell ⟨K, 0, none⟩ (.slice p' es'.length c')) := by
  have hh2 := hk.stays h.head (fun ⟨a, e, he⟩ => h.apart a e he.symm)
  have hKw := lt_of_block h.head
  have hkS : Kept S w (w2.setCell ⟨K, 0, none⟩ (.slice p' es'.length c')) := Kept.set (hk.mono fun k _ ⟨a, e, he⟩ => (h.own k).2 (Or.inr ⟨a, e, he⟩)) ((h.own K).2 (Or.inl rfl)) _
  have hne : ∀ a, p' = some a → a.block ≠ K := fun a e => by
    rcases hp a e with h1 | ⟨b, e1, e2⟩
    · omega
    · rw [e2]; exact h.apart b e1
  refine ⟨fun k => k = K ∨ ∃ a, p' = some a ∧ k = a.block, ⟨setCell_block (o := 0) hh2 _, ?_, fun k => Iff.rfl, hs, hl, fun x hx => ?_⟩, ⟨hkS, fun k hkw hk2 => ?_⟩⟩
  · rcases hr.block with ⟨e1, e2, e3⟩ | ⟨B, rest, e1, h1, h2, h3, h4⟩
    · rw [e3, e1, e2]; exact RoomE.zero _ _
    · rw [e1]
      refine RoomE.of ?_ h2 h3 h4
      exact (Below.heap_setCell w2 _ _ _ (hne _ e1)).trans h1
  · obtain ⟨h1, h2⟩ := he x hx
    exact ⟨⟨h1.into.keptX h2 h.othersX hkS, h1.small, h1.ops, h1.deps, h1.fit⟩, h2.kept h.othersX hkS⟩
  · rcases hk2 with e | ⟨a, e1, e2⟩
    · exact (h.own k).2 (Or.inl e)
    · rcases hp a e1 with h1 | ⟨b, e3, e4⟩
      · omega
      · exact (h.own k).2 (Or.inr ⟨b, e3, by rw [e2, e4]⟩)
theorem BufJ.keptT {S T : Nat → Prop} {K : Nat} {es : List EV} {p : Option Addr} {c : Nat} {w w' : World} (h : BufJ S K es p c w) (hk : Kept T w w') (hT : ∀ k, T k → ¬ S k) (hX : OthersX T w) : BufJ S K es p c w' :=
  ⟨hk.stays h.head (fun ht => hT _ ht ((h.own K).2 (Or.inl rfl))), by
    rcases h.room.block with ⟨e1, e2, e3⟩ | ⟨B, rest, e1, h1, h2, h3, h4⟩
    · rw [e3, e1, e2]; exact RoomE.zero _ _
    · rw [e1]
      exact RoomE.of (hk.stays h1 (fun ht => hT _ ht ((h.own B).2 (Or.inr ⟨_, e1, rfl⟩)))) h2 h3 h4, h.own, h.srt, h.len, fun x hx => by
    obtain ⟨h1, h2⟩ := h.each x hx
    exact ⟨⟨h1.into.keptX h2 hX hk, h1.small, h1.ops, h1.deps, h1.fit⟩, h2.kept hX hk⟩⟩
theorem without_map (es : List EV) (i : Nat) : (es.take i ++ es.drop (i + 1)).map (·.e) = withoutM (es.map (·.e)) i := by
  unfold withoutM
  rw [List.map_append, List.map_take, List.map_drop]
theorem srt_without {es : List EV} (h : SrtE es) (i : Nat) : SrtE (es.take i ++ es.drop (i + 1)) := srt_pw.2 (by
  have := (srt_pw.1 h).sublist (List.eraseIdx_sublist es i)
  rw [List.eraseIdx_eq_take_drop_succ] at this
  exact this)
set_option maxHeartbeats 6400000 in
set_option maxRecDepth 20000 in
theorem btake_any {S : Nat → Prop} {K : Nat} {l : List Em} {w : World} (h : List Vec.En) (s : Option Addr) (f : Nat) (hB : Bufr S K l w) (hH : Firm S w (fun W => Vec.Row W s h)) (hk : Known h s f) : Calls Try.prog 10 #[.pointer (some ⟨K, 0, none⟩), .slice s h.length f] w fun r w' => ∃ S', Step S S' w w' ∧ ((∃ i, readyM l h = some i ∧ Taken l i r w' ∧ Bufr S' K (withoutM l i) w') ∨ (readyM l h = none ∧ TookNone r ∧ Bufr S' K l w')) := by
  obtain ⟨es, p, c, rfl, hJ⟩ := hB
  have hl := hJ.len
  obtain ⟨W0, hW0⟩ : ∃ W0, W0 = w.alloc (.cells #[.slice none 0 0, .int .u16 0, .int .u32 0, .int .u64 0, .int .i64 0, .slice none 0 0] 36) := ⟨_, rfl⟩
  have hb0 : Below w.heap.size w W0 := by rw [hW0]; exact below_alloc (Below.refl _ _) _
  have HR0 : Hid (W0.heap[w.heap.size]? = some (.cells #[.slice none 0 0, .int .u16 0, .int .u32 0, .int .u64 0, .int .i64 0, .slice none 0 0] 36 (0, 0))) := by show _ = _; rw [hW0]; exact heap_alloc_new w _
  have HJ := Lib.hid (hJ.below hb0)
  have HB0 := Lib.hid hb0
  have HH0 := Lib.hid (hH.below hb0)
  have HLT : Hid (¬ S w.heap.size) := fun hs => by have := hJ.lt _ hs; omega
  have HK := Lib.hid hk
  have HRD : Hid (∀ k, k < es.length → ∀ W, Below W0.heap.size W0 W → Calls Try.prog 30 #[ev (es.getD k x0E).e (es.getD k x0E).p (es.getD k x0E).c (es.getD k x0E).q (es.getD k x0E).d, .slice s h.length f] W fun r w' => r = .returned (.bool (readyE (es.getD k x0E).e h)) ∧ Below W.heap.size W w') := fun k hlt W hb => by
    obtain ⟨h1, -⟩ := HJ.out.each _ (getD_mem x0E hlt)
    exact readyE_spec _ _ h _ _ s _ _ f W (h1.into.below hb) h1.small h1.fit (HH0.out.below hb).now hk.cap hk.nil hk.fits hk.right hk.len h1.deps
  have HYES : Hid (∀ i, i < es.length → (∀ j, j < i → readyE (es.getD j x0E).e h = false) → readyE (es.getD i x0E).e h = true → readyM (es.map (·.e)) h = some i) := fun i hi h1 h2 => ready_at (by rw [List.length_map]; exact hi) (fun j hj => by rw [getD_em es (by omega)]; exact h1 j hj) (by rw [getD_em es hi]; exact h2)
  have HNO : Hid ((∀ j, j < es.length → readyE (es.getD j x0E).e h = false) → readyM (es.map (·.e)) h = none) := fun h1 => ready_no (fun j hj => by rw [List.length_map] at hj; rw [getD_em es hj]; exact h1 j hj)
  unfold ev at HRD
  clear hJ hH hk hb0
  generalize hRb : w.heap.size = R at HR0 HLT
  have HRB := Lib.hid hRb
  go_enter Try.func10, Try.ntmps10
  go_wp2_with fail
  rw [← hW0]
  clear hW0 hRb
  refine wp_scope_loop 0 (fun a' w' => ∃ (k : Nat) (c7 c8 c9 c10 c11 c12 c13 c14 c15 c16 c17 c18 c19 c20 c21 c22 c23 c24 c25 c26 c27 c28 c29 c30 c31 c32 c33 c34 c35 c36 c37 c38 c39 c40 : Value), a' = { tmps := #[.pointer (some ⟨K, 0, none⟩), .slice s h.length f, undef, undef, .pointer (some ⟨R, 0, none⟩), .bool false, .int .i64 (k : Int), c7, c8, c9, c10, c11, c12, c13, c14, c15, c16, c17, c18, c19, c20, c21, c22, c23, c24, c25, c26, c27, c28, c29, c30, c31, c32, c33, c34, c35, c36, c37, c38, c39, c40], defers := [] } ∧ k ≤ es.length ∧ (∀ j, j < k → readyE (es.getD j x0E).e h = false) ∧ Below W0.heap.size W0 w') (fun a' _ => es.length - natOf (a'.tmps.getD 6 undef)) rfl ?_ ?_
  · intro hpass
    have HP := Lib.hid hpass
    clear hpass
    go_wp2_with fail
    go_step3
    rename_i KK hKK
    exact hKK _ _ (HP.out _ _ ⟨0, _, _, _, _, _, _, _, _, _, _, _, _, _, _, _, _, _, _, _, _, _, _, _, _, _, _, _, _, _, _, _, _, _, _, rfl, Nat.zero_le _, fun j hj => absurd hj (Nat.not_lt_zero _), Below.refl _ _⟩)
  · rintro a' wr ⟨k, c7, c8, c9, c10, c11, c12, c13, c14, c15, c16, c17, c18, c19, c20, c21, c22, c23, c24, c25, c26, c27, c28, c29, c30, c31, c32, c33, c34, c35, c36, c37, c38, c39, c40, rfl, hk, hno, hB⟩
    have HB := Lib.hid hB
    have HN := Lib.hid hno
    clear hB hno
    have c0 := (HJ.out.below HB.out).cell
    by_cases hlt : k < es.length
    · have hkl : (k : Int) < (es.length : Int) := by omega
      have hke : ((k : Int) == (es.length : Int)) = false := beq_no (by omega)
      have hki : ¬ (k : Int) = (es.length : Int) := by omega
      obtain ⟨o1, o2, e0', d0, d1, d2, d3, d4, d5⟩ := erow_at (HJ.out.below HB.out).row hlt
      have HRK := Lib.hid (HRD.out k hlt)
      have HJR := Lib.hid (HJ.out.below HB.out)
      have HNK : Hid (readyE (es.getD k x0E).e h = false → ∀ j, j < k + 1 → readyE (es.getD j x0E).e h = false) := fun hh j hj => by
        by_cases e : j = k
        · subst e; exact hh
        · exact HN.out j (by omega)
      have HYK : Hid (readyE (es.getD k x0E).e h = true → readyM (es.map (·.e)) h = some k) := HYES.out k hlt HN.out
      have HTK : Hid (∀ W, Kept S wr W → InE (es.getD k x0E).e (es.getD k x0E).ys (es.getD k x0E).p (es.getD k x0E).c (es.getD k x0E).q (es.getD k x0E).d W ∧ KindX W (es.getD k x0E).ys (es.getD k x0E).p (es.getD k x0E).q ∧ SmallP (es.getD k x0E).ys ∧ (es.getD k x0E).ys.length ≤ 40) := fun W hW => by
        obtain ⟨h1, h2⟩ := HJR.out.each _ (getD_mem x0E hlt)
        exact ⟨h1.into.keptX h2 HJR.out.othersX hW, h2.kept HJR.out.othersX hW, h1.small, h1.ops⟩
      have HLK : Hid ((es.map (·.e))[k]? = some (es.getD k x0E).e) := by
        show _ = _
        rw [List.getElem?_map, List.getElem?_eq_getElem hlt, List.getD_eq_getElem?_getD, List.getElem?_eq_getElem hlt]
        rfl
      have HDL : Hid (∀ W, Below wr.heap.size wr W → Calls Try.prog 31 #[.slice p es.length c, .int .i64 (k : Int), .int .i64 ((k : Int) + 1)] W fun e w' => e = .returned (.slice p (es.length - 1) c) ∧ RoomE layE w' p c (es.take k ++ es.drop (k + 1)) ∧ Kept (fun j => ∃ a, p = some a ∧ j = a.block) W w') := fun W hb => delete_any layE rfl es k p c W (by omega) hlt (HJR.out.below hb).room
      have HNX : Hid (∀ Wa w2, Below wr.heap.size wr Wa → RoomE layE w2 p c (es.take k ++ es.drop (k + 1)) → Kept (fun j => ∃ a, p = some a ∧ j = a.block) Wa w2 → w2.heap[K]? = some (.cells #[.slice p es.length c] 28 (0, 0)) ∧ ∃ S', BufJ S' K (es.take k ++ es.drop (k + 1)) p c (w2.setCell ⟨K, 0, none⟩ (.slice p (es.length - 1) c)) ∧ Step S S' Wa (w2.setCell ⟨K, 0, none⟩ (.slice p (es.length - 1) c))) := fun Wa w2 hb hr hk2 => by
        have hJa := HJR.out.below hb
        have hln : (es.take k ++ es.drop (k + 1)).length = es.length - 1 := by simp; omega
        have := hJa.next (w2 := w2) (es' := es.take k ++ es.drop (k + 1)) (p' := p) (c' := c) hr hk2 (fun a e => Or.inr ⟨a, e, rfl⟩) (srt_without hJa.srt k) (by rw [hln]; omega) (fun x hx => hJa.each x (by
          rcases List.mem_append.1 hx with hx | hx
          · exact List.mem_of_mem_take hx
          · exact List.mem_of_mem_drop hx))
        rw [hln] at this
        exact ⟨hk2.stays hJa.head (fun ⟨a, e, he⟩ => hJa.apart a e he.symm), this⟩
      generalize readyE (es.getD k x0E).e h = F at HRK HNK HYK
      generalize xdef : es.getD k x0E = X1 at d0 d1 d2 d3 d4 d5 HRK HTK HLK
      clear xdef
      obtain ⟨⟨xd, ⟨xr, xq, xc, xu, xo⟩⟩, xys, xp, xcc, xqq, xdd⟩ := X1
      simp only at d0 d1 d2 d3 d4 d5 HRK HTK HLK
      subst e0'
      have HBX : Hid (Below wr.heap.size wr (wr.alloc (.cells #[.slice xp xd.length xcc, .int .u16 xr, .int .u32 xq, .int .u64 xc, .int .i64 xu, .slice xqq xo.length xdd] 36))) := below_alloc (Below.refl _ _) _
      have HZX := Lib.hid (heap_alloc_new wr (.cells #[.slice xp xd.length xcc, .int .u16 xr, .int .u32 xq, .int .u64 xc, .int .i64 xu, .slice xqq xo.length xdd] 36))
      have HR1 := Lib.hid (kept_box HR0.out HB.out)
      go_wp2_with fail
      refine (HRK.out _ (below_step HB.out HBX.out)).mono ?_
      rintro r w5 ⟨rfl, hb5⟩
      have HB5 := Lib.hid (below_step HBX.out hb5)
      have HZ5 := Lib.hid (kept_box HZX.out hb5)
      have c1 := (HJR.out.below HB5.out).cell
      clear hb5 HRK HBX HZX d0 d1 d2 d3 d4 d5 c0 HRD HYES
      cases F with
      | false =>
        have HNN2 := Lib.hid (HNK.out rfl)
        have HBF := Lib.hid (below_step HB.out HB5.out)
        clear HTK HLK HDL HNX HYK
        go_wp2_with fail
        go_step3
        exact ⟨rfl, ⟨k + 1, _, _, _, _, _, _, _, _, _, _, _, _, _, _, _, _, _, _, _, _, _, _, _, _, _, _, _, _, _, _, _, _, _, _, by first | rfl | go_num | (simp only [Act.put, List.setIfInBounds_toArray, List.set_cons_succ, List.set_cons_zero]; go_num), by omega, HNN2.out, HBF.out⟩, by show es.length - (((k + 1 : Nat) : Int)).toNat < es.length - ((k : Nat) : Int).toNat; omega⟩
      | true =>
        have HYY := Lib.hid (HYK.out rfl)
        have HD5 := Lib.hid (HDL.out w5 HB5.out)
        have HN5 := Lib.hid (fun w2 => HNX.out w5 w2 HB5.out)
        have hRlt : R < w5.heap.size := lt_of_block (kept_box HR1.out HB5.out)
        clear HDL HNX HNK
        go_wp2_with fail
        refine HD5.out.mono ?_
        rintro r w6 ⟨rfl, hr6, hk6⟩
        obtain ⟨hh6, S', hJ7, hst⟩ := HN5.out w6 hr6 hk6
        have hSo : S o1 := (HJR.out.own o1).2 (Or.inr ⟨_, rfl, rfl⟩)
        have hSK : S K := (HJR.out.own K).2 (Or.inl rfl)
        have ho1 := HJR.out.lt _ hSo
        have hKl := HJR.out.lt _ hSK
        have hRK : R ≠ K := fun e => HLT.out (by rw [e]; exact hSK)
        have hRo : R ≠ o1 := fun e => HLT.out (by rw [e]; exact hSo)
        have hZ7 : (w6.setCell ⟨K, 0, none⟩ (.slice (some ⟨o1, o2, none⟩) (es.length - 1) c)).heap[wr.heap.size]? = some (.cells #[.slice xp xd.length xcc, .int .u16 xr, .int .u32 xq, .int .u64 xc, .int .i64 xu, .slice xqq xo.length xdd] 36 (0, 0)) :=
          (Below.heap_setCell w6 _ _ _ (show wr.heap.size ≠ K by omega)).trans (hk6.stays HZ5.out (fun ⟨a, e, he⟩ => by cases e; simp only at he; omega))
        have hR7 : (w6.setCell ⟨K, 0, none⟩ (.slice (some ⟨o1, o2, none⟩) (es.length - 1) c)).heap[R]? = some (.cells #[.slice none 0 0, .int .u16 0, .int .u32 0, .int .u64 0, .int .i64 0, .slice none 0 0] 36 (0, 0)) :=
          (Below.heap_setCell w6 _ _ _ (show R ≠ K by omega)).trans (hk6.stays (kept_box HR1.out HB5.out) (fun ⟨a, e, he⟩ => by cases e; exact hRo he))
        have d0 : w6.cell? ⟨K, 0, none⟩ = some (.slice (some ⟨o1, o2, none⟩) es.length c) := by rw [cell_of_block hh6]; rfl
        have f0 : w6.frozen? ⟨K, 0, none⟩ = false := frozen_of_block hh6
        have HF : Hid (∀ W8, Kept (fun j => j = R) (w6.setCell ⟨K, 0, none⟩ (.slice (some ⟨o1, o2, none⟩) (es.length - 1) c)) W8 → Step S S' w W8 ∧ BufJ S' K (es.take k ++ es.drop (k + 1)) (some ⟨o1, o2, none⟩) c W8 ∧ InE ⟨xd, ⟨xr, xq, xc, xu, xo⟩⟩ xys xp xcc xqq xdd W8 ∧ SmallP xys ∧ xys.length ≤ 40) := fun W8 hk8 => by
          have hX : OthersX (fun j => j = R) (w6.setCell ⟨K, 0, none⟩ (.slice (some ⟨o1, o2, none⟩) (es.length - 1) c)) := fun j hj cs t f hh => by
            rw [hj] at hh
            have h9 := hR7.symm.trans hh
            simp only [Option.some.injEq, Obj.cells.injEq] at h9
            rw [← h9.2.1]
            exact ⟨by decide, by decide, by decide⟩
          have hb5 : Below w.heap.size w w5 := below_step HB0.out (below_step HB.out HB5.out)
          obtain ⟨t1, t2, t3, t4⟩ := HTK.out _ ((Kept.ofBelow HB5.out).trans hst.kept (fun _ _ h => h))
          exact ⟨⟨((Kept.ofBelow hb5).trans hst.kept (fun _ _ h => h)).trans hk8 (fun i hi e => by rw [e, ← HRB.out] at hi; omega), fun j hj hS' => hst.new j (by have := hb5.size; omega) hS'⟩, hJ7.keptT hk8 (fun j e hS' => HLT.out (by rw [e] at hS'; exact hst.new R hRlt hS')) hX, t1.keptX t2 hX hk8, t3, t4⟩
        have HR7 := Lib.hid hR7
        obtain ⟨y0, y1, y2, y3, y4, y5⟩ := six_cells hZ7
        obtain ⟨z0, z1, z2, z3, z4, z5⟩ := six_cells hR7
        have g : ∀ o, (w6.setCell ⟨K, 0, none⟩ (.slice (some ⟨o1, o2, none⟩) (es.length - 1) c)).frozen? ⟨R, o, none⟩ = false := fun o => frozen_of_block hR7
        have g0 := g 0
        have g1 := g 1
        have g2 := g 2
        have g3 := g 3
        have g4 := g 4
        have g5 := g 5
        clear g hZ7 hR7 hJ7 hst hr6 hk6 hh6 HD5 HN5 HTK HZ5 HR1 HJR hSo hSK HH0 HJ HNO c1
        go_wp2_with fail
        simp only [Exit.jump]
        refine bodyPost_ret (results_ct (p := 4) (t := 5) (ty := 36) rfl _ _ ⟨R, 0, none⟩ (.agg #[.slice xp xd.length xcc, .int .u16 xr, .int .u32 xq, .int .u64 xc, .int .i64 xu, .slice xqq xo.length xdd]) rfl (loadEnv (box_six HR7.out) rfl)) rfl ?_
        obtain ⟨h1, h2, h3, h4, h5⟩ := HF.out _ (Kept.cells (S := fun j => j = R) rfl [.slice xp xd.length xcc, .int .u16 xr, .int .u32 xq, .int .u64 xc, .int .i64 xu, .slice xqq xo.length xdd] 0 _ _ (Kept.refl _ _))
        exact ⟨S', h1, Or.inl ⟨k, HYY.out, ⟨_, xys, xp, xcc, xqq, xdd, HLK.out, rfl, h3, h4, h5⟩, _, _, _, (without_map es k).symm, h2⟩⟩
    · have hke : k = es.length := by omega
      subst hke
      have HNN := Lib.hid (HNO.out HN.out)
      have hkn : ((es.length : Int) == (es.length : Int)) = true := by simp
      have hR1 := kept_box HR0.out HB.out
      have HF : Hid (∀ W8, Kept (fun j => j = R) wr W8 → Step S S w W8 ∧ BufJ S K es p c W8) := fun W8 hk8 => by
        have hX : OthersX (fun j => j = R) wr := fun j hj cs t f hh => by
          rw [hj] at hh
          have h9 := hR1.symm.trans hh
          simp only [Option.some.injEq, Obj.cells.injEq] at h9
          rw [← h9.2.1]
          exact ⟨by decide, by decide, by decide⟩
        exact ⟨⟨(Kept.ofBelow (below_step HB0.out HB.out)).trans hk8 (fun i hi e => by rw [e, ← HRB.out] at hi; omega), fun j _ h => h⟩, (HJ.out.below HB.out).keptT hk8 (fun j e hS' => HLT.out (by rw [e] at hS'; exact hS')) hX⟩
      have HR1 := Lib.hid hR1
      obtain ⟨z0, z1, z2, z3, z4, z5⟩ := six_cells hR1
      have g : ∀ o, wr.frozen? ⟨R, o, none⟩ = false := fun o => frozen_of_block hR1
      have g0 := g 0
      have g1 := g 1
      have g2 := g 2
      have g3 := g 3
      have g4 := g 4
      have g5 := g 5
      clear g hR1 HRD HYES HNO HJ HH0
      go_wp2_with fail
      simp only [Exit.jump]
      refine bodyPost_ret (results_ct (p := 4) (t := 5) (ty := 36) rfl _ _ ⟨R, 0, none⟩ (.agg #[.slice none 0 0, .int .u16 0, .int .u32 0, .int .u64 0, .int .i64 0, .slice none 0 0]) rfl (loadEnv (box_six HR1.out) rfl)) rfl ?_
      obtain ⟨h1, h2⟩ := HF.out _ (Kept.cells (S := fun j => j = R) rfl [.slice none 0 0, .int .u16 0, .int .u32 0, .int .u64 0, .int .i64 0, .slice none 0 0] 0 _ _ (Kept.refl _ _))
      exact ⟨S, h1, Or.inr ⟨HNN.out, ⟨⟨[], ⟨0, 0, 0, 0, []⟩⟩, none, 0, none, 0, rfl, rfl, rfl⟩, _, _, _, rfl, h2⟩⟩
end Go.Proofs.Ytjkdcpalgfakhaa
/-
  What a buffer's Put hands back and leaves; all of a buffer's calls. No conditions beyond what each theorem states.
-/
namespace Go.Proofs.Ytjkdcpalgfakhaa
open Go.ChangeShapes Go.WideShapes Go.ChangeAt Go.RowKit Go.Lib
set_option linter.unusedVariables false
set_option linter.unusedSimpArgs false

theorem filter_split {f : EV → Bool} {es : List EV} {k : Nat} (hk : k ≤ es.length) (h1 : ∀ t, t < k → f (es.getD t x0E) = true) (h2 : ∀ t, k ≤ t → t < es.length → f (es.getD t x0E) = false) : es.filter f = es.take k := by
  have e : es.filter f = (es.take k).filter f ++ (es.drop k).filter f := by rw [← List.filter_append, List.take_append_drop]
  have e1 : (es.take k).filter f = es.take k := List.filter_eq_self.2 fun x hx => by
    obtain ⟨t, ht, rfl⟩ := mem_getD x0E hx
    rw [List.length_take] at ht
    rw [List.getD_eq_getElem?_getD, List.getElem?_take, if_pos (by omega), ← List.getD_eq_getElem?_getD]
    exact h1 t (by omega)
  have e2 : (es.drop k).filter f = [] := List.filter_eq_nil_iff.2 fun x hx => by
    obtain ⟨t, ht, rfl⟩ := mem_getD x0E hx
    rw [List.length_drop] at ht
    rw [List.getD_eq_getElem?_getD, List.getElem?_drop, ← List.getD_eq_getElem?_getD, h2 (k + t) (by omega) (by omega)]
    exact Bool.false_ne_true
  rw [e, e1, e2, List.append_nil]
theorem filter_split' {f : EV → Bool} {es : List EV} {k : Nat} (hk : k ≤ es.length) (h1 : ∀ t, t < k → f (es.getD t x0E) = false) (h2 : ∀ t, k ≤ t → t < es.length → f (es.getD t x0E) = true) : es.filter f = es.drop k := by
  have e : es.filter f = (es.take k).filter f ++ (es.drop k).filter f := by rw [← List.filter_append, List.take_append_drop]
  have e1 : (es.take k).filter f = [] := List.filter_eq_nil_iff.2 fun x hx => by
    obtain ⟨t, ht, rfl⟩ := mem_getD x0E hx
    rw [List.length_take] at ht
    rw [List.getD_eq_getElem?_getD, List.getElem?_take, if_pos (by omega), ← List.getD_eq_getElem?_getD, h1 t (by omega)]
    exact Bool.false_ne_true
  have e2 : (es.drop k).filter f = es.drop k := List.filter_eq_self.2 fun x hx => by
    obtain ⟨t, ht, rfl⟩ := mem_getD x0E hx
    rw [List.length_drop] at ht
    rw [List.getD_eq_getElem?_getD, List.getElem?_drop, ← List.getD_eq_getElem?_getD]
    exact h2 (k + t) (by omega) (by omega)
  rw [e, e1, e2, List.nil_append]
theorem PlaceE.unlike {es : List EV} {e : Em} {k : Nat} (h : PlaceE es e k) (hn : hasM (es.map (·.e)) e = false) {t : Nat} (ht : t < es.length) : ¬ ((es.getD t x0E).e.txn.r = e.txn.r ∧ (es.getD t x0E).e.txn.seq = e.txn.seq) := fun hh => by
  have := hasM_iff.2 ⟨(es.getD t x0E).e, List.mem_map.2 ⟨_, getD_mem x0E ht, rfl⟩, hh⟩
  rw [hn] at this; cases this
/-- Put in at its place, it comes where the document's list has it. -/
theorem PlaceE.put {es : List EV} {x : EV} {k : Nat} (h : PlaceE es x.e k) (hs : SrtE es) (hn : hasM (es.map (·.e)) x.e = false) : (es.take k ++ [x] ++ es.drop k).map (·.e) = putM (es.map (·.e)) x.e ∧ SrtE (es.take k ++ [x] ++ es.drop k) := by
  have hlow : ∀ t, t < k → aheadM (es.getD t x0E).e x.e = true := fun t ht => lowE_false.1 (h.low t ht)
  have hhigh : ∀ t, k ≤ t → t < es.length → aheadM x.e (es.getD t x0E).e = true := fun t h1 h2 => by
    have a := lowE_true.1 (h.high t h1 h2)
    have b := h.unlike hn h2
    rw [aheadM_iff] at a ⊢
    omega
  have anti : ∀ {a b : Em}, aheadM a b = true → aheadM b a = false := fun {a b} hab => by
    cases hc : aheadM b a with
    | false => rfl
    | true => rw [aheadM_iff] at hab hc; omega
  have e1 := filter_split (f := fun y => aheadM y.e x.e) h.le hlow (fun t h1 h2 => anti (hhigh t h1 h2))
  have e2 := filter_split' (f := fun y => aheadM x.e y.e) h.le (fun t ht => anti (hlow t ht)) hhigh
  refine ⟨?_, srt_pw.2 ?_⟩
  · unfold putM
    rw [List.map_append, List.map_append, ← e1, ← e2, List.filter_map, List.filter_map]
    rfl
  · have hp := srt_pw.1 hs
    unfold PwE at hp ⊢
    rw [← List.take_append_drop k es, List.pairwise_append] at hp
    obtain ⟨p1, p2, p3⟩ := hp
    have mt : ∀ y ∈ es.take k, aheadM y.e x.e = true := fun y hy => by rw [← e1] at hy; exact (List.mem_filter.1 hy).2
    have md : ∀ y ∈ es.drop k, aheadM x.e y.e = true := fun y hy => by rw [← e2] at hy; exact (List.mem_filter.1 hy).2
    refine List.pairwise_append.2 ⟨List.pairwise_append.2 ⟨p1, List.pairwise_singleton _ _, fun y hy z hz => by rw [List.mem_singleton.1 hz]; exact mt y hy⟩, p2, fun y hy z hz => ?_⟩
    rcases List.mem_append.1 hy with hy | hy
    · exact p3 y hy z hz
    · rw [List.mem_singleton.1 hy]; exact md z hz
set_option maxHeartbeats 3200000 in
set_option maxRecDepth 20000 in
theorem put_any {S : Nat → Prop} {K : Nat} {l : List Em} {w : World} (e : Em) (xs : List OV) (p : Option Addr) (c : Nat) (q : Option Addr) (d : Nat) (hB : Bufr S K l w) (hF : Firm S w (InE e xs p c q d)) (hS : SmallP xs) (hxl : xs.length ≤ 40) (hd : e.deps.length ≤ 100) (hfit : fitE e = 0) : Calls Try.prog 8 #[.pointer (some ⟨K, 0, none⟩), ev e p c q d] w fun r w' => r = .returned (.tuple #[.bool (putOK l e), .int .i64 (putErr l e)]) ∧ ∃ S', Bufr S' K (putL l e) w' ∧ Step S S' w w' := by
  obtain ⟨es, pp, cc, rfl, hJ⟩ := hB
  have hl := hJ.len
  have HJ := Lib.hid hJ
  have HI := Lib.hid hF.now
  have HIDA : Hid (∀ a b c d p l n W, Calls Try.prog 16 #[.agg #[.int .u16 a, .int .u32 b, .int .u64 c, .int .i64 d, .slice p l n]] W fun r w' => r = .returned (.agg #[.int .u16 a, .int .u32 b]) ∧ Below W.heap.size W w') := fun a b c d p l n W => by
    have := idT_spec ⟨a, b, c, d, List.replicate l ⟨0, 0, 0, 0, [], [], 0⟩⟩ p n W
    unfold tv at this
    simp only [List.length_replicate] at this
    exact this
  have HFD : Hid (∀ W, Below w.heap.size w W → Calls Try.prog 27 #[.pointer (some ⟨K, 0, none⟩), .agg #[.int .u16 e.txn.r, .int .u32 e.txn.seq]] W fun r w' => ∃ k : Nat, r = .returned (.tuple #[.int .i64 (k : Int), .bool (hasM (es.map (·.e)) e)]) ∧ PlaceE es e k ∧ Below W.heap.size W w') := fun W hb => find_any es e K pp cc W hJ.srt (hJ.below hb).head (hJ.below hb).row (by omega)
  have HOW : Hid (∀ W, Below w.heap.size w W → Calls Try.prog 29 #[ev e p c q d] W (OwnX e xs W)) := fun W hb => own_any e xs p q c d W (HI.out.below hb) hS hxl hd
  have HSAME : Hid (∀ W, Below w.heap.size w W → ∃ S', Bufr S' K (es.map (·.e)) W ∧ Step S S' w W) := fun W hb => ⟨S, ⟨es, pp, cc, rfl, hJ.below hb⟩, ⟨Kept.ofBelow hb, fun k _ h => h⟩⟩
  have HNX : Hid (hasM (es.map (·.e)) e = false → es.length < 64 → ∀ k W1 W2 (x : EV) p' c', PlaceE es e k → x.e = e → Below w.heap.size w W1 → ArgE W1 x → KindX W1 x.ys x.p x.q → Inserted layE pp (es.take k ++ [x] ++ es.drop k) W1 (.returned (.slice p' (es.length + 1) c')) W2 → W2.heap[K]? = some (.cells #[.slice pp es.length cc] 28 (0, 0)) ∧ ∃ S', Bufr S' K (putL (es.map (·.e)) e) (W2.setCell ⟨K, 0, none⟩ (.slice p' (es.length + 1) c')) ∧ Step S S' w (W2.setCell ⟨K, 0, none⟩ (.slice p' (es.length + 1) c'))) := fun hn hlt k W1 W2 x p' c' hpl hxe hb hA hX hI => by
    have hJ1 := hJ.below hb
    have hln : (es.take k ++ [x] ++ es.drop k).length = es.length + 1 := by simp; omega
    obtain ⟨p2, c2, e1, h1, h2, h3⟩ := hI
    rw [hln] at e1
    simp only [Ending.returned.injEq, Value.slice.injEq] at e1
    obtain ⟨rfl, -, rfl⟩ := e1
    obtain ⟨m1, m2⟩ := PlaceE.put (x := x) (by rw [hxe]; exact hpl) hJ1.srt (by rw [hxe]; exact hn)
    obtain ⟨S', hJ2, hst⟩ := hJ1.next (w2 := W2) (es' := es.take k ++ [x] ++ es.drop k) h1 h2 h3 m2 (by omega) (fun y hy => by
      rcases List.mem_append.1 hy with hy | hy
      · rcases List.mem_append.1 hy with hy | hy
        · exact hJ1.each y (List.mem_of_mem_take hy)
        · rw [List.mem_singleton.1 hy]; exact ⟨hA, hX⟩
      · exact hJ1.each y (List.mem_of_mem_drop hy))
    rw [hln] at hJ2 hst
    refine ⟨h2.stays hJ1.head (fun ⟨a, e, he⟩ => hJ1.apart a e he.symm), S', ⟨_, _, _, ?_, hJ2⟩, ⟨(Kept.ofBelow hb).trans hst.kept (fun _ _ h => h), fun j hj hS' => hst.new j (by have := hb.size; omega) hS'⟩⟩
    rw [m1, hxe]
    unfold putL putOK
    have : decide (64 ≤ (es.map (·.e)).length) = false := decide_eq_false (by rw [List.length_map]; omega)
    rw [hn, this]
    rfl
  have HPB : Hid (∀ a, pp = some a → a.block < w.heap.size) := fun a e => hJ.lt _ ((hJ.own a.block).2 (Or.inr ⟨a, e, rfl⟩))
  have HIN : Hid (∀ k W x V, k ≤ es.length → Below w.heap.size w W → W.heap[V]? = some (.cells (layE.enc x).toArray 36 (0, 0)) → w.heap.size ≤ V → Calls Try.prog 28 #[.slice pp es.length cc, .int .i64 (k : Int), .slice (some ⟨V, 0, none⟩) 1 1] W fun r w' => ∃ p' c', r = .returned (.slice p' (es.length + 1) c') ∧ Inserted layE pp (es.take k ++ [x] ++ es.drop k) W (.returned (.slice p' (es.length + 1) c')) w') := fun k W x V hk hb hV hVw => (insert_any layE rfl es x k pp cc V W (by omega) hk (hJ.below hb).room hV (fun a e he => by
    have := HPB.out a e
    omega)).mono (by
    rintro r w' hi
    obtain ⟨p', c', e1, h1⟩ := hi
    have hln : (es.take k ++ [x] ++ es.drop k).length = es.length + 1 := by simp; omega
    have e2 := e1
    rw [hln] at e2
    exact ⟨p', c', e2, by rw [← e2, e1]; exact ⟨p', c', rfl, h1⟩⟩)
  have HOK : Hid (∀ b, hasM (es.map (·.e)) e = b → putOK (es.map (·.e)) e = (!b && decide (es.length < 64)) ∧ putErr (es.map (·.e)) e = (if b = false ∧ 64 ≤ es.length then 21 else 0) ∧ (b = true ∨ 64 ≤ es.length → putL (es.map (·.e)) e = es.map (·.e))) := fun b hb => by
    unfold putL putOK putErr
    rw [hb, List.length_map]
    refine ⟨?_, rfl, fun h => ?_⟩
    · cases b with
      | true => rfl
      | false =>
        by_cases h64 : 64 ≤ es.length
        · rw [decide_eq_true h64, decide_eq_false (show ¬ es.length < 64 by omega)]; rfl
        · rw [decide_eq_false h64, decide_eq_true (show es.length < 64 by omega)]; rfl
    · rw [if_neg]
      rcases h with rfl | h
      · simp
      · rw [decide_eq_true h]; simp
  have c0 := hJ.cell
  generalize hHM : hasM (es.map (·.e)) e = HM at HFD HNX HOK
  clear hHM hJ hF
  have HOK2 := Lib.hid (HOK.out HM rfl)
  clear HOK
  generalize putOK (es.map (·.e)) e = OKV at HOK2 ⊢
  generalize putErr (es.map (·.e)) e = ERV at HOK2 ⊢
  generalize putL (es.map (·.e)) e = PL at HOK2 HNX ⊢
  unfold ev at HOW ⊢
  have hb0 : Below w.heap.size w (w.alloc (.cells #[.slice p e.deps.length c, .int .u16 e.txn.r, .int .u32 e.txn.seq, .int .u64 e.txn.clock, .int .i64 e.txn.user, .slice q e.txn.ops.length d] 36)) := below_alloc (Below.refl _ _) _
  have HB0 := Lib.hid hb0
  have HX0 := Lib.hid (heap_alloc_new w (.cells #[.slice p e.deps.length c, .int .u16 e.txn.r, .int .u32 e.txn.seq, .int .u64 e.txn.clock, .int .i64 e.txn.user, .slice q e.txn.ops.length d] 36))
  clear hb0 c0
  go_enter Try.func8, Try.ntmps8
  go_wp2_with fail
  generalize (w.alloc (.cells #[.slice p e.deps.length c, .int .u16 e.txn.r, .int .u32 e.txn.seq, .int .u64 e.txn.clock, .int .i64 e.txn.user, .slice q e.txn.ops.length d] 36)) = w0 at HB0 HX0 ⊢
  refine (HIDA.out _ _ _ _ _ _ _ w0).mono ?_
  rintro r w1 ⟨rfl, hb1⟩
  have HB1 := Lib.hid (below_step HB0.out hb1)
  have HX1 := Lib.hid (kept_box HX0.out hb1)
  clear hb1 HB0 HX0 HIDA
  go_wp2_with fail
  refine (HFD.out w1 HB1.out).mono ?_
  rintro r w2 ⟨k, rfl, hpl, hb2⟩
  have HB2 := Lib.hid (below_step HB1.out hb2)
  have HX2 := Lib.hid (kept_box HX1.out hb2)
  have HPL := Lib.hid hpl
  have c0 := (HJ.out.below HB2.out).cell
  clear hpl hb2 HB1 HX1 HFD
  cases HM with
  | true =>
    obtain ⟨o1, o2, o3⟩ := HOK2.out
    have o3 := o3 (Or.inl (by first | rfl | trivial))
    have HSM := Lib.hid (HSAME.out w2 HB2.out)
    have O : Hid (OKV = false ∧ ERV = 0 ∧ PL = es.map (·.e)) := ⟨by simpa using o1, by simpa using o2, o3⟩
    clear o1 o2 o3 HOK2 HNX HIN HSAME HOW
    go_wp2
    go_ret2
    rw [O.out.1, O.out.2.1, O.out.2.2]
    exact ⟨rfl, HSM.out⟩
  | false =>
    by_cases h64 : 64 ≤ es.length
    · have hd1 : (64 : Int) ≤ (es.length : Int) := by omega
      have hd2 : decide ((64 : Int) ≤ (es.length : Int)) = true := decide_eq_true hd1
      obtain ⟨o1, o2, o3⟩ := HOK2.out
      have o3 := o3 (Or.inr h64)
      have HSM := Lib.hid (HSAME.out w2 HB2.out)
      have O : Hid (OKV = false ∧ ERV = 21 ∧ PL = es.map (·.e)) := ⟨by rw [o1, decide_eq_false (show ¬ es.length < 64 by omega)]; rfl, by rw [o2]; simp [h64], o3⟩
      clear o1 o2 o3 HOK2 HNX HIN HSAME HOW
      go_wp2
      go_ret2
      rw [O.out.1, O.out.2.1, O.out.2.2]
      exact ⟨rfl, HSM.out⟩
    · have hd1 : ¬ (64 : Int) ≤ (es.length : Int) := by omega
      have hd2 : decide ((64 : Int) ≤ (es.length : Int)) = false := decide_eq_false hd1
      obtain ⟨o1, o2, -⟩ := HOK2.out
      have O : Hid (OKV = true ∧ ERV = 0) := ⟨by rw [o1, decide_eq_true (show es.length < 64 by omega)]; rfl, by rw [o2]; simp [h64]⟩
      have HN := Lib.hid (HNX.out (by first | rfl | trivial) (by omega))
      clear o1 o2 HOK2 HNX HSAME
      go_wp2_with fail
      refine wp_region_mix (C := fun W => W.cell? ⟨K, 0, none⟩ = some (.slice pp es.length cc) ∧ W.heap[w.heap.size]? = some (.cells #[.slice p e.deps.length c, .int .u16 e.txn.r, .int .u32 e.txn.seq, .int .u64 e.txn.clock, .int .i64 e.txn.user, .slice q e.txn.ops.length d] 36 (0, 0))) [0, 1, 2, 3, 4, 5, 6] [7, 8, 9] [10, 11, 12] (by kernel_rfl) (by kernel_rfl) (fun _ _ d _ _ h => by cases d <;> exact h) ⟨c0, HX2.out⟩ ?_
      simp only [pickOps, List.filterMap_cons, List.filterMap_nil, List.getElem?_cons_zero, List.getElem?_cons_succ]
      refine wpQuiet_step (fun K' hK' => ?_)
      rw [if_pos (by simp [Region.wanted])]
      refine ⟨.pointer (some ⟨K, 0, none⟩), fun wx hC => ?_, ?_⟩
      · obtain ⟨q0, q1⟩ := hC
        obtain ⟨y0, y1, y2, y3, y4, y5⟩ := six_cells q1
        go_simp
      go_simp
      refine hK' _ ?_
      clear hK' K'
      refine wpQuiet_step (fun K' hK' => ?_)
      rw [if_pos (by simp [Region.wanted])]
      refine ⟨.pointer (some ⟨K, 0, none⟩), fun wx hC => ?_, ?_⟩
      · obtain ⟨q0, q1⟩ := hC
        obtain ⟨y0, y1, y2, y3, y4, y5⟩ := six_cells q1
        go_simp
      go_simp
      refine hK' _ ?_
      clear hK' K'
      refine wpQuiet_step (fun K' hK' => ?_)
      rw [if_pos (by simp [Region.wanted])]
      refine ⟨.pointer (some ⟨K, 0, none⟩), fun wx hC => ?_, ?_⟩
      · obtain ⟨q0, q1⟩ := hC
        obtain ⟨y0, y1, y2, y3, y4, y5⟩ := six_cells q1
        go_simp
      go_simp
      refine hK' _ ?_
      clear hK' K'
      refine wpQuiet_step (fun K' hK' => ?_)
      rw [if_pos (by simp [Region.wanted])]
      refine ⟨.pointer (some ⟨K, 0, none⟩), fun wx hC => ?_, ?_⟩
      · obtain ⟨q0, q1⟩ := hC
        obtain ⟨y0, y1, y2, y3, y4, y5⟩ := six_cells q1
        go_simp
      go_simp
      refine hK' _ ?_
      clear hK' K'
      refine wpQuiet_step (fun K' hK' => ?_)
      rw [if_pos (by simp [Region.wanted])]
      refine ⟨.slice pp es.length cc, fun wx hC => ?_, ?_⟩
      · obtain ⟨q0, q1⟩ := hC
        obtain ⟨y0, y1, y2, y3, y4, y5⟩ := six_cells q1
        go_simp
      go_simp
      refine hK' _ ?_
      clear hK' K'
      refine wpQuiet_step (fun K' hK' => ?_)
      rw [if_pos (by simp [Region.wanted])]
      refine ⟨.int .i64 (k : Int), fun wx hC => ?_, ?_⟩
      · obtain ⟨q0, q1⟩ := hC
        obtain ⟨y0, y1, y2, y3, y4, y5⟩ := six_cells q1
        go_simp
      go_simp
      refine hK' _ ?_
      clear hK' K'
      refine wpQuiet_step (fun K' hK' => ?_)
      rw [if_pos (by simp [Region.wanted])]
      refine ⟨.agg #[.slice p e.deps.length c, .int .u16 e.txn.r, .int .u32 e.txn.seq, .int .u64 e.txn.clock, .int .i64 e.txn.user, .slice q e.txn.ops.length d], fun wx hC => ?_, ?_⟩
      · obtain ⟨q0, q1⟩ := hC
        obtain ⟨y0, y1, y2, y3, y4, y5⟩ := six_cells q1
        go_simp
      go_simp
      refine hK' _ ?_
      clear hK' K'
      refine wpQuiet_nil ?_
      refine seqM_step fun KK hK => ?_
      go_wp2_with fail
      refine (HOW.out _ (below_step HB2.out (by first | exact Below.refl _ _ | exact (Below.refl _ _).drew))).mono ?_
      rintro r w4 ⟨ys, p1, c1, q1, d1, he, hI1, hS1, hl1, hX1, hb1⟩
      unfold ev at he
      subst he
      have HB4 : Hid (Below w2.heap.size w2 w4) := by first | exact hb1 | exact below_of_drew hb1
      have HA4 : Hid (ArgE w4 ⟨e, ys, p1, c1, q1, d1⟩ ∧ KindX w4 ys p1 q1) := ⟨⟨hI1, hS1, by rw [hl1]; exact hxl, hd, hfit⟩, hX1⟩
      clear hI1 hS1 hl1 hX1 hb1 HOW
      go_wp2_with fail
      refine hK _ _ ⟨(HJ.out.below (below_step HB2.out HB4.out)).cell, kept_box HX2.out HB4.out⟩ ?_
      clear hK KK
      refine seqM_step fun KK hK => ?_
      go_wp2_with fail
      have hb5 : Below w4.heap.size w4 (w4.alloc (.cells #[.slice p1 e.deps.length c1, .int .u16 e.txn.r, .int .u32 e.txn.seq, .int .u64 e.txn.clock, .int .i64 e.txn.user, .slice q1 e.txn.ops.length d1] 36)) := below_alloc (Below.refl _ _) _
      have hbw5 := below_step (below_step HB2.out HB4.out) hb5
      have hV5 := heap_alloc_new w4 (.cells #[.slice p1 e.deps.length c1, .int .u16 e.txn.r, .int .u32 e.txn.seq, .int .u64 e.txn.clock, .int .i64 e.txn.user, .slice q1 e.txn.ops.length d1] 36)
      refine hK _ _ ⟨(HJ.out.below hbw5).cell, kept_box HX2.out (below_step HB4.out hb5)⟩ ?_
      clear hK KK
      have HI5 := Lib.hid (HIN.out k _ ⟨e, ys, p1, c1, q1, d1⟩ w4.heap.size HPL.out.le hbw5 hV5 (below_step HB2.out HB4.out).size)
      have HA5 : Hid (ArgE (w4.alloc (.cells #[.slice p1 e.deps.length c1, .int .u16 e.txn.r, .int .u32 e.txn.seq, .int .u64 e.txn.clock, .int .i64 e.txn.user, .slice q1 e.txn.ops.length d1] 36)) ⟨e, ys, p1, c1, q1, d1⟩ ∧ KindX (w4.alloc (.cells #[.slice p1 e.deps.length c1, .int .u16 e.txn.r, .int .u32 e.txn.seq, .int .u64 e.txn.clock, .int .i64 e.txn.user, .slice q1 e.txn.ops.length d1] 36)) ys p1 q1) := ⟨HA4.out.1.below hb5, HA4.out.2.below hb5⟩
      have HBW5 := Lib.hid hbw5
      have HX5 := Lib.hid (kept_box HX2.out (below_step HB4.out hb5))
      have hWlt : w.heap.size ≤ w4.heap.size := (below_step HB2.out HB4.out).size
      clear hb5 hbw5 hV5 HA4 HIN HB4 HX2 HB2
      generalize w4.alloc (.cells #[.slice p1 e.deps.length c1, .int .u16 e.txn.r, .int .u32 e.txn.seq, .int .u64 e.txn.clock, .int .i64 e.txn.user, .slice q1 e.txn.ops.length d1] 36) = w5 at HI5 HA5 HBW5 HX5 ⊢
      refine seqM_step fun KK hK => ?_
      go_wp2_with fail
      refine HI5.out.mono ?_
      rintro r w6 ⟨p', c', rfl, hi6⟩
      obtain ⟨hh6, hfin⟩ := HN.out k w5 w6 ⟨e, ys, p1, c1, q1, d1⟩ p' c' HPL.out rfl HBW5.out HA5.out.1 HA5.out.2 hi6
      have hX6 : w6.heap[w.heap.size]? = some (.cells #[.slice p e.deps.length c, .int .u16 e.txn.r, .int .u32 e.txn.seq, .int .u64 e.txn.clock, .int .i64 e.txn.user, .slice q e.txn.ops.length d] 36 (0, 0)) := by
        obtain ⟨-, -, -, -, hk6, -⟩ := hi6
        exact hk6.stays HX5.out (fun ⟨a, e, he⟩ => by have := HPB.out a e; omega)
      have d0 : w6.cell? ⟨K, 0, none⟩ = some (.slice pp es.length cc) := by rw [cell_of_block hh6]; rfl
      have f0 : w6.frozen? ⟨K, 0, none⟩ = false := frozen_of_block hh6
      have HFI := Lib.hid hfin
      clear hfin hi6 hh6 HI5 HA5 HN
      go_wp2_with fail
      refine hK _ _ ⟨d0, hX6⟩ ?_
      clear hK KK hX6 HX5
      refine seqM_nil ?_
      go_wp2_with fail
      go_ret2
      rw [O.out.1, O.out.2]
      exact ⟨rfl, HFI.out⟩
theorem buf_spec : BufSpec Bufr where
  below := fun S K l w w' ⟨es, p, c, e, h⟩ hb => ⟨es, p, c, e, h.below hb⟩
  others := fun S K l w ⟨es, p, c, e, h⟩ => h.others
  lt := fun S K l w ⟨es, p, c, e, h⟩ => h.lt
  zero := fun w => ⟨fun k => k = w.heap.size, ⟨[], none, 0, rfl, ⟨heap_alloc_new w _, RoomE.zero _ _, fun k => ⟨fun h => Or.inl h, fun h => by
    rcases h with h | ⟨a, e, -⟩
    · exact h
    · cases e⟩, fun i j _ h => by simp at h, by simp, fun x hx => by cases hx⟩⟩, fun k hk => by rw [hk]; exact Nat.le_refl _⟩
  len := fun S K l w h => len_any h
  put := fun S K l w e xs p c q d h1 h2 h3 h4 h5 h6 => put_any e xs p c q d h1 h2 h3 h4 h5 h6
  take := fun S K l w h s f h1 h2 h3 => btake_any h s f h1 h2 h3
  drop := fun S K l w h s f h1 h2 h3 => drop_any h s f h1 h2 h3
  names := fun S K l w h => bnames_any h
  wants := fun S K l w h s f h1 h2 h3 => bwants_any h s f h1 h2 h3
end Go.Proofs.Ytjkdcpalgfakhaa
