/-
  Several texts of one proof, joined: each part says at its head what it proves. No conditions beyond what each theorem states.
-/
import Derived.Test.YtjkdcpalgfakhaaGreatZ19
/-
  What a buffer's Put hands back and leaves; all of a buffer's calls. No conditions beyond what each theorem states.
-/
namespace Go.Proofs.YtjkdcpalgfakhaaGreat
open Go.ChangeShapes Go.WideShapes Go.ChangeAt Go.RowKit Go.Lib
set_option linter.unusedVariables false
set_option linter.unusedSimpArgs false

theorem filter_split {f : EV → Bool} {es : List EV} {k : Nat} (hk : k ≤ es.length) (h1 : ∀ t, t < k → f (es.getD t x0E) = true) (h2 : ∀ t, k ≤ t → t < es.length → f (es.getD t x0E) = false) : es.filter f = es.take k := by
  have e : es.filter f = (es.take k).filter f ++ (es.drop k).filter f := by rw [← List.filter_append, List.take_append_drop]
  have e1 : (es.take k).filter f = es.take k := List.filter_eq_self.2 fun x hx => by
    obtain ⟨t, ht, rfl⟩ := mem_getD x0E hx
    rw [List.length_take] at ht
    rw [List.getD_eq_getElem?_getD, List.getElem?_take, if_pos (by omega), ← List.getD_eq_getElem?_getD]
    exact h1 t (by omega)
  have e2 : (es.drop k).filter f = [] := List.filter_eq_nil_iff.2 fun x hx => by
    obtain ⟨t, ht, rfl⟩ := mem_getD x0E hx
    rw [List.length_drop] at ht
    rw [List.getD_eq_getElem?_getD, List.getElem?_drop, ← List.getD_eq_getElem?_getD, h2 (k + t) (by omega) (by omega)]
    exact Bool.false_ne_true
  rw [e, e1, e2, List.append_nil]
theorem filter_split' {f : EV → Bool} {es : List EV} {k : Nat} (hk : k ≤ es.length) (h1 : ∀ t, t < k → f (es.getD t x0E) = false) (h2 : ∀ t, k ≤ t → t < es.length → f (es.getD t x0E) = true) : es.filter f = es.drop k := by
  have e : es.filter f = (es.take k).filter f ++ (es.drop k).filter f := by rw [← List.filter_append, List.take_append_drop]
  have e1 : (es.take k).filter f = [] := List.filter_eq_nil_iff.2 fun x hx => by
    obtain ⟨t, ht, rfl⟩ := mem_getD x0E hx
    rw [List.length_take] at ht
    rw [List.getD_eq_getElem?_getD, List.getElem?_take, if_pos (by omega), ← List.getD_eq_getElem?_getD, h1 t (by omega)]
    exact Bool.false_ne_true
  have e2 : (es.drop k).filter f = es.drop k := List.filter_eq_self.2 fun x hx => by
    obtain ⟨t, ht, rfl⟩ := mem_getD x0E hx
    rw [List.length_drop] at ht
    rw [List.getD_eq_getElem?_getD, List.getElem?_drop, ← List.getD_eq_getElem?_getD]
    exact h2 (k + t) (by omega) (by omega)
  rw [e, e1, e2, List.nil_append]
theorem PlaceE.unlike {es : List EV} {e : Em} {k : Nat} (h : PlaceE es e k) (hn : hasM (es.map (·.e)) e = false) {t : Nat} (ht : t < es.length) : ¬ ((es.getD t x0E).e.txn.r = e.txn.r ∧ (es.getD t x0E).e.txn.seq = e.txn.seq) := fun hh => by
  have := hasM_iff.2 ⟨(es.getD t x0E).e, List.mem_map.2 ⟨_, getD_mem x0E ht, rfl⟩, hh⟩
  rw [hn] at this; cases this
/-- Put in at its place, it comes where the document's list has it. -/
theorem PlaceE.put {es : List EV} {x : EV} {k : Nat} (h : PlaceE es x.e k) (hs : SrtE es) (hn : hasM (es.map (·.e)) x.e = false) : (es.take k ++ [x] ++ es.drop k).map (·.e) = putM (es.map (·.e)) x.e ∧ SrtE (es.take k ++ [x] ++ es.drop k) := by
  have hlow : ∀ t, t < k → aheadM (es.getD t x0E).e x.e = true := fun t ht => lowE_false.1 (h.low t ht)
  have hhigh : ∀ t, k ≤ t → t < es.length → aheadM x.e (es.getD t x0E).e = true := fun t h1 h2 => by
    have a := lowE_true.1 (h.high t h1 h2)
    have b := h.unlike hn h2
    rw [aheadM_iff] at a ⊢
    omega
  have anti : ∀ {a b : Em}, aheadM a b = true → aheadM b a = false := fun {a b} hab => by
    cases hc : aheadM b a with
    | false => rfl
    | true => rw [aheadM_iff] at hab hc; omega
  have e1 := filter_split (f := fun y => aheadM y.e x.e) h.le hlow (fun t h1 h2 => anti (hhigh t h1 h2))
  have e2 := filter_split' (f := fun y => aheadM x.e y.e) h.le (fun t ht => anti (hlow t ht)) hhigh
  refine ⟨?_, srt_pw.2 ?_⟩
  · unfold putM
    rw [List.map_append, List.map_append, ← e1, ← e2, List.filter_map, List.filter_map]
    rfl
  · have hp := srt_pw.1 hs
    unfold PwE at hp ⊢
    rw [← List.take_append_drop k es, List.pairwise_append] at hp
    obtain ⟨p1, p2, p3⟩ := hp
    have mt : ∀ y ∈ es.take k, aheadM y.e x.e = true := fun y hy => by rw [← e1] at hy; exact (List.mem_filter.1 hy).2
    have md : ∀ y ∈ es.drop k, aheadM x.e y.e = true := fun y hy => by rw [← e2] at hy; exact (List.mem_filter.1 hy).2
    refine List.pairwise_append.2 ⟨List.pairwise_append.2 ⟨p1, List.pairwise_singleton _ _, fun y hy z hz => by rw [List.mem_singleton.1 hz]; exact mt y hy⟩, p2, fun y hy z hz => ?_⟩
    rcases List.mem_append.1 hy with hy | hy
    · exact p3 y hy z hz
    · rw [List.mem_singleton.1 hy]; exact md z hz
set_option maxHeartbeats 3200000 in
set_option maxRecDepth 20000 in
theorem put_any {S : Nat → Prop} {K : Nat} {l : List Em} {w : World} (e : Em) (xs : List OV) (p : Option Addr) (c : Nat) (q : Option Addr) (d : Nat) (hB : Bufr S K l w) (hF : Firm S w (InE e xs p c q d)) (hS : SmallP xs) (hxl : xs.length ≤ 40) (hd : e.deps.length ≤ 100) (hfit : fitE e = 0) : Calls Tryz.prog 9 #[.pointer (some ⟨K, 0, none⟩), ev e p c q d] w fun r w' => r = .returned (.tuple #[.bool (putOK l e), .int .i64 (putErr l e)]) ∧ ∃ S', Bufr S' K (putL l e) w' ∧ Step S S' w w' := by
  obtain ⟨es, pp, cc, rfl, hJ⟩ := hB
  have hl := hJ.len
  have HJ := Lib.hid hJ
  have HI := Lib.hid hF.now
  have HIDA : Hid (∀ a b c d p l n W, Calls Tryz.prog 26 #[.agg #[.int .u16 a, .int .u32 b, .int .u64 c, .int .i64 d, .slice p l n]] W fun r w' => r = .returned (.agg #[.int .u16 a, .int .u32 b]) ∧ Below W.heap.size W w') := fun a b c d p l n W => by
    have := idT_spec ⟨a, b, c, d, List.replicate l ⟨0, 0, 0, 0, [], [], 0⟩⟩ p n W
    unfold tv at this
    simp only [List.length_replicate] at this
    exact this
  have HFD : Hid (∀ W, Below w.heap.size w W → Calls Tryz.prog 25 #[.pointer (some ⟨K, 0, none⟩), .agg #[.int .u16 e.txn.r, .int .u32 e.txn.seq]] W fun r w' => ∃ k : Nat, r = .returned (.tuple #[.int .i64 (k : Int), .bool (hasM (es.map (·.e)) e)]) ∧ PlaceE es e k ∧ Below W.heap.size W w') := fun W hb => find_any es e K pp cc W hJ.srt (hJ.below hb).head (hJ.below hb).row (by omega)
  have HOW : Hid (∀ W, Below w.heap.size w W → Calls Tryz.prog 28 #[ev e p c q d] W (OwnX e xs W)) := fun W hb => own_any e xs p q c d W (HI.out.below hb) hS hxl hd
  have HSAME : Hid (∀ W, Below w.heap.size w W → ∃ S', Bufr S' K (es.map (·.e)) W ∧ Step S S' w W) := fun W hb => ⟨S, ⟨es, pp, cc, rfl, hJ.below hb⟩, ⟨Kept.ofBelow hb, fun k _ h => h⟩⟩
  have HNX : Hid (hasM (es.map (·.e)) e = false → es.length < 64 → ∀ k W1 W2 (x : EV) p' c', PlaceE es e k → x.e = e → Below w.heap.size w W1 → ArgE W1 x → KindX W1 x.ys x.p x.q → Inserted layE pp (es.take k ++ [x] ++ es.drop k) W1 (.returned (.slice p' (es.length + 1) c')) W2 → W2.heap[K]? = some (.cells #[.slice pp es.length cc] 29 (0, 0)) ∧ ∃ S', Bufr S' K (putL (es.map (·.e)) e) (W2.setCell ⟨K, 0, none⟩ (.slice p' (es.length + 1) c')) ∧ Step S S' w (W2.setCell ⟨K, 0, none⟩ (.slice p' (es.length + 1) c'))) := fun hn hlt k W1 W2 x p' c' hpl hxe hb hA hX hI => by
    have hJ1 := hJ.below hb
    have hln : (es.take k ++ [x] ++ es.drop k).length = es.length + 1 := by simp; omega
    obtain ⟨p2, c2, e1, h1, h2, h3⟩ := hI
    rw [hln] at e1
    simp only [Ending.returned.injEq, Value.slice.injEq] at e1
    obtain ⟨rfl, -, rfl⟩ := e1
    obtain ⟨m1, m2⟩ := PlaceE.put (x := x) (by rw [hxe]; exact hpl) hJ1.srt (by rw [hxe]; exact hn)
    obtain ⟨S', hJ2, hst⟩ := hJ1.next (w2 := W2) (es' := es.take k ++ [x] ++ es.drop k) h1 h2 h3 m2 (by omega) (fun y hy => by
      rcases List.mem_append.1 hy with hy | hy
      · rcases List.mem_append.1 hy with hy | hy
        · exact hJ1.each y (List.mem_of_mem_take hy)
        · rw [List.mem_singleton.1 hy]; exact ⟨hA, hX⟩
      · exact hJ1.each y (List.mem_of_mem_drop hy))
    rw [hln] at hJ2 hst
    refine ⟨h2.stays hJ1.head (fun ⟨a, e, he⟩ => hJ1.apart a e he.symm), S', ⟨_, _, _, ?_, hJ2⟩, ⟨(Kept.ofBelow hb).trans hst.kept (fun _ _ h => h), fun j hj hS' => hst.new j (by have := hb.size; omega) hS'⟩⟩
    rw [m1, hxe]
    unfold putL putOK
    have : decide (64 ≤ (es.map (·.e)).length) = false := decide_eq_false (by rw [List.length_map]; omega)
    rw [hn, this]
    rfl
  have HPB : Hid (∀ a, pp = some a → a.block < w.heap.size) := fun a e => hJ.lt _ ((hJ.own a.block).2 (Or.inr ⟨a, e, rfl⟩))
  have HIN : Hid (∀ k W x V, k ≤ es.length → Below w.heap.size w W → W.heap[V]? = some (.cells (layE.enc x).toArray 38 (0, 0)) → w.heap.size ≤ V → Calls Tryz.prog 27 #[.slice pp es.length cc, .int .i64 (k : Int), .slice (some ⟨V, 0, none⟩) 1 1] W fun r w' => ∃ p' c', r = .returned (.slice p' (es.length + 1) c') ∧ Inserted layE pp (es.take k ++ [x] ++ es.drop k) W (.returned (.slice p' (es.length + 1) c')) w') := fun k W x V hk hb hV hVw => (insert_any layE rfl es x k pp cc V W (by omega) hk (hJ.below hb).room hV (fun a e he => by
    have := HPB.out a e
    omega)).mono (by
    rintro r w' hi
    obtain ⟨p', c', e1, h1⟩ := hi
    have hln : (es.take k ++ [x] ++ es.drop k).length = es.length + 1 := by simp; omega
    have e2 := e1
    rw [hln] at e2
    exact ⟨p', c', e2, by rw [← e2, e1]; exact ⟨p', c', rfl, h1⟩⟩)
  have HOK : Hid (∀ b, hasM (es.map (·.e)) e = b → putOK (es.map (·.e)) e = (!b && decide (es.length < 64)) ∧ putErr (es.map (·.e)) e = (if b = false ∧ 64 ≤ es.length then 21 else 0) ∧ (b = true ∨ 64 ≤ es.length → putL (es.map (·.e)) e = es.map (·.e))) := fun b hb => by
    unfold putL putOK putErr
    rw [hb, List.length_map]
    refine ⟨?_, rfl, fun h => ?_⟩
    · cases b with
      | true => rfl
      | false =>
        by_cases h64 : 64 ≤ es.length
        · rw [decide_eq_true h64, decide_eq_false (show ¬ es.length < 64 by omega)]; rfl
        · rw [decide_eq_false h64, decide_eq_true (show es.length < 64 by omega)]; rfl
    · rw [if_neg]
      rcases h with rfl | h
      · simp
      · rw [decide_eq_true h]; simp
  have c0 := hJ.cell
  generalize hHM : hasM (es.map (·.e)) e = HM at HFD HNX HOK
  clear hHM hJ hF
  have HOK2 := Lib.hid (HOK.out HM rfl)
  clear HOK
  generalize putOK (es.map (·.e)) e = OKV at HOK2 ⊢
  generalize putErr (es.map (·.e)) e = ERV at HOK2 ⊢
  generalize putL (es.map (·.e)) e = PL at HOK2 HNX ⊢
  unfold ev at HOW ⊢
  have hb0 : Below w.heap.size w (w.alloc (.cells #[.slice p e.deps.length c, .int .u16 e.txn.r, .int .u32 e.txn.seq, .int .u64 e.txn.clock, .int .i64 e.txn.user, .slice q e.txn.ops.length d] 38)) := below_alloc (Below.refl _ _) _
  have HB0 := Lib.hid hb0
  have HX0 := Lib.hid (heap_alloc_new w (.cells #[.slice p e.deps.length c, .int .u16 e.txn.r, .int .u32 e.txn.seq, .int .u64 e.txn.clock, .int .i64 e.txn.user, .slice q e.txn.ops.length d] 38))
  clear hb0 c0
  go_enter Tryz.func9, Tryz.ntmps9
  go_wp2_with fail
  generalize (w.alloc (.cells #[.slice p e.deps.length c, .int .u16 e.txn.r, .int .u32 e.txn.seq, .int .u64 e.txn.clock, .int .i64 e.txn.user, .slice q e.txn.ops.length d] 38)) = w0 at HB0 HX0 ⊢
  refine (HIDA.out _ _ _ _ _ _ _ w0).mono ?_
  rintro r w1 ⟨rfl, hb1⟩
  have HB1 := Lib.hid (below_step HB0.out hb1)
  have HX1 := Lib.hid (kept_box HX0.out hb1)
  clear hb1 HB0 HX0 HIDA
  go_wp2_with fail
  refine (HFD.out w1 HB1.out).mono ?_
  rintro r w2 ⟨k, rfl, hpl, hb2⟩
  have HB2 := Lib.hid (below_step HB1.out hb2)
  have HX2 := Lib.hid (kept_box HX1.out hb2)
  have HPL := Lib.hid hpl
  have c0 := (HJ.out.below HB2.out).cell
  clear hpl hb2 HB1 HX1 HFD
  cases HM with
  | true =>
    obtain ⟨o1, o2, o3⟩ := HOK2.out
    have o3 := o3 (Or.inl (by first | rfl | trivial))
    have HSM := Lib.hid (HSAME.out w2 HB2.out)
    have O : Hid (OKV = false ∧ ERV = 0 ∧ PL = es.map (·.e)) := ⟨by simpa using o1, by simpa using o2, o3⟩
    clear o1 o2 o3 HOK2 HNX HIN HSAME HOW
    go_wp2
    go_ret2
    rw [O.out.1, O.out.2.1, O.out.2.2]
    exact ⟨rfl, HSM.out⟩
  | false =>
    by_cases h64 : 64 ≤ es.length
    · have hd1 : (64 : Int) ≤ (es.length : Int) := by omega
      have hd2 : decide ((64 : Int) ≤ (es.length : Int)) = true := decide_eq_true hd1
      obtain ⟨o1, o2, o3⟩ := HOK2.out
      have o3 := o3 (Or.inr h64)
      have HSM := Lib.hid (HSAME.out w2 HB2.out)
      have O : Hid (OKV = false ∧ ERV = 21 ∧ PL = es.map (·.e)) := ⟨by rw [o1, decide_eq_false (show ¬ es.length < 64 by omega)]; rfl, by rw [o2]; simp [h64], o3⟩
      clear o1 o2 o3 HOK2 HNX HIN HSAME HOW
      go_wp2
      go_ret2
      rw [O.out.1, O.out.2.1, O.out.2.2]
      exact ⟨rfl, HSM.out⟩
    · have hd1 : ¬ (64 : Int) ≤ (es.length : Int) := by omega
      have hd2 : decide ((64 : Int) ≤ (es.length : Int)) = false := decide_eq_false hd1
      obtain ⟨o1, o2, -⟩ := HOK2.out
      have O : Hid (OKV = true ∧ ERV = 0) := ⟨by rw [o1, decide_eq_true (show es.length < 64 by omega)]; rfl, by rw [o2]; simp [h64]⟩
      have HN := Lib.hid (HNX.out (by first | rfl | trivial) (by omega))
      clear o1 o2 HOK2 HNX HSAME
      go_wp2_with fail
      refine wp_region_mix (C := fun W => W.cell? ⟨K, 0, none⟩ = some (.slice pp es.length cc) ∧ W.heap[w.heap.size]? = some (.cells #[.slice p e.deps.length c, .int .u16 e.txn.r, .int .u32 e.txn.seq, .int .u64 e.txn.clock, .int .i64 e.txn.user, .slice q e.txn.ops.length d] 38 (0, 0))) [0, 1, 2, 3, 4, 5, 6] [7, 8, 9] [10, 11, 12] (by kernel_rfl) (by kernel_rfl) (fun _ _ d _ _ h => by cases d <;> exact h) ⟨c0, HX2.out⟩ ?_
      simp only [pickOps, List.filterMap_cons, List.filterMap_nil, List.getElem?_cons_zero, List.getElem?_cons_succ]
      refine wpQuiet_step (fun K' hK' => ?_)
      rw [if_pos (by simp [Region.wanted])]
      refine ⟨.pointer (some ⟨K, 0, none⟩), fun wx hC => ?_, ?_⟩
      · obtain ⟨q0, q1⟩ := hC
        obtain ⟨y0, y1, y2, y3, y4, y5⟩ := six_cells q1
        go_simp
      go_simp
      refine hK' _ ?_
      clear hK' K'
      refine wpQuiet_step (fun K' hK' => ?_)
      rw [if_pos (by simp [Region.wanted])]
      refine ⟨.pointer (some ⟨K, 0, none⟩), fun wx hC => ?_, ?_⟩
      · obtain ⟨q0, q1⟩ := hC
        obtain ⟨y0, y1, y2, y3, y4, y5⟩ := six_cells q1
        go_simp
      go_simp
      refine hK' _ ?_
      clear hK' K'
      refine wpQuiet_step (fun K' hK' => ?_)
      rw [if_pos (by simp [Region.wanted])]
      refine ⟨.pointer (some ⟨K, 0, none⟩), fun wx hC => ?_, ?_⟩
      · obtain ⟨q0, q1⟩ := hC
        obtain ⟨y0, y1, y2, y3, y4, y5⟩ := six_cells q1
        go_simp
      go_simp
      refine hK' _ ?_
      clear hK' K'
      refine wpQuiet_step (fun K' hK' => ?_)
      rw [if_pos (by simp [Region.wanted])]
      refine ⟨.pointer (some ⟨K, 0, none⟩), fun wx hC => ?_, ?_⟩
      · obtain ⟨q0, q1⟩ := hC
        obtain ⟨y0, y1, y2, y3, y4, y5⟩ := six_cells q1
        go_simp
      go_simp
      refine hK' _ ?_
      clear hK' K'
      refine wpQuiet_step (fun K' hK' => ?_)
      rw [if_pos (by simp [Region.wanted])]
      refine ⟨.slice pp es.length cc, fun wx hC => ?_, ?_⟩
      · obtain ⟨q0, q1⟩ := hC
        obtain ⟨y0, y1, y2, y3, y4, y5⟩ := six_cells q1
        go_simp
      go_simp
      refine hK' _ ?_
      clear hK' K'
      refine wpQuiet_step (fun K' hK' => ?_)
      rw [if_pos (by simp [Region.wanted])]
      refine ⟨.int .i64 (k : Int), fun wx hC => ?_, ?_⟩
      · obtain ⟨q0, q1⟩ := hC
        obtain ⟨y0, y1, y2, y3, y4, y5⟩ := six_cells q1
        go_simp
      go_simp
      refine hK' _ ?_
      clear hK' K'
      refine wpQuiet_step (fun K' hK' => ?_)
      rw [if_pos (by simp [Region.wanted])]
      refine ⟨.agg #[.slice p e.deps.length c, .int .u16 e.txn.r, .int .u32 e.txn.seq, .int .u64 e.txn.clock, .int .i64 e.txn.user, .slice q e.txn.ops.length d], fun wx hC => ?_, ?_⟩
      · obtain ⟨q0, q1⟩ := hC
        obtain ⟨y0, y1, y2, y3, y4, y5⟩ := six_cells q1
        go_simp
      go_simp
      refine hK' _ ?_
      clear hK' K'
      refine wpQuiet_nil ?_
      refine seqM_step fun KK hK => ?_
      go_wp2_with fail
      refine (HOW.out _ (below_step HB2.out (by first | exact Below.refl _ _ | exact (Below.refl _ _).drew))).mono ?_
      rintro r w4 ⟨ys, p1, c1, q1, d1, he, hI1, hS1, hl1, hX1, hb1⟩
      unfold ev at he
      subst he
      have HB4 : Hid (Below w2.heap.size w2 w4) := by first | exact hb1 | exact below_of_drew hb1
      have HA4 : Hid (ArgE w4 ⟨e, ys, p1, c1, q1, d1⟩ ∧ KindX w4 ys p1 q1) := ⟨⟨hI1, hS1, by rw [hl1]; exact hxl, hd, hfit⟩, hX1⟩
      clear hI1 hS1 hl1 hX1 hb1 HOW
      go_wp2_with fail
      refine hK _ _ ⟨(HJ.out.below (below_step HB2.out HB4.out)).cell, kept_box HX2.out HB4.out⟩ ?_
      clear hK KK
      refine seqM_step fun KK hK => ?_
      go_wp2_with fail
      have hb5 : Below w4.heap.size w4 (w4.alloc (.cells #[.slice p1 e.deps.length c1, .int .u16 e.txn.r, .int .u32 e.txn.seq, .int .u64 e.txn.clock, .int .i64 e.txn.user, .slice q1 e.txn.ops.length d1] 38)) := below_alloc (Below.refl _ _) _
      have hbw5 := below_step (below_step HB2.out HB4.out) hb5
      have hV5 := heap_alloc_new w4 (.cells #[.slice p1 e.deps.length c1, .int .u16 e.txn.r, .int .u32 e.txn.seq, .int .u64 e.txn.clock, .int .i64 e.txn.user, .slice q1 e.txn.ops.length d1] 38)
      refine hK _ _ ⟨(HJ.out.below hbw5).cell, kept_box HX2.out (below_step HB4.out hb5)⟩ ?_
      clear hK KK
      have HI5 := Lib.hid (HIN.out k _ ⟨e, ys, p1, c1, q1, d1⟩ w4.heap.size HPL.out.le hbw5 hV5 (below_step HB2.out HB4.out).size)
      have HA5 : Hid (ArgE (w4.alloc (.cells #[.slice p1 e.deps.length c1, .int .u16 e.txn.r, .int .u32 e.txn.seq, .int .u64 e.txn.clock, .int .i64 e.txn.user, .slice q1 e.txn.ops.length d1] 38)) ⟨e, ys, p1, c1, q1, d1⟩ ∧ KindX (w4.alloc (.cells #[.slice p1 e.deps.length c1, .int .u16 e.txn.r, .int .u32 e.txn.seq, .int .u64 e.txn.clock, .int .i64 e.txn.user, .slice q1 e.txn.ops.length d1] 38)) ys p1 q1) := ⟨HA4.out.1.below hb5, HA4.out.2.below hb5⟩
      have HBW5 := Lib.hid hbw5
      have HX5 := Lib.hid (kept_box HX2.out (below_step HB4.out hb5))
      have hWlt : w.heap.size ≤ w4.heap.size := (below_step HB2.out HB4.out).size
      clear hb5 hbw5 hV5 HA4 HIN HB4 HX2 HB2
      generalize w4.alloc (.cells #[.slice p1 e.deps.length c1, .int .u16 e.txn.r, .int .u32 e.txn.seq, .int .u64 e.txn.clock, .int .i64 e.txn.user, .slice q1 e.txn.ops.length d1] 38) = w5 at HI5 HA5 HBW5 HX5 ⊢
      refine seqM_step fun KK hK => ?_
      go_wp2_with fail
      refine HI5.out.mono ?_
      rintro r w6 ⟨p', c', rfl, hi6⟩
      obtain ⟨hh6, hfin⟩ := HN.out k w5 w6 ⟨e, ys, p1, c1, q1, d1⟩ p' c' HPL.out rfl HBW5.out HA5.out.1 HA5.out.2 hi6
      have hX6 : w6.heap[w.heap.size]? = some (.cells #[.slice p e.deps.length c, .int .u16 e.txn.r, .int .u32 e.txn.seq, .int .u64 e.txn.clock, .int .i64 e.txn.user, .slice q e.txn.ops.length d] 38 (0, 0)) := by
        obtain ⟨-, -, -, -, hk6, -⟩ := hi6
        exact hk6.stays HX5.out (fun ⟨a, e, he⟩ => by have := HPB.out a e; omega)
      have d0 : w6.cell? ⟨K, 0, none⟩ = some (.slice pp es.length cc) := by rw [cell_of_block hh6]; rfl
      have f0 : w6.frozen? ⟨K, 0, none⟩ = false := frozen_of_block hh6
      have HFI := Lib.hid hfin
      clear hfin hi6 hh6 HI5 HA5 HN
      go_wp2_with fail
      refine hK _ _ ⟨d0, hX6⟩ ?_
      clear hK KK hX6 HX5
      refine seqM_nil ?_
      go_wp2_with fail
      go_ret2
      rw [O.out.1, O.out.2]
      exact ⟨rfl, HFI.out⟩
theorem buf_spec : BufSpec Bufr where
  below := fun S K l w w' ⟨es, p, c, e, h⟩ hb => ⟨es, p, c, e, h.below hb⟩
  others := fun S K l w ⟨es, p, c, e, h⟩ => h.others
  lt := fun S K l w ⟨es, p, c, e, h⟩ => h.lt
  zero := fun w => ⟨fun k => k = w.heap.size, ⟨[], none, 0, rfl, ⟨heap_alloc_new w _, RoomE.zero _ _, fun k => ⟨fun h => Or.inl h, fun h => by
    rcases h with h | ⟨a, e, -⟩
    · exact h
    · cases e⟩, fun i j _ h => by simp at h, by simp, fun x hx => by cases hx⟩⟩, fun k hk => by rw [hk]; exact Nat.le_refl _⟩
  len := fun S K l w h => len_any h
  put := fun S K l w e xs p c q d h1 h2 h3 h4 h5 h6 => put_any e xs p c q d h1 h2 h3 h4 h5 h6
  take := fun S K l w h s f h1 h2 h3 => btake_any h s f h1 h2 h3
  drop := fun S K l w h s f h1 h2 h3 => drop_any h s f h1 h2 h3
  names := fun S K l w h => bnames_any h
  wants := fun S K l w h s f h1 h2 h3 => bwants_any h s f h1 h2 h3
end Go.Proofs.YtjkdcpalgfakhaaGreat
