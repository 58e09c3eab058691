
/-
  What the document's Read of layer 9 hands back, of any bytes, at any place. No conditions beyond what each theorem states.
-/
import Derived.Test.YtedlmngfkkpmgaaTxnMath3
import Derived.Test.YtedlmngfkkpmgaaOpRead6
import Derived.Test.YtedlmngfkkpmgaaMade3
namespace Go.Proofs.Ytedlmngfkkpmgaa
open Go.ChangeShapes Go.WideShapes Go.ChangeAt Go.RowKit Go.Lib
set_option linter.unusedVariables false
set_option linter.unusedSimpArgs false

/-- What the document's Read tells, at a place. -/
def Read9At (bs : List UInt8) (Q : Nat) (w : World) (r : Ending) (w' : World) : Prop := ∃ ys p c q', r = .returned (.tuple #[tv (readTx bs Q 0).1 p c, .int .i64 q', .int .i64 ((readTx bs Q 0).2.2 : Int)]) ∧ (readTx bs Q 0).1.ops = ys.map (·.1) ∧ GRow layO w' p ys ∧ (∀ y ∈ ys, GRow layS w' y.2.1 y.1.spans) ∧ ((readTx bs Q 0).2.2 = 0 → q' = ((readTx bs Q 0).2.1 : Int)) ∧ Below w.heap.size w w'
/-- An operation's spans, in a block of their kind. -/
def OwnG (w : World) (y : OV) : Prop := GRow layS w y.2.1 y.1.spans ∧ KindAt 101 w y.2.1
theorem OwnG.below {w w' : World} {y : OV} (h : OwnG w y) (hb : Below w.heap.size w w') : OwnG w' y := ⟨h.1.below hb, h.2.below hb⟩
theorem OwnG.only {w w' : World} {y : OV} {X : Nat} {cs : Array Value} {t : TypeId} {f : Nat × Nat} (h : OwnG w y) (ht : t ≠ 101) (hX : w.heap[X]? = some (.cells cs t f)) (ho : Only X w w') : OwnG w' y :=
  ⟨h.1.kept ho (h.2.apart ht hX), h.2.kept ho (h.2.apart ht hX)⟩
theorem OwnG.grown {w w' : World} {y : OV} {base size n : Nat} {v : Value} {xs : List Value} {t : TypeId} (h : OwnG w y) (ht : t ≠ 101) (hown : w.ownsRow base t size v n xs) (hg : w.grownBy w' v.ownBlock) : OwnG w' y := by
  have hk : Kept (fun k => v.ownBlock = some k) w w' := Kept.ofGrown hg (fun k e => e)
  have hn : ∀ q, y.2.1 = some q → ¬ v.ownBlock = some q.block := fun q e ee => by
    obtain ⟨c, f, hc⟩ := Lib.ownsRow_kind hown _ ee
    exact h.2.apart ht hc q e rfl
  exact ⟨h.1.kept hk hn, h.2.kept hk hn⟩
theorem Hold.only {α : Type} {L : Lay α} {w wr w1 : World} {e : TypeId} {v : Value} {xs : List α} {Y : Nat} (h : Hold L w e v xs wr) (ho : Only Y wr w1) (hv : v.ownBlock ≠ some Y) (hY : w.heap.size ≤ Y) : Hold L w e v xs w1 :=
  ⟨h.1.kept (row := some Y) ⟨ho.os, ho.tape, ho.output, ho.size, fun k hk hn => ho.block k hk (fun e => hn (by rw [e]))⟩ (Or.inr hv), h.2.trans (ho.below h.2.size (fun k ek => by have ek : k = Y := ek; omega))⟩
/-- What Read holds while it reads numbers: its result (still nothing), the limits, and the numbers so far. -/
structure A9 (w : World) (bs : List UInt8) (Q i : Nat) (W : World) : Prop where
  res : W.heap[w.heap.size]? = some (.cells #[.int .u16 0, .int .u32 0, .int .u64 0, .int .i64 0, .slice none 0 0] 32 (0, 0))
  lim : W.heap[w.heap.size + 1]? = some (.cells #[.int .u64 65535, .int .u64 268435456, .int .u64 1099511627776, .int .u64 7, .int .u64 16] 82 (0, 0))
  val : W.heap[w.heap.size + 2]? = some (.cells #[.int .u64 (V9 bs Q i 0 : Int), .int .u64 (V9 bs Q i 1 : Int), .int .u64 (V9 bs Q i 2 : Int), .int .u64 (V9 bs Q i 3 : Int), .int .u64 (V9 bs Q i 4 : Int)] 82 (0, 0))
  bel : Below w.heap.size w W
theorem A9.next {w W : World} {bs : List UInt8} {Q i : Nat} (h : A9 w bs Q i W) (hi : i < 5) : A9 w bs Q (i + 1) (W.setCell ⟨w.heap.size + 2, i, none⟩ (.int .u64 (chV bs Q 0 i : Int))) := by
  refine ⟨by rw [heap_setCell_other _ _ _ _ (by simp)]; exact h.res, by rw [heap_setCell_other _ _ _ _ (by simp)]; exact h.lim, ?_, h.bel.setCell (p := ⟨w.heap.size + 2, i, none⟩) (by simp) _⟩
  rw [heap_setCell_same W _ i _ _ _ h.val]
  have : i = 0 ∨ i = 1 ∨ i = 2 ∨ i = 3 ∨ i = 4 := by omega
  rcases this with rfl | rfl | rfl | rfl | rfl
  all_goals simp [V9_next]
theorem load9 {w : World} {B : Nat} {cs : Array Value} {t : TypeId} (h : w.heap[B]? = some (.cells cs t (0, 0))) (hs : cs.size = 5) : (loadVar 32 ⟨B, 0, none⟩).run Try.prog w = .ok (.agg cs) w :=
  run_loadVar_row w B t 32 _ (0, 0) _ h Try.underlying32 rfl (by rw [hs]; exact szR9)

set_option maxHeartbeats 12800000 in
set_option maxRecDepth 20000 in
theorem refread9_at (bs : List UInt8) (Q : Nat) (hQ : Q ≤ bs.length) (p : Option Addr) (c : Nat) (w : World) (hR : BRow w p bs) (hl : bs.length ≤ 1000000) (hcap : bs.length ≤ c) :
    Calls Try.prog 23 #[.slice p bs.length c, .int .i64 (Q : Int)] w (Read9At bs Q w) := by
  obtain ⟨i0, hi, hz0, hz1, hz2⟩ := info_parts infoR8
  have HN : Hid (∀ i, (chS bs Q 0 i).2 = 0 → ∀ W, Below w.heap.size w W → Calls Try.prog 42 #[.slice p bs.length c, .int .i64 ((chS bs Q 0 i).1 : Int), .int .u64 (lim9 i : Int)] W fun r w' => r = .returned (.tuple #[.int .u64 (chV bs Q 0 i : Int), .int .i64 ((chS bs Q 0 (i + 1)).1 : Int), .int .i64 ((chS bs Q 0 (i + 1)).2 : Int)]) ∧ w' = W) := fun i h0 W hb => by
    have hle := (chS_le (E := 0) hQ i).1
    have := readnum_any bs (chS bs Q 0 i).1 (lim9 i) p c (by unfold lim9; split <;> omega) hle hl W (hR.below hb)
    rw [chS_succ]
    unfold chV
    rw [h0]
    exact this
  have HO : Hid (∀ q, q ≤ bs.length → ∀ W, Below w.heap.size w W → Calls Try.prog 43 #[.slice p bs.length c, .int .i64 (q : Int)] W (Read8At bs q W)) := fun q hq W hb => refread8_at bs q hq p c W (hR.below hb) hl hcap
  have HTX := Lib.hid (readTx_ch bs Q 0)
  have hv0 := chV_le (E := 0) hQ 0
  have hv1 := chV_le (E := 0) hQ 1
  have hv2 := chV_le (E := 0) hQ 2
  have hv3 := chV_le (E := 0) hQ 3
  have hv4 := chV_le (E := 0) hQ 4
  have HS5 := Lib.hid (chS_le (E := 0) hQ)
  have HEND := Lib.hid (fun i => @V9_end bs Q i)
  unfold lim9 at hv0 hv1 hv2 hv3 hv4
  simp only at hv0 hv1 hv2 hv3 hv4
  clear hR
  go_enter Try.func23, Try.ntmps23
  go_wp2
  have HA0 : Hid (A9 w bs Q 0 (((w.alloc (.cells #[.int .u16 0, .int .u32 0, .int .u64 0, .int .i64 0, .slice none 0 0] 32)).alloc (.cells #[.int .u64 65535, .int .u64 268435456, .int .u64 1099511627776, .int .u64 7, .int .u64 16] 82)).alloc (.cells #[.int .u64 0, .int .u64 0, .int .u64 0, .int .u64 0, .int .u64 0] 82))) := by
    refine ⟨?_, (three_blocks8 w _ _ _).1, ?_, below_alloc (below_alloc (below_alloc (Below.refl _ _) _) _) _⟩
    · exact kept_box (kept_box (heap_alloc_new w _) (below_alloc (Below.refl _ _) _)) (below_alloc (Below.refl _ _) _)
    · have := (three_blocks8 w (.cells #[.int .u16 0, .int .u32 0, .int .u64 0, .int .i64 0, .slice none 0 0] 32) (.cells #[.int .u64 65535, .int .u64 268435456, .int .u64 1099511627776, .int .u64 7, .int .u64 16] 82) (.cells #[.int .u64 0, .int .u64 0, .int .u64 0, .int .u64 0, .int .u64 0] 82)).2
      simpa [V9_zero] using this
  go_loopg [1, 9, 10] 5 (fun g qv ev iv wr => ∃ i : Nat, i ≤ 5 ∧ 5 - i ≤ g ∧ iv = .int .i64 (i : Int) ∧ qv = .int .i64 ((chS bs Q 0 i).1 : Int) ∧ ev = .int .i64 ((chS bs Q 0 i).2 : Int) ∧ A9 w bs Q i wr)
  case atStart => exact ⟨0, Nat.zero_le _, by omega, rfl, rfl, rfl, HA0.out⟩
  case round =>
    clear HA0
    obtain ⟨i, hi5, hg, rfl, rfl, rfl, hA⟩ := hrel
    have HA := Lib.hid hA
    clear hA
    by_cases hgo : i < 5 ∧ (chS bs Q 0 i).2 = 0
    · obtain ⟨hlt, he0⟩ := hgo
      have HNX := Lib.hid (HA.out.next hlt)
      have HNI := Lib.hid (HN.out i he0 wr HA.out.bel)
      obtain ⟨x0, x1, x2, x3, x4⟩ := five_cells HA.out.val
      obtain ⟨l0, l1, l2, l3, l4⟩ := five_cells HA.out.lim
      have fv : ∀ o, wr.frozen? ⟨w.heap.size + 2, o, none⟩ = false := fun o => frozen_of_block HA.out.val
      rw [he0]
      have : i = 0 ∨ i = 1 ∨ i = 2 ∨ i = 3 ∨ i = 4 := by omega
      generalize (chS bs Q 0 i).1 = q at HNI ⊢
      clear HEND HS5
      rcases this with rfl | rfl | rfl | rfl | rfl
      · simp only [Nat.reduceAdd, lim9] at HNI HNX
        generalize hn : chV bs Q 0 0 = n at HNI HNX
        go_wp2_with fail
        refine HNI.out.mono ?_
        rintro r w1 ⟨rfl, he⟩
        obtain rfl := Eq.symm he
        go_wp2
        go_roundg (5 - (0 + 1))
        case measure => omega
        case rel => exact ⟨1, by omega, Nat.le_refl _, by go_num, rfl, rfl, HNX.out⟩
      · simp only [Nat.reduceAdd, lim9] at HNI HNX
        generalize hn : chV bs Q 0 1 = n at HNI HNX
        go_wp2_with fail
        refine HNI.out.mono ?_
        rintro r w1 ⟨rfl, he⟩
        obtain rfl := Eq.symm he
        go_wp2
        go_roundg (5 - (1 + 1))
        case measure => omega
        case rel => exact ⟨2, by omega, Nat.le_refl _, by go_num, rfl, rfl, HNX.out⟩
      · simp only [Nat.reduceAdd, lim9] at HNI HNX
        generalize hn : chV bs Q 0 2 = n at HNI HNX
        go_wp2_with fail
        refine HNI.out.mono ?_
        rintro r w1 ⟨rfl, he⟩
        obtain rfl := Eq.symm he
        go_wp2
        go_roundg (5 - (2 + 1))
        case measure => omega
        case rel => exact ⟨3, by omega, Nat.le_refl _, by go_num, rfl, rfl, HNX.out⟩
      · simp only [Nat.reduceAdd, lim9] at HNI HNX
        generalize hn : chV bs Q 0 3 = n at HNI HNX
        go_wp2_with fail
        refine HNI.out.mono ?_
        rintro r w1 ⟨rfl, he⟩
        obtain rfl := Eq.symm he
        go_wp2
        go_roundg (5 - (3 + 1))
        case measure => omega
        case rel => exact ⟨4, by omega, Nat.le_refl _, by go_num, rfl, rfl, HNX.out⟩
      · simp only [Nat.reduceAdd, lim9] at HNI HNX
        generalize hn : chV bs Q 0 4 = n at HNI HNX
        go_wp2_with fail
        refine HNI.out.mono ?_
        rintro r w1 ⟨rfl, he⟩
        obtain rfl := Eq.symm he
        go_wp2
        go_roundg (5 - (4 + 1))
        case measure => omega
        case rel => exact ⟨5, by omega, Nat.le_refl _, by go_num, rfl, rfl, HNX.out⟩
    · have hex : i = 5 ∨ (chS bs Q 0 i).2 ≠ 0 := by omega
      obtain ⟨hs5, hV⟩ := HEND.out i hi5 hex
      have HV : Hid (wr.heap[w.heap.size + 2]? = some (.cells #[.int .u64 (chV bs Q 0 0 : Int), .int .u64 (chV bs Q 0 1 : Int), .int .u64 (chV bs Q 0 2 : Int), .int .u64 (chV bs Q 0 3 : Int), .int .u64 (chV bs Q 0 4 : Int)] 82 (0, 0))) := by
        have := HA.out.val
        rwa [hV 0 (by omega), hV 1 (by omega), hV 2 (by omega), hV 3 (by omega), hV 4 (by omega)] at this
      have HRES := Lib.hid HA.out.res
      have HBEL := Lib.hid HA.out.bel
      have hst := HS5.out 5
      rw [← hs5] at hgo hex ⊢
      clear HA hV HEND HN HS5
      generalize chS bs Q 0 5 = S5 at *
      obtain ⟨q5, e5⟩ := S5
      simp only at hgo hex hst HTX ⊢
      have hdec : decide ((i : Int) < 5) = false ∨ ((e5 : Int) == 0) = false := by
        rcases hex with h | h
        · exact Or.inl (by subst h; rfl)
        · exact Or.inr (beq_no (by omega))
      have hwhy : ¬ ((i : Int) < 5) ∨ ((i : Int) < 5 ∧ ((e5 : Int) == 0) = false) := by
        by_cases h5 : (i : Int) < 5
        · refine Or.inr ⟨h5, beq_no ?_⟩
          intro h
          exact hgo ⟨by omega, by omega⟩
        · exact Or.inl h5
      obtain ⟨x0, x1, x2, x3, x4⟩ := five_cells HV.out
      clear hgo hex hdec
      generalize hc0 : chV bs Q 0 0 = c0 at *
      generalize hc1 : chV bs Q 0 1 = c1 at *
      generalize hc2 : chV bs Q 0 2 = c2 at *
      generalize hc3 : chV bs Q 0 3 = c3 at *
      generalize hc4 : chV bs Q 0 4 = n at *
      have z0 : IntKind.u16.wrap (c0 : Int) = (c0 : Int) := by rw [IntKind.wrap_u16]; omega
      have z1 : IntKind.u32.wrap (c1 : Int) = (c1 : Int) := by rw [IntKind.wrap_u32]; omega
      have z3 : IntKind.i64.wrap (c3 : Int) = (c3 : Int) := by rw [IntKind.wrap_i64]; omega
      have HT0 := Lib.hid (heap_alloc_new wr (.cells #[.int .u16 (c0 : Int), .int .u32 (c1 : Int), .int .u64 (c2 : Int), .int .i64 (c3 : Int), .slice none 0 0] 32))
      have hXl : w.heap.size + 2 < wr.heap.size := lt_of_block HV.out
      have HB1 : Hid (Below w.heap.size w (wr.alloc (.cells #[.int .u16 (c0 : Int), .int .u32 (c1 : Int), .int .u64 (c2 : Int), .int .i64 (c3 : Int), .slice none 0 0] 32))) := below_alloc HBEL.out _
      have HR1 := Lib.hid (kept_box HRES.out (below_alloc (Below.refl _ _) (.cells #[.int .u16 (c0 : Int), .int .u32 (c1 : Int), .int .u64 (c2 : Int), .int .i64 (c3 : Int), .slice none 0 0] 32)))
      have HV1 := Lib.hid (kept_box HV.out (below_alloc (Below.refl _ _) (.cells #[.int .u16 (c0 : Int), .int .u32 (c1 : Int), .int .u64 (c2 : Int), .int .i64 (c3 : Int), .slice none 0 0] 32)))
      have HH1 : Hid (Hold layO w 49 (.slice none 0 0) [] (wr.alloc (.cells #[.int .u16 (c0 : Int), .int .u32 (c1 : Int), .int .u64 (c2 : Int), .int .i64 (c3 : Int), .slice none 0 0] 32))) := ⟨World.ownsRow_nil _ w.heap.size _ _, HB1.out⟩
      rcases hwhy with hwhy | ⟨hwhy, hwhy2⟩
      all_goals
        go_wp2
        clear x0 x1 x2 x3 x4
        generalize wr.alloc (.cells #[.int .u16 (c0 : Int), .int .u32 (c1 : Int), .int .u64 (c2 : Int), .int .i64 (c3 : Int), .slice none 0 0] 32) = W1 at HT0 HB1 HR1 HV1 HH1 ⊢
        generalize wr.heap.size = X at HT0 hXl ⊢
        clear HRES HBEL HV
        go_loopg [1, 9, 12] n (fun g qv ev kv W => ∃ (k qh e : Nat) (q : Int) (v : Value) (ys : List OV), k ≤ n ∧ n - k ≤ g ∧ kv = .int .u64 (k : Int) ∧ qv = .int .i64 q ∧ ev = .int .i64 (e : Int) ∧ (e = 0 → q = (qh : Int)) ∧ qh ≤ bs.length ∧ ys.length = k ∧ rdOs bs n q5 e5 = (ys.map (·.1) ++ (rdOs bs (n - k) qh e).1, (rdOs bs (n - k) qh e).2) ∧ Hold layO w 49 v ys W ∧ (∀ y ∈ ys, OwnG W y) ∧ W.heap[w.heap.size]? = some (.cells #[.int .u16 0, .int .u32 0, .int .u64 0, .int .i64 0, .slice none 0 0] 32 (0, 0)) ∧ W.heap[w.heap.size + 2]? = some (.cells #[.int .u64 (c0 : Int), .int .u64 (c1 : Int), .int .u64 (c2 : Int), .int .u64 (c3 : Int), .int .u64 (n : Int)] 82 (0, 0)) ∧ W.heap[X]? = some (.cells #[.int .u16 (c0 : Int), .int .u32 (c1 : Int), .int .u64 (c2 : Int), .int .i64 (c3 : Int), v] 32 (0, 0)))
        case atStart => exact ⟨0, q5, e5, (q5 : Int), .slice none 0 0, [], Nat.zero_le _, by omega, rfl, rfl, rfl, fun _ => rfl, hst.1, rfl, by simp, HH1.out, (fun y hy => by cases hy), HR1.out, HV1.out, HT0.out⟩
        case round =>
          clear HH1 HR1 HV1 HT0 HB1
          obtain ⟨k, qh, e, q, v, ys, hk, hg, rfl, rfl, rfl, hqe, hqh, hyl, hrd, hH, hE, h1, h2, h3⟩ := hrel
          have HH := Lib.hid hH
          have HE := Lib.hid hE
          have H1 := Lib.hid h1
          have H2 := Lib.hid h2
          have H3 := Lib.hid h3
          have HRD := Lib.hid hrd
          obtain ⟨x0, x1, x2, x3, x4⟩ := five_cells h2
          obtain ⟨s0, s1, s2, s3, s4⟩ := five_cells h3
          clear hH hE h1 h2 h3 hrd
          by_cases hgo : k < n ∧ e = 0
          · obtain ⟨hkn, rfl⟩ := hgo
            obtain rfl := hqe rfl
            have hkl : (k : Int) < (n : Int) := by omega
            have HQ : Hid (∀ A : Obj, Calls Try.prog 43 #[.slice p bs.length c, .int .i64 (qh : Int)] (wr.alloc A) (Read8At bs qh (wr.alloc A))) := fun A => HO.out qh hqh _ (below_alloc HH.out.2 A)
            have HST := Lib.hid (rdOs_step (bs := bs) (q := qh) hkn)
            have hrr := readO_range (e := 0) hqh (by omega) hl
            unfold Read8At at HQ
            generalize readO bs qh 0 = ro at HQ HST hrr
            obtain ⟨om, qo, eo⟩ := ro
            simp only at HQ HST hrr
            have HOM : Hid (∀ p c, ov om p c = .agg #[.int .i64 om.kind, .int .u16 om.r, .int .u32 om.n, .int .u32 om.num, .string ⟨om.text.toArray⟩, .slice p om.spans.length c, .int .u32 om.seq]) := fun p c => rfl
            generalize hbt : (⟨om.text.toArray⟩ : ByteArray) = bt at HOM
            have hX3 : X < wr.heap.size := lt_of_block H3.out
            have hne1 : ¬ X = wr.heap.size := by omega
            have hne2 : ¬ wr.heap.size = X := by omega
            go_wp2_with fail
            refine (HQ.out _).mono ?_
            rintro r w4 ⟨p4, c4, q4, rfl, hG, hq4, hb4, hk4⟩
            rw [HOM.out]
            have HY4 := Lib.hid (kept_box (heap_alloc_new wr (.cells #[.int .i64 0, .int .u16 0, .int .u32 0, .int .u32 0, .string ⟨#[]⟩, .slice none 0 0, .int .u32 0] 49)) hb4)
            have hB4 := below_step (below_alloc (Below.refl wr.heap.size wr) (.cells #[.int .i64 0, .int .u16 0, .int .u32 0, .int .u32 0, .string ⟨#[]⟩, .slice none 0 0, .int .u32 0] 49)) hb4
            have H14 := Lib.hid (kept_box H1.out hB4)
            have H24 := Lib.hid (kept_box H2.out hB4)
            have H34 := Lib.hid (kept_box H3.out hB4)
            have HH4 := Lib.hid (HH.out.below hB4)
            have HE4 : Hid (∀ y ∈ ys, OwnG w4 y) := fun y hy => (HE.out y hy).below hB4
            have HO4 : Hid (OwnG w4 (om, p4, c4)) := ⟨hG, hk4⟩
            have HAP : Hid (v.ownBlock ≠ some wr.heap.size) := fun ee => by have := (HH.out.1.lt _ ee).2; omega
            have hww : w.heap.size ≤ wr.heap.size := HH.out.2.size
            obtain ⟨y0, y1, y2, y3, y4, y5, y6⟩ := seven_cells HY4.out
            obtain ⟨t0', t1', t2', t3', t4'⟩ := five_cells H34.out
            have fy : ∀ o, w4.frozen? ⟨wr.heap.size, o, none⟩ = false := fun o => frozen_of_block HY4.out
            have hS7 := only_seven w4 wr.heap.size (.int .i64 om.kind) (.int .u16 om.r) (.int .u32 om.n) (.int .u32 om.num) (.string bt) (.slice p4 om.spans.length c4) (.int .u32 om.seq)
            have HS7 := Lib.hid hS7
            have H35 := Lib.hid (hS7.stays H34.out hne1)
            have u4 := (five_cells H35.out).2.2.2.2
            clear hG hk4 hb4 hB4 HE HH H1 H2 H3 x0 x1 x2 x3 x4 s0 s1 s2 s3 s4 hS7 HQ
            have HH6 : Hid (Hold layO w 49 v ys ((((((((w4.setCell ⟨wr.heap.size, 0, none⟩ (.int .i64 om.kind)).setCell ⟨wr.heap.size, 1, none⟩ (.int .u16 om.r)).setCell ⟨wr.heap.size, 2, none⟩ (.int .u32 om.n)).setCell ⟨wr.heap.size, 3, none⟩ (.int .u32 om.num)).setCell ⟨wr.heap.size, 4, none⟩ (.string bt)).setCell ⟨wr.heap.size, 5, none⟩ (.slice p4 om.spans.length c4)).setCell ⟨wr.heap.size, 6, none⟩ (.int .u32 om.seq)).alloc (.cells #[.int .i64 om.kind, .int .u16 om.r, .int .u32 om.n, .int .u32 om.num, .string bt, .slice p4 om.spans.length c4, .int .u32 om.seq] 49))) := (HH4.out.only HS7.out HAP.out hww).alloc _
            have hsz5 : (((((((w4.setCell ⟨wr.heap.size, 0, none⟩ (.int .i64 om.kind)).setCell ⟨wr.heap.size, 1, none⟩ (.int .u16 om.r)).setCell ⟨wr.heap.size, 2, none⟩ (.int .u32 om.n)).setCell ⟨wr.heap.size, 3, none⟩ (.int .u32 om.num)).setCell ⟨wr.heap.size, 4, none⟩ (.string bt)).setCell ⟨wr.heap.size, 5, none⟩ (.slice p4 om.spans.length c4)).setCell ⟨wr.heap.size, 6, none⟩ (.int .u32 om.seq)).heap.size = w4.heap.size := by simp [World.setCell]
            go_wp2_with (first
              | (at_builtin; refine wpList_append_own _ rfl (.tmp 66) (.tmp 68) 30 rfl w.heap.size 49 i0 (.agg #[.int .i64 0, .int .u16 0, .int .u32 0, .int .u32 0, .string ⟨#[]⟩, .slice none 0 0, .int .u32 0]) 7 72 Try.underlying30 hi hz0 hz1 hz2 rfl (by decide) v ys.length (layO.flat ys) rfl HH6.out.1 ⟨w4.heap.size, 0, none⟩ 1 1 [.int .i64 om.kind, .int .u16 om.r, .int .u32 om.n, .int .u32 om.num, .string bt, .slice p4 om.spans.length c4, .int .u32 om.seq] rfl rfl (by have := @cells_new (((((((w4.setCell ⟨wr.heap.size, 0, none⟩ (.int .i64 om.kind)).setCell ⟨wr.heap.size, 1, none⟩ (.int .u16 om.r)).setCell ⟨wr.heap.size, 2, none⟩ (.int .u32 om.n)).setCell ⟨wr.heap.size, 3, none⟩ (.int .u32 om.num)).setCell ⟨wr.heap.size, 4, none⟩ (.string bt)).setCell ⟨wr.heap.size, 5, none⟩ (.slice p4 om.spans.length c4)).setCell ⟨wr.heap.size, 6, none⟩ (.int .u32 om.seq)) [.int .i64 om.kind, .int .u16 om.r, .int .u32 om.n, .int .u32 om.num, .string bt, .slice p4 om.spans.length c4, .int .u32 om.seq] 49; rw [hsz5] at this; exact this) (by have := layO.one (om, p4, c4); rw [← hbt]; exact this) (by unfold maxLen; omega) (by omega) HH6.out.2.size ?_))
            intro v' w7 hown' hgrow _
            rw [← hyl] at hown'
            obtain ⟨pv, cv, rfl⟩ := owns_slice hown'
            have HH7 : Hid (Hold layO w 49 (.slice pv (ys.length + 1) cv) (ys ++ [(om, p4, c4)]) w7) := HH6.out.onto (ys := [(om, p4, c4)]) (by rw [layO.flat_one, ← hbt]; rfl) (by simp) hown' hgrow
            have H17 := Lib.hid (box_grown (by decide) (kept_box (HS7.out.stays H14.out (by omega)) (below_alloc (Below.refl _ _) (.cells #[.int .i64 om.kind, .int .u16 om.r, .int .u32 om.n, .int .u32 om.num, .string bt, .slice p4 om.spans.length c4, .int .u32 om.seq] 49))) HH6.out.1 hgrow)
            have H27 := Lib.hid (box_grown (by decide) (kept_box (HS7.out.stays H24.out (by omega)) (below_alloc (Below.refl _ _) (.cells #[.int .i64 om.kind, .int .u16 om.r, .int .u32 om.n, .int .u32 om.num, .string bt, .slice p4 om.spans.length c4, .int .u32 om.seq] 49))) HH6.out.1 hgrow)
            have H37 := Lib.hid (box_grown (by decide) (kept_box H35.out (below_alloc (Below.refl _ _) (.cells #[.int .i64 om.kind, .int .u16 om.r, .int .u32 om.n, .int .u32 om.num, .string bt, .slice p4 om.spans.length c4, .int .u32 om.seq] 49))) HH6.out.1 hgrow)
            have HE7 : Hid (∀ y ∈ ys ++ [(om, p4, c4)], OwnG w7 y) := fun y hy => by
              have h4 : OwnG w4 y := by
                rcases List.mem_append.1 hy with hy | hy
                · exact HE4.out y hy
                · rw [List.mem_singleton.1 hy]; exact HO4.out
              exact ((h4.only (by decide) HY4.out HS7.out).below (below_alloc (Below.refl _ _) _)).grown (by decide) HH6.out.1 hgrow
            clear hown' hgrow HH6 HH4 HE4 HO4 H14 H24 H34 H35 HS7 HY4 y0 y1 y2 y3 y4 y5 y6 t0' t1' t2' t3' t4' u4 fy
            have z7 := (five_cells H37.out).2.2.2.2
            have f7 : w7.frozen? ⟨X, 4, none⟩ = false := frozen_of_block H37.out
            have HFIN : Hid (Hold layO w 49 (.slice pv (ys.length + 1) cv) (ys ++ [(om, p4, c4)]) (w7.setCell ⟨X, 4, none⟩ (.slice pv (ys.length + 1) cv)) ∧ (∀ y ∈ ys ++ [(om, p4, c4)], OwnG (w7.setCell ⟨X, 4, none⟩ (.slice pv (ys.length + 1) cv)) y) ∧ (w7.setCell ⟨X, 4, none⟩ (.slice pv (ys.length + 1) cv)).heap[w.heap.size]? = some (.cells #[.int .u16 0, .int .u32 0, .int .u64 0, .int .i64 0, .slice none 0 0] 32 (0, 0)) ∧ (w7.setCell ⟨X, 4, none⟩ (.slice pv (ys.length + 1) cv)).heap[w.heap.size + 2]? = some (.cells #[.int .u64 (c0 : Int), .int .u64 (c1 : Int), .int .u64 (c2 : Int), .int .u64 (c3 : Int), .int .u64 (n : Int)] 82 (0, 0)) ∧ (w7.setCell ⟨X, 4, none⟩ (.slice pv (ys.length + 1) cv)).heap[X]? = some (.cells #[.int .u16 (c0 : Int), .int .u32 (c1 : Int), .int .u64 (c2 : Int), .int .i64 (c3 : Int), .slice pv (ys.length + 1) cv] 32 (0, 0))) := by
              refine ⟨HH7.out.other (kind_apart (by decide) H37.out HH7.out.1) (by omega) 4 _, fun y hy => (HE7.out y hy).only (by decide) H37.out (only_set w7 _ 4 _), ?_, ?_, ?_⟩
              · rw [heap_setCell_other _ _ _ _ (by simp; omega)]; exact H17.out
              · rw [heap_setCell_other _ _ _ _ (by simp; omega)]; exact H27.out
              · have := heap_setCell_same w7 X 4 _ _ (.slice pv (ys.length + 1) cv) H37.out
                simpa using this
            have HRD2 : Hid (rdOs bs n q5 e5 = ((ys ++ [(om, p4, c4)]).map (·.1) ++ (rdOs bs (n - (k + 1)) qo eo).1, (rdOs bs (n - (k + 1)) qo eo).2)) := by
              show _ = _
              rw [HRD.out, HST.out]
              simp
            rw [hyl] at HFIN
            clear HH7 H17 H27 H37 HE7
            go_wp2
            go_roundg (n - (k + 1))
            case measure => omega
            case rel => exact ⟨k + 1, qo, eo, q4, _, ys ++ [(om, p4, c4)], by omega, Nat.le_refl _, by go_num, rfl, rfl, hq4, hrr.1, by simp [hyl], HRD2.out, HFIN.out.1, HFIN.out.2.1, HFIN.out.2.2.1, HFIN.out.2.2.2.1, HFIN.out.2.2.2.2⟩
          · have hrest : rdOs bs (n - k) qh e = ([], qh, e) := by
              by_cases h0 : e = 0
              · have : k = n := by omega
                subst this
                rw [Nat.sub_self]; rfl
              · exact rdOs_err bs _ _ _ h0
            have HRD2 : Hid (rdOs bs n q5 e5 = (ys.map (·.1), qh, e)) := by show _ = _; rw [HRD.out, hrest]; simp
            rw [HRD2.out] at HTX
            clear HRD hrest HRD2
            obtain ⟨r0, r1, r2, r3, r4⟩ := five_cells H1.out
            have fr : ∀ o, wr.frozen? ⟨w.heap.size, o, none⟩ = false := fun o => frozen_of_block H1.out
            by_cases h0 : e = 0
            · subst h0
              obtain rfl := hqe rfl
              subst hyl
              have hkn : ¬ ((ys.length : Nat) : Int) < (n : Int) := by omega
              have HTX2 : Hid (readTx bs Q 0 = (⟨(c0 : Int), (c1 : Int), (c2 : Int), (c3 : Int), ys.map (·.1)⟩, qh, 0)) := by show _ = _; rw [HTX.out]; rfl
              obtain ⟨pv, cv, rfl, hGv, -, -⟩ := HH.out.gave layO_pos
              have HG := Lib.hid hGv
              have HAP := Lib.hid (kind_apart (by decide) H1.out HH.out.1)
              clear hGv HTX
              go_wp2
              (try simp only [Exit.inBlock, Exit.then])
              have hS := only_five wr w.heap.size (.int .u16 (c0 : Int)) (.int .u32 (c1 : Int)) (.int .u64 (c2 : Int)) (.int .i64 (c3 : Int)) (.slice pv ys.length cv)
              refine bodyPost_ret (results_ctt (p := 4) (t := 5) (u := 6) (ty := 32) rfl _ _ ⟨w.heap.size, 0, none⟩ _ rfl (load9 (box_five H1.out) rfl)) rfl ?_
              unfold Read9At
              rw [HTX2.out]
              refine ⟨ys, pv, cv, (qh : Int), by unfold tv; simp, rfl, HG.out.kept hS (fun a ea ee => ?_), fun y hy => ((HE.out y hy).only (by decide) H1.out hS).1, fun _ => rfl, HH.out.2.trans (hS.below HH.out.2.size (fun i ei => by have ei : i = w.heap.size := ei; omega))⟩
              apply HAP.out
              rw [ea]
              have ee : a.block = w.heap.size := ee
              simp [Value.ownBlock, ee]
            · have h0' : ((e : Int) == 0) = false := beq_no (by omega)
              have h0'' : ((e : Int) != 0) = true := by simpa using h0
              have HTX2 : Hid (readTx bs Q 0 = (Tm.mk 0 0 0 0 [], qh, e)) := by show _ = _; rw [HTX.out]; simp only; rw [if_neg h0]; rfl
              clear HTX
              have hS := only_five wr w.heap.size (.int .u16 0) (.int .u32 0) (.int .u64 0) (.int .i64 0) (.slice none 0 0)
              have HS := Lib.hid hS
              clear hS
              by_cases hkn : (k : Int) < (n : Int)
              all_goals
                go_wp2
                (try simp only [Exit.inBlock, Exit.then])
                refine bodyPost_ret (results_ctt (p := 4) (t := 5) (u := 6) (ty := 32) rfl _ _ ⟨w.heap.size, 0, none⟩ _ rfl (load9 (box_five H1.out) rfl)) rfl ?_
                unfold Read9At
                rw [HTX2.out]
                exact ⟨[], none, 0, q, rfl, rfl, GRow.nil _ _ _, (fun y hy => by cases hy), fun h => absurd h h0, HH.out.2.trans (HS.out.below HH.out.2.size (fun i ei => by have ei : i = w.heap.size := ei; omega))⟩
end Go.Proofs.Ytedlmngfkkpmgaa
