/-
  Several texts of one proof, joined: each part says at its head what it proves. No conditions beyond what each theorem states.
-/
import Derived.Test.YtceanfpcddcfoaaGreatZ07
import Derived.Test.YtceanfpcddcfoaaGreatZ11
import Derived.Test.YtceanfpcddcfoaaGreatZ10
/-
  What the document's Read of layer 9 hands back, of any bytes, at any place. No conditions beyond what each theorem states.
-/
namespace Go.Proofs.YtceanfpcddcfoaaGreat
open Go.ChangeShapes Go.WideShapes Go.ChangeAt Go.RowKit Go.Lib
set_option linter.unusedVariables false
set_option linter.unusedSimpArgs false

/-- What the document's Read tells, at a place. -/
def Read9At (bs : List UInt8) (Q : Nat) (w : World) (r : Ending) (w' : World) : Prop := ∃ ys p c q', r = .returned (.tuple #[tv (readTx bs Q 0).1 p c, .int .i64 q', .int .i64 ((readTx bs Q 0).2.2 : Int)]) ∧ (readTx bs Q 0).1.ops = ys.map (·.1) ∧ GRow layO w' p ys ∧ (∀ y ∈ ys, GRow layS w' y.2.1 y.1.spans) ∧ ((readTx bs Q 0).2.2 = 0 → q' = ((readTx bs Q 0).2.1 : Int)) ∧ Below w.heap.size w w'
/-- An operation's spans, in a block of their kind. -/
def OwnG (w : World) (y : OV) : Prop := GRow layS w y.2.1 y.1.spans ∧ KindAt 136 w y.2.1
theorem OwnG.below {w w' : World} {y : OV} (h : OwnG w y) (hb : Below w.heap.size w w') : OwnG w' y := ⟨h.1.below hb, h.2.below hb⟩
theorem OwnG.only {w w' : World} {y : OV} {X : Nat} {cs : Array Value} {t : TypeId} {f : Nat × Nat} (h : OwnG w y) (ht : t ≠ 136) (hX : w.heap[X]? = some (.cells cs t f)) (ho : Only X w w') : OwnG w' y :=
  ⟨h.1.kept ho (h.2.apart ht hX), h.2.kept ho (h.2.apart ht hX)⟩
theorem OwnG.grown {w w' : World} {y : OV} {base size n : Nat} {v : Value} {xs : List Value} {t : TypeId} (h : OwnG w y) (ht : t ≠ 136) (hown : w.ownsRow base t size v n xs) (hg : w.grownBy w' v.ownBlock) : OwnG w' y := by
  have hk : Kept (fun k => v.ownBlock = some k) w w' := Kept.ofGrown hg (fun k e => e)
  have hn : ∀ q, y.2.1 = some q → ¬ v.ownBlock = some q.block := fun q e ee => by
    obtain ⟨c, f, hc⟩ := Lib.ownsRow_kind hown _ ee
    exact h.2.apart ht hc q e rfl
  exact ⟨h.1.kept hk hn, h.2.kept hk hn⟩
theorem Hold.only {α : Type} {L : Lay α} {w wr w1 : World} {e : TypeId} {v : Value} {xs : List α} {Y : Nat} (h : Hold L w e v xs wr) (ho : Only Y wr w1) (hv : v.ownBlock ≠ some Y) (hY : w.heap.size ≤ Y) : Hold L w e v xs w1 :=
  ⟨h.1.kept (row := some Y) ⟨ho.os, ho.tape, ho.output, ho.size, fun k hk hn => ho.block k hk (fun e => hn (by rw [e]))⟩ (Or.inr hv), h.2.trans (ho.below h.2.size (fun k ek => by have ek : k = Y := ek; omega))⟩
/-- What Read holds while it reads numbers: its result (still nothing), the limits, and the numbers so far. -/
structure A9 (w : World) (bs : List UInt8) (Q i : Nat) (W : World) : Prop where
  res : W.heap[w.heap.size]? = some (.cells #[.int .u16 0, .int .u32 0, .int .u64 0, .int .i64 0, .slice none 0 0] 37 (0, 0))
  lim : W.heap[w.heap.size + 1]? = some (.cells #[.int .u64 65535, .int .u64 268435456, .int .u64 1099511627776, .int .u64 7, .int .u64 16] 155 (0, 0))
  val : W.heap[w.heap.size + 2]? = some (.cells #[.int .u64 (V9 bs Q i 0 : Int), .int .u64 (V9 bs Q i 1 : Int), .int .u64 (V9 bs Q i 2 : Int), .int .u64 (V9 bs Q i 3 : Int), .int .u64 (V9 bs Q i 4 : Int)] 155 (0, 0))
  bel : Below w.heap.size w W
theorem A9.next {w W : World} {bs : List UInt8} {Q i : Nat} (h : A9 w bs Q i W) (hi : i < 5) : A9 w bs Q (i + 1) (W.setCell ⟨w.heap.size + 2, i, none⟩ (.int .u64 (chV bs Q 0 i : Int))) := by
  refine ⟨by rw [heap_setCell_other _ _ _ _ (by simp)]; exact h.res, by rw [heap_setCell_other _ _ _ _ (by simp)]; exact h.lim, ?_, h.bel.setCell (p := ⟨w.heap.size + 2, i, none⟩) (by simp) _⟩
  rw [heap_setCell_same W _ i _ _ _ h.val]
  have : i = 0 ∨ i = 1 ∨ i = 2 ∨ i = 3 ∨ i = 4 := by omega
  rcases this with rfl | rfl | rfl | rfl | rfl
  all_goals simp [V9_next]
theorem load9 {w : World} {B : Nat} {cs : Array Value} {t : TypeId} (h : w.heap[B]? = some (.cells cs t (0, 0))) (hs : cs.size = 5) : (loadVar 37 ⟨B, 0, none⟩).run Tryz.prog w = .ok (.agg cs) w :=
  run_loadVar_row w B t 37 _ (0, 0) _ h Tryz.underlying37 rfl (by rw [hs]; exact szR9)

set_option maxHeartbeats 12800000 in
set_option maxRecDepth 20000 in
theorem refread9_at (bs : List UInt8) (Q : Nat) (hQ : Q ≤ bs.length) (p : Option Addr) (c : Nat) (w : World) (hR : BRow w p bs) (hl : bs.length ≤ 1000000) (hcap : bs.length ≤ c) :
    Calls Tryz.prog 81 #[.slice p bs.length c, .int .i64 (Q : Int)] w (Read9At bs Q w) := by
  obtain ⟨i0, hi, hz0, hz1, hz2⟩ := info_parts infoR8
  have HN : Hid (∀ i, (chS bs Q 0 i).2 = 0 → ∀ W, Below w.heap.size w W → Calls Tryz.prog 80 #[.slice p bs.length c, .int .i64 ((chS bs Q 0 i).1 : Int), .int .u64 (lim9 i : Int)] W fun r w' => r = .returned (.tuple #[.int .u64 (chV bs Q 0 i : Int), .int .i64 ((chS bs Q 0 (i + 1)).1 : Int), .int .i64 ((chS bs Q 0 (i + 1)).2 : Int)]) ∧ w' = W) := fun i h0 W hb => by
    have hle := (chS_le (E := 0) hQ i).1
    have := readnum_any bs (chS bs Q 0 i).1 (lim9 i) p c (by unfold lim9; split <;> omega) hle hl W (hR.below hb)
    rw [chS_succ]
    unfold chV
    rw [h0]
    exact this
  have HO : Hid (∀ q, q ≤ bs.length → ∀ W, Below w.heap.size w W → Calls Tryz.prog 106 #[.slice p bs.length c, .int .i64 (q : Int)] W (Read8At bs q W)) := fun q hq W hb => refread8_at bs q hq p c W (hR.below hb) hl hcap
  have HTX := Lib.hid (readTx_ch bs Q 0)
  have hv0 := chV_le (E := 0) hQ 0
  have hv1 := chV_le (E := 0) hQ 1
  have hv2 := chV_le (E := 0) hQ 2
  have hv3 := chV_le (E := 0) hQ 3
  have hv4 := chV_le (E := 0) hQ 4
  have HS5 := Lib.hid (chS_le (E := 0) hQ)
  have HEND := Lib.hid (fun i => @V9_end bs Q i)
  unfold lim9 at hv0 hv1 hv2 hv3 hv4
  simp only at hv0 hv1 hv2 hv3 hv4
  clear hR
  go_enter Tryz.func81, Tryz.ntmps81
  go_wp2
  have HA0 : Hid (A9 w bs Q 0 (((w.alloc (.cells #[.int .u16 0, .int .u32 0, .int .u64 0, .int .i64 0, .slice none 0 0] 37)).alloc (.cells #[.int .u64 65535, .int .u64 268435456, .int .u64 1099511627776, .int .u64 7, .int .u64 16] 155)).alloc (.cells #[.int .u64 0, .int .u64 0, .int .u64 0, .int .u64 0, .int .u64 0] 155))) := by
    refine ⟨?_, (three_blocks8 w _ _ _).1, ?_, below_alloc (below_alloc (below_alloc (Below.refl _ _) _) _) _⟩
    · exact kept_box (kept_box (heap_alloc_new w _) (below_alloc (Below.refl _ _) _)) (below_alloc (Below.refl _ _) _)
    · have := (three_blocks8 w (.cells #[.int .u16 0, .int .u32 0, .int .u64 0, .int .i64 0, .slice none 0 0] 37) (.cells #[.int .u64 65535, .int .u64 268435456, .int .u64 1099511627776, .int .u64 7, .int .u64 16] 155) (.cells #[.int .u64 0, .int .u64 0, .int .u64 0, .int .u64 0, .int .u64 0] 155)).2
      simpa [V9_zero] using this
  go_loopg [1, 9, 10] 5 (fun g qv ev iv wr => ∃ i : Nat, i ≤ 5 ∧ 5 - i ≤ g ∧ iv = .int .i64 (i : Int) ∧ qv = .int .i64 ((chS bs Q 0 i).1 : Int) ∧ ev = .int .i64 ((chS bs Q 0 i).2 : Int) ∧ A9 w bs Q i wr)
  case atStart => exact ⟨0, Nat.zero_le _, by omega, rfl, rfl, rfl, HA0.out⟩
  case round =>
    clear HA0
    obtain ⟨i, hi5, hg, rfl, rfl, rfl, hA⟩ := hrel
    have HA := Lib.hid hA
    clear hA
    by_cases hgo : i < 5 ∧ (chS bs Q 0 i).2 = 0
    · obtain ⟨hlt, he0⟩ := hgo
      have HNX := Lib.hid (HA.out.next hlt)
      have HNI := Lib.hid (HN.out i he0 wr HA.out.bel)
      obtain ⟨x0, x1, x2, x3, x4⟩ := five_cells HA.out.val
      obtain ⟨l0, l1, l2, l3, l4⟩ := five_cells HA.out.lim
      have fv : ∀ o, wr.frozen? ⟨w.heap.size + 2, o, none⟩ = false := fun o => frozen_of_block HA.out.val
      rw [he0]
      have : i = 0 ∨ i = 1 ∨ i = 2 ∨ i = 3 ∨ i = 4 := by omega
      generalize (chS bs Q 0 i).1 = q at HNI ⊢
      clear HEND HS5
      rcases this with rfl | rfl | rfl | rfl | rfl
      · simp only [Nat.reduceAdd, lim9] at HNI HNX
        generalize hn : chV bs Q 0 0 = n at HNI HNX
        go_wp2_with fail
        refine HNI.out.mono ?_
        rintro r w1 ⟨rfl, he⟩
        obtain rfl := Eq.symm he
        go_wp2
        go_roundg (5 - (0 + 1))
        case measure => omega
        case rel => exact ⟨1, by omega, Nat.le_refl _, by go_num, rfl, rfl, HNX.out⟩
      · simp only [Nat.reduceAdd, lim9] at HNI HNX
        generalize hn : chV bs Q 0 1 = n at HNI HNX
        go_wp2_with fail
        refine HNI.out.mono ?_
        rintro r w1 ⟨rfl, he⟩
        obtain rfl := Eq.symm he
        go_wp2
        go_roundg (5 - (1 + 1))
        case measure => omega
        case rel => exact ⟨2, by omega, Nat.le_refl _, by go_num, rfl, rfl, HNX.out⟩
      · simp only [Nat.reduceAdd, lim9] at HNI HNX
        generalize hn : chV bs Q 0 2 = n at HNI HNX
        go_wp2_with fail
        refine HNI.out.mono ?_
        rintro r w1 ⟨rfl, he⟩
        obtain rfl := Eq.symm he
        go_wp2
        go_roundg (5 - (2 + 1))
        case measure => omega
        case rel => exact ⟨3, by omega, Nat.le_refl _, by go_num, rfl, rfl, HNX.out⟩
      · simp only [Nat.reduceAdd, lim9] at HNI HNX
        generalize hn : chV bs Q 0 3 = n at HNI HNX
        go_wp2_with fail
        refine HNI.out.mono ?_
        rintro r w1 ⟨rfl, he⟩
        obtain rfl := Eq.symm he
        go_wp2
        go_roundg (5 - (3 + 1))
        case measure => omega
        case rel => exact ⟨4, by omega, Nat.le_refl _, by go_num, rfl, rfl, HNX.out⟩
      · simp only [Nat.reduceAdd, lim9] at HNI HNX
        generalize hn : chV bs Q 0 4 = n at HNI HNX
        go_wp2_with fail
        refine HNI.out.mono ?_
        rintro r w1 ⟨rfl, he⟩
        obtain rfl := Eq.symm he
        go_wp2
        go_roundg (5 - (4 + 1))
        case measure => omega
        case rel => exact ⟨5, by omega, Nat.le_refl _, by go_num, rfl, rfl, HNX.out⟩
    · have hex : i = 5 ∨ (chS bs Q 0 i).2 ≠ 0 := by omega
      obtain ⟨hs5, hV⟩ := HEND.out i hi5 hex
      have HV : Hid (wr.heap[w.heap.size + 2]? = some (.cells #[.int .u64 (chV bs Q 0 0 : Int), .int .u64 (chV bs Q 0 1 : Int), .int .u64 (chV bs Q 0 2 : Int), .int .u64 (chV bs Q 0 3 : Int), .int .u64 (chV bs Q 0 4 : Int)] 155 (0, 0))) := by
        have := HA.out.val
        rwa [hV 0 (by omega), hV 1 (by omega), hV 2 (by omega), hV 3 (by omega), hV 4 (by omega)] at this
      have HRES := Lib.hid HA.out.res
      have HBEL := Lib.hid HA.out.bel
      have hst := HS5.out 5
      rw [← hs5] at hgo hex ⊢
      clear HA hV HEND HN HS5
      generalize chS bs Q 0 5 = S5 at *
      obtain ⟨q5, e5⟩ := S5
      simp only at hgo hex hst HTX ⊢
      have hdec : decide ((i : Int) < 5) = false ∨ ((e5 : Int) == 0) = false := by
        rcases hex with h | h
        · exact Or.inl (by subst h; rfl)
        · exact Or.inr (beq_no (by omega))
      have hwhy : ¬ ((i : Int) < 5) ∨ ((i : Int) < 5 ∧ ((e5 : Int) == 0) = false) := by
        by_cases h5 : (i : Int) < 5
        · refine Or.inr ⟨h5, beq_no ?_⟩
          intro h
          exact hgo ⟨by omega, by omega⟩
        · exact Or.inl h5
      obtain ⟨x0, x1, x2, x3, x4⟩ := five_cells HV.out
      clear hgo hex hdec
      generalize hc0 : chV bs Q 0 0 = c0 at *
      generalize hc1 : chV bs Q 0 1 = c1 at *
      generalize hc2 : chV bs Q 0 2 = c2 at *
      generalize hc3 : chV bs Q 0 3 = c3 at *
      generalize hc4 : chV bs Q 0 4 = n at *
      have z0 : IntKind.u16.wrap (c0 : Int) = (c0 : Int) := by rw [IntKind.wrap_u16]; omega
      have z1 : IntKind.u32.wrap (c1 : Int) = (c1 : Int) := by rw [IntKind.wrap_u32]; omega
      have z3 : IntKind.i64.wrap (c3 : Int) = (c3 : Int) := by rw [IntKind.wrap_i64]; omega
      have HT0 := Lib.hid (heap_alloc_new wr (.cells #[.int .u16 (c0 : Int), .int .u32 (c1 : Int), .int .u64 (c2 : Int), .int .i64 (c3 : Int), .slice none 0 0] 37))
      have hXl : w.heap.size + 2 < wr.heap.size := lt_of_block HV.out
      have HB1 : Hid (Below w.heap.size w (wr.alloc (.cells #[.int .u16 (c0 : Int), .int .u32 (c1 : Int), .int .u64 (c2 : Int), .int .i64 (c3 : Int), .slice none 0 0] 37))) := below_alloc HBEL.out _
      have HR1 := Lib.hid (kept_box HRES.out (below_alloc (Below.refl _ _) (.cells #[.int .u16 (c0 : Int), .int .u32 (c1 : Int), .int .u64 (c2 : Int), .int .i64 (c3 : Int), .slice none 0 0] 37)))
      have HV1 := Lib.hid (kept_box HV.out (below_alloc (Below.refl _ _) (.cells #[.int .u16 (c0 : Int), .int .u32 (c1 : Int), .int .u64 (c2 : Int), .int .i64 (c3 : Int), .slice none 0 0] 37)))
      have HH1 : Hid (Hold layO w 71 (.slice none 0 0) [] (wr.alloc (.cells #[.int .u16 (c0 : Int), .int .u32 (c1 : Int), .int .u64 (c2 : Int), .int .i64 (c3 : Int), .slice none 0 0] 37))) := ⟨World.ownsRow_nil _ w.heap.size _ _, HB1.out⟩
      rcases hwhy with hwhy | ⟨hwhy, hwhy2⟩
      all_goals
        go_wp2
        clear x0 x1 x2 x3 x4
        generalize wr.alloc (.cells #[.int .u16 (c0 : Int), .int .u32 (c1 : Int), .int .u64 (c2 : Int), .int .i64 (c3 : Int), .slice none 0 0] 37) = W1 at HT0 HB1 HR1 HV1 HH1 ⊢
        generalize wr.heap.size = X at HT0 hXl ⊢
        clear HRES HBEL HV
        go_loopg [1, 9, 12] n (fun g qv ev kv W => ∃ (k qh e : Nat) (q : Int) (v : Value) (ys : List OV), k ≤ n ∧ n - k ≤ g ∧ kv = .int .u64 (k : Int) ∧ qv = .int .i64 q ∧ ev = .int .i64 (e : Int) ∧ (e = 0 → q = (qh : Int)) ∧ qh ≤ bs.length ∧ ys.length = k ∧ rdOs bs n q5 e5 = (ys.map (·.1) ++ (rdOs bs (n - k) qh e).1, (rdOs bs (n - k) qh e).2) ∧ Hold layO w 71 v ys W ∧ (∀ y ∈ ys, OwnG W y) ∧ W.heap[w.heap.size]? = some (.cells #[.int .u16 0, .int .u32 0, .int .u64 0, .int .i64 0, .slice none 0 0] 37 (0, 0)) ∧ W.heap[w.heap.size + 2]? = some (.cells #[.int .u64 (c0 : Int), .int .u64 (c1 : Int), .int .u64 (c2 : Int), .int .u64 (c3 : Int), .int .u64 (n : Int)] 155 (0, 0)) ∧ W.heap[X]? = some (.cells #[.int .u16 (c0 : Int), .int .u32 (c1 : Int), .int .u64 (c2 : Int), .int .i64 (c3 : Int), v] 37 (0, 0)))
        case atStart => exact ⟨0, q5, e5, (q5 : Int), .slice none 0 0, [], Nat.zero_le _, by omega, rfl, rfl, rfl, fun _ => rfl, hst.1, rfl, by simp, HH1.out, (fun y hy => by cases hy), HR1.out, HV1.out, HT0.out⟩
        case round =>
          clear HH1 HR1 HV1 HT0 HB1
          obtain ⟨k, qh, e, q, v, ys, hk, hg, rfl, rfl, rfl, hqe, hqh, hyl, hrd, hH, hE, h1, h2, h3⟩ := hrel
          have HH := Lib.hid hH
          have HE := Lib.hid hE
          have H1 := Lib.hid h1
          have H2 := Lib.hid h2
          have H3 := Lib.hid h3
          have HRD := Lib.hid hrd
          obtain ⟨x0, x1, x2, x3, x4⟩ := five_cells h2
          obtain ⟨s0, s1, s2, s3, s4⟩ := five_cells h3
          clear hH hE h1 h2 h3 hrd
          by_cases hgo : k < n ∧ e = 0
          · obtain ⟨hkn, rfl⟩ := hgo
            obtain rfl := hqe rfl
            have hkl : (k : Int) < (n : Int) := by omega
            have HQ : Hid (∀ A : Obj, Calls Tryz.prog 106 #[.slice p bs.length c, .int .i64 (qh : Int)] (wr.alloc A) (Read8At bs qh (wr.alloc A))) := fun A => HO.out qh hqh _ (below_alloc HH.out.2 A)
            have HST := Lib.hid (rdOs_step (bs := bs) (q := qh) hkn)
            have hrr := readO_range (e := 0) hqh (by omega) hl
            unfold Read8At at HQ
            generalize readO bs qh 0 = ro at HQ HST hrr
            obtain ⟨om, qo, eo⟩ := ro
            simp only at HQ HST hrr
            have HOM : Hid (∀ p c, ov om p c = .agg #[.int .i64 om.kind, .int .u16 om.r, .int .u32 om.n, .int .u32 om.num, .string ⟨om.text.toArray⟩, .slice p om.spans.length c, .int .u32 om.seq]) := fun p c => rfl
            generalize hbt : (⟨om.text.toArray⟩ : ByteArray) = bt at HOM
            have hX3 : X < wr.heap.size := lt_of_block H3.out
            have hne1 : ¬ X = wr.heap.size := by omega
            have hne2 : ¬ wr.heap.size = X := by omega
            go_wp2_with fail
            refine (HQ.out _).mono ?_
            rintro r w4 ⟨p4, c4, q4, rfl, hG, hq4, hb4, hk4⟩
            rw [HOM.out]
            have HY4 := Lib.hid (kept_box (heap_alloc_new wr (.cells #[.int .i64 0, .int .u16 0, .int .u32 0, .int .u32 0, .string ⟨#[]⟩, .slice none 0 0, .int .u32 0] 71)) hb4)
            have hB4 := below_step (below_alloc (Below.refl wr.heap.size wr) (.cells #[.int .i64 0, .int .u16 0, .int .u32 0, .int .u32 0, .string ⟨#[]⟩, .slice none 0 0, .int .u32 0] 71)) hb4
            have H14 := Lib.hid (kept_box H1.out hB4)
            have H24 := Lib.hid (kept_box H2.out hB4)
            have H34 := Lib.hid (kept_box H3.out hB4)
            have HH4 := Lib.hid (HH.out.below hB4)
            have HE4 : Hid (∀ y ∈ ys, OwnG w4 y) := fun y hy => (HE.out y hy).below hB4
            have HO4 : Hid (OwnG w4 (om, p4, c4)) := ⟨hG, hk4⟩
            have HAP : Hid (v.ownBlock ≠ some wr.heap.size) := fun ee => by have := (HH.out.1.lt _ ee).2; omega
            have hww : w.heap.size ≤ wr.heap.size := HH.out.2.size
            obtain ⟨y0, y1, y2, y3, y4, y5, y6⟩ := seven_cells HY4.out
            obtain ⟨t0', t1', t2', t3', t4'⟩ := five_cells H34.out
            have fy : ∀ o, w4.frozen? ⟨wr.heap.size, o, none⟩ = false := fun o => frozen_of_block HY4.out
            have hS7 := only_seven w4 wr.heap.size (.int .i64 om.kind) (.int .u16 om.r) (.int .u32 om.n) (.int .u32 om.num) (.string bt) (.slice p4 om.spans.length c4) (.int .u32 om.seq)
            have HS7 := Lib.hid hS7
            have H35 := Lib.hid (hS7.stays H34.out hne1)
            have u4 := (five_cells H35.out).2.2.2.2
            clear hG hk4 hb4 hB4 HE HH H1 H2 H3 x0 x1 x2 x3 x4 s0 s1 s2 s3 s4 hS7 HQ
            have HH6 : Hid (Hold layO w 71 v ys ((((((((w4.setCell ⟨wr.heap.size, 0, none⟩ (.int .i64 om.kind)).setCell ⟨wr.heap.size, 1, none⟩ (.int .u16 om.r)).setCell ⟨wr.heap.size, 2, none⟩ (.int .u32 om.n)).setCell ⟨wr.heap.size, 3, none⟩ (.int .u32 om.num)).setCell ⟨wr.heap.size, 4, none⟩ (.string bt)).setCell ⟨wr.heap.size, 5, none⟩ (.slice p4 om.spans.length c4)).setCell ⟨wr.heap.size, 6, none⟩ (.int .u32 om.seq)).alloc (.cells #[.int .i64 om.kind, .int .u16 om.r, .int .u32 om.n, .int .u32 om.num, .string bt, .slice p4 om.spans.length c4, .int .u32 om.seq] 71))) := (HH4.out.only HS7.out HAP.out hww).alloc _
            have hsz5 : (((((((w4.setCell ⟨wr.heap.size, 0, none⟩ (.int .i64 om.kind)).setCell ⟨wr.heap.size, 1, none⟩ (.int .u16 om.r)).setCell ⟨wr.heap.size, 2, none⟩ (.int .u32 om.n)).setCell ⟨wr.heap.size, 3, none⟩ (.int .u32 om.num)).setCell ⟨wr.heap.size, 4, none⟩ (.string bt)).setCell ⟨wr.heap.size, 5, none⟩ (.slice p4 om.spans.length c4)).setCell ⟨wr.heap.size, 6, none⟩ (.int .u32 om.seq)).heap.size = w4.heap.size := by simp [World.setCell]
            go_wp2_with (first
              | (at_builtin; refine wpList_append_own _ rfl (.tmp 66) (.tmp 68) 35 rfl w.heap.size 71 i0 (.agg #[.int .i64 0, .int .u16 0, .int .u32 0, .int .u32 0, .string ⟨#[]⟩, .slice none 0 0, .int .u32 0]) 7 72 Tryz.underlying35 hi hz0 hz1 hz2 rfl (by decide) v ys.length (layO.flat ys) rfl HH6.out.1 ⟨w4.heap.size, 0, none⟩ 1 1 [.int .i64 om.kind, .int .u16 om.r, .int .u32 om.n, .int .u32 om.num, .string bt, .slice p4 om.spans.length c4, .int .u32 om.seq] rfl rfl (by have := @cells_new (((((((w4.setCell ⟨wr.heap.size, 0, none⟩ (.int .i64 om.kind)).setCell ⟨wr.heap.size, 1, none⟩ (.int .u16 om.r)).setCell ⟨wr.heap.size, 2, none⟩ (.int .u32 om.n)).setCell ⟨wr.heap.size, 3, none⟩ (.int .u32 om.num)).setCell ⟨wr.heap.size, 4, none⟩ (.string bt)).setCell ⟨wr.heap.size, 5, none⟩ (.slice p4 om.spans.length c4)).setCell ⟨wr.heap.size, 6, none⟩ (.int .u32 om.seq)) [.int .i64 om.kind, .int .u16 om.r, .int .u32 om.n, .int .u32 om.num, .string bt, .slice p4 om.spans.length c4, .int .u32 om.seq] 71; rw [hsz5] at this; exact this) (by have := layO.one (om, p4, c4); rw [← hbt]; exact this) (by unfold maxLen; omega) (by omega) HH6.out.2.size ?_))
            intro v' w7 hown' hgrow _
            rw [← hyl] at hown'
            obtain ⟨pv, cv, rfl⟩ := owns_slice hown'
            have HH7 : Hid (Hold layO w 71 (.slice pv (ys.length + 1) cv) (ys ++ [(om, p4, c4)]) w7) := HH6.out.onto (ys := [(om, p4, c4)]) (by rw [layO.flat_one, ← hbt]; rfl) (by simp) hown' hgrow
            have H17 := Lib.hid (box_grown (by decide) (kept_box (HS7.out.stays H14.out (by omega)) (below_alloc (Below.refl _ _) (.cells #[.int .i64 om.kind, .int .u16 om.r, .int .u32 om.n, .int .u32 om.num, .string bt, .slice p4 om.spans.length c4, .int .u32 om.seq] 71))) HH6.out.1 hgrow)
            have H27 := Lib.hid (box_grown (by decide) (kept_box (HS7.out.stays H24.out (by omega)) (below_alloc (Below.refl _ _) (.cells #[.int .i64 om.kind, .int .u16 om.r, .int .u32 om.n, .int .u32 om.num, .string bt, .slice p4 om.spans.length c4, .int .u32 om.seq] 71))) HH6.out.1 hgrow)
            have H37 := Lib.hid (box_grown (by decide) (kept_box H35.out (below_alloc (Below.refl _ _) (.cells #[.int .i64 om.kind, .int .u16 om.r, .int .u32 om.n, .int .u32 om.num, .string bt, .slice p4 om.spans.length c4, .int .u32 om.seq] 71))) HH6.out.1 hgrow)
            have HE7 : Hid (∀ y ∈ ys ++ [(om, p4, c4)], OwnG w7 y) := fun y hy => by
              have h4 : OwnG w4 y := by
                rcases List.mem_append.1 hy with hy | hy
                · exact HE4.out y hy
                · rw [List.mem_singleton.1 hy]; exact HO4.out
              exact ((h4.only (by decide) HY4.out HS7.out).below (below_alloc (Below.refl _ _) _)).grown (by decide) HH6.out.1 hgrow
            clear hown' hgrow HH6 HH4 HE4 HO4 H14 H24 H34 H35 HS7 HY4 y0 y1 y2 y3 y4 y5 y6 t0' t1' t2' t3' t4' u4 fy
            have z7 := (five_cells H37.out).2.2.2.2
            have f7 : w7.frozen? ⟨X, 4, none⟩ = false := frozen_of_block H37.out
            have HFIN : Hid (Hold layO w 71 (.slice pv (ys.length + 1) cv) (ys ++ [(om, p4, c4)]) (w7.setCell ⟨X, 4, none⟩ (.slice pv (ys.length + 1) cv)) ∧ (∀ y ∈ ys ++ [(om, p4, c4)], OwnG (w7.setCell ⟨X, 4, none⟩ (.slice pv (ys.length + 1) cv)) y) ∧ (w7.setCell ⟨X, 4, none⟩ (.slice pv (ys.length + 1) cv)).heap[w.heap.size]? = some (.cells #[.int .u16 0, .int .u32 0, .int .u64 0, .int .i64 0, .slice none 0 0] 37 (0, 0)) ∧ (w7.setCell ⟨X, 4, none⟩ (.slice pv (ys.length + 1) cv)).heap[w.heap.size + 2]? = some (.cells #[.int .u64 (c0 : Int), .int .u64 (c1 : Int), .int .u64 (c2 : Int), .int .u64 (c3 : Int), .int .u64 (n : Int)] 155 (0, 0)) ∧ (w7.setCell ⟨X, 4, none⟩ (.slice pv (ys.length + 1) cv)).heap[X]? = some (.cells #[.int .u16 (c0 : Int), .int .u32 (c1 : Int), .int .u64 (c2 : Int), .int .i64 (c3 : Int), .slice pv (ys.length + 1) cv] 37 (0, 0))) := by
              refine ⟨HH7.out.other (kind_apart (by decide) H37.out HH7.out.1) (by omega) 4 _, fun y hy => (HE7.out y hy).only (by decide) H37.out (only_set w7 _ 4 _), ?_, ?_, ?_⟩
              · rw [heap_setCell_other _ _ _ _ (by simp; omega)]; exact H17.out
              · rw [heap_setCell_other _ _ _ _ (by simp; omega)]; exact H27.out
              · have := heap_setCell_same w7 X 4 _ _ (.slice pv (ys.length + 1) cv) H37.out
                simpa using this
            have HRD2 : Hid (rdOs bs n q5 e5 = ((ys ++ [(om, p4, c4)]).map (·.1) ++ (rdOs bs (n - (k + 1)) qo eo).1, (rdOs bs (n - (k + 1)) qo eo).2)) := by
              show _ = _
              rw [HRD.out, HST.out]
              simp
            rw [hyl] at HFIN
            clear HH7 H17 H27 H37 HE7
            go_wp2
            go_roundg (n - (k + 1))
            case measure => omega
            case rel => exact ⟨k + 1, qo, eo, q4, _, ys ++ [(om, p4, c4)], by omega, Nat.le_refl _, by go_num, rfl, rfl, hq4, hrr.1, by simp [hyl], HRD2.out, HFIN.out.1, HFIN.out.2.1, HFIN.out.2.2.1, HFIN.out.2.2.2.1, HFIN.out.2.2.2.2⟩
          · have hrest : rdOs bs (n - k) qh e = ([], qh, e) := by
              by_cases h0 : e = 0
              · have : k = n := by omega
                subst this
                rw [Nat.sub_self]; rfl
              · exact rdOs_err bs _ _ _ h0
            have HRD2 : Hid (rdOs bs n q5 e5 = (ys.map (·.1), qh, e)) := by show _ = _; rw [HRD.out, hrest]; simp
            rw [HRD2.out] at HTX
            clear HRD hrest HRD2
            obtain ⟨r0, r1, r2, r3, r4⟩ := five_cells H1.out
            have fr : ∀ o, wr.frozen? ⟨w.heap.size, o, none⟩ = false := fun o => frozen_of_block H1.out
            by_cases h0 : e = 0
            · subst h0
              obtain rfl := hqe rfl
              subst hyl
              have hkn : ¬ ((ys.length : Nat) : Int) < (n : Int) := by omega
              have HTX2 : Hid (readTx bs Q 0 = (⟨(c0 : Int), (c1 : Int), (c2 : Int), (c3 : Int), ys.map (·.1)⟩, qh, 0)) := by show _ = _; rw [HTX.out]; rfl
              obtain ⟨pv, cv, rfl, hGv, -, -⟩ := HH.out.gave layO_pos
              have HG := Lib.hid hGv
              have HAP := Lib.hid (kind_apart (by decide) H1.out HH.out.1)
              clear hGv HTX
              go_wp2
              (try simp only [Exit.inBlock, Exit.then])
              have hS := only_five wr w.heap.size (.int .u16 (c0 : Int)) (.int .u32 (c1 : Int)) (.int .u64 (c2 : Int)) (.int .i64 (c3 : Int)) (.slice pv ys.length cv)
              refine bodyPost_ret (results_ctt (p := 4) (t := 5) (u := 6) (ty := 37) rfl _ _ ⟨w.heap.size, 0, none⟩ _ rfl (load9 (box_five H1.out) rfl)) rfl ?_
              unfold Read9At
              rw [HTX2.out]
              refine ⟨ys, pv, cv, (qh : Int), by unfold tv; simp, rfl, HG.out.kept hS (fun a ea ee => ?_), fun y hy => ((HE.out y hy).only (by decide) H1.out hS).1, fun _ => rfl, HH.out.2.trans (hS.below HH.out.2.size (fun i ei => by have ei : i = w.heap.size := ei; omega))⟩
              apply HAP.out
              rw [ea]
              have ee : a.block = w.heap.size := ee
              simp [Value.ownBlock, ee]
            · have h0' : ((e : Int) == 0) = false := beq_no (by omega)
              have h0'' : ((e : Int) != 0) = true := by simpa using h0
              have HTX2 : Hid (readTx bs Q 0 = (Tm.mk 0 0 0 0 [], qh, e)) := by show _ = _; rw [HTX.out]; simp only; rw [if_neg h0]; rfl
              clear HTX
              have hS := only_five wr w.heap.size (.int .u16 0) (.int .u32 0) (.int .u64 0) (.int .i64 0) (.slice none 0 0)
              have HS := Lib.hid hS
              clear hS
              by_cases hkn : (k : Int) < (n : Int)
              all_goals
                go_wp2
                (try simp only [Exit.inBlock, Exit.then])
                refine bodyPost_ret (results_ctt (p := 4) (t := 5) (u := 6) (ty := 37) rfl _ _ ⟨w.heap.size, 0, none⟩ _ rfl (load9 (box_five H1.out) rfl)) rfl ?_
                unfold Read9At
                rw [HTX2.out]
                exact ⟨[], none, 0, q, rfl, rfl, GRow.nil _ _ _, (fun y hy => by cases hy), fun h => absurd h h0, HH.out.2.trans (HS.out.below HH.out.2.size (fun i ei => by have ei : i = w.heap.size := ei; omega))⟩
end Go.Proofs.YtceanfpcddcfoaaGreat
/-
  What the document's reading of a frame's inner bytes, layer 10, hands back, of any bytes. No conditions beyond what each theorem states.
-/
namespace Go.Proofs.YtceanfpcddcfoaaGreat
open Go.ChangeShapes Go.WideShapes Go.ChangeAt Go.RowKit Go.Lib
set_option linter.unusedVariables false
set_option linter.unusedSimpArgs false

/-- Entries of a vector, two cells each. -/
def layV : Lay Vec.En := ⟨2, fun x => [.int .u16 x.1, .int .u32 x.2], fun _ => rfl, fun x u hu => by
  simp at hu
  rcases hu with rfl | rfl <;> rfl⟩
theorem layV_pos : 0 < layV.k := by decide
theorem vrow {w : World} {p : Option Addr} {xs : List Vec.En} (h : GRow layV w p xs) : Vec.Row w p xs := fun i hi => by
  obtain ⟨b, o, rfl, h0⟩ := h.cell (0, 0) (j := 0) hi rfl
  obtain ⟨b1, o1, e1, h1⟩ := h.cell (0, 0) (j := 1) hi rfl
  cases e1
  exact ⟨b, o, rfl, h0, h1⟩
theorem vrow_kept {S : Nat → Prop} {a b : World} {p : Option Addr} {xs : List Vec.En} (h : Vec.Row a p xs) (hk : Kept S a b) (hn : ∀ q, p = some q → ¬ S q.block) : Vec.Row b p xs := fun i hi => by
  obtain ⟨g, o, e, h1, h2⟩ := h i hi
  refine ⟨g, o, e, ?_, ?_⟩
  · rw [World.cell?_of_block (w := a) (hk.block g (block_lt_of_cell h1) (hn _ e))]; exact h1
  · rw [World.cell?_of_block (w := a) (hk.block g (block_lt_of_cell h2) (hn _ e))]; exact h2
theorem infoE2 : (Tryz.prog.info? 101).map (fun i => (i.zero, i.size, i.bytes)) = some (some (.agg #[.int .u16 0, .int .u32 0]), 2, 8) := by kernel_rfl
theorem szE : (Tryz.prog.info? 39).map (·.size) = some 6 := by kernel_rfl
theorem loadE {w : World} {B : Nat} {cs : Array Value} {t : TypeId} (h : w.heap[B]? = some (.cells cs t (0, 0))) (hs : cs.size = 6) : (loadVar 39 ⟨B, 0, none⟩).run Tryz.prog w = .ok (.agg cs) w :=
  run_loadVar_row w B t 39 _ (0, 0) _ h Tryz.underlying39 rfl (by rw [hs]; exact szE)
theorem results_ct {P : Program} {fn : Func} {p t : Tmp} {ty : TypeId} (h : fn.results = #[.cell p ty, .tmp t]) (tmps : Array Value) (w : World) (a : Addr) (va : Value)
    (hp : tmps.getD p undef = .pointer (some a)) (la : (loadVar ty a).run P w = .ok va w) :
    (results fn tmps).run P w = .ok (.tuple #[va, tmps.getD t undef]) w := by
  have hp' : tmps[p]?.getD undef = .pointer (some a) := by simpa using hp
  simp [results, h, hp', asAddr, la]
theorem box_six {w : World} {B : Nat} {a b c d e f a' b' c' d' e' f' : Value} {t : TypeId} (h : w.heap[B]? = some (.cells #[a, b, c, d, e, f] t (0, 0))) :
    ((((((w.setCell ⟨B, 0, none⟩ a').setCell ⟨B, 1, none⟩ b').setCell ⟨B, 2, none⟩ c').setCell ⟨B, 3, none⟩ d').setCell ⟨B, 4, none⟩ e').setCell ⟨B, 5, none⟩ f').heap[B]? = some (.cells #[a', b', c', d', e', f'] t (0, 0)) := by
  have h1 := heap_setCell_same w B 0 _ t a' h
  have h2 := heap_setCell_same _ B 1 _ t b' h1
  have h3 := heap_setCell_same _ B 2 _ t c' h2
  have h4 := heap_setCell_same _ B 3 _ t d' h3
  have h5 := heap_setCell_same _ B 4 _ t e' h4
  have h6 := heap_setCell_same _ B 5 _ t f' h5
  simpa using h6
theorem only_six (w : World) (B : Nat) (a b c d e f : Value) :
    Only B w ((((((w.setCell ⟨B, 0, none⟩ a).setCell ⟨B, 1, none⟩ b).setCell ⟨B, 2, none⟩ c).setCell ⟨B, 3, none⟩ d).setCell ⟨B, 4, none⟩ e).setCell ⟨B, 5, none⟩ f) :=
  (((((only_set w B 0 a).trans (only_set _ B 1 b)).trans (only_set _ B 2 c)).trans (only_set _ B 3 d)).trans (only_set _ B 4 e)).trans (only_set _ B 5 f)
/-- The transaction in a box of six, set. -/
theorem box_txn {w : World} {B : Nat} {a b c d e f b' c' d' e' f' : Value} {t : TypeId} (h : w.heap[B]? = some (.cells #[a, b, c, d, e, f] t (0, 0))) :
    (((((w.setCell ⟨B, 1, none⟩ b').setCell ⟨B, 2, none⟩ c').setCell ⟨B, 3, none⟩ d').setCell ⟨B, 4, none⟩ e').setCell ⟨B, 5, none⟩ f').heap[B]? = some (.cells #[a, b', c', d', e', f'] t (0, 0)) := by
  have h2 := heap_setCell_same w B 1 _ t b' h
  have h3 := heap_setCell_same _ B 2 _ t c' h2
  have h4 := heap_setCell_same _ B 3 _ t d' h3
  have h5 := heap_setCell_same _ B 4 _ t e' h4
  have h6 := heap_setCell_same _ B 5 _ t f' h5
  simpa using h6
theorem only_txn (w : World) (B : Nat) (b c d e f : Value) :
    Only B w (((((w.setCell ⟨B, 1, none⟩ b).setCell ⟨B, 2, none⟩ c).setCell ⟨B, 3, none⟩ d).setCell ⟨B, 4, none⟩ e).setCell ⟨B, 5, none⟩ f) :=
  ((((only_set w B 1 b).trans (only_set _ B 2 c)).trans (only_set _ B 3 d)).trans (only_set _ B 4 e)).trans (only_set _ B 5 f)
theorem grow_apartO {w w' : World} {p : Option Addr} {us : List OV} {X m m2 : Nat} {k k2 : Nat} {pv qv : Option Addr} {a b c d : Int} {t : TypeId} (h : GRow layO w p us) (hX : w.heap[X]? = some (.cells #[.slice pv m k, .int .u16 a, .int .u32 b, .int .u64 c, .int .i64 d, .slice qv m2 k2] t (0, 0))) (ho : Only X w w') : GRow layO w' p us := by
  cases us with
  | nil => exact GRow.nil _ _ _
  | cons u us =>
    refine h.kept ho (fun r ea ee => ?_)
    obtain ⟨g, o, e1, c0, c1, -⟩ := orow_at h (i := 0) (by simp)
    rw [e1] at ea
    cases ea
    have ee : g = X := ee
    subst ee
    rw [cell_of_block hX] at c0 c1
    simp only [Nat.zero_mul, Nat.add_zero] at c0 c1
    match o, c0, c1 with
    | 0, c0, c1 => simp at c0
    | 1, c0, c1 => simp at c0
    | 2, c0, c1 => simp at c0
    | 3, c0, c1 => simp at c0
    | 4, c0, c1 => simp at c1
    | 5, c0, c1 => simp at c0
    | o + 6, c0, c1 => simp at c0
theorem grow_apartS {w w' : World} {p : Option Addr} {us : List Sp} {X m m2 : Nat} {k k2 : Nat} {pv qv : Option Addr} {a b c d : Int} {t : TypeId} (h : GRow layS w p us) (hX : w.heap[X]? = some (.cells #[.slice pv m k, .int .u16 a, .int .u32 b, .int .u64 c, .int .i64 d, .slice qv m2 k2] t (0, 0))) (ho : Only X w w') : GRow layS w' p us := by
  cases us with
  | nil => exact GRow.nil _ _ _
  | cons u us =>
    refine h.kept ho (fun r ea ee => ?_)
    obtain ⟨g, o, e1, c0, c1, c2⟩ := srow_at h (i := 0) (by simp)
    rw [e1] at ea
    cases ea
    have ee : g = X := ee
    subst ee
    rw [cell_of_block hX] at c0 c1 c2
    simp only [Nat.zero_mul, Nat.add_zero] at c0 c1 c2
    match o, c0, c1, c2 with
    | 0, c0, c1, c2 => simp at c0
    | 1, c0, c1, c2 => simp at c2
    | 2, c0, c1, c2 => simp at c0
    | 3, c0, c1, c2 => simp at c0
    | 4, c0, c1, c2 => simp at c0
    | 5, c0, c1, c2 => simp at c0
    | o + 6, c0, c1, c2 => simp at c0
theorem LieT.only {w w' : World} {t : Tm} {us : List OV} {p : Option Addr} {X m m2 : Nat} {k k2 : Nat} {pv qv : Option Addr} {a b c d : Int} {ty : TypeId} (h : LieT t us p w) (hX : w.heap[X]? = some (.cells #[.slice pv m k, .int .u16 a, .int .u32 b, .int .u64 c, .int .i64 d, .slice qv m2 k2] ty (0, 0))) (ho : Only X w w') : LieT t us p w' :=
  ⟨h.fit, h.ops, grow_apartO h.row hX ho, fun x hx => grow_apartS (h.each x hx) hX ho⟩
/-- What the document tells of bytes: an envelope, where its parts lie, and an error. -/
def ReadAtE (e : Em) (f : Int) (w : World) (r : Ending) (w' : World) : Prop := ∃ ys p c q d, r = .returned (.tuple #[ev e p c q d, .int .i64 f]) ∧ Vec.Row w' p e.deps ∧ KindAt 101 w' p ∧ LieT e.txn ys q w' ∧ Below w.heap.size w w'
theorem fitTm_none : FitTm t0 := fitTm_zero
theorem lie_none (w : World) : LieT t0 [] none w := ⟨fitTm_zero, rfl, GRow.nil _ _ _, fun x hx => by cases hx⟩
theorem row_none_nil (w : World) : Vec.Row w none [] := fun i hi => by simp at hi

set_option maxHeartbeats 3200000 in
set_option maxRecDepth 20000 in
theorem refbodyE_any (bs : List UInt8) (p : Option Addr) (c : Nat) (w : World) (hR : BRow w p bs) (hl : bs.length ≤ 20000) (hcap : bs.length ≤ c) :
    Calls Tryz.prog 48 #[.slice p bs.length c] w (ReadAtE (readBody bs).1 (readBody bs).2 w) := by
  obtain ⟨i0, hi, hz0, hz1, hz2⟩ := info_parts infoE2
  have HR := Lib.hid hR
  have HNUM : Hid (∀ (q lim : Nat), q ≤ bs.length → lim < 18446744073709551616 → ∀ W, Below w.heap.size w W → Calls Tryz.prog 80 #[.slice p bs.length c, .int .i64 (q : Int), .int .u64 (lim : Int)] W fun r w' => r = .returned (.tuple #[.int .u64 ((rdN bs q 0 lim).1 : Int), .int .i64 ((rdN bs q 0 lim).2.1 : Int), .int .i64 ((rdN bs q 0 lim).2.2 : Int)]) ∧ w' = W) := fun q lim hq hlim W hb => readnum_any bs q lim p c hlim hq (by omega) W (hR.below hb)
  have HRT : Hid (∀ (q : Nat), q ≤ bs.length → ∀ W, Below w.heap.size w W → Calls Tryz.prog 81 #[.slice p bs.length c, .int .i64 (q : Int)] W (Read9At bs q W)) := fun q hq W hb => refread9_at bs q hq p c W (hR.below hb) (by omega) hcap
  obtain ⟨N0, hN0⟩ : ∃ N, rdN bs 0 0 65536 = N := ⟨_, rfl⟩
  obtain ⟨D0, hD0⟩ : ∃ D, rdDs bs N0.1 N0.2.1 N0.2.2 = D := ⟨_, rfl⟩
  obtain ⟨T0, hT0⟩ : ∃ T, readTx bs D0.2.1 D0.2.2 = T := ⟨_, rfl⟩
  have HRB := Lib.hid (readBody_eq bs hN0 hD0 hT0)
  have H0 := HNUM.out 0 65536 (Nat.zero_le _) (by omega)
  have f1 := rdN_fits (bs := bs) (q := 0) (e := 0) (limit := 65536) (Nat.zero_le _)
  clear hR
  generalize readBody bs = RB at HRB ⊢
  rw [hN0] at H0 f1
  have H0 := Lib.hid H0
  clear hN0
  obtain ⟨n, qn, en⟩ := N0
  simp only at H0 hD0 f1
  have f2 := rdDs_range (bs := bs) n qn en f1.1 (by omega)
  rw [hD0] at f2
  have HDL := Lib.hid hD0
  have HTX := Lib.hid hT0
  clear hD0 hT0
  go_enter Tryz.func48, Tryz.ntmps48
  go_wp2_with fail
  have HB0 : Hid (Below w.heap.size w ((w.alloc (.cells #[.slice none 0 0, .int .u16 0, .int .u32 0, .int .u64 0, .int .i64 0, .slice none 0 0] 39)).alloc (.cells #[.slice none 0 0, .int .u16 0, .int .u32 0, .int .u64 0, .int .i64 0, .slice none 0 0] 39))) := below_alloc (below_alloc (Below.refl _ _) _) _
  have HX0 := Lib.hid (heap_alloc2_old w (.cells #[.slice none 0 0, .int .u16 0, .int .u32 0, .int .u64 0, .int .i64 0, .slice none 0 0] 39) (.cells #[.slice none 0 0, .int .u16 0, .int .u32 0, .int .u64 0, .int .i64 0, .slice none 0 0] 39))
  have HX1 := Lib.hid (heap_alloc2_new w (.cells #[.slice none 0 0, .int .u16 0, .int .u32 0, .int .u64 0, .int .i64 0, .slice none 0 0] 39) (.cells #[.slice none 0 0, .int .u16 0, .int .u32 0, .int .u64 0, .int .i64 0, .slice none 0 0] 39))
  have HH0 : Hid (Hold layV w 101 (.slice none 0 0) [] ((w.alloc (.cells #[.slice none 0 0, .int .u16 0, .int .u32 0, .int .u64 0, .int .i64 0, .slice none 0 0] 39)).alloc (.cells #[.slice none 0 0, .int .u16 0, .int .u32 0, .int .u64 0, .int .i64 0, .slice none 0 0] 39))) := (Hold.nil _ _ _).alloc _ |>.alloc _
  have hn16 : n ≤ 65536 := f1.2.1
  refine (H0.out _ HB0.out).mono ?_
  rintro e w1 ⟨rfl, hw⟩
  obtain rfl := Eq.symm hw
  clear hw H0
  generalize ((w.alloc (.cells #[.slice none 0 0, .int .u16 0, .int .u32 0, .int .u64 0, .int .i64 0, .slice none 0 0] 39)).alloc (.cells #[.slice none 0 0, .int .u16 0, .int .u32 0, .int .u64 0, .int .i64 0, .slice none 0 0] 39)) = W0 at HB0 HX0 HX1 HH0 ⊢
  go_wp2
  go_loopg [6, 7, 8] n (fun g at' ee kk wr => ∃ (k qh e : Nat) (v : Value) (ys : List Vec.En), k ≤ n ∧ n - k ≤ g ∧ kk = .int .u64 (k : Int) ∧ at' = .int .i64 (qh : Int) ∧ ee = .int .i64 (e : Int) ∧ qh ≤ bs.length ∧ e < 16 ∧ ys.length = k ∧ D0 = (ys ++ (rdDs bs (n - k) qh e).1, (rdDs bs (n - k) qh e).2) ∧ Hold layV w 101 v ys wr ∧ wr.heap[w.heap.size]? = some (.cells #[.slice none 0 0, .int .u16 0, .int .u32 0, .int .u64 0, .int .i64 0, .slice none 0 0] 39 (0, 0)) ∧ wr.heap[w.heap.size + 1]? = some (.cells #[v, .int .u16 0, .int .u32 0, .int .u64 0, .int .i64 0, .slice none 0 0] 39 (0, 0)))
  case atStart => exact ⟨0, qn, en, .slice none 0 0, [], Nat.zero_le _, by omega, rfl, rfl, rfl, f1.1, by omega, rfl, by rw [Nat.sub_zero, List.nil_append]; exact HDL.out.symm, HH0.out, HX0.out, HX1.out⟩
  case round =>
    clear HH0 HX0 HX1 HB0
    obtain ⟨k, qh, e, v, ys, hk, hg, rfl, rfl, rfl, hqh, he16, hyl, hD, hH, hX0, hX1⟩ := hrel
    have HH := Lib.hid hH
    have HX0 := Lib.hid hX0
    have HX1 := Lib.hid hX1
    have HD := Lib.hid hD
    clear hH hX0 hX1 hD
    have HYL := Lib.hid hyl
    have hyk : ys.length ≤ 65536 := by omega
    clear hyl
    have hXlt : w.heap.size + 1 < wr.heap.size := lt_of_block HX1.out
    by_cases hgo : k < n ∧ e = 0
    · obtain ⟨hkn, rfl⟩ := hgo
      have hkl : (k : Int) < (n : Int) := by omega
      have hkw : IntKind.u64.wrap ((k : Int) + 1) = (k : Int) + 1 := by rw [IntKind.wrap_u64]; omega
      have hst := rdDs_step (bs := bs) (q := qh) hkn
      have hdd : rdD bs qh = ((((rdN bs qh 0 65535).1 : Int), ((rdN bs (rdN bs qh 0 65535).2.1 (rdN bs qh 0 65535).2.2 268435456).1 : Int)), (rdN bs (rdN bs qh 0 65535).2.1 (rdN bs qh 0 65535).2.2 268435456).2) := rfl
      have hfa := rdN_fits (bs := bs) (q := qh) (e := 0) (limit := 65535) hqh
      have HA := HNUM.out qh 65535 hqh (by omega) wr HH.out.2
      generalize rdN bs qh 0 65535 = r1 at HA hdd hfa
      obtain ⟨x1, q1, e1⟩ := r1
      simp only at HA hdd hfa
      have hfb := rdN_fits (bs := bs) (q := q1) (e := e1) (limit := 268435456) hfa.1
      have HA := Lib.hid HA
      have hx1 : (x1 : Int) ≤ 65535 := by omega
      have hx1w : IntKind.u16.wrap (x1 : Int) = (x1 : Int) := by rw [IntKind.wrap_u16]; omega
      go_wp2_with fail
      refine HA.out.mono ?_
      rintro r w5 ⟨rfl, hw⟩
      obtain rfl := Eq.symm hw
      clear hw HA
      obtain ⟨x2, q2, e2, h2⟩ : ∃ x2 q2 e2, rdN bs q1 e1 268435456 = (x2, q2, e2) := ⟨_, _, _, rfl⟩
      rw [h2] at hdd hfb
      simp only at hdd hfb
      rw [hdd] at hst
      simp only at hst
      have HST : Hid (D0 = ((ys ++ [((x1 : Int), (x2 : Int))]) ++ (rdDs bs (n - (k + 1)) q2 e2).1, (rdDs bs (n - (k + 1)) q2 e2).2)) := by show _ = _; rw [HD.out, hst]; simp
      have hx2 : (x2 : Int) ≤ 268435456 := by omega
      have hx2w : IntKind.u32.wrap (x2 : Int) = (x2 : Int) := by rw [IntKind.wrap_u32]; omega
      have hq2 := hfb.1
      have he2 : e2 < 16 := by omega
      clear hst hdd HD
      obtain ⟨y0, y1, y2, y3, y4, y5⟩ := six_cells HX1.out
      by_cases he1 : e1 = 0
      · subst he1
        have HB := Lib.hid (HNUM.out q1 268435456 hfa.1 (by omega) wr HH.out.2)
        rw [h2] at HB
        simp only at HB
        clear y0 y1 y2 y3 y4 y5
        go_wp2_with fail
        refine HB.out.mono ?_
        rintro r w6 ⟨rfl, hw⟩
        obtain rfl := Eq.symm hw
        clear hw HB h2
        obtain ⟨y0, y1, y2, y3, y4, y5⟩ := six_cells HX1.out
        go_wp2_with (first
          | (at_builtin; refine wpList_append_own _ rfl (.tmp 45) (.tmp 51) 34 rfl w.heap.size 101 i0 (.agg #[.int .u16 0, .int .u32 0]) 2 8 Tryz.underlying34 hi hz0 hz1 hz2 rfl (by decide) v ys.length (layV.flat ys) rfl (HH.out.alloc _).1 ⟨wr.heap.size, 0, none⟩ 1 1 [.int .u16 (x1 : Int), .int .u32 (x2 : Int)] rfl rfl (cells_new (cs := [.int .u16 (x1 : Int), .int .u32 (x2 : Int)])) (layV.one ((x1 : Int), (x2 : Int))) (by unfold maxLen; omega) (by omega) (by have := HH.out.2.size; simp; omega) ?_))
        intro v' w7 hown hgrow _
        obtain ⟨pv, cv, rfl⟩ := owns_slice hown
        have HH7 : Hid (Hold layV w 101 (.slice pv (ys.length + 1) cv) (ys ++ [((x1 : Int), (x2 : Int))]) w7) := (HH.out.alloc _).onto (ys := [((x1 : Int), (x2 : Int))]) (by rw [layV.flat_one]; rfl) (by simp) hown hgrow
        have HX07 := Lib.hid (box_grown (by decide) (kept_box HX0.out (below_alloc (Below.refl _ _) (.cells #[.int .u16 (x1 : Int), .int .u32 (x2 : Int)] 101))) (HH.out.alloc _).1 hgrow)
        have HX17 := Lib.hid (box_grown (by decide) (kept_box HX1.out (below_alloc (Below.refl _ _) (.cells #[.int .u16 (x1 : Int), .int .u32 (x2 : Int)] 101))) (HH.out.alloc _).1 hgrow)
        clear hown hgrow HH HX0 HX1 y0 y1 y2 y3 y4 y5
        have z7 := (six_cells HX17.out).1
        have f7 : w7.frozen? ⟨w.heap.size + 1, 0, none⟩ = false := frozen_of_block HX17.out
        have HFIN : Hid (Hold layV w 101 (.slice pv (ys.length + 1) cv) (ys ++ [((x1 : Int), (x2 : Int))]) (w7.setCell ⟨w.heap.size + 1, 0, none⟩ (.slice pv (ys.length + 1) cv)) ∧ (w7.setCell ⟨w.heap.size + 1, 0, none⟩ (.slice pv (ys.length + 1) cv)).heap[w.heap.size]? = some (.cells #[.slice none 0 0, .int .u16 0, .int .u32 0, .int .u64 0, .int .i64 0, .slice none 0 0] 39 (0, 0)) ∧ (w7.setCell ⟨w.heap.size + 1, 0, none⟩ (.slice pv (ys.length + 1) cv)).heap[w.heap.size + 1]? = some (.cells #[.slice pv (ys.length + 1) cv, .int .u16 0, .int .u32 0, .int .u64 0, .int .i64 0, .slice none 0 0] 39 (0, 0))) := by
          refine ⟨HH7.out.other (kind_apart (by decide) HX17.out HH7.out.1) (by omega) 0 _, ?_, ?_⟩
          · rw [heap_setCell_other _ _ _ _ (by simp)]; exact HX07.out
          · have := heap_setCell_same w7 (w.heap.size + 1) 0 _ _ (.slice pv (ys.length + 1) cv) HX17.out
            simpa using this
        clear HH7 HX07 HX17
        go_wp2
        go_roundg (n - (k + 1))
        case measure => omega
        case rel => exact ⟨k + 1, q2, e2, _, ys ++ [((x1 : Int), (x2 : Int))], by omega, Nat.le_refl _, by go_num, rfl, rfl, hq2, he2, by rw [List.length_append, HYL.out]; rfl, HST.out, HFIN.out.1, HFIN.out.2.1, HFIN.out.2.2⟩
      · have he1' : ((e1 : Int) == 0) = false := beq_no (by omega)
        rw [rdN_err he1] at h2
        obtain ⟨rfl, rfl, rfl⟩ : 0 = x2 ∧ q1 = q2 ∧ e1 = e2 := by simpa using h2
        clear h2 y0 y1 y2 y3 y4 y5
        obtain ⟨y0, y1, y2, y3, y4, y5⟩ := six_cells HX1.out
        go_wp2_with (first
          | (at_builtin; refine wpList_append_own _ rfl (.tmp 45) (.tmp 51) 34 rfl w.heap.size 101 i0 (.agg #[.int .u16 0, .int .u32 0]) 2 8 Tryz.underlying34 hi hz0 hz1 hz2 rfl (by decide) v ys.length (layV.flat ys) rfl (HH.out.alloc _).1 ⟨wr.heap.size, 0, none⟩ 1 1 [.int .u16 (x1 : Int), .int .u32 0] rfl rfl (cells_new (cs := [.int .u16 (x1 : Int), .int .u32 0])) (layV.one ((x1 : Int), 0)) (by unfold maxLen; omega) (by omega) (by have := HH.out.2.size; simp; omega) ?_))
        intro v' w7 hown hgrow _
        obtain ⟨pv, cv, rfl⟩ := owns_slice hown
        have HH7 : Hid (Hold layV w 101 (.slice pv (ys.length + 1) cv) (ys ++ [((x1 : Int), 0)]) w7) := (HH.out.alloc _).onto (ys := [((x1 : Int), 0)]) (by rw [layV.flat_one]; rfl) (by simp) hown hgrow
        have HX07 := Lib.hid (box_grown (by decide) (kept_box HX0.out (below_alloc (Below.refl _ _) (.cells #[.int .u16 (x1 : Int), .int .u32 0] 101))) (HH.out.alloc _).1 hgrow)
        have HX17 := Lib.hid (box_grown (by decide) (kept_box HX1.out (below_alloc (Below.refl _ _) (.cells #[.int .u16 (x1 : Int), .int .u32 0] 101))) (HH.out.alloc _).1 hgrow)
        clear hown hgrow HH HX0 HX1 y0 y1 y2 y3 y4 y5
        have z7 := (six_cells HX17.out).1
        have f7 : w7.frozen? ⟨w.heap.size + 1, 0, none⟩ = false := frozen_of_block HX17.out
        have HFIN : Hid (Hold layV w 101 (.slice pv (ys.length + 1) cv) (ys ++ [((x1 : Int), 0)]) (w7.setCell ⟨w.heap.size + 1, 0, none⟩ (.slice pv (ys.length + 1) cv)) ∧ (w7.setCell ⟨w.heap.size + 1, 0, none⟩ (.slice pv (ys.length + 1) cv)).heap[w.heap.size]? = some (.cells #[.slice none 0 0, .int .u16 0, .int .u32 0, .int .u64 0, .int .i64 0, .slice none 0 0] 39 (0, 0)) ∧ (w7.setCell ⟨w.heap.size + 1, 0, none⟩ (.slice pv (ys.length + 1) cv)).heap[w.heap.size + 1]? = some (.cells #[.slice pv (ys.length + 1) cv, .int .u16 0, .int .u32 0, .int .u64 0, .int .i64 0, .slice none 0 0] 39 (0, 0))) := by
          refine ⟨HH7.out.other (kind_apart (by decide) HX17.out HH7.out.1) (by omega) 0 _, ?_, ?_⟩
          · rw [heap_setCell_other _ _ _ _ (by simp)]; exact HX07.out
          · have := heap_setCell_same w7 (w.heap.size + 1) 0 _ _ (.slice pv (ys.length + 1) cv) HX17.out
            simpa using this
        clear HH7 HX07 HX17
        go_wp2
        go_roundg (n - (k + 1))
        case measure => omega
        case rel => exact ⟨k + 1, q1, e1, _, ys ++ [((x1 : Int), 0)], by omega, Nat.le_refl _, by go_num, rfl, rfl, hq2, he2, by rw [List.length_append, HYL.out]; rfl, HST.out, HFIN.out.1, HFIN.out.2.1, HFIN.out.2.2⟩
    · have hrest : rdDs bs (n - k) qh e = ([], qh, e) := by
        by_cases h0 : e = 0
        · have : k = n := by omega
          subst this
          rw [Nat.sub_self]; rfl
        · exact rdDs_err bs _ _ _ h0
      have hD2 : D0 = (ys, qh, e) := by rw [HD.out, hrest]; simp
      subst hD2
      clear hrest HD HDL HNUM
      simp only at f2
      have HFY := Lib.hid f2.2.2.1
      have HR0 : Hid (∀ (W : World), W.heap[w.heap.size]? = some (.cells #[.slice none 0 0, .int .u16 0, .int .u32 0, .int .u64 0, .int .i64 0, .slice none 0 0] 39 (0, 0)) → ∀ o, W.frozen? ⟨w.heap.size, o, none⟩ = false) := fun W h o => frozen_of_block h
      by_cases h0 : e = 0
      · subst h0
        have hkn : ¬ (k : Int) < (n : Int) := by omega
        have hTX : readTx bs qh 0 = T0 := HTX.out
        have hrg := readTx_range (bs := bs) (q := qh) (e := 0) hqh (by omega) (by omega)
        have hsh := readTx_short bs qh 0
        have HT := HRT.out qh hqh wr HH.out.2
        unfold Read9At at HT
        rw [hTX] at HT hrg hsh
        obtain ⟨t, qt, et⟩ := T0
        have HRB2 : Hid (RB = (if et ≠ 0 then (e0, (et : Int)) else if qt < bs.length then (e0, 15) else if fitE ⟨ys, t⟩ ≠ 0 then (e0, fitE ⟨ys, t⟩) else (⟨ys, t⟩, 0))) := HRB.out
        clear hTX HTX HRB HRT
        simp only at HT hrg hsh
        have HT := Lib.hid HT
        have HRG := Lib.hid hrg
        have HSH := Lib.hid hsh
        have HTV : Hid (∀ p c, tv t p c = .agg #[.int .u16 t.r, .int .u32 t.seq, .int .u64 t.clock, .int .i64 t.user, .slice p t.ops.length c]) := fun p c => rfl
        clear hrg hsh
        simp only [HTV.out] at HT
        obtain ⟨pv, cv, rfl, hGv, -, -⟩ := HH.out.gave layV_pos
        have HV := Lib.hid (vrow hGv)
        have HOW := Lib.hid HH.out
        clear hGv
        go_wp2_with fail
        refine HT.out.mono ?_
        rintro r w5 ⟨us, p5, c5, q5, rfl, ho5, hG5, hS5, hq5, hb5⟩
        have HX05 := Lib.hid (kept_box HX0.out hb5)
        have HX15 := Lib.hid (kept_box HX1.out hb5)
        have HH5 : Hid (Hold layV w 101 (.slice pv ys.length cv) ys w5) := HH.out.below hb5
        have HL5 : Hid (LieT t us p5 w5) := ⟨HRG.out.1, ho5, hG5, hS5⟩
        have HQ5 := Lib.hid hq5
        clear ho5 hG5 hS5 hq5 hb5 HH HX0 HX1 HOW HV HT
        obtain ⟨y0, y1, y2, y3, y4, y5⟩ := six_cells HX15.out
        have fy : ∀ o, w5.frozen? ⟨w.heap.size + 1, o, none⟩ = false := fun o => frozen_of_block HX15.out
        have hS := only_txn w5 (w.heap.size + 1) (.int .u16 t.r) (.int .u32 t.seq) (.int .u64 t.clock) (.int .i64 t.user) (.slice p5 t.ops.length c5)
        have HX06 := Lib.hid (hS.stays HX05.out (by omega))
        have HX16 := Lib.hid (box_txn (b' := .int .u16 t.r) (c' := .int .u32 t.seq) (d' := .int .u64 t.clock) (e' := .int .i64 t.user) (f' := .slice p5 t.ops.length c5) HX15.out)
        have HL6 := Lib.hid (HL5.out.only HX15.out hS)
        have HH6 := Lib.hid (HH5.out.only hS (kind_apart (by decide) HX15.out HH5.out.1) (by omega))
        clear hS HL5 HH5
        have HSM : Hid (SmallX us) := fun x hx => by
          have hm : x.1 ∈ t.ops := by rw [HL6.out.ops]; exact List.mem_map.2 ⟨x, hx, rfl⟩
          exact ⟨by have := HSH.out _ hm; omega, HRG.out.2.1 _ hm⟩
        by_cases hz : et = 0
        case neg =>
          have hz' : ((et : Int) != 0) = true := bne_int (by omega)
          have HRB3 : Hid (RB = (e0, (et : Int))) := by show _ = _; rw [HRB2.out, if_pos hz]
          obtain ⟨s0, s1, s2, s3, s4, s5⟩ := six_cells HX06.out
          have fr := fun o => HR0.out _ HX06.out o
          go_wp2
          generalize (((((w5.setCell ⟨w.heap.size + 1, 1, none⟩ (.int .u16 t.r)).setCell ⟨w.heap.size + 1, 2, none⟩ (.int .u32 t.seq)).setCell ⟨w.heap.size + 1, 3, none⟩ (.int .u64 t.clock)).setCell ⟨w.heap.size + 1, 4, none⟩ (.int .i64 t.user)).setCell ⟨w.heap.size + 1, 5, none⟩ (.slice p5 t.ops.length c5)) = W6 at HX06 HH6
          (try simp only [Exit.inBlock, Exit.then])
          refine bodyPost_ret (results_ct (p := 2) (t := 3) (ty := 39) rfl _ _ ⟨w.heap.size, 0, none⟩ _ rfl (loadE (box_six HX06.out) rfl)) rfl ?_
          unfold ReadAtE
          rw [HRB3.out]
          exact ⟨[], none, 0, none, 0, rfl, row_none_nil _, KindAt.nil _ _, lie_none _, HH6.out.2.trans ((only_six _ _ _ _ _ _ _ _).below HH6.out.2.size (fun i ei => by have ei : i = w.heap.size := ei; omega))⟩
        case pos =>
          subst hz
          obtain rfl := HQ5.out rfl
          by_cases hlt : qt < bs.length
          · have hlt' : (qt : Int) < (bs.length : Int) := by omega
            have HRB3 : Hid (RB = (e0, 15)) := by show _ = _; rw [HRB2.out, if_neg (by simp), if_pos hlt]
            obtain ⟨s0, s1, s2, s3, s4, s5⟩ := six_cells HX06.out
            have fr := fun o => HR0.out _ HX06.out o
            go_wp2
            generalize (((((w5.setCell ⟨w.heap.size + 1, 1, none⟩ (.int .u16 t.r)).setCell ⟨w.heap.size + 1, 2, none⟩ (.int .u32 t.seq)).setCell ⟨w.heap.size + 1, 3, none⟩ (.int .u64 t.clock)).setCell ⟨w.heap.size + 1, 4, none⟩ (.int .i64 t.user)).setCell ⟨w.heap.size + 1, 5, none⟩ (.slice p5 t.ops.length c5)) = W6 at HX06 HH6
            (try simp only [Exit.inBlock, Exit.then])
            refine bodyPost_ret (results_ct (p := 2) (t := 3) (ty := 39) rfl _ _ ⟨w.heap.size, 0, none⟩ _ rfl (loadE (box_six HX06.out) rfl)) rfl ?_
            unfold ReadAtE
            rw [HRB3.out]
            exact ⟨[], none, 0, none, 0, rfl, row_none_nil _, KindAt.nil _ _, lie_none _, HH6.out.2.trans ((only_six _ _ _ _ _ _ _ _).below HH6.out.2.size (fun i ei => by have ei : i = w.heap.size := ei; omega))⟩
          · have hlt' : ¬ (qt : Int) < (bs.length : Int) := by omega
            obtain ⟨pv', cv', hpv, hGv, -, -⟩ := HH6.out.gave layV_pos
            cases hpv
            have HF := reffitE_any ⟨ys, t⟩ us pv p5 cv c5 _ (vrow hGv) (by have : n ≤ 65536 := hn16; show ys.length ≤ 1000000; omega) HL6.out HSM.out
            unfold ev at HF
            have HF := Lib.hid HF
            clear hGv
            obtain ⟨z0, z1, z2, z3, z4, z5⟩ := six_cells HX16.out
            go_wp2_with fail
            refine HF.out.mono ?_
            rintro r w7 ⟨rfl, hb7⟩
            have HX07 := Lib.hid (kept_box HX06.out hb7)
            have HX17 := Lib.hid (kept_box HX16.out hb7)
            have HL7 := Lib.hid (HL6.out.below hb7)
            have HH7 := Lib.hid (HH6.out.below hb7)
            clear hb7 HF z0 z1 z2 z3 z4 z5 y0 y1 y2 y3 y4 y5 fy HX06 HX16 HL6 HH6 HX05 HX15
            have HRB3 : Hid (RB = (if fitE ⟨ys, t⟩ ≠ 0 then (e0, fitE ⟨ys, t⟩) else (⟨ys, t⟩, 0))) := by show _ = _; rw [HRB2.out, if_neg (by simp), if_neg hlt]
            clear HRB2
            generalize fitE ⟨ys, t⟩ = F at HRB3 ⊢
            by_cases hF : F = 0
            · subst hF
              have HRB4 : Hid (RB = (⟨ys, t⟩, 0)) := by show _ = _; rw [HRB3.out, if_neg (by simp)]
              obtain ⟨z0, z1, z2, z3, z4, z5⟩ := six_cells HX17.out
              obtain ⟨s0, s1, s2, s3, s4, s5⟩ := six_cells HX07.out
              have fr := fun o => HR0.out _ HX07.out o
              go_wp2
              (try simp only [Exit.inBlock, Exit.then])
              have hS := only_six w7 w.heap.size (.slice pv ys.length cv) (.int .u16 t.r) (.int .u32 t.seq) (.int .u64 t.clock) (.int .i64 t.user) (.slice p5 t.ops.length c5)
              have HH8 := HH7.out.only hS (kind_apart (by decide) HX07.out HH7.out.1) (Nat.le_refl _)
              obtain ⟨pv', cv', hpv, hGv, -, -⟩ := HH8.gave layV_pos
              cases hpv
              refine bodyPost_ret (results_ct (p := 2) (t := 3) (ty := 39) rfl _ _ ⟨w.heap.size, 0, none⟩ _ rfl (loadE (box_six HX07.out) rfl)) rfl ?_
              unfold ReadAtE
              rw [HRB4.out]
              exact ⟨us, pv, cv, p5, c5, rfl, vrow hGv, kind_owns HH8.1, HL7.out.only HX07.out hS, HH8.2⟩
            · have hF' : (F != 0) = true := bne_int hF
              have HRB4 : Hid (RB = (e0, F)) := by show _ = _; rw [HRB3.out, if_pos hF]
              obtain ⟨z0, z1, z2, z3, z4, z5⟩ := six_cells HX17.out
              obtain ⟨s0, s1, s2, s3, s4, s5⟩ := six_cells HX07.out
              have fr := fun o => HR0.out _ HX07.out o
              go_wp2
              (try simp only [Exit.inBlock, Exit.then])
              refine bodyPost_ret (results_ct (p := 2) (t := 3) (ty := 39) rfl _ _ ⟨w.heap.size, 0, none⟩ _ rfl (loadE (box_six HX07.out) rfl)) rfl ?_
              unfold ReadAtE
              rw [HRB4.out]
              exact ⟨[], none, 0, none, 0, rfl, row_none_nil _, KindAt.nil _ _, lie_none _, HH7.out.2.trans ((only_six _ _ _ _ _ _ _ _).below HH7.out.2.size (fun i ei => by have ei : i = w.heap.size := ei; omega))⟩
      · have hTX : T0 = (t0, qh, e) := by rw [← HTX.out]; exact readTx_err h0
        subst hTX
        have HRB2 : Hid (RB = (e0, (e : Int))) := by show _ = _; rw [HRB.out]; simp only; rw [if_pos h0]
        clear HRB HTX HRT
        have h0' : ((e : Int) == 0) = false := beq_no (by omega)
        have h0'' : ((e : Int) != 0) = true := bne_int (by omega)
        by_cases hkn : (k : Int) < (n : Int)
        · 
          obtain ⟨s0, s1, s2, s3, s4, s5⟩ := six_cells HX0.out
          have fr := fun o => HR0.out _ HX0.out o
          go_wp2
          (try simp only [Exit.inBlock, Exit.then])
          refine bodyPost_ret (results_ct (p := 2) (t := 3) (ty := 39) rfl _ _ ⟨w.heap.size, 0, none⟩ _ rfl (loadE (box_six HX0.out) rfl)) rfl ?_
          unfold ReadAtE
          rw [HRB2.out]
          exact ⟨[], none, 0, none, 0, rfl, row_none_nil _, KindAt.nil _ _, lie_none _, HH.out.2.trans ((only_six _ _ _ _ _ _ _ _).below HH.out.2.size (fun i ei => by have ei : i = w.heap.size := ei; omega))⟩
        · 
          obtain ⟨s0, s1, s2, s3, s4, s5⟩ := six_cells HX0.out
          have fr := fun o => HR0.out _ HX0.out o
          go_wp2
          (try simp only [Exit.inBlock, Exit.then])
          refine bodyPost_ret (results_ct (p := 2) (t := 3) (ty := 39) rfl _ _ ⟨w.heap.size, 0, none⟩ _ rfl (loadE (box_six HX0.out) rfl)) rfl ?_
          unfold ReadAtE
          rw [HRB2.out]
          exact ⟨[], none, 0, none, 0, rfl, row_none_nil _, KindAt.nil _ _, lie_none _, HH.out.2.trans ((only_six _ _ _ _ _ _ _ _).below HH.out.2.size (fun i ei => by have ei : i = w.heap.size := ei; omega))⟩
end Go.Proofs.YtceanfpcddcfoaaGreat
