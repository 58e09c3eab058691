/-
  Several texts of one proof, joined: each part says at its head what it proves. No conditions beyond what each theorem states.
-/
import Derived.Test.YtjkdcpalgfakhaaZ15
import Derived.Test.YtjkdcpalgfakhaaZ08
import Derived.Test.YtjkdcpalgfakhaaZ07
/-
  What hold's less and find hand back: the place of a name among envelopes in order. No conditions beyond what each theorem states.
-/
namespace Go.Proofs.Ytjkdcpalgfakhaa
open Go.ChangeShapes Go.WideShapes Go.ChangeAt Go.RowKit Go.Lib
set_option linter.unusedVariables false
set_option linter.unusedSimpArgs false

/-- In order, of unlike names. -/
def SrtE (es : List EV) : Prop := ∀ i j, i < j → j < es.length → aheadM (es.getD i x0E).e (es.getD j x0E).e = true
def lowE (es : List EV) (e : Em) (i : Nat) : Bool := !aheadM (es.getD i x0E).e e
theorem aheadM_iff {a b : Em} : aheadM a b = true ↔ a.txn.r < b.txn.r ∨ a.txn.r = b.txn.r ∧ a.txn.seq < b.txn.seq := by unfold aheadM; exact decide_eq_true_iff
theorem lowE_false {es : List EV} {e : Em} {i : Nat} : lowE es e i = false ↔ aheadM (es.getD i x0E).e e = true := by unfold lowE; cases aheadM (es.getD i x0E).e e <;> simp
theorem lowE_true {es : List EV} {e : Em} {i : Nat} : lowE es e i = true ↔ ¬ aheadM (es.getD i x0E).e e = true := by unfold lowE; cases aheadM (es.getD i x0E).e e <;> simp
theorem lowE_mono {es : List EV} (h : SrtE es) (e : Em) {i j : Nat} (hij : i ≤ j) (hj : j < es.length) (hi : lowE es e i = true) : lowE es e j = true := by
  rcases Nat.eq_or_lt_of_le hij with he | he
  · subst he; exact hi
  · have h1 := aheadM_iff.1 (h i j he hj)
    rw [lowE_true, aheadM_iff] at hi ⊢
    omega
/-- The place at which a name would come. -/
structure PlaceE (es : List EV) (e : Em) (k : Nat) : Prop where
  le : k ≤ es.length
  low : ∀ t, t < k → lowE es e t = false
  high : ∀ t, k ≤ t → t < es.length → lowE es e t = true
theorem PlaceE.has {es : List EV} {e : Em} {k : Nat} (h : PlaceE es e k) (hs : SrtE es) : hasM (es.map (·.e)) e = decide (k < es.length ∧ ((es.getD k x0E).e.txn.r = e.txn.r ∧ (es.getD k x0E).e.txn.seq = e.txn.seq)) := by
  apply Bool.eq_iff_iff.2
  rw [decide_eq_true_iff, hasM_iff]
  constructor
  · rintro ⟨x, hx, h1, h2⟩
    obtain ⟨y, hy, rfl⟩ := List.mem_map.1 hx
    obtain ⟨m, hm, rfl⟩ := mem_getD x0E hy
    have hlow : lowE es e m = true := by rw [lowE_true, aheadM_iff]; omega
    have hkm : k ≤ m := by
      rcases Nat.lt_or_ge m k with he | he
      · rw [h.low m he] at hlow; cases hlow
      · exact he
    rcases Nat.eq_or_lt_of_le hkm with he | he
    · subst he; exact ⟨hm, h1, h2⟩
    · have h3 := aheadM_iff.1 (hs k m he hm)
      have h4 := h.high k (Nat.le_refl _) (by omega)
      rw [lowE_true, aheadM_iff] at h4
      omega
  · rintro ⟨hk, h1, h2⟩
    exact ⟨_, List.mem_map.2 ⟨_, getD_mem x0E hk, rfl⟩, h1, h2⟩
set_option maxHeartbeats 800000 in
theorem less_any (a b x y : Int) (w : World) : Calls Try.prog 44 #[.agg #[.int .u16 a, .int .u32 b], .agg #[.int .u16 x, .int .u32 y]] w fun e w' => e = .returned (.bool (decide (a < x ∨ a = x ∧ b < y))) ∧ Below w.heap.size w w' := by
  by_cases h : a = x
  · subst h
    have hd : decide (a < a ∨ a = a ∧ b < y) = decide (b < y) := by apply decide_eq_decide.2; omega
    rw [hd]
    go_enter Try.func44, Try.ntmps44
    go_wp2
    go_ret
    exact ⟨rfl, below_alloc (below_alloc (Below.refl _ _) _) _⟩
  · have hd : decide (a < x ∨ a = x ∧ b < y) = decide (a < x) := by apply decide_eq_decide.2; omega
    have hb : (a == x) = false := beq_eq_false_iff_ne.2 h
    rw [hd]
    go_enter Try.func44, Try.ntmps44
    go_wp2
    go_ret
    exact ⟨rfl, below_alloc (below_alloc (Below.refl _ _) _) _⟩
set_option maxHeartbeats 1600000 in
/-- The test of one place. -/
theorem findc_any (es : List EV) (e : Em) (K bx ba i : Nat) (p : Option Addr) (c : Nat) (W : World) (h1 : W.cell? ⟨bx, 0, none⟩ = some (.pointer (some ⟨K, 0, none⟩))) (h2 : W.cell? ⟨ba, 0, none⟩ = some (.int .u16 e.txn.r)) (h3 : W.cell? ⟨ba, 1, none⟩ = some (.int .u32 e.txn.seq)) (h4 : W.cell? ⟨K, 0, none⟩ = some (.slice p es.length c)) (hR : GRow layE W p es) (hi : i < es.length) (hl : es.length ≤ 100000) :
    Calls Try.prog 43 #[.int .i64 (i : Int), .pointer (some ⟨bx, 0, none⟩), .pointer (some ⟨ba, 0, none⟩)] W fun r w' => r = .returned (.bool (lowE es e i)) ∧ Below W.heap.size W w' := by
  obtain ⟨b, o, rfl, c0, c1, c2, c3, c4, c5⟩ := erow_at hR hi
  have HE : Hid (lowE es e i = !decide ((es.getD i x0E).e.txn.r < e.txn.r ∨ (es.getD i x0E).e.txn.r = e.txn.r ∧ (es.getD i x0E).e.txn.seq < e.txn.seq)) := rfl
  have HIDA : Hid (∀ a b c d p l n W, Calls Try.prog 16 #[.agg #[.int .u16 a, .int .u32 b, .int .u64 c, .int .i64 d, .slice p l n]] W fun r w' => r = .returned (.agg #[.int .u16 a, .int .u32 b]) ∧ Below W.heap.size W w') := fun a b c d p l n W => by
    have := idT_spec ⟨a, b, c, d, List.replicate l ⟨0, 0, 0, 0, [], [], 0⟩⟩ p n W
    unfold tv at this
    simp only [List.length_replicate] at this
    exact this
  rw [HE.out]
  generalize (es.getD i x0E).e.txn.r = xr at c1 ⊢
  generalize (es.getD i x0E).e.txn.seq = xq at c2 ⊢
  generalize (es.getD i x0E).e.txn.clock = xc at c3 ⊢
  generalize (es.getD i x0E).e.txn.user = xu at c4 ⊢
  generalize (es.getD i x0E).e.txn.ops.length = xo at c5 ⊢
  generalize (es.getD i x0E).q = xqq at c5 ⊢
  generalize (es.getD i x0E).d = xdd at c5 ⊢
  generalize e.txn.r = er at h2 ⊢
  generalize e.txn.seq = eq at h3 ⊢
  have HLE := Lib.hid (fun W => less_any xr xq er eq W)
  generalize decide (xr < er ∨ xr = er ∧ xq < eq) = V at HLE ⊢
  have hil : (i : Int) < (es.length : Int) := by omega
  have hi0 : (0 : Int) ≤ (i : Int) := by omega
  have q1 := cell_regrown c1
  have q2 := cell_regrown c2
  have q3 := cell_regrown c3
  have q4 := cell_regrown c4
  have q5 := cell_regrown c5
  have r1 := cell_regrown h1
  have r2 := cell_regrown h2
  have r3 := cell_regrown h3
  have r4 := cell_regrown h4
  clear hR HE c0 c1 c2 c3 c4 c5 h1 h2 h3 h4
  go_enter Try.func43, Try.ntmps43
  go_wp2_with fail
  refine wp_region_quiet_below (by kernel_rfl) (by kernel_rfl) ?_
  repeat (first | go_big_quiet_step (first | (go_at_call 16; exact Calls.regrown_of (HIDA.out _ _ _ _ _ _ _ _)) | (go_at_call 44; exact Calls.regrown_of (HLE.out _))) | quiet_step (first | (go_at_call 16; exact Calls.regrown_of (HIDA.out _ _ _ _ _ _ _ _)) | (go_at_call 44; exact Calls.regrown_of (HLE.out _))))
  refine wpQuiet_nil ?_
  intro _ hw'
  obtain ⟨⟨dq, osq⟩, hw''⟩ := hw'
  subst hw''
  go_wp2
  go_ret
  exact ⟨rfl, below_regrown _ _ _⟩
def FoundE (n : Nat) (f : Nat → Bool) (w : World) (e : Ending) (w' : World) : Prop := ∃ k : Nat, k ≤ n ∧ e = .returned (.int .i64 (k : Int)) ∧ (∀ t, t < k → f t = false) ∧ (∀ t, k ≤ t → t < n → f t = true) ∧ Below w.heap.size w w'
set_option maxHeartbeats 1600000 in
theorem esearch_any (n : Nat) (f : Nat → Bool) (p1 p2 : Value) (w : World) (hn : n ≤ 3000) (hm : ∀ i j, i ≤ j → j < n → f i = true → f j = true)
    (hf : ∀ W i, i < n → Below w.heap.size w W → Calls Try.prog 43 #[.int .i64 (i : Int), p1, p2] W fun e w' => e = .returned (.bool (f i)) ∧ Below W.heap.size W w') :
    Calls Try.prog 42 #[.int .i64 (n : Int), .func (.func 43) #[] #[p1, p2]] w (FoundE n f w) := by
  have HM := Lib.hid hm
  have HF := Lib.hid hf
  clear hm hf
  go_enter Try.func42, Try.ntmps42
  go_wp2
  go_loopg [5, 6] n (fun g a b wr => ∃ i j : Nat, i ≤ j ∧ j ≤ n ∧ j - i ≤ g ∧ a = .int .i64 (i : Int) ∧ b = .int .i64 (j : Int) ∧ (∀ t, t < i → f t = false) ∧ (∀ t, j ≤ t → t < n → f t = true) ∧ Below w.heap.size w wr)
  case atStart => exact ⟨0, n, Nat.zero_le _, Nat.le_refl _, by omega, rfl, rfl, fun t h => absurd h (by omega), fun t h1 h2 => absurd h1 (by omega), Below.refl _ _⟩
  case round =>
    obtain ⟨i, j, hij, hjn, hg, rfl, rfl, hlo, hhi, hB⟩ := hrel
    have HB := Lib.hid hB
    have HLO := Lib.hid hlo
    have HHI := Lib.hid hhi
    clear hB hlo hhi
    by_cases hlt : i < j
    · have hlt' : (i : Int) < (j : Int) := by omega
      obtain ⟨H, hH, h1, h2⟩ : ∃ H : Nat, ((i : Int) + (j : Int)) / 2 = (H : Int) ∧ i ≤ H ∧ H < j := ⟨(i + j) / 2, by omega, by omega, by omega⟩
      have HC := Lib.hid (HF.out wr H (by omega) HB.out)
      cases hfv : f H with
      | false =>
        rw [hfv] at HC
        have HLO2 : Hid (∀ t, t < H + 1 → f t = false) := fun t ht => by
          by_cases e : t = H
          · rw [e]; exact hfv
          · cases hft : f t with
            | false => rfl
            | true => rw [HM.out t H (by omega) (by omega) hft] at hfv; cases hfv
        clear hfv HLO
        go_wp2_with fail
        refine HC.out.mono ?_
        rintro e w1 ⟨rfl, hb1⟩
        have HB1 : Hid (RowKit.Below w.heap.size w w1) := below_step HB.out hb1
        clear hb1 HC
        go_wp2
        go_roundg (j - (H + 1))
        case measure => omega
        case rel => exact ⟨H + 1, j, by omega, hjn, Nat.le_refl _, by go_num, rfl, HLO2.out, HHI.out, HB1.out⟩
      | true =>
        rw [hfv] at HC
        have HHI2 : Hid (∀ t, H ≤ t → t < n → f t = true) := fun t ht htn => HM.out H t ht htn hfv
        clear hfv HHI
        go_wp2_with fail
        refine HC.out.mono ?_
        rintro e w1 ⟨rfl, hb1⟩
        have HB1 : Hid (RowKit.Below w.heap.size w w1) := below_step HB.out hb1
        clear hb1 HC
        go_wp2
        go_roundg (H - i)
        case measure => omega
        case rel => exact ⟨i, H, h1, by omega, Nat.le_refl _, rfl, rfl, HLO.out, HHI2.out, HB1.out⟩
    · have : i = j := by omega
      subst this
      have hlt' : ¬ (i : Int) < (i : Int) := by omega
      go_wp2
      go_ret
      exact ⟨i, hjn, rfl, HLO.out, HHI.out, HB.out⟩
set_option maxHeartbeats 3200000 in
set_option maxRecDepth 20000 in
theorem find_any (es : List EV) (e : Em) (K : Nat) (p : Option Addr) (c : Nat) (w : World) (hS : SrtE es) (hK : w.heap[K]? = some (.cells #[.slice p es.length c] 28 (0, 0))) (hR : GRow layE w p es) (hl : es.length ≤ 3000) :
    Calls Try.prog 27 #[.pointer (some ⟨K, 0, none⟩), .agg #[.int .u16 e.txn.r, .int .u32 e.txn.seq]] w fun r w' => ∃ k : Nat, r = .returned (.tuple #[.int .i64 (k : Int), .bool (hasM (es.map (·.e)) e)]) ∧ PlaceE es e k ∧ Below w.heap.size w w' := by
  have HKB : Hid (∀ W, Below w.heap.size w W → W.cell? ⟨K, 0, none⟩ = some (.slice p es.length c)) := fun W hb => by rw [cell_of_block (kept_box hK hb)]; rfl
  have HR := Lib.hid hR
  have HIDA : Hid (∀ a b c d p l n W, Calls Try.prog 16 #[.agg #[.int .u16 a, .int .u32 b, .int .u64 c, .int .i64 d, .slice p l n]] W fun r w' => r = .returned (.agg #[.int .u16 a, .int .u32 b]) ∧ Below W.heap.size W w') := fun a b c d p l n W => by
    have := idT_spec ⟨a, b, c, d, List.replicate l ⟨0, 0, 0, 0, [], [], 0⟩⟩ p n W
    unfold tv at this
    simp only [List.length_replicate] at this
    exact this
  have HP : Hid (∀ k : Nat, k ≤ es.length → (∀ t, t < k → lowE es e t = false) → (∀ t, k ≤ t → t < es.length → lowE es e t = true) → PlaceE es e k ∧ hasM (es.map (·.e)) e = decide (k < es.length ∧ ((es.getD k x0E).e.txn.r = e.txn.r ∧ (es.getD k x0E).e.txn.seq = e.txn.seq))) := fun k h1 h2 h3 => ⟨⟨h1, h2, h3⟩, PlaceE.has ⟨h1, h2, h3⟩ hS⟩
  have HSR : Hid (∀ W bx ba, Below w.heap.size w W → W.cell? ⟨bx, 0, none⟩ = some (.pointer (some ⟨K, 0, none⟩)) → W.cell? ⟨ba, 0, none⟩ = some (.int .u16 e.txn.r) → W.cell? ⟨ba, 1, none⟩ = some (.int .u32 e.txn.seq) → Calls Try.prog 42 #[.int .i64 (es.length : Int), .func (.func 43) #[] #[.pointer (some ⟨bx, 0, none⟩), .pointer (some ⟨ba, 0, none⟩)]] W (FoundE es.length (lowE es e) W)) := fun W bx ba hb h1 h2 h3 =>
    esearch_any es.length (lowE es e) _ _ W hl (fun i j hij hj hi => lowE_mono hS e hij hj hi) (fun W' i hi hb' => findc_any es e K bx ba i p c W' (cellU h1 hb') (cellU h2 hb') (cellU h3 hb') (HKB.out _ (below_step hb hb')) (hR.below (below_step hb hb')) hi (by omega))
  clear hS hK hR
  generalize hasM (es.map (·.e)) e = HV at HP ⊢
  generalize lowE es e = LE at HSR HP
  generalize e.txn.r = er at HSR HP ⊢
  generalize e.txn.seq = eq at HSR HP ⊢
  have hb0 : Below w.heap.size w ((w.alloc (.cells #[.pointer (some ⟨K, 0, none⟩)] 73)).alloc (.cells #[.int .u16 er, .int .u32 eq] 57)) := below_alloc (below_alloc (Below.refl _ _) _) _
  have g1 : ((w.alloc (.cells #[.pointer (some ⟨K, 0, none⟩)] 73)).alloc (.cells #[.int .u16 er, .int .u32 eq] 57)).cell? ⟨w.heap.size, 0, none⟩ = some (.pointer (some ⟨K, 0, none⟩)) := by simp
  have g2 : ((w.alloc (.cells #[.pointer (some ⟨K, 0, none⟩)] 73)).alloc (.cells #[.int .u16 er, .int .u32 eq] 57)).cell? ⟨w.heap.size + 1, 0, none⟩ = some (.int .u16 er) := by simp
  have g3 : ((w.alloc (.cells #[.pointer (some ⟨K, 0, none⟩)] 73)).alloc (.cells #[.int .u16 er, .int .u32 eq] 57)).cell? ⟨w.heap.size + 1, 1, none⟩ = some (.int .u32 eq) := by simp
  have g4 := HKB.out _ hb0
  have HB0 := Lib.hid hb0
  have HS0 := Lib.hid (HSR.out _ _ _ hb0 g1 g2 g3)
  have G1 := Lib.hid g1
  have G2 := Lib.hid g2
  have G3 := Lib.hid g3
  clear hb0 HSR
  go_enter Try.func27, Try.ntmps27
  go_wp2_with fail
  generalize (w.alloc (.cells #[.pointer (some ⟨K, 0, none⟩)] 73)).alloc (.cells #[.int .u16 er, .int .u32 eq] 57) = W0 at HS0 HB0 G1 G2 G3 g1 g2 g3 g4 ⊢
  refine HS0.out.mono ?_
  rintro r w3 ⟨k, hk, rfl, hlo, hhi, hb3⟩
  have HPK := Lib.hid (HP.out k hk hlo hhi)
  have HB3 := Lib.hid (below_step HB0.out hb3)
  have q1 := cell_regrown (cellU g1 hb3)
  have q2 := cell_regrown (cellU g2 hb3)
  have q3 := cell_regrown (cellU g3 hb3)
  have q4 := cell_regrown (HKB.out _ HB3.out)
  have q1' := cellU g1 hb3
  have q4' := HKB.out _ HB3.out
  clear hb3 HP HS0 hlo hhi g1 g2 g3 g4 G1 G2 G3
  by_cases hlt : k < es.length
  · have hkl : (k : Int) < (es.length : Int) := by omega
    obtain ⟨b, o, rfl, c0, c1, c2, c3, c4, c5⟩ := erow_at (HR.out.below HB3.out) hlt
    have HHV : Hid (PlaceE es e k ∧ ∀ b : Bool, (b = true ↔ ((es.getD k x0E).e.txn.r = er ∧ (es.getD k x0E).e.txn.seq = eq)) → HV = b) := ⟨HPK.out.1, fun b hb => by
      rw [HPK.out.2]
      apply Bool.eq_iff_iff.2
      rw [decide_eq_true_iff, hb]
      exact ⟨fun h => h.2, fun h => ⟨hlt, h⟩⟩⟩
    clear HPK
    generalize (es.getD k x0E).e.txn.r = xr at c1 HHV
    generalize (es.getD k x0E).e.txn.seq = xq at c2 HHV
    generalize (es.getD k x0E).e.txn.clock = xc at c3
    generalize (es.getD k x0E).e.txn.user = xu at c4
    generalize (es.getD k x0E).e.txn.ops.length = xo at c5
    generalize (es.getD k x0E).q = xqq at c5
    generalize (es.getD k x0E).d = xdd at c5
    have r1 := cell_regrown c1
    have r2 := cell_regrown c2
    have r3 := cell_regrown c3
    have r4 := cell_regrown c4
    have r5 := cell_regrown c5
    clear c0 c1 c2 c3 c4 c5
    by_cases h1 : xr = er
    · subst h1
      by_cases h2 : xq = eq
      · subst h2
        have HVT : Hid (PlaceE es e k ∧ HV = true) := ⟨HHV.out.1, HHV.out.2 true (by simp)⟩
        clear HHV
        go_wp2_with fail
        refine wp_region_quiet_below (by kernel_rfl) (by kernel_rfl) ?_
        repeat (first | go_big_quiet_step ((go_at_call 16; exact Calls.regrown_of (HIDA.out _ _ _ _ _ _ _ _))) | quiet_step ((go_at_call 16; exact Calls.regrown_of (HIDA.out _ _ _ _ _ _ _ _))))
        refine wpQuiet_nil ?_
        intro w4 hw'
        have hb13 : Below w3.heap.size w3 w4 := by obtain ⟨⟨dq, osq⟩, rfl⟩ := hw'; exact below_regrown _ _ _
        have HB4 := Lib.hid (below_step HB3.out hb13)
        clear hw' hb13 r1 r2 r3 r4 r5 q1 q2 q3 q4 q1' q4'
        go_wp2
        go_ret2
        rw [HVT.out.2]
        exact ⟨k, rfl, HVT.out.1, HB4.out⟩
      · have t2 : (xq == eq) = false := beq_no h2
        have HVT : Hid (PlaceE es e k ∧ HV = false) := ⟨HHV.out.1, HHV.out.2 false (by simp [h2])⟩
        clear HHV
        go_wp2_with fail
        refine wp_region_quiet_below (by kernel_rfl) (by kernel_rfl) ?_
        repeat (first | go_big_quiet_step ((go_at_call 16; exact Calls.regrown_of (HIDA.out _ _ _ _ _ _ _ _))) | quiet_step ((go_at_call 16; exact Calls.regrown_of (HIDA.out _ _ _ _ _ _ _ _))))
        refine wpQuiet_nil ?_
        intro w4 hw'
        have hb13 : Below w3.heap.size w3 w4 := by obtain ⟨⟨dq, osq⟩, rfl⟩ := hw'; exact below_regrown _ _ _
        have HB4 := Lib.hid (below_step HB3.out hb13)
        clear hw' hb13 r1 r2 r3 r4 r5 q1 q2 q3 q4 q1' q4'
        go_wp2
        go_ret2
        rw [HVT.out.2]
        exact ⟨k, rfl, HVT.out.1, HB4.out⟩
    · have t1 : (xr == er) = false := beq_no h1
      have HVT : Hid (PlaceE es e k ∧ HV = false) := ⟨HHV.out.1, HHV.out.2 false (by simp [h1])⟩
      clear HHV
      go_wp2_with fail
      refine wp_region_quiet_below (by kernel_rfl) (by kernel_rfl) ?_
      repeat (first | go_big_quiet_step ((go_at_call 16; exact Calls.regrown_of (HIDA.out _ _ _ _ _ _ _ _))) | quiet_step ((go_at_call 16; exact Calls.regrown_of (HIDA.out _ _ _ _ _ _ _ _))))
      refine wpQuiet_nil ?_
      intro w4 hw'
      have hb13 : Below w3.heap.size w3 w4 := by obtain ⟨⟨dq, osq⟩, rfl⟩ := hw'; exact below_regrown _ _ _
      have HB4 := Lib.hid (below_step HB3.out hb13)
      clear hw' hb13 r1 r2 r3 r4 r5 q1 q2 q3 q4 q1' q4'
      go_wp2
      go_ret2
      rw [HVT.out.2]
      exact ⟨k, rfl, HVT.out.1, HB4.out⟩
  · have hke : k = es.length := by omega
    subst hke
    have hkn : ¬ (es.length : Int) < (es.length : Int) := by omega
    have hkd : decide ((es.length : Int) < (es.length : Int)) = false := decide_eq_false hkn
    have HVT : Hid (PlaceE es e es.length ∧ HV = false) := ⟨HPK.out.1, by rw [HPK.out.2]; exact decide_eq_false (fun h => hlt h.1)⟩
    clear HPK
    go_wp2_with fail
    refine wp_region_quiet_below (by kernel_rfl) (by kernel_rfl) ?_
    repeat (first | go_big_quiet_step ((go_at_call 16; exact Calls.regrown_of (HIDA.out _ _ _ _ _ _ _ _))) | quiet_step ((go_at_call 16; exact Calls.regrown_of (HIDA.out _ _ _ _ _ _ _ _))))
    refine wpQuiet_nil ?_
    intro w4 hw'
    have hb13 : Below w3.heap.size w3 w4 := by obtain ⟨⟨dq, osq⟩, rfl⟩ := hw'; exact below_regrown _ _ _
    have HB4 := Lib.hid (below_step HB3.out hb13)
    clear hw' hb13 q1 q2 q3 q4 q1' q4'
    go_wp2
    go_ret2
    rw [HVT.out.2]
    exact ⟨_, rfl, HVT.out.1, HB4.out⟩
end Go.Proofs.Ytjkdcpalgfakhaa
/-
  A region that draws its order, step by step: those marked true only read and may be taken now; the others come up alone; the last ones wait for all. One walk serves every order. Of no program. No conditions beyond what each theorem states.
-/
namespace Go.Proofs.Ytjkdcpalgfakhaa
open Go Go.Sort Go.RowKit
set_option linter.unusedVariables false
set_option linter.unusedSimpArgs false

def pickG (ops : List Oper) (is : List (Bool × Nat)) : List (Bool × Oper) := is.filterMap fun x => (ops[x.2]?).map fun o => (x.1, o)
theorem pickG_cons {ops : List Oper} {b : Bool} {j : Nat} {js : List (Bool × Nat)} {o : Oper} (h : ops[j]? = some o) : pickG ops ((b, j) :: js) = (b, o) :: pickG ops js := by
  unfold pickG
  rw [List.filterMap_cons_some (b := (b, o))]
  simp [h]
def seqG (P : Program) (ops : Array Oper) (Q : Exit → Act → World → Prop) (C : World → Prop) (t : List Oper) : List (Bool × Oper) → Act → World → Prop
  | [], a, w => wpList P ops Q t a w
  | (true, o) :: rest, a, w => wpQuiet P ops C (fun a' => seqG P ops Q C t rest a' w) [o] a
  | (false, o) :: rest, a, w => ∀ K : Act → World → Prop, (∀ a' w', C w' → seqG P ops Q C t rest a' w' → K a' w') → wpList P ops (Exit.then K Q) [o] a w
theorem seqG_nil {P : Program} {ops : Array Oper} {Q : Exit → Act → World → Prop} {C : World → Prop} {t : List Oper} {a : Act} {w : World} (h : wpList P ops Q t a w) : seqG P ops Q C t [] a w := h
theorem seqG_quiet {P : Program} {ops : Array Oper} {Q : Exit → Act → World → Prop} {C : World → Prop} {t : List Oper} {rest : List (Bool × Oper)} {o : Oper} {a : Act} {w : World} (h : wpQuiet P ops C (fun a' => seqG P ops Q C t rest a' w) [o] a) : seqG P ops Q C t ((true, o) :: rest) a w := h
theorem seqG_step {P : Program} {ops : Array Oper} {Q : Exit → Act → World → Prop} {C : World → Prop} {t : List Oper} {rest : List (Bool × Oper)} {o : Oper} {a : Act} {w : World}
    (h : ∀ K : Act → World → Prop, (∀ a' w', C w' → seqG P ops Q C t rest a' w' → K a' w') → wpList P ops (Exit.then K Q) [o] a w) : seqG P ops Q C t ((false, o) :: rest) a w := h
def mixG (md : Region.Mode) (ops : Array Oper) (T : Nat → Bool) (tail : List Nat) : List (Bool × Nat) → Array Bool → Bool
  | [], listed => (Region.ready md ops listed).all T && seqB md ops tail listed
  | (true, i) :: is, listed => (Region.ready md ops listed).contains i && Region.free md ops listed i && !T i && waitsT md ops T i && (match ops[i]? with | some o => pureB o | none => false) && mixG md ops T tail is (listed.setIfInBounds i true)
  | (false, j) :: js, listed => (Region.ready md ops listed == [j]) && decide (j < ops.size) && !T j && mixG md ops T tail js (listed.setIfInBounds j true)
theorem anyM_mixG {P : Program} {ops : List Oper} {md : Region.Mode} {C : World → Prop} {T : Nat → Bool} {Q : Exit → Act → World → Prop} {tail : List Nat} (hs : Region.noSelect ops.toArray = true) (hQ : ∀ c (a : Act) d v w, Q (.panic c) (a.put d v) w → Q (.panic c) a w) : ∀ (is : List (Bool × Nat)) (listed : Array Bool) (a : Act) (w : World), C w → mixG md ops.toArray T tail is listed = true →
    seqG P ops.toArray Q C (pickOps ops tail) (pickG ops is) a w → anyM P md ops.toArray C T Q tail.length is.length listed a w
  | [], listed, a, w, _, hB, h => by
    simp only [mixG, Bool.and_eq_true, List.all_eq_true] at hB
    exact ⟨hB.1, any_of_seq tail listed a w hB.2 h⟩
  | (false, j) :: js, listed, a, w, _, hB, h => by
    simp only [mixG, Bool.and_eq_true, beq_iff_eq, decide_eq_true_eq, Bool.not_eq_true'] at hB
    obtain ⟨⟨⟨hr, hj⟩, hT⟩, hB'⟩ := hB
    have hj' : j < ops.length := by simpa using hj
    have h0 : ops[j]? = some ops[j] := List.getElem?_eq_getElem hj'
    have h0' : ops.toArray[j]? = some ops[j] := by simp [hj']
    rw [pickG_cons h0] at h
    refine ⟨fun e => (by rw [hr] at e; cases e), fun i hi => ?_⟩
    rw [hr, List.mem_singleton] at hi
    subst hi
    exact ⟨hT, wpOp_of_one h0' (h _ fun a' w' hC hs' => ⟨hC, anyM_mixG hs hQ js _ a' w' hC hB' hs'⟩)⟩
  | (true, i) :: is, listed, a, w, hC, hB, h => by
    simp only [mixG, Bool.and_eq_true, Bool.not_eq_true'] at hB
    obtain ⟨⟨⟨⟨⟨hr, hf⟩, hT⟩, hw⟩, hp⟩, hB'⟩ := hB
    cases h0 : ops.toArray[i]? with
    | none => rw [h0] at hp; cases hp
    | some o =>
      rw [h0] at hp
      simp only at hp
      rw [pickG_cons (by simpa using h0)] at h
      have h : wpQuiet P ops.toArray C (fun a' => seqG P ops.toArray Q C (pickOps ops tail) (pickG ops is) a' w) [o] a := h
      have hst : qOp P ops.toArray C i (wpQuiet P ops.toArray C (fun a' => seqG P ops.toArray Q C (pickOps ops tail) (pickG ops is) a' w) []) a := by unfold qOp; simp only [h0]; exact h
      obtain ⟨v, hy, hK⟩ := yieldsIn_of_qOp h0 hst
      have hy' : YieldsIf P ops.toArray C o v a := hy.imp (fun ⟨h1, h2⟩ => ⟨h1, fun w hw => run_of_quiet hp (h2 w hw)⟩) id
      exact anyM_first h0 hT hw (Region.noSelect_spec hs) (fun c a w h => hQ c a _ _ w h) _ listed a w (Region.free_spec h0 hf) (by simpa using hr) hy' hC (anyM_mixG hs hQ is _ _ w hC hB' hK)
def Region.mixOkG (is : List (Bool × Nat)) (tail : List Nat) (ops : List Oper) : Bool := decide (is.length + tail.length = ops.length) && Region.noSelect ops.toArray && mixG .any ops.toArray (fun j => tail.contains j) tail is (Array.replicate ops.length false)
theorem wp_region_mixG_below {P : Program} {id : Nat} {Q : Exit → Act → World → Prop} {a : Act} {w : World} {ops : List Oper} (is : List (Bool × Nat)) (tail : List Nat) (hm : P.follows .mixedOrders = true) (hB : Region.mixOkG is tail ops = true) (hQ : ∀ c (a : Act) d v w, Q (.panic c) (a.put d v) w → Q (.panic c) a w)
    (h : seqG P ops.toArray Q (fun w' => ∃ p : Regrown, w' = grow (redrawn w p.d) p.os) (pickOps ops tail) (pickG ops is) a w.drew) : (Code.region id ops.toArray true).wp P Q a w := by
  simp only [Region.mixOkG, Bool.and_eq_true, decide_eq_true_eq] at hB
  obtain ⟨⟨hn, hs⟩, hl⟩ := hB
  refine wp_region_any hm ?_
  rw [show ops.toArray.size = is.length + tail.length by rw [hn]; simp]
  refine any_of_anyM (C := fun w' => ∃ p : Regrown, w' = grow (redrawn w p.d) p.os) (T := fun j => tail.contains j) _ _ _ _ ?_
  rw [hn]
  exact anyM_mixG hs hQ is _ a _ ⟨⟨w.drawn + 1, #[]⟩, by rw [grow_empty]; rfl⟩ hl h
end Go.Proofs.Ytjkdcpalgfakhaa
/-
  What hold's own hands back: the same envelope in memory of its own. No conditions beyond what each theorem states.
-/
namespace Go.Proofs.Ytjkdcpalgfakhaa
open Go.ChangeShapes Go.WideShapes Go.ChangeAt Go.RowKit Go.Lib
set_option linter.unusedVariables false
set_option linter.unusedSimpArgs false

theorem infoO11 : (Try.prog.info? 92).map (fun i => (i.zero, i.size, i.bytes)) = some (some (.agg #[.int .i64 0, .int .u16 0, .int .u32 0, .int .u32 0, .string ⟨#[]⟩, .slice none 0 0, .int .u32 0]), 7, 72) := by kernel_rfl
theorem infoS11 : (Try.prog.info? 103).map (fun i => (i.zero, i.size, i.bytes)) = some (some (.agg #[.int .u16 0, .int .u32 0, .int .i64 0]), 3, 16) := by kernel_rfl
/-- A row of the call's own, in a block of its kind. -/
def MadeK {α : Type} (L : Lay α) (t : TypeId) (w : World) (xs : List α) (e : Ending) (w' : World) : Prop := ∃ p c, e = .returned (.slice p xs.length c) ∧ w'.ownsRow w.heap.size t L.k (.slice p xs.length c) xs.length (L.flat xs) ∧ Below w.heap.size w w'
theorem MadeK.of {α : Type} {L : Lay α} {t : TypeId} {w w' : World} {xs : List α} {v : Value} (h : Hold L w t v xs w') : MadeK L t w xs (.returned v) w' := by
  obtain ⟨p, c, rfl⟩ := owns_slice h.1
  exact ⟨p, c, rfl, h.1, h.2⟩
set_option maxHeartbeats 800000 in
theorem oclone_any (xs : List OV) (p : Option Addr) (c : Nat) (w : World) (hR : GRow layO w p xs) (hl : xs.length ≤ 100000) :
    Calls Try.prog 48 #[.slice p xs.length c] w (MadeK layO 92 w xs) := by
  have q23 : ∀ (w : World) (a : Option Addr) (n c n' c' : Nat), (binOp .eql 32 (.slice a n c) (.slice none n' c')).run Try.prog w = .ok (.bool a.isNone) w := fun w a n c n' c' => Lib.run_eql_slice_nil w _ _ a n c n' c' Try.underlying32
  cases p with
  | none =>
    have e := hR.none_nil layO_pos rfl
    subst e
    clear hR
    go_enter Try.func48, Try.ntmps48
    go_wp2
    go_ret
    exact MadeK.of (Hold.nil layO w 92)
  | some a =>
    obtain ⟨i0, hi, hz0, hz1, hz2⟩ := info_parts infoO11
    have HC : Hid (∀ j u, (layO.flat xs)[j]? = some u → w.cell? (a.add j) = some u) := hR.news
    have hfl : (layO.flat xs).length = xs.length * 7 := layO.flat_length xs
    clear hR
    go_enter Try.func48, Try.ntmps48
    go_wp2_with (first
      | (at_builtin; refine wpList_append_own _ rfl (.tmp 5) (.tmp 6) 32 rfl w.heap.size 92 i0 (.agg #[.int .i64 0, .int .u16 0, .int .u32 0, .int .u32 0, .string ⟨#[]⟩, .slice none 0 0, .int .u32 0]) 7 72 Try.underlying32 hi hz0 hz1 hz2 rfl (by decide) _ _ _ rfl (World.ownsRow_made w #[] 0 (Nat.le_refl _) (Nat.zero_le _) (by simp)) a xs.length c (layO.flat xs) rfl hfl (fun j u hj => cellU (HC.out j u hj) (below_alloc (Below.refl _ _) _)) (layO.flat_one' xs) (by unfold maxLen; omega) (by omega) (by simp) ?_))
    intro v' w1 hown hgrow _
    have HO : Hid (Hold layO w 92 v' xs w1) := ⟨by show w1.ownsRow _ _ 7 _ _ _; simpa using hown, (below_alloc (Below.refl _ _) _).grown hgrow (by simp) (by intro k hk; simp [Value.ownBlock] at hk; omega)⟩
    clear hown hgrow
    go_wp2
    go_ret
    exact MadeK.of HO.out
set_option maxHeartbeats 800000 in
theorem sclone_any (xs : List Sp) (p : Option Addr) (c : Nat) (w : World) (hR : GRow layS w p xs) (hl : xs.length ≤ 100000) :
    Calls Try.prog 49 #[.slice p xs.length c] w (MadeK layS 103 w xs) := by
  have q23 : ∀ (w : World) (a : Option Addr) (n c n' c' : Nat), (binOp .eql 90 (.slice a n c) (.slice none n' c')).run Try.prog w = .ok (.bool a.isNone) w := fun w a n c n' c' => Lib.run_eql_slice_nil w _ _ a n c n' c' Try.underlying90
  cases p with
  | none =>
    have e := hR.none_nil (by decide) rfl
    subst e
    clear hR
    go_enter Try.func49, Try.ntmps49
    go_wp2
    go_ret
    exact MadeK.of (Hold.nil layS w 103)
  | some a =>
    obtain ⟨i0, hi, hz0, hz1, hz2⟩ := info_parts infoS11
    have HC : Hid (∀ j u, (layS.flat xs)[j]? = some u → w.cell? (a.add j) = some u) := hR.news
    have hfl : (layS.flat xs).length = xs.length * 3 := layS.flat_length xs
    clear hR
    go_enter Try.func49, Try.ntmps49
    go_wp2_with (first
      | (at_builtin; refine wpList_append_own _ rfl (.tmp 5) (.tmp 6) 90 rfl w.heap.size 103 i0 (.agg #[.int .u16 0, .int .u32 0, .int .i64 0]) 3 16 Try.underlying90 hi hz0 hz1 hz2 rfl (by decide) _ _ _ rfl (World.ownsRow_made w #[] 0 (Nat.le_refl _) (Nat.zero_le _) (by simp)) a xs.length c (layS.flat xs) rfl hfl (fun j u hj => cellU (HC.out j u hj) (below_alloc (Below.refl _ _) _)) (layS.flat_one' xs) (by unfold maxLen; omega) (by omega) (by simp) ?_))
    intro v' w1 hown hgrow _
    have HO : Hid (Hold layS w 103 v' xs w1) := ⟨by show w1.ownsRow _ _ 3 _ _ _; simpa using hown, (below_alloc (Below.refl _ _) _).grown hgrow (by simp) (by intro k hk; simp [Value.ownBlock] at hk; omega)⟩
    clear hown hgrow
    go_wp2
    go_ret
    exact MadeK.of HO.out
/-- In blocks of the program's kinds. -/
structure KindX (w : World) (ys : List OV) (p q : Option Addr) : Prop where
  deps : KindAt 78 w p
  ops : KindAt 92 w q
  spans : ∀ y ∈ ys, KindAt 103 w y.2.1
/-- No block of S is of one of these kinds. -/
def OthersX (S : Nat → Prop) (w : World) : Prop := ∀ k, S k → ∀ cs t f, w.heap[k]? = some (.cells cs t f) → t ≠ 78 ∧ t ≠ 92 ∧ t ≠ 103
theorem OthersX.apart {S : Nat → Prop} {w : World} (h : OthersX S w) {t : TypeId} (ht : t = 78 ∨ t = 92 ∨ t = 103) {p : Option Addr} (hk : KindAt t w p) : ∀ q, p = some q → ¬ S q.block := fun q e hs => by
  obtain ⟨cs', f', hq⟩ := hk q e
  obtain ⟨h1, h2, h3⟩ := h _ hs _ _ _ hq
  rcases ht with rfl | rfl | rfl
  · exact h1 rfl
  · exact h2 rfl
  · exact h3 rfl
theorem KindX.kept {S : Nat → Prop} {w w' : World} {ys : List OV} {p q : Option Addr} (h : KindX w ys p q) (hS : OthersX S w) (hk : Kept S w w') : KindX w' ys p q :=
  ⟨h.deps.kept hk (hS.apart (Or.inl rfl) h.deps), h.ops.kept hk (hS.apart (Or.inr (Or.inl rfl)) h.ops), fun y hy => (h.spans y hy).kept hk (hS.apart (Or.inr (Or.inr rfl)) (h.spans y hy))⟩
theorem KindX.below {w w' : World} {ys : List OV} {p q : Option Addr} (h : KindX w ys p q) (hb : Below w.heap.size w w') : KindX w' ys p q := ⟨h.deps.below hb, h.ops.below hb, fun y hy => (h.spans y hy).below hb⟩
theorem InE.keptX {S : Nat → Prop} {e : Em} {ys : List OV} {p q : Option Addr} {c d : Nat} {w w' : World} (h : InE e ys p c q d w) (hx : KindX w ys p q) (hS : OthersX S w) (hk : Kept S w w') : InE e ys p c q d w' :=
  ⟨vrow_kept h.row hk (hS.apart (Or.inl rfl) hx.deps), h.fits, h.cap, h.nil, ⟨h.txn.fit, h.txn.ops, ⟨h.txn.row.row.kept hk (hS.apart (Or.inr (Or.inl rfl)) hx.ops), fun y hy => ⟨(h.txn.row.each y hy).fit, (h.txn.row.each y hy).row.kept hk (hS.apart (Or.inr (Or.inr rfl)) (hx.spans y hy)), (h.txn.row.each y hy).cap, (h.txn.row.each y hy).nil⟩⟩, h.txn.cap, h.txn.nil⟩⟩
/-- The same envelope in memory of its own. -/
def OwnX (e : Em) (xs : List OV) (w : World) (r : Ending) (w' : World) : Prop := ∃ ys p c q d, r = .returned (ev e p c q d) ∧ InE e ys p c q d w' ∧ SmallP ys ∧ ys.length = xs.length ∧ KindX w' ys p q ∧ Below w.heap.size w w'
theorem flat_set5 (o : Om) (p' : Option Addr) (c' : Nat) : ∀ (zs : List OV) (k : Nat), k < zs.length → (zs.getD k ov0).1 = o → layO.flat (zs.set k (o, p', c')) = (layO.flat zs).set (k * 7 + 5) (.slice p' o.spans.length c')
  | [], k, h, _ => by simp at h
  | z :: zs, 0, _, e => by
    obtain ⟨z1, z2, z3⟩ := z
    have e : z1 = o := e
    subst e
    rw [List.set_cons_zero, layO.flat_cons, layO.flat_cons]
    rfl
  | z :: zs, k + 1, h, e => by
    have ih := flat_set5 o p' c' zs k (by simpa using h) (by simpa using e)
    have hl : (layO.enc z).length = 7 := layO.len z
    rw [List.set_cons_succ, layO.flat_cons, layO.flat_cons, ih, List.set_append_right _ _ (by rw [hl]; omega), hl]
    congr 2
    omega
theorem set_getD_same {zs : List OV} {k : Nat} (v : OV) (h : k < zs.length) : (zs.set k v).getD k ov0 = v := by simp [List.getD_eq_getElem?_getD, h]
theorem set_getD_ne {zs : List OV} {k j : Nat} (v : OV) (h : j ≠ k) : (zs.set k v).getD j ov0 = zs.getD j ov0 := by simp [List.getD_eq_getElem?_getD, List.getElem?_set, Ne.symm h]
/-- How far own has come: k operations have spans of their own. -/
structure OwnJ (e : Em) (xs zs : List OV) (w : World) (E c1 d1 : Nat) (p1 q1 : Option Addr) (k : Nat) (wr : World) : Prop where
  len : zs.length = xs.length
  ops : zs.map (·.1) = xs.map (·.1)
  done : ∀ j, j < k → InO (zs.getD j ov0).1 (zs.getD j ov0).2.1 (zs.getD j ov0).2.2 wr ∧ KindAt 103 wr (zs.getD j ov0).2.1
  left : ∀ j, k ≤ j → j < xs.length → zs.getD j ov0 = xs.getD j ov0
  row : 0 < xs.length → ∃ O rest, q1 = some ⟨O, 0, none⟩ ∧ w.heap.size ≤ O ∧ wr.heap[O]? = some (.cells (layO.flat zs ++ rest).toArray 92 (0, 0))
  box : wr.heap[E]? = some (.cells #[.slice p1 e.deps.length c1, .int .u16 e.txn.r, .int .u32 e.txn.seq, .int .u64 e.txn.clock, .int .i64 e.txn.user, .slice q1 xs.length d1] 36 (0, 0))
  res : wr.heap[E + 1]? = some (.cells #[.slice none 0 0, .int .u16 0, .int .u32 0, .int .u64 0, .int .i64 0, .slice none 0 0] 36 (0, 0))
  deps : Vec.Row wr p1 e.deps
  kind : KindAt 78 wr p1
  okind : KindAt 92 wr q1
  base : Below w.heap.size w wr
theorem OwnJ.below {e : Em} {xs zs : List OV} {w : World} {E c1 d1 : Nat} {p1 q1 : Option Addr} {k : Nat} {wr w5 : World} (h : OwnJ e xs zs w E c1 d1 p1 q1 k wr) (hb : Below wr.heap.size wr w5) : OwnJ e xs zs w E c1 d1 p1 q1 k w5 :=
  ⟨h.len, h.ops, fun j hj => ⟨(h.done j hj).1.below hb, (h.done j hj).2.below hb⟩, h.left, fun hx => by
    obtain ⟨O, rest, h1, h2, h3⟩ := h.row hx
    exact ⟨O, rest, h1, h2, kept_box h3 hb⟩, kept_box h.box hb, kept_box h.res hb, h.deps.below hb, h.kind.below hb, h.okind.below hb, below_step h.base hb⟩
theorem OwnJ.put {e : Em} {xs zs : List OV} {w : World} {E c1 d1 : Nat} {p1 q1 : Option Addr} {k : Nat} {wr : World} (h : OwnJ e xs zs w E c1 d1 p1 q1 k wr) (hk : k < xs.length) {O : Nat} (hq : q1 = some ⟨O, 0, none⟩) {o : Om} (ho : (zs.getD k ov0).1 = o) {p' : Option Addr} {c' : Nat} (hin : InO o p' c' wr) (hkd : KindAt 103 wr p') : OwnJ e xs (zs.set k (o, p', c')) w E c1 d1 p1 q1 (k + 1) (wr.setCell ⟨O, k * 7 + 5, none⟩ (.slice p' o.spans.length c')) := by
  obtain ⟨O', rest, h1, h2, h3⟩ := h.row (by omega)
  rw [hq] at h1
  cases h1
  have hK : Kept (fun j => j = O) wr (wr.setCell ⟨O, k * 7 + 5, none⟩ (.slice p' o.spans.length c')) := Kept.set (S := fun j => j = O) (Kept.refl _ _) rfl _
  have hneE : ¬ E = O := fun he => by
    subst he
    have h9 := h.box.symm.trans h3
    simp only [Option.some.injEq, Obj.cells.injEq] at h9
    exact absurd h9.2.1 (by decide)
  have hneR : ¬ E + 1 = O := fun he => by
    subst he
    have h9 := h.res.symm.trans h3
    simp only [Option.some.injEq, Obj.cells.injEq] at h9
    exact absurd h9.2.1 (by decide)
  have hap : ∀ {t : TypeId} {a : Option Addr}, t ≠ 92 → KindAt t wr a → ∀ r, a = some r → ¬ r.block = O := fun ht hk r hr => hk.apart (Ne.symm ht) h3 r hr
  have hB : (wr.setCell ⟨O, k * 7 + 5, none⟩ (.slice p' o.spans.length c')).heap[O]? = some (.cells (layO.flat (zs.set k (o, p', c')) ++ rest).toArray 92 (0, 0)) := by
    rw [setCell_block h3, flat_set5 o p' c' zs k (by rw [h.len]; exact hk) ho, List.set_append_left _ _ (by rw [layO.flat_length, h.len]; have : layO.k = 7 := rfl; rw [this]; omega)]
  have hzk : k < zs.length := by rw [h.len]; exact hk
  refine ⟨by rw [List.length_set]; exact h.len, ?_, fun j hj => ?_, fun j h1 h2 => ?_, fun _ => ⟨O, rest, hq, h2, hB⟩, hK.stays h.box hneE, hK.stays h.res hneR, vrow_kept h.deps hK (hap (by decide) h.kind), h.kind.kept hK (hap (by decide) h.kind), ?_, ?_⟩
  · rw [List.map_set, ← h.ops]
    apply List.ext_getElem?
    intro i
    rw [List.getElem?_set]
    by_cases hik : k = i
    · subst hik
      rw [if_pos rfl, if_pos (by rw [List.length_map]; exact hzk), List.getElem?_map, List.getElem?_eq_getElem hzk]
      rw [List.getD_eq_getElem?_getD, List.getElem?_eq_getElem hzk] at ho
      exact congrArg some ho.symm
    · rw [if_neg hik]
  · by_cases hjk : j = k
    · subst hjk
      rw [set_getD_same _ hzk]
      exact ⟨⟨hin.fit, hin.row.kept hK (hap (by decide) hkd), hin.cap, hin.nil⟩, hkd.kept hK (hap (by decide) hkd)⟩
    · rw [set_getD_ne _ hjk]
      obtain ⟨h5, h6⟩ := h.done j (by omega)
      exact ⟨⟨h5.fit, h5.row.kept hK (hap (by decide) h6), h5.cap, h5.nil⟩, h6.kept hK (hap (by decide) h6)⟩
  · rw [set_getD_ne _ (by omega)]
    exact h.left j (by omega) h2
  · rw [hq]
    intro r hr
    cases hr
    exact ⟨_, _, hB⟩
  · exact h.base.trans (hK.below h.base.size (fun j hj => by omega))
theorem OwnJ.own {e : Em} {xs zs : List OV} {w : World} {E c1 d1 : Nat} {p1 q1 : Option Addr} {wr : World} (h : OwnJ e xs zs w E c1 d1 p1 q1 xs.length wr) (hx : e.txn.ops = xs.map (·.1)) (hf : FitTm e.txn) (hS : SmallP xs) (hfd : Vec.Fits e.deps) (hc1 : e.deps.length ≤ c1) (hn1 : p1 = none → c1 = 0) (hd1 : xs.length ≤ d1) (hn2 : q1 = none → d1 = 0) : InE e zs p1 c1 q1 d1 wr ∧ SmallP zs ∧ KindX wr zs p1 q1 := by
  have hrow : GRow layO wr q1 zs := by
    by_cases h0 : 0 < xs.length
    · obtain ⟨O, rest, rfl, -, h3⟩ := h.row h0
      intro m u hm
      exact ⟨O, 0, rfl, by rw [cell_of_block h3, Nat.zero_add]; simp only [List.getElem?_toArray]; rw [List.getElem?_append_left (List.getElem?_eq_some_iff.1 hm).1]; exact hm⟩
    · have : zs = [] := List.eq_nil_of_length_eq_zero (by rw [h.len]; omega)
      rw [this]; exact GRow.nil _ _ _
  refine ⟨⟨h.deps, hfd, hc1, hn1, ⟨hf, by rw [hx, h.ops], ⟨hrow, fun z hz => ?_⟩, by rw [hx, List.length_map]; exact hd1, hn2⟩⟩, fun z hz => ?_, ⟨h.kind, h.okind, fun z hz => ?_⟩⟩
  · obtain ⟨j, hj, rfl⟩ := mem_getD ov0 hz
    exact (h.done j (by rw [← h.len]; exact hj)).1
  · have : z.1 ∈ xs.map (·.1) := by rw [← h.ops]; exact List.mem_map.2 ⟨z, hz, rfl⟩
    obtain ⟨y, hy, e1⟩ := List.mem_map.1 this
    rw [← e1]; exact hS y hy
  · obtain ⟨j, hj, rfl⟩ := mem_getD ov0 hz
    exact (h.done j (by rw [← h.len]; exact hj)).2
set_option maxHeartbeats 6400000 in
set_option maxRecDepth 20000 in
theorem own_any (e : Em) (xs : List OV) (p q : Option Addr) (c d : Nat) (w : World) (hI : InE e xs p c q d w) (hS : SmallP xs) (hl : xs.length ≤ 40) (hd : e.deps.length ≤ 100) : Calls Try.prog 29 #[ev e p c q d] w (OwnX e xs w) := by
  have HI := Lib.hid hI
  have HS := Lib.hid hS
  have hlen : e.txn.ops.length = xs.length := by rw [hI.txn.ops, List.length_map]
  have HCV : Hid (∀ W, Below w.heap.size w W → Calls Try.prog 47 #[.slice p e.deps.length c] W fun r w' => ∃ p1 c1, r = .returned (.slice p1 e.deps.length c1) ∧ Vec.Row w' p1 e.deps ∧ e.deps.length ≤ c1 ∧ (p1 = none → c1 = 0) ∧ KindAt 78 w' p1 ∧ Below W.heap.size W w') := fun W hb => (Vec.clone_any e.deps p c W (hI.row.below hb) (by omega)).mono (by
    rintro r w' ⟨v, rfl, hh⟩
    obtain ⟨p1, c1, rfl, h1, h2, h3, h4⟩ := hh.gaveK
    exact ⟨p1, c1, rfl, h1, h2, h3, h4, hh.2⟩)
  have HCO : Hid (∀ W, Below w.heap.size w W → Calls Try.prog 48 #[.slice q xs.length d] W (MadeK layO 92 W xs)) := fun W hb => by
    exact oclone_any xs q d W (hI.txn.row.row.below hb) (by omega)
  have HLN := Lib.hid hlen
  unfold ev
  rw [hlen]
  clear hI hS hlen
  go_enter Try.func29, Try.ntmps29
  go_wp2_with fail
  obtain ⟨W0, hW0⟩ : ∃ W0, W0 = (w.alloc (.cells #[.slice p e.deps.length c, .int .u16 e.txn.r, .int .u32 e.txn.seq, .int .u64 e.txn.clock, .int .i64 e.txn.user, .slice q xs.length d] 36)).alloc (.cells #[.slice none 0 0, .int .u16 0, .int .u32 0, .int .u64 0, .int .i64 0, .slice none 0 0] 36) := ⟨_, rfl⟩
  have HB0 : Hid (Below w.heap.size w W0) := by show Below _ _ _; rw [hW0]; exact below_alloc (below_alloc (Below.refl _ _) _) _
  have HE0 : Hid (W0.heap[w.heap.size]? = some (.cells #[.slice p e.deps.length c, .int .u16 e.txn.r, .int .u32 e.txn.seq, .int .u64 e.txn.clock, .int .i64 e.txn.user, .slice q xs.length d] 36 (0, 0))) := by
    show _ = _
    rw [hW0]
    exact kept_box (heap_alloc_new w _) (below_alloc (Below.refl _ _) _)
  have HR0 : Hid (W0.heap[w.heap.size + 1]? = some (.cells #[.slice none 0 0, .int .u16 0, .int .u32 0, .int .u64 0, .int .i64 0, .slice none 0 0] 36 (0, 0))) := by
    show _ = _
    rw [hW0]
    have := heap_alloc_new (w.alloc (.cells #[.slice p e.deps.length c, .int .u16 e.txn.r, .int .u32 e.txn.seq, .int .u64 e.txn.clock, .int .i64 e.txn.user, .slice q xs.length d] 36)) (.cells #[.slice none 0 0, .int .u16 0, .int .u32 0, .int .u64 0, .int .i64 0, .slice none 0 0] 36)
    simpa using this
  rw [← hW0]
  clear hW0
  obtain ⟨y0', y1', y2', y3', y4', y5'⟩ := six_cells HE0.out
  have y0 := cell_regrown y0'
  have y5 := cell_regrown y5'
  clear y0' y1' y2' y3' y4' y5'
  generalize hEw : w.heap.size = E at HE0 HR0 y0 y5 ⊢
  have HEW := Lib.hid hEw
  clear hEw
  refine wp_region_mixG_below [(true, 0), (true, 1), (true, 3), (true, 4), (true, 5), (false, 2), (true, 7), (false, 6)] [8, 9, 10, 11] (by kernel_rfl) (by kernel_rfl) (fun _ _ d _ _ h => by cases d <;> exact h) ?_
  simp only [pickOps, pickG, List.filterMap_cons, List.filterMap_nil, List.getElem?_cons_zero, List.getElem?_cons_succ, Option.map_some]
  iterate 5
    refine seqG_quiet ?_
    first | go_big_quiet_step (fail) | quiet_step (fail)
    refine wpQuiet_nil ?_
  refine seqG_step fun K hK => ?_
  go_wp2_with fail
  refine (HCV.out _ (below_step HB0.out (by first | exact Below.refl _ _ | exact (Below.refl _ _).drew))).mono ?_
  rintro r w1 ⟨p1, c1, rfl, hr1, hc1, hn1, hk1, hb1⟩
  have HB1 : Hid (Below W0.heap.size W0 w1) := below_of_drew hb1
  have HD1 : Hid (Vec.Row w1 p1 e.deps ∧ e.deps.length ≤ c1 ∧ (p1 = none → c1 = 0) ∧ KindAt 78 w1 p1) := ⟨hr1, hc1, hn1, hk1⟩
  clear hr1 hc1 hn1 hk1 hb1
  go_wp2_with fail
  refine hK _ _ (regrown_of_below HB1.out) ?_
  clear hK K
  refine seqG_quiet ?_
  (first | go_big_quiet_step (fail) | quiet_step (fail))
  refine wpQuiet_nil ?_
  clear y0 y5
  refine seqG_step fun K hK => ?_
  go_wp2_with fail
  refine (HCO.out _ (below_step (below_step HB0.out HB1.out) (by first | exact Below.refl _ _ | exact (Below.refl _ _).drew))).mono ?_
  rintro r w2 ⟨q1, d1, rfl, hown, hb2⟩
  have HB2 : Hid (Below w1.heap.size w1 w2) := by first | exact hb2 | exact below_of_drew hb2
  have HO2 := Lib.hid hown
  clear hown hb2
  go_wp2_with fail
  refine hK _ _ (regrown_of_below (below_step HB1.out HB2.out)) ?_
  clear hK K
  refine seqG_nil ?_
  have hE2 := kept_box HE0.out (below_step HB1.out HB2.out)
  obtain ⟨z0, z1, z2, z3, z4, z5⟩ := six_cells hE2
  have f0 : w2.frozen? ⟨E, 0, none⟩ = false := frozen_of_block hE2
  have f5 : w2.frozen? ⟨E, 5, none⟩ = false := frozen_of_block hE2
  have HE2 := Lib.hid hE2
  clear hE2 z1 z2 z3 z4
  have hW3 : OwnJ e xs xs w E c1 d1 p1 q1 0 ((w2.setCell ⟨E, 0, none⟩ (.slice p1 e.deps.length c1)).setCell ⟨E, 5, none⟩ (.slice q1 xs.length d1)) := by
    have hb2 : Below w.heap.size w w2 := below_step (below_step HB0.out HB1.out) HB2.out
    have hK : Kept (fun j => j = E) w2 ((w2.setCell ⟨E, 0, none⟩ (.slice p1 e.deps.length c1)).setCell ⟨E, 5, none⟩ (.slice q1 xs.length d1)) := Kept.set (S := fun j => j = E) (Kept.set (S := fun j => j = E) (Kept.refl _ _) rfl _) rfl _
    have hE3 := HE2.out
    have hap : ∀ {t : TypeId} {a : Option Addr}, t ≠ 36 → KindAt t w2 a → ∀ r, a = some r → ¬ r.block = E := fun ht hk r hr => hk.apart (Ne.symm ht) hE3 r hr
    have hok : KindAt 92 w2 q1 := kind_owns HO2.out
    have hdk := HD1.out.2.2.2.below HB2.out
    refine ⟨rfl, rfl, fun j hj => absurd hj (Nat.not_lt_zero _), fun j _ _ => rfl, fun h0 => ?_, ?_, hK.stays (kept_box HR0.out (below_step HB1.out HB2.out)) (by omega), vrow_kept (HD1.out.1.below HB2.out) hK (hap (by decide) hdk), hdk.kept hK (hap (by decide) hdk), hok.kept hK (hap (by decide) hok), hb2.trans (hK.below hb2.size (fun j hj => by rw [hj, ← HEW.out]; exact Nat.le_refl _))⟩
    · obtain ⟨O, rest, rfl, h3, h4⟩ : ∃ O rest, q1 = some ⟨O, 0, none⟩ ∧ w.heap.size ≤ O ∧ w2.heap[O]? = some (.cells (layO.flat xs ++ rest).toArray 92 (0, 0)) := by
        rcases HO2.out.2 with ⟨-, h⟩ | ⟨g, cap, cur, hv, hb, hg, hnc, hcm, hcs, htake⟩
        · omega
        · cases hv
          exact ⟨g, cur.toList.drop (xs.length * layO.k), rfl, by have h5 := HB0.out.size; have h6 := HB1.out.size; omega, by rw [hg, ← htake, List.take_append_drop]⟩
      exact ⟨O, rest, rfl, h3, hK.stays h4 (hap (by decide) hok _ rfl)⟩
    · have h1 := setCell_block (o := 0) (w := w2) (cs := [.slice p e.deps.length c, .int .u16 e.txn.r, .int .u32 e.txn.seq, .int .u64 e.txn.clock, .int .i64 e.txn.user, .slice q xs.length d]) hE3 (.slice p1 e.deps.length c1)
      exact setCell_block (o := 5) h1 (.slice q1 xs.length d1)
  have HJ := Lib.hid hW3
  have HD : Hid (e.deps.length ≤ c1 ∧ (p1 = none → c1 = 0) ∧ xs.length ≤ d1 ∧ (q1 = none → d1 = 0)) := by
    obtain ⟨p', c', e1, -, -, h3, h4⟩ := grow_owns layO_pos HO2.out
    cases e1
    exact ⟨HD1.out.2.1, HD1.out.2.2.1, h3, h4⟩
  clear hW3 HE0 HE2 HD1 HO2 HB1 HB2 HCO HCV HB0 HR0
  go_wp2_with fail
  generalize (w2.setCell ⟨E, 0, none⟩ (.slice p1 e.deps.length c1)).setCell ⟨E, 5, none⟩ (.slice q1 xs.length d1) = w3 at HJ ⊢
  clear z0 z5 f0 f5
  have HSC : Hid (∀ k, k < xs.length → ∀ W, Below w.heap.size w W → InO (xs.getD k ov0).1 (xs.getD k ov0).2.1 (xs.getD k ov0).2.2 W ∧ Calls Try.prog 49 #[.slice (xs.getD k ov0).2.1 (xs.getD k ov0).1.spans.length (xs.getD k ov0).2.2] W (MadeK layS 103 W (xs.getD k ov0).1.spans)) := fun k hk W hb => by
    have h1 := (HI.out.txn.row.at hk).below hb
    exact ⟨h1, sclone_any _ _ _ W h1.row (by have := (HS.out.at hk).2; omega)⟩
  go_loopg [3, 18] xs.length (fun n s3 u wr => ∃ (k : Nat) (zs : List OV), k ≤ xs.length ∧ xs.length - k ≤ n ∧ u = .int .i64 (k : Int) ∧ OwnJ e xs zs w E c1 d1 p1 q1 k wr)
  case atStart => exact ⟨0, xs, Nat.zero_le _, by omega, rfl, HJ.out⟩
  case round =>
    clear HJ
    obtain ⟨k, zs, hk, hg, rfl, hj⟩ := hrel
    have HJ := Lib.hid hj
    clear hj
    by_cases hlt : k < xs.length
    · have hkl : (k : Int) < (xs.length : Int) := by omega
      obtain ⟨O, rest, hq1, hO1, hO2⟩ := HJ.out.row (by omega)
      have hzl := HJ.out.len
      have hrow : GRow layO wr (some ⟨O, 0, none⟩) zs := fun m u hm => ⟨O, 0, rfl, by rw [cell_of_block hO2, Nat.zero_add]; simp only [List.getElem?_toArray]; rw [List.getElem?_append_left (List.getElem?_eq_some_iff.1 hm).1]; exact hm⟩
      obtain ⟨b', o', e', -, -, -, -, -, t5, -⟩ := orow_at hrow (i := k) (by omega)
      cases e'
      rw [HJ.out.left k (Nat.le_refl _) hlt] at t5
      obtain ⟨y0', y1', y2', y3', y4', y5'⟩ := six_cells HJ.out.box
      have hSK := HSC.out k hlt
      have HOX : Hid ((zs.getD k ov0).1 = (xs.getD k ov0).1) := by show _ = _; rw [HJ.out.left k (Nat.le_refl _) hlt]
      generalize xs.getD k ov0 = X at t5 hSK HOX
      obtain ⟨o, sp, sc⟩ := X
      simp only at t5 hSK HOX
      have HSK := Lib.hid hSK
      have HQ1 := Lib.hid hq1
      have HRB := Lib.hid hO2
      simp only [Nat.zero_add] at t5
      rw [hq1] at y5'
      have y5 := cell_regrown y5'
      have z5 := cell_regrown t5
      clear y0' y1' y2' y3' y4' hO2 hrow hSK hq1
      go_wp2_with fail
      refine wp_region_mix_below [0, 1, 2, 3, 4, 5, 6, 7, 8, 9, 10] [11] [12, 13, 14] (by kernel_rfl) (by kernel_rfl) (fun _ _ d _ _ h => by cases d <;> exact h) ?_
      simp only [pickOps, List.filterMap_cons, List.filterMap_nil, List.getElem?_cons_zero, List.getElem?_cons_succ]
      repeat (first | go_big_quiet_step (fail) | quiet_step (fail))
      refine wpQuiet_nil ?_
      clear y5 z5
      refine seqM_step fun K hK => ?_
      go_wp2_with fail
      refine ((HSK.out _ (below_step HJ.out.base (by first | exact Below.refl _ _ | exact (Below.refl _ _).drew))).2).mono ?_
      rintro r w5 ⟨p5, c5, rfl, hown, hb5⟩
      have HB5 : Hid (Below wr.heap.size wr w5) := below_of_drew hb5
      have HO5 := Lib.hid hown
      clear hown hb5
      go_wp2_with fail
      refine hK _ _ (regrown_of_below HB5.out) ?_
      clear hK K
      refine seqM_nil ?_
      have hO5 := kept_box HRB.out HB5.out
      have g5 : w5.frozen? ⟨O, k * 7 + 5, none⟩ = false := frozen_of_block hO5
      have v5 := cellU t5 HB5.out
      clear hO5 t5 y5'
      have HN : Hid (OwnJ e xs (zs.set k (o, p5, c5)) w E c1 d1 p1 q1 (k + 1) (w5.setCell ⟨O, k * 7 + 5, none⟩ (.slice p5 o.spans.length c5))) := by
        obtain ⟨p', c', e1, -, h2, h3, h4⟩ := grow_owns (by decide) HO5.out
        cases e1
        exact (HJ.out.below HB5.out).put hlt HQ1.out HOX.out ⟨(HSK.out _ HJ.out.base).1.fit, h2, h3, h4⟩ (kind_owns HO5.out)
      clear HJ HO5 HRB HSK HB5
      go_wp2_with fail
      go_roundg (xs.length - (k + 1))
      case measure => omega
      case rel => exact ⟨k + 1, _, by omega, Nat.le_refl _, by go_num, HN.out⟩
    · have : k = xs.length := by omega
      subst this
      have hkl : ¬ (xs.length : Int) < (xs.length : Int) := by omega
      obtain ⟨y0, y1, y2, y3, y4, y5⟩ := six_cells HJ.out.box
      obtain ⟨z0, z1, z2, z3, z4, z5⟩ := six_cells HJ.out.res
      have g : ∀ o, wr.frozen? ⟨E + 1, o, none⟩ = false := fun o => frozen_of_block HJ.out.res
      have g0 := g 0
      have g1 := g 1
      have g2 := g 2
      have g3 := g 3
      have g4 := g 4
      have g5 := g 5
      have HF : Hid (∀ W, Kept (fun j => j = E + 1) wr W → InE e zs p1 c1 q1 d1 W ∧ SmallP zs ∧ zs.length = xs.length ∧ KindX W zs p1 q1 ∧ Below w.heap.size w W) := fun W hK => by
        obtain ⟨h1, h2, h3⟩ := HJ.out.own HI.out.txn.ops HI.out.txn.fit HS.out HI.out.fits HD.out.1 HD.out.2.1 HD.out.2.2.1 HD.out.2.2.2
        have hS : OthersX (fun j => j = E + 1) wr := fun j hj cs t f hh => by
          rw [hj] at hh
          have h9 := HJ.out.res.symm.trans hh
          simp only [Option.some.injEq, Obj.cells.injEq] at h9
          rw [← h9.2.1]
          exact ⟨by decide, by decide, by decide⟩
        exact ⟨h1.keptX h3 hS hK, h2, HJ.out.len, h3.kept hS hK, HJ.out.base.trans (hK.below HJ.out.base.size (fun j hj => by rw [hj, ← HEW.out]; omega))⟩
      have HRS := Lib.hid HJ.out.res
      clear g HJ HSC
      go_wp2_with fail
      refine bodyPost_ret (results_cell_row rfl _ _ (E + 1) 36 #[.slice p1 e.deps.length c1, .int .u16 e.txn.r, .int .u32 e.txn.seq, .int .u64 e.txn.clock, .int .i64 e.txn.user, .slice q1 xs.length d1] (0, 0) _ rfl (box_six HRS.out) Try.underlying36 rfl szEnv) rfl ?_
      obtain ⟨h1, h2, h3, h4, h5⟩ := HF.out _ (Kept.set (S := fun j => j = E + 1) (Kept.set (S := fun j => j = E + 1) (Kept.set (S := fun j => j = E + 1) (Kept.set (S := fun j => j = E + 1) (Kept.set (S := fun j => j = E + 1) (Kept.set (S := fun j => j = E + 1) (Kept.refl _ _) rfl _) rfl _) rfl _) rfl _) rfl _) rfl _)
      exact ⟨zs, p1, c1, q1, d1, by unfold ev; rw [HLN.out], h1, h2, h3, h4, h5⟩
end Go.Proofs.Ytjkdcpalgfakhaa
