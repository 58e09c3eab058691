
/-
  What the program's search among stretches hands back. No conditions beyond what each theorem states.
-/
import Derived.Test.YtoadifbbmfaakaaSpanProg10
namespace Go.Proofs.Ytoadifbbmfaakaa
open Go.ChangeShapes Go.WideShapes Go.ChangeAt Go.RowKit Go.Lib
open Go.Sort
set_option linter.unusedVariables false
set_option linter.unusedSimpArgs false

def lastOf (z : Sp) : Nm := (z.1, z.2.1 + z.2.2 - 1)
def lowP (zs : List Sp) (a : Nm) (i : Nat) : Bool := decide (0 ≤ cmpN (lastOf (zs.getD i s0)) a)
theorem cmpN_ge (x y : Nm) : 0 ≤ cmpN x y ↔ ¬ (x.1 < y.1 ∨ x.1 = y.1 ∧ x.2 < y.2) := by
  have h := decide_eq_decide.1 (lt_cmpN x y)
  rw [← h]; omega
theorem lowP_iff {zs : List Sp} {a : Nm} {i : Nat} : lowP zs a i = true ↔ ¬ ((zs.getD i s0).1 < a.1 ∨ (zs.getD i s0).1 = a.1 ∧ (zs.getD i s0).2.1 + (zs.getD i s0).2.2 - 1 < a.2) := by
  unfold lowP
  rw [decide_eq_true_eq, cmpN_ge]
  rfl
theorem Good.at {zs : List Sp} (h : Good zs) {i : Nat} (hi : i < zs.length) : okZ (zs.getD i s0) := h.ok _ (getD_mem s0 hi)
theorem Good.ahead {zs : List Sp} (h : Good zs) {i j : Nat} (hij : i < j) (hj : j < zs.length) : Ahead (zs.getD i s0) (zs.getD j s0) := by
  have := List.pairwise_iff_getElem.1 h.apart i j (by omega) hj hij
  simpa [show i < zs.length by omega, hj] using this
theorem lowP_mono {zs : List Sp} (h : Good zs) {a : Nm} {i j : Nat} (hij : i ≤ j) (hj : j < zs.length) (hi : lowP zs a i = true) : lowP zs a j = true := by
  rcases Nat.eq_or_lt_of_le hij with e | e
  · subst e; exact hi
  · have h1 := h.ahead e hj
    have h2 := h.at hj
    rw [lowP_iff] at hi ⊢
    unfold Ahead at h1
    unfold okZ at h2
    omega
/-- The place that a search finds tells whether a name is there. -/
theorem found_iff {zs : List Sp} (h : Good zs) {a : Nm} {k : Nat} (h1 : ∀ t, t < k → lowP zs a t = false) (h2 : ∀ t, k ≤ t → t < zs.length → lowP zs a t = true) : a ∈ idsL zs ↔ k < zs.length ∧ a ∈ idsS (zs.getD k s0) := by
  constructor
  · intro hm
    obtain ⟨z, hz, ha⟩ := mem_idsL.1 hm
    obtain ⟨m, hml, rfl⟩ := mem_getD s0 hz
    have ok := h.at hml
    have ha' := mem_idsS.1 ha
    unfold okZ at ok
    have hlow : lowP zs a m = true := by rw [lowP_iff]; omega
    have hkm : k ≤ m := by
      rcases Nat.lt_or_ge m k with e | e
      · rw [h1 m e] at hlow; cases hlow
      · exact e
    rcases Nat.eq_or_lt_of_le hkm with e | e
    · subst e; exact ⟨hml, ha⟩
    · have h3 := h.ahead e hml
      have h4 := h2 k (Nat.le_refl _) (by omega)
      rw [lowP_iff] at h4
      unfold Ahead at h3
      omega
  · rintro ⟨hk, ha⟩
    exact mem_idsL.2 ⟨_, getD_mem s0 hk, ha⟩

theorem below_grown (w : World) (q : Nat) (os : Array Obj) : RowKit.Below w.heap.size w (grow (w.drewN q) os) := ⟨rfl, rfl, rfl, by simp [grow], fun k hk => by simp [grow, Array.getElem?_append, hk]⟩
set_option maxHeartbeats 1600000 in
/-- The test of one place. -/
theorem findt_any (zs : List Sp) (a : Nm) (p : Option Addr) (c i bx ba : Nat) (W : World) (h1 : W.cell? ⟨bx, 0, none⟩ = some (.slice p zs.length c)) (h2 : W.cell? ⟨ba, 0, none⟩ = some (.int .u16 a.1)) (h3 : W.cell? ⟨ba, 1, none⟩ = some (.int .u32 a.2)) (hR : GRow layS W p zs) (hG : Good zs) (hi : i < zs.length) (hl : zs.length ≤ 3000) :
    Calls Try.prog 59 #[.int .i64 (i : Int), .pointer (some ⟨bx, 0, none⟩), .pointer (some ⟨ba, 0, none⟩)] W fun e w' => e = .returned (.bool (lowP zs a i)) ∧ Below W.heap.size W w' := by
  obtain ⟨b, o, rfl, c0, c1, c2⟩ := srow_at hR hi
  have ok := hG.at hi
  have HE : Hid (lowP zs a i = decide (0 ≤ cmpN (lastOf (zs.getD i s0)) a)) := rfl
  have HLA := Lib.hid (fun W => last_any (zs.getD i s0) W (by unfold okZ at ok; omega) (by unfold okZ at ok; omega) (by unfold okZ at ok; omega))
  have HCM : Hid (∀ W : World, Calls Try.prog 55 #[nv (lastOf (zs.getD i s0)), nv a] W fun e w' => e = .returned (.int .i64 (cmpN (lastOf (zs.getD i s0)) a)) ∧ RowKit.Below W.heap.size W w') := fun W => (idcompare_any (lastOf (zs.getD i s0)) a W).mono fun e w' ⟨he, q, os, hw⟩ => ⟨he, by rw [hw]; exact below_grown W q os⟩
  rw [HE.out]
  unfold lastOf at HCM ⊢
  generalize zs.getD i s0 = z at c0 c1 c2 HLA HCM ⊢
  obtain ⟨r, n, m⟩ := z
  obtain ⟨x, y⟩ := a
  simp only at c0 c1 c2 HLA HCM h2 h3 ⊢
  unfold sv nv at HLA
  unfold nv at HCM
  simp only at HLA HCM
  generalize cmpN (r, n + m - 1) (x, y) = zz at HCM ⊢
  have hil : (i : Int) < (zs.length : Int) := by omega
  have hi0 : (0 : Int) ≤ (i : Int) := by omega
  have q0 := cell_regrown c0
  have q1 := cell_regrown c1
  have q2 := cell_regrown c2
  have q3 := cell_regrown h1
  have q4 := cell_regrown h2
  have q5 := cell_regrown h3
  clear hR hG ok HE c0 c1 c2 h1 h2 h3
  go_enter Try.func59, Try.ntmps59
  go_wp2_with fail
  refine wp_region_quiet_below (by kernel_rfl) (by kernel_rfl) ?_
  repeat (go_big_quiet_step (first | (go_at_call 22; exact Calls.regrown_of (HLA.out _)) | (go_at_call 55; exact Calls.regrown_of (HCM.out _))))
  refine wpQuiet_nil ?_
  intro _ hw'
  obtain ⟨⟨dq, osq⟩, hw''⟩ := hw'
  subst hw''
  go_wp2
  go_ret
  exact ⟨rfl, below_regrown _ _ _⟩

def Found (n : Nat) (f : Nat → Bool) (w : World) (e : Ending) (w' : World) : Prop := ∃ k : Nat, k ≤ n ∧ e = .returned (.int .i64 (k : Int)) ∧ (∀ t, t < k → f t = false) ∧ (∀ t, k ≤ t → t < n → f t = true) ∧ Below w.heap.size w w'
set_option maxHeartbeats 1600000 in
theorem search_any (n : Nat) (f : Nat → Bool) (p1 p2 : Value) (w : World) (hn : n ≤ 3000) (hm : ∀ i j, i ≤ j → j < n → f i = true → f j = true)
    (hf : ∀ W i, i < n → Below w.heap.size w W → Calls Try.prog 59 #[.int .i64 (i : Int), p1, p2] W fun e w' => e = .returned (.bool (f i)) ∧ Below W.heap.size W w') :
    Calls Try.prog 58 #[.int .i64 (n : Int), .func (.func 59) #[] #[p1, p2]] w (Found n f w) := by
  have HM := Lib.hid hm
  have HF := Lib.hid hf
  clear hm hf
  go_enter Try.func58, Try.ntmps58
  go_wp2
  go_loopg [5, 6] n (fun g a b wr => ∃ i j : Nat, i ≤ j ∧ j ≤ n ∧ j - i ≤ g ∧ a = .int .i64 (i : Int) ∧ b = .int .i64 (j : Int) ∧ (∀ t, t < i → f t = false) ∧ (∀ t, j ≤ t → t < n → f t = true) ∧ Below w.heap.size w wr)
  case atStart => exact ⟨0, n, Nat.zero_le _, Nat.le_refl _, by omega, rfl, rfl, fun t h => absurd h (by omega), fun t h1 h2 => absurd h1 (by omega), Below.refl _ _⟩
  case round =>
    obtain ⟨i, j, hij, hjn, hg, rfl, rfl, hlo, hhi, hB⟩ := hrel
    have HB := Lib.hid hB
    have HLO := Lib.hid hlo
    have HHI := Lib.hid hhi
    clear hB hlo hhi
    by_cases hlt : i < j
    · have hlt' : (i : Int) < (j : Int) := by omega
      obtain ⟨H, hH, h1, h2⟩ : ∃ H : Nat, ((i : Int) + (j : Int)) / 2 = (H : Int) ∧ i ≤ H ∧ H < j := ⟨(i + j) / 2, by omega, by omega, by omega⟩
      have HC := Lib.hid (HF.out wr H (by omega) HB.out)
      cases hfv : f H with
      | false =>
        rw [hfv] at HC
        have HLO2 : Hid (∀ t, t < H + 1 → f t = false) := fun t ht => by
          by_cases e : t = H
          · rw [e]; exact hfv
          · cases hft : f t with
            | false => rfl
            | true => rw [HM.out t H (by omega) (by omega) hft] at hfv; cases hfv
        clear hfv HLO
        go_wp2_with fail
        refine HC.out.mono ?_
        rintro e w1 ⟨rfl, hb1⟩
        have HB1 : Hid (RowKit.Below w.heap.size w w1) := below_step HB.out hb1
        clear hb1 HC
        go_wp2
        go_roundg (j - (H + 1))
        case measure => omega
        case rel => exact ⟨H + 1, j, by omega, hjn, Nat.le_refl _, by go_num, rfl, HLO2.out, HHI.out, HB1.out⟩
      | true =>
        rw [hfv] at HC
        have HHI2 : Hid (∀ t, H ≤ t → t < n → f t = true) := fun t ht htn => HM.out H t ht htn hfv
        clear hfv HHI
        go_wp2_with fail
        refine HC.out.mono ?_
        rintro e w1 ⟨rfl, hb1⟩
        have HB1 : Hid (RowKit.Below w.heap.size w w1) := below_step HB.out hb1
        clear hb1 HC
        go_wp2
        go_roundg (H - i)
        case measure => omega
        case rel => exact ⟨i, H, h1, by omega, Nat.le_refl _, rfl, rfl, HLO.out, HHI2.out, HB1.out⟩
    · have : i = j := by omega
      subst this
      have hlt' : ¬ (i : Int) < (i : Int) := by omega
      go_wp2
      go_ret
      exact ⟨i, hjn, rfl, HLO.out, HHI.out, HB.out⟩
end Go.Proofs.Ytoadifbbmfaakaa
