
/-
  What the program's Get of layer 7 leaves. No conditions beyond what each theorem states.
-/
import Derived.Test.YtedlmngfkkpmgaaKinds
import Derived.Test.YtedlmngfkkpmgaaSpanProg6
import Derived.Deep.RegionLaw
namespace Go.Proofs.Ytedlmngfkkpmgaa
open Go.ChangeShapes Go.WideShapes Go.ChangeAt Go.RowKit Go.Lib
set_option linter.unusedVariables false
set_option linter.unusedSimpArgs false

/-- So many spans, read on behind an error too. -/
def rdA (bs : List UInt8) : Nat → Nat → Nat → List Sp × Nat × Nat
  | 0, q, e => ([], q, e)
  | n + 1, q, e => ((rdA bs n q e).1 ++ [(rd3 bs (rdA bs n q e).2.1 (rdA bs n q e).2.2).1], (rd3 bs (rdA bs n q e).2.1 (rdA bs n q e).2.2).2)
theorem rdA_cons (bs : List UInt8) : ∀ n q e, rdA bs (n + 1) q e = ((rd3 bs q e).1 :: (rdA bs n (rd3 bs q e).2.1 (rd3 bs q e).2.2).1, (rdA bs n (rd3 bs q e).2.1 (rd3 bs q e).2.2).2) := by
  intro n
  induction n with
  | zero => intro q e; rfl
  | succ n ih =>
    intro q e
    rw [rdA, ih q e]
    simp only
    conv => rhs; rw [rdA]
    simp
theorem rd3_err {bs : List UInt8} {q e : Nat} (h : e ≠ 0) : rd3 bs q e = ((0, 0, 0), q, e) := by
  unfold rd3
  simp only [rdN_err h]
  rfl
theorem rdA_rdL (bs : List UInt8) : ∀ n q e, (rdL bs n q e).2.2 = (rdA bs n q e).2.2 ∧ ((rdA bs n q e).2.2 = 0 → rdL bs n q e = rdA bs n q e) := by
  intro n
  induction n with
  | zero => intro q e; exact ⟨rfl, fun _ => rfl⟩
  | succ n ih =>
    intro q e
    rw [rdA_cons]
    by_cases h : e = 0
    · subst h
      obtain ⟨h1, h2⟩ := ih (rd3 bs q 0).2.1 (rd3 bs q 0).2.2
      rw [rdL, if_pos rfl]
      refine ⟨h1, fun h0 => ?_⟩
      rw [h2 h0]
    · obtain ⟨h1, h2⟩ := ih q e
      rw [rdL, if_neg h, rd3_err h]
      rw [rdL_err bs n q e h] at h1
      simp only at h1 ⊢
      exact ⟨h1, fun h0 => absurd (h1.trans h0) h⟩
theorem rdA_len (bs : List UInt8) : ∀ n q e, (rdA bs n q e).1.length = n := by
  intro n
  induction n with
  | zero => intro q e; rfl
  | succ n ih => intro q e; rw [rdA]; simp [ih]

/-- A row of the call's own, and all else but one block as it was. -/
structure HoldK (w : World) (K : Nat) (v : Value) (xs : List Sp) (wr : World) : Prop where
  row : wr.ownsRow w.heap.size 114 3 v xs.length (layS.flat xs)
  only : Only K w wr
  lt : K < w.heap.size
theorem HoldK.on {w wr w1 : World} {K : Nat} {v : Value} {xs : List Sp} (h : HoldK w K v xs wr) (ho : Only K wr w1) : HoldK w K v xs w1 :=
  ⟨h.row.kept (row := some K) ⟨ho.os, ho.tape, ho.output, ho.size, fun k hk hn => ho.block k hk (fun e => hn (by rw [e]))⟩ (Or.inr fun e => by have := (h.row.lt _ e).1; have := h.lt; omega), h.only.trans ho (fun _ _ e => e), h.lt⟩
theorem HoldK.below {w wr w1 : World} {K : Nat} {v : Value} {xs : List Sp} (h : HoldK w K v xs wr) (hb : Below wr.heap.size wr w1) : HoldK w K v xs w1 := h.on (Kept.ofBelow hb)
theorem HoldK.onto {w wr w1 : World} {K : Nat} {v v' : Value} {xs : List Sp} {x : Sp} (h : HoldK w K v xs wr) (hown : w1.ownsRow w.heap.size 114 3 v' (xs.length + 1) (layS.flat xs ++ layS.enc x)) (hg : wr.grownBy w1 v.ownBlock) : HoldK w K v' (xs ++ [x]) w1 :=
  ⟨by rw [layS.flat_append, layS.flat_one, List.length_append]; exact hown, h.only.trans (T := fun i => v.ownBlock = some i) ⟨hg.os, hg.tape, hg.output, hg.size, fun k hk hn => hg.block k hk (fun e => hn e.symm)⟩ (fun i hi e => by have := (h.row.lt _ e).1; omega), h.lt⟩
theorem HoldK.rd {w wr w1 : World} {K D q e : Nat} {v : Value} {xs : List Sp} {bs : List UInt8} (h : HoldK w K v xs wr) (hD : D < w.heap.size) (hg : wr.grownBy w1 v.ownBlock) (hr : Rd K D bs q e wr) : Rd K D bs q e w1 :=
  hr.kept (S := fun i => v.ownBlock = some i) ⟨hg.os, hg.tape, hg.output, hg.size, fun k hk hn => hg.block k hk (fun e => hn e.symm)⟩ (fun e => by have := (h.row.lt _ e).1; have := h.lt; omega) (fun e => by have := (h.row.lt _ e).1; omega)
theorem only_box {K X : Nat} {w w' : World} {o : Obj} (h : w.heap[X]? = some o) (hK : X ≠ K) (hk : Only K w w') : w'.heap[X]? = some o := hk.stays h hK

/-- What Get leaves, and in blocks of which kind. -/
def GotK (bs : List UInt8) (q e K D : Nat) (w : World) (r : Ending) (w' : World) : Prop := ∃ p c q', r = .returned (.slice p (readS bs q e).1.length c) ∧ GRow layS w' p (readS bs q e).1 ∧ (readS bs q e).1.length ≤ c ∧ (p = none → c = 0) ∧ Rd K D bs q' (readS bs q e).2.2 w' ∧ ((readS bs q e).2.2 = 0 → q' = (readS bs q e).2.1) ∧ Only K w w' ∧ KindAt 114 w' p
set_option maxHeartbeats 3200000 in
set_option maxRecDepth 20000 in
theorem get_kind (bs : List UInt8) (q e K D : Nat) (w : World) (hR : Rd K D bs q e w) (hb : bs.length ≤ 100000) (he : e < 16) : Calls Try.prog 64 #[.pointer (some ⟨K, 0, none⟩)] w (GotK bs q e K D w) := by
  obtain ⟨i0, hi, hz0, hz1, hz2⟩ := info_parts infoSp
  have hK := lt_of_block hR.box
  have hD := lt_of_block hR.row
  have hcf := rdN_fits (e := e) (limit := 1024) hR.fits
  have H0 := Lib.hid (rnum_any 1024 (by decide) w hR)
  have HRS : Hid (readS bs q e = (if (rdL bs (rdN bs q e 1024).1 (rdN bs q e 1024).2.1 (rdN bs q e 1024).2.2).2.2 = 0 then (rdL bs (rdN bs q e 1024).1 (rdN bs q e 1024).2.1 (rdN bs q e 1024).2.2).1 else [], (rdL bs (rdN bs q e 1024).1 (rdN bs q e 1024).2.1 (rdN bs q e 1024).2.2).2.1, (rdL bs (rdN bs q e 1024).1 (rdN bs q e 1024).2.1 (rdN bs q e 1024).2.2).2.2)) := rfl
  generalize rdN bs q e 1024 = c0 at hcf H0 HRS
  obtain ⟨n, q0, e0⟩ := c0
  simp only at hcf H0 HRS
  obtain ⟨hq0, hn, he0⟩ := hcf
  clear hR
  go_enter Try.func64, Try.ntmps64
  go_wp2_with fail
  refine H0.out.mono ?_
  rintro r w1 ⟨rfl, hrd1, ho1⟩
  have HR1 := Lib.hid hrd1
  have HO1 := Lib.hid ho1
  clear hrd1 ho1 H0
  go_wp2
  go_loopg [3, 7] n (fun g v i wr => ∃ k : Nat, k ≤ n ∧ n - k ≤ g ∧ i = .int .u64 (k : Int) ∧ HoldK w K v (rdA bs k q0 e0).1 wr ∧ Rd K D bs (rdA bs k q0 e0).2.1 (rdA bs k q0 e0).2.2 wr)
  case atStart => exact ⟨0, Nat.zero_le _, by omega, rfl, ⟨World.ownsRow_nil w1 w.heap.size 114 3, HO1.out, hK⟩, HR1.out⟩
  case round =>
    clear HR1 HO1
    obtain ⟨k, hk, hg, rfl, hH, hRd⟩ := hrel
    by_cases hlt : k < n
    · have HH := Lib.hid hH
      have HRD := Lib.hid hRd
      have hll := rdA_len bs k q0 e0
      have HNX : Hid (rdA bs (k + 1) q0 e0 = ((rdA bs k q0 e0).1 ++ [(rd3 bs (rdA bs k q0 e0).2.1 (rdA bs k q0 e0).2.2).1], (rd3 bs (rdA bs k q0 e0).2.1 (rdA bs k q0 e0).2.2).2)) := rfl
      generalize rdA bs k q0 e0 = st at HH HRD HNX hll
      obtain ⟨L, q1, e1⟩ := st
      simp only at HH HRD HNX hll
      have HR3 : Hid (rd3 bs q1 e1 = ((((rdN bs q1 e1 65535).1 : Int), ((rdN bs (rdN bs q1 e1 65535).2.1 (rdN bs q1 e1 65535).2.2 268435456).1 : Int), ((rdN bs (rdN bs (rdN bs q1 e1 65535).2.1 (rdN bs q1 e1 65535).2.2 268435456).2.1 (rdN bs (rdN bs q1 e1 65535).2.1 (rdN bs q1 e1 65535).2.2 268435456).2.2 1024).1 : Int)), (rdN bs (rdN bs (rdN bs q1 e1 65535).2.1 (rdN bs q1 e1 65535).2.2 268435456).2.1 (rdN bs (rdN bs q1 e1 65535).2.1 (rdN bs q1 e1 65535).2.2 268435456).2.2 1024).2)) := rfl
      have HA := Lib.hid (rnum_any 65535 (by decide) wr HRD.out)
      have ha := rdN_fits (e := e1) (limit := 65535) HRD.out.fits
      clear hH hRd
      generalize rdN bs q1 e1 65535 = a at HR3 HA ha
      obtain ⟨a, q2, e2⟩ := a
      simp only at HR3 HA ha
      have HBC := Lib.hid (fun (W : World) (h : Rd K D bs q2 e2 W) => rnum_any 268435456 (by decide) W h)
      have hbf := rdN_fits (e := e2) (limit := 268435456) ha.1
      generalize rdN bs q2 e2 268435456 = b at HR3 HBC hbf
      obtain ⟨b, q3, e3⟩ := b
      simp only at HR3 HBC hbf
      have HC := Lib.hid (fun (W : World) (h : Rd K D bs q3 e3 W) => rnum_any 1024 (by decide) W h)
      have hcf := rdN_fits (e := e3) (limit := 1024) hbf.1
      generalize rdN bs q3 e3 1024 = c at HR3 HC hcf
      obtain ⟨c, q4, e4⟩ := c
      simp only at HR3 HC hcf
      rw [HR3.out] at HNX
      simp only at HNX
      obtain ⟨_, ha1, _⟩ := ha
      obtain ⟨_, hb1, _⟩ := hbf
      obtain ⟨_, hc1, _⟩ := hcf
      have z1 : IntKind.u16.wrap (a : Int) = (a : Int) := by rw [IntKind.wrap_u16]; omega
      have z2 : IntKind.u32.wrap (b : Int) = (b : Int) := by rw [IntKind.wrap_u32]; omega
      have z3 : IntKind.i64.wrap (c : Int) = (c : Int) := by rw [IntKind.wrap_i64]; omega
      have hkn : (k : Int) < (n : Int) := by omega
      go_wp2_with fail
      refine HA.out.mono ?_
      rintro r w2 ⟨rfl, hrd2, ho2⟩
      have HR2 := Lib.hid hrd2
      have HH2 : Hid (HoldK w K u3 L w2) := HH.out.on ho2
      clear hrd2 ho2 HA HH HRD
      go_wp2_with fail
      refine (HBC.out _ HR2.out).mono ?_
      rintro r w3 ⟨rfl, hrd3, ho3⟩
      have HR3' := Lib.hid hrd3
      have HH3 : Hid (HoldK w K u3 L w3) := HH2.out.on ho3
      have hXK : w3.heap.size ≠ K := by have := lt_of_block hrd3.box; omega
      clear hrd3 ho3 HBC HR2 HH2
      go_wp2_with fail
      have HX : Hid (∀ W, Only K ((w3.alloc (.cells #[.int .u16 (a : Int), .int .u32 (b : Int)] 66)).drew) W → W.cell? ⟨w3.heap.size, 0, none⟩ = some (.int .u16 (a : Int)) ∧ W.cell? ⟨w3.heap.size, 1, none⟩ = some (.int .u32 (b : Int))) := fun W hk => two_cells (only_box (w := (w3.alloc _).drew) (heap_alloc_new w3 _) hXK hk)
      have HC4 : Hid (Calls Try.prog 39 #[.pointer (some ⟨K, 0, none⟩), .int .u64 1024] ((w3.alloc (.cells #[.int .u16 (a : Int), .int .u32 (b : Int)] 66)).drew) fun r w' => r = .returned (.int .u64 (c : Int)) ∧ Rd K D bs q4 e4 w' ∧ Only K ((w3.alloc (.cells #[.int .u16 (a : Int), .int .u32 (b : Int)] 66)).drew) w') := HC.out _ (HR3'.out.below (below_drewN (below_alloc (Below.refl _ _) _) 1))
      have HH4 : Hid (∀ W, Only K ((w3.alloc (.cells #[.int .u16 (a : Int), .int .u32 (b : Int)] 66)).drew) W → HoldK w K u3 L W) := fun W hk => (HH3.out.below (below_drewN (below_alloc (Below.refl _ _) _) 1)).on hk
      clear HC HR3' HH3
      go_region_law (first
        | (refine step_append_own rfl (.tmp 16) (.tmp 22) 67 rfl w.heap.size 114 i0 (.agg #[.int .u16 0, .int .u32 0, .int .i64 0]) 3 16 Try.underlying67 hi hz0 hz1 hz2 rfl (by decide) u3 L.length (layS.flat L) (by simp [Act.eval, Act.put]) (HH5.out.below (below_alloc (Below.refl _ _) _)).row ⟨w4.heap.size, 0, none⟩ 1 1 [.int .u16 (a : Int), .int .u32 (b : Int), .int .i64 (c : Int)] (by simp [Act.eval, Act.put]) rfl (cells_new (cs := [.int .u16 (a : Int), .int .u32 (b : Int), .int .i64 (c : Int)])) (layS.one ((a : Int), (b : Int), (c : Int))) (by unfold maxLen; omega) (by omega) (by have := HH5.out.only.size; simp; omega) ?_; intro v' w5 hown' hgrow)
        | (go_simp; go_wp2_with (go_at_call 39; refine HC4.out.mono ?_; rintro r w4 ⟨rfl, hrd4, ho4⟩; obtain ⟨k0, k1⟩ := HX.out _ ho4; have HR4 := Lib.hid hrd4; have HH5 := Lib.hid (HH4.out _ ho4); clear hrd4 ho4)))
      all_goals
        have HH6 : Hid (HoldK w K v' (rdA bs (k + 1) q0 e0).1 w5) := by
          rw [HNX.out]
          exact (HH5.out.below (below_alloc (Below.refl _ _) _)).onto (x := ((a : Int), (b : Int), (c : Int))) hown' hgrow
        have HR6 : Hid (Rd K D bs (rdA bs (k + 1) q0 e0).2.1 (rdA bs (k + 1) q0 e0).2.2 w5) := by
          rw [HNX.out]
          exact (HH5.out.below (below_alloc (Below.refl _ _) _)).rd hD hgrow (HR4.out.below (below_alloc (Below.refl _ _) _))
        clear hown' hgrow
        go_wp2
        go_roundg (n - (k + 1))
        case measure => omega
        case rel => exact ⟨k + 1, by omega, Nat.le_refl _, by go_num, HH6.out, HR6.out⟩
    · have : k = n := by omega
      subst this
      have HH := Lib.hid hH
      have HRD := Lib.hid hRd
      have HAL := Lib.hid (rdA_rdL bs k q0 e0)
      have hll := rdA_len bs k q0 e0
      have HE := Lib.hid (error_any wr hRd)
      clear hH hRd
      generalize rdA bs k q0 e0 = st at HH HRD HAL hll HE
      obtain ⟨L, q1, e1⟩ := st
      simp only at HH HRD HAL hll HE
      have hkk : ¬ (k : Int) < (k : Int) := by omega
      by_cases h0 : e1 = 0
      · subst h0
        have HR : Hid (readS bs q e = (L, q1, 0)) := by
          show _ = _
          rw [HRS.out, HAL.out.2 rfl]; rfl
        go_wp2_with fail
        refine HE.out.mono ?_
        rintro r w2 ⟨rfl, he2⟩
        obtain rfl := Eq.symm he2
        clear he2 HE
        go_wp2
        go_ret
        have hrw := HH.out.row
        obtain ⟨p1, c1, rfl, -, h1, h2, h3⟩ := grow_owns layS_pos HH.out.row
        refine ⟨p1, c1, q1, ?_, ?_⟩
        · rw [HR.out]; rfl
        · rw [HR.out]; exact ⟨h1, h2, h3, HRD.out, fun _ => rfl, HH.out.only, kind_owns hrw⟩
      · have h0' : ((e1 : Int) == 0) = false := by simp; omega
        have HR : Hid (readS bs q e = ([], (rdL bs k q0 e0).2.1, e1)) := by
          show _ = _
          rw [HRS.out, HAL.out.1, if_neg h0]
        go_wp2_with fail
        refine HE.out.mono ?_
        rintro r w2 ⟨rfl, he2⟩
        obtain rfl := Eq.symm he2
        clear he2 HE
        go_wp2
        go_ret
        refine ⟨none, 0, q1, ?_, ?_⟩
        · rw [HR.out]; rfl
        · rw [HR.out]; exact ⟨GRow.nil _ _ _, Nat.le_refl _, fun _ => rfl, HRD.out, fun h => absurd h h0, HH.out.only, KindAt.nil _ _⟩
theorem get_spec : GetSpec := fun bs q e K D w hR hb he => (get_kind bs q e K D w hR hb he).mono (by rintro r w' ⟨p, c, q', h1, h2, h3, h4, h5, h6, h7, -⟩; exact ⟨p, c, q', h1, h2, h3, h4, h5, h6, h7⟩)
end Go.Proofs.Ytedlmngfkkpmgaa
