
/-
  What the document's own At and Reply of layer 12 hand back. No conditions beyond what each theorem states.
-/
import Derived.Test.YtafhjccghbpbbaaLogMath
import Derived.Test.YtafhjccghbpbbaaKinds
namespace Go.Proofs.Ytafhjccghbpbbaa
open Go.ChangeShapes Go.WideShapes Go.ChangeAt Go.RowKit Go.Lib
set_option linter.unusedVariables false
set_option linter.unusedSimpArgs false

def layL : Lay Lm := ⟨3, fun x => [.int .u16 x.r, .int .u32 x.s, .string ⟨x.b.toArray⟩], fun _ => rfl, fun x u hu => by
  simp at hu
  rcases hu with rfl | rfl | rfl <;> rfl⟩
theorem layL_pos : 0 < layL.k := by decide
theorem lrow_at {w : World} {p : Option Addr} {xs : List Lm} (h : GRow layL w p xs) {i : Nat} (hi : i < xs.length) : ∃ b o, p = some ⟨b, o, none⟩ ∧ w.cell? ⟨b, o + i * 3, none⟩ = some (.int .u16 (xs.getD i l0L).r) ∧ w.cell? ⟨b, o + i * 3 + 1, none⟩ = some (.int .u32 (xs.getD i l0L).s) ∧ w.cell? ⟨b, o + i * 3 + 2, none⟩ = some (.string ⟨(xs.getD i l0L).b.toArray⟩) := by
  obtain ⟨b, o, rfl, h0⟩ := h.cell l0L (j := 0) hi rfl
  obtain ⟨b1, o1, e1, h1⟩ := h.cell l0L (j := 1) hi rfl
  obtain ⟨b2, o2, e2, h2⟩ := h.cell l0L (j := 2) hi rfl
  cases e1; cases e2
  exact ⟨b, o, rfl, h0, h1, h2⟩
set_option maxHeartbeats 3200000 in
set_option maxRecDepth 20000 in
theorem refat_any (xs : List Lm) (r s : Int) (p : Option Addr) (c : Nat) (w : World) (hR : GRow layL w p xs) (hl : xs.length ≤ 1000000) :
    Calls Try.prog 7 #[.slice p xs.length c, .int .u16 r, .int .u32 s] w fun e w' => e = .returned (.int .i64 (placeI xs r s)) ∧ w' = w := by
  have HR := Lib.hid hR
  have HYES : Hid (∀ k, k < xs.length → (∀ j, j < k → nameL (xs.getD j l0L) r s = false) → nameL (xs.getD k l0L) r s = true → placeI xs r s = (k : Int)) := fun k hk h1 h2 => by unfold placeI; rw [placeL_at hk h1 h2]
  have HNO : Hid ((∀ j, j < xs.length → nameL (xs.getD j l0L) r s = false) → placeI xs r s = -1) := fun h => by unfold placeI; rw [placeL_no h]
  clear hR
  generalize placeI xs r s = V at HYES HNO ⊢
  go_enter Try.func7, Try.ntmps7
  go_wp2
  go_loopg [7] xs.length (fun g i wr => ∃ k : Nat, k ≤ xs.length ∧ xs.length - k ≤ g ∧ i = .int .i64 (k : Int) ∧ (∀ j, j < k → nameL (xs.getD j l0L) r s = false) ∧ wr = w)
  case atStart => exact ⟨0, Nat.zero_le _, by omega, rfl, fun j hj => by omega, rfl⟩
  case round =>
    obtain ⟨k, hk, hg, rfl, hno, rfl⟩ := hrel
    have HN := Lib.hid hno
    clear hno
    by_cases hlt : k < xs.length
    · have hkl : (k : Int) < (xs.length : Int) := by omega
      obtain ⟨b, o, rfl, c0, c1, c2⟩ := lrow_at HR.out hlt
      have HYK := Lib.hid (HYES.out k hlt HN.out)
      have HNK : Hid (nameL (xs.getD k l0L) r s = false → ∀ j, j < k + 1 → nameL (xs.getD j l0L) r s = false) := fun h j hj => by
        by_cases e : j = k
        · subst e; exact h
        · exact HN.out j (by omega)
      have HNM : Hid (nameL (xs.getD k l0L) r s = decide ((xs.getD k l0L).r = r ∧ (xs.getD k l0L).s = s)) := rfl
      generalize nameL (xs.getD k l0L) r s = NV at HYK HNK HNM
      generalize (xs.getD k l0L).r = r2 at c0 HNM
      generalize (xs.getD k l0L).s = s2 at c1 HNM
      clear c2
      by_cases h1 : r2 = r
      · have t1 : (r2 == r) = true := by simp [h1]
        by_cases h2 : s2 = s
        · have t2 : (s2 == s) = true := by simp [h2]
          have HV := Lib.hid (HYK.out (by rw [HNM.out]; exact decide_eq_true ⟨h1, h2⟩))
          clear h1 h2 HNM HNK HYK
          go_wp2
          go_ret
          exact ⟨by rw [HV.out]; rfl, rfl⟩
        · have t2 : (s2 == s) = false := beq_eq_false_iff_ne.2 h2
          have HN2 := Lib.hid (HNK.out (by rw [HNM.out]; exact decide_eq_false (fun h => h2 h.2)))
          clear h1 h2 HNM HNK HYK
          go_wp2
          go_roundg (xs.length - (k + 1))
          case measure => omega
          case rel => exact ⟨k + 1, by omega, Nat.le_refl _, by go_num, HN2.out, rfl⟩
      · have t1 : (r2 == r) = false := beq_eq_false_iff_ne.2 h1
        have HN2 := Lib.hid (HNK.out (by rw [HNM.out]; exact decide_eq_false (fun h => h1 h.1)))
        clear h1 HNM HNK HYK
        go_wp2
        go_roundg (xs.length - (k + 1))
        case measure => omega
        case rel => exact ⟨k + 1, by omega, Nat.le_refl _, by go_num, HN2.out, rfl⟩
    · have : k = xs.length := by omega
      subst this
      have hkl : ¬ (xs.length : Int) < (xs.length : Int) := by omega
      have HV := Lib.hid (HNO.out HN.out)
      go_wp2
      go_ret
      exact ⟨by rw [HV.out]; rfl, rfl⟩
/-- Texts in a row. -/
def layX : Lay (List UInt8) := ⟨1, fun b => [.string ⟨b.toArray⟩], fun _ => rfl, fun x u hu => by
  simp at hu
  rw [hu]; rfl⟩
theorem layX_pos : 0 < layX.k := by decide
theorem xrow_at {w : World} {p : Option Addr} {xs : List (List UInt8)} (h : GRow layX w p xs) {i : Nat} (hi : i < xs.length) : ∃ b o, p = some ⟨b, o, none⟩ ∧ w.cell? ⟨b, o + i, none⟩ = some (.string ⟨(xs.getD i []).toArray⟩) := by
  obtain ⟨b, o, rfl, h0⟩ := h.cell [] (j := 0) hi rfl
  exact ⟨b, o, rfl, by have : layX.k = 1 := rfl; rw [this, Nat.mul_one, Nat.add_zero] at h0; exact h0⟩
theorem infoStr : (Try.prog.info? 9).map (fun i => (i.zero, i.size, i.bytes)) = some (some (.string ⟨#[]⟩), 1, 16) := by kernel_rfl
set_option maxHeartbeats 3200000 in
set_option maxRecDepth 20000 in
theorem refreplyL_any (xs : List Lm) (r fr tu most : Int) (p : Option Addr) (c : Nat) (w : World) (hR : GRow layL w p xs) (hl : xs.length ≤ 1000000) (hf : 0 ≤ fr ∧ fr ≤ 4294967295) (ht : 0 ≤ tu ∧ tu ≤ 4294967295) :
    Calls Try.prog 13 #[.slice p xs.length c, .int .u16 r, .int .u32 fr, .int .u32 tu, .int .i64 most] w (Gave layX w (replyL xs r fr tu most)) := by
  have HR := Lib.hid hR
  have HAT : Hid (∀ s W, Below w.heap.size w W → Calls Try.prog 7 #[.slice p xs.length c, .int .u16 r, .int .u32 s] W fun e w' => e = .returned (.int .i64 (placeI xs r s)) ∧ w' = W) := fun s W hb => refat_any xs r s p c W (hR.below hb) hl
  obtain ⟨i0, hi, hz0, hz1, hz2⟩ := info_parts infoStr
  clear hR
  go_enter Try.func13, Try.ntmps13
  go_wp2
  go_loopg [11, 12] 1001 (fun g v i wr => ∃ (k : Nat) (out : List (List UInt8)), k ≤ 1001 ∧ 1001 - k ≤ g ∧ i = .int .i64 (k : Int) ∧ Hold layX w 9 v out wr ∧ replyL xs r fr tu most = replyG xs r fr tu most (1001 - k) k out ∧ out.length ≤ k)
  case atStart => exact ⟨0, [], by omega, by omega, rfl, Hold.nil _ _ _, rfl, by simp⟩
  case round =>
    obtain ⟨k, out, hk, hg, rfl, hH, hrep, hol⟩ := hrel
    have HH := Lib.hid hH
    have HRP := Lib.hid hrep
    clear hH hrep
    have HGV : Hid (∀ v, v = u11 → replyL xs r fr tu most = out → ∃ p' c', u11 = .slice p' out.length c' ∧ Gave layX w (replyL xs r fr tu most) (.returned u11) wr) := fun v _ he => by
      obtain ⟨p', c', e1, h1, h2, h3⟩ := HH.out.gave layX_pos
      refine ⟨p', c', e1, ?_⟩
      rw [he, e1]
      exact ⟨p', c', rfl, h1, h2, h3, HH.out.2⟩
    by_cases hk1 : k ≤ 1000
    · have hkl : (k : Int) ≤ 1000 := by omega
      have e1 : IntKind.u64.wrap (k : Int) = (k : Int) := by rw [IntKind.wrap_u64]; omega
      have e2 : IntKind.u64.wrap fr = fr := by rw [IntKind.wrap_u64]; omega
      have e3 : IntKind.u64.wrap tu = tu := by rw [IntKind.wrap_u64]; omega
      have e4 : IntKind.u64.wrap (fr + (k : Int)) = fr + (k : Int) := by rw [IntKind.wrap_u64]; omega
      obtain ⟨p', c', rfl⟩ := owns_slice HH.out.1
      have hstep : 1001 - k = (1001 - (k + 1)) + 1 := by omega
      rw [hstep, replyG] at HRP
      by_cases hto : tu < fr + (k : Int)
      · rw [if_pos (Or.inl hto)] at HRP
        obtain ⟨-, -, -, hgv⟩ := HGV.out _ rfl HRP.out
        have HG := Lib.hid hgv
        clear hgv HGV
        go_wp2
        go_ret
        exact HG.out
      · by_cases hmo : most ≤ (out.length : Int)
        · rw [if_pos (Or.inr hmo)] at HRP
          obtain ⟨-, -, -, hgv⟩ := HGV.out _ rfl HRP.out
          have HG := Lib.hid hgv
          clear hgv HGV
          go_wp2
          go_ret
          exact HG.out
        · rw [if_neg (by rintro (h | h); exact hto h; exact hmo h)] at HRP
          have e5 : IntKind.u32.wrap (k : Int) = (k : Int) := by rw [IntKind.wrap_u32]; omega
          have e6 : IntKind.u32.wrap (fr + (k : Int)) = fr + (k : Int) := by rw [IntKind.wrap_u32]; omega
          have HA1 := Lib.hid (HAT.out (fr + (k : Int)) wr HH.out.2)
          have hfl := foundL_len xs r (fr + (k : Int))
          cases hp : placeL xs r (fr + (k : Int)) with
          | none =>
            have hpi : placeI xs r (fr + (k : Int)) = -1 := by unfold placeI; rw [hp]
            have hfo : foundL xs r (fr + (k : Int)) = [] := by unfold foundL; rw [hp]
            rw [hpi] at HA1
            rw [hfo, List.append_nil] at HRP
            clear hpi hfo hp hfl HGV
            go_wp2_with fail
            refine HA1.out.mono ?_
            rintro e w1 ⟨rfl, rfl⟩
            go_wp2
            go_roundg (1001 - (k + 1))
            case measure => omega
            case rel => exact ⟨k + 1, out, by omega, Nat.le_refl _, by go_num, HH.out, HRP.out, by omega⟩
          | some i =>
            obtain ⟨hil, -⟩ := placeL_some hp
            have hpi : placeI xs r (fr + (k : Int)) = (i : Int) := by unfold placeI; rw [hp]
            have hfo : foundL xs r (fr + (k : Int)) = [(xs.getD i l0L).b] := by unfold foundL; rw [hp]
            rw [hpi] at HA1
            rw [hfo] at HRP
            have hii : (i : Int) < (xs.length : Int) := by omega
            have hi0 : (0 : Int) ≤ (i : Int) := by omega
            obtain ⟨b, o, rfl, c0, c1, c2⟩ := lrow_at (HR.out.below HH.out.2) hil
            generalize (xs.getD i l0L).b = bb at c2 HRP
            clear hpi hfo hp hfl HGV c0 c1
            go_wp2_with fail
            refine HA1.out.mono ?_
            rintro e w1 ⟨rfl, rfl⟩
            go_wp2_with (first
              | (at_builtin; refine wpList_append_own _ rfl (.tmp 42) (.tmp 48) 51 rfl w.heap.size 9 i0 (.string ⟨#[]⟩) 1 16 Try.underlying51 hi hz0 hz1 hz2 rfl (by decide) _ out.length (layX.flat out) rfl (HH.out.alloc _).1 ⟨w1.heap.size, 0, none⟩ 1 1 [.string ⟨bb.toArray⟩] rfl rfl (cells_new (cs := [.string ⟨bb.toArray⟩])) (layX.one bb) (by unfold maxLen; omega) (by omega) (by have := HH.out.2.size; simp; omega) ?_))
            intro v' w7 hown hgrow _
            have HH7 : Hid (Hold layX w 9 v' (out ++ [bb]) w7) := (HH.out.alloc _).onto (ys := [bb]) (by rw [layX.flat_one]; rfl) (by simp) hown hgrow
            clear hown hgrow HH
            go_wp2
            go_roundg (1001 - (k + 1))
            case measure => omega
            case rel => exact ⟨k + 1, out ++ [bb], by omega, Nat.le_refl _, by go_num, HH7.out, HRP.out, by rw [List.length_append]; simp; omega⟩
    · have : k = 1001 := by omega
      subst this
      have HRP' : replyL xs r fr tu most = out := HRP.out
      obtain ⟨p', c', rfl⟩ := owns_slice HH.out.1
      obtain ⟨-, -, -, hgv⟩ := HGV.out _ rfl HRP'
      have HG := Lib.hid hgv
      clear hgv HGV HRP'
      go_wp2
      go_ret
      exact HG.out
end Go.Proofs.Ytafhjccghbpbbaa
