
/-
  What the reader's Byte, Num, Text and Done hand back, for every reader that lies in memory. No conditions beyond what each theorem states.
-/
import Derived.Test.YtoadifbbmfaakaaPackReader2
namespace Go.Proofs.Ytoadifbbmfaakaa
open Go.ChangeShapes Go.WideShapes Go.ChangeAt Go.RowKit Go.Lib
set_option linter.unusedVariables false
set_option linter.unusedSimpArgs false

/-- What is read, how many bytes were read then, and the error. -/
def rdB (bs : List UInt8) (q e : Nat) : Nat × Nat × Nat := if e = 0 then (if q < bs.length then ((bs.getD q 0).toNat, q + 1, 0) else (0, q, 14)) else (0, q, e)
def rdN (bs : List UInt8) (q e limit : Nat) : Nat × Nat × Nat := if e = 0 then ((readN (bs.drop q) limit).1, q + (readN (bs.drop q) limit).2.1, (readN (bs.drop q) limit).2.2) else (0, q, e)
def rdT (bs : List UInt8) (q e limit : Nat) : List UInt8 × Nat × Nat := if e = 0 then ((readT (bs.drop q) limit).1, q + (readT (bs.drop q) limit).2.1, (readT (bs.drop q) limit).2.2) else ([], q, e)

set_option maxHeartbeats 800000 in
theorem done_any {K D : Nat} {bs : List UInt8} {q e : Nat} (w : World) (hR : Rd K D bs q e w) :
    Calls Try.prog 38 #[.pointer (some ⟨K, 0, none⟩)] w fun r w' => r = .returned (.int .i64 ((if e = 0 then (if q < bs.length then 15 else 0) else e : Nat) : Int)) ∧ Below w.heap.size w w' := by
  have c2 := hR.cell2
  have HR := Lib.hid hR
  have H := left_any w hR
  obtain ⟨m, hm⟩ : ∃ m, m = bs.length - q := ⟨_, rfl⟩
  rw [← hm] at H
  have H := Lib.hid H
  clear hR
  by_cases he : e = 0
  · subst he
    rw [if_pos rfl]
    by_cases hq : q < bs.length
    · have hm0 : (0 : Int) < (m : Int) := by omega
      rw [if_pos hq]
      clear hm hq
      go_enter Try.func38, Try.ntmps38
      go_wp2_with fail
      refine H.out.mono ?_
      rintro r w1 ⟨rfl, hb⟩
      have HB := Lib.hid hb
      clear hb
      go_wp2
      go_ret
      exact ⟨rfl, HB.out⟩
    · have hm0 : ¬ (0 : Int) < (m : Int) := by omega
      rw [if_neg hq]
      clear hm hq
      go_enter Try.func38, Try.ntmps38
      go_wp2_with fail
      refine H.out.mono ?_
      rintro r w1 ⟨rfl, hb⟩
      have c3 := (HR.out.below hb).cell2
      have HB := Lib.hid hb
      clear hb
      go_wp2
      go_ret
      exact ⟨rfl, HB.out⟩
  · rw [if_neg he]
    have he' : ((e : Int) == 0) = false := by simp; omega
    clear hm
    go_enter Try.func38, Try.ntmps38
    go_wp2
    go_ret
    exact ⟨rfl, Below.refl _ _⟩

set_option maxHeartbeats 1600000 in
theorem rnum_any {K D : Nat} {bs : List UInt8} {q e : Nat} (limit : Nat) (hlim : limit < 18446744073709551616) (w : World) (hR : Rd K D bs q e w) :
    Calls Try.prog 47 #[.pointer (some ⟨K, 0, none⟩), .int .u64 (limit : Int)] w fun r w' => r = .returned (.int .u64 ((rdN bs q e limit).1 : Int)) ∧ Rd K D bs (rdN bs q e limit).2.1 (rdN bs q e limit).2.2 w' ∧ Only K w w' := by
  have HR := Lib.hid hR
  have hfit := hR.fits
  have H := number_any limit hlim w hR
  have hF := read_fair (bs.drop q) limit
  rw [List.length_drop] at hF
  unfold rdN
  generalize readN (bs.drop q) limit = R at H hF ⊢
  obtain ⟨n, s, f⟩ := R
  simp only at H hF ⊢
  have H := Lib.hid H
  have HF := Lib.hid hF
  clear hR hF
  by_cases he : e = 0
  · subst he
    rw [if_pos rfl]
    by_cases hf : f = 0
    · subst hf
      have hs : q + s ≤ bs.length := by
        rcases HF.out with ⟨_, _, h, _⟩ | ⟨_, _, h⟩
        · simp only at h; omega
        · simp at h
      have HS := Lib.hid hs
      clear hs hfit HF
      go_enter Try.func47, Try.ntmps47
      go_wp2_with fail
      refine H.out.mono ?_
      rintro r w1 ⟨rfl, hb⟩
      have HR1 := Lib.hid (HR.out.below hb)
      have HB := Lib.hid hb
      clear hb
      go_wp2_with fail
      refine (fail_any 0 w1 HR1.out).mono ?_
      rintro r w2 ⟨rfl, hR2, hO⟩
      rw [if_pos rfl] at hR2
      have HR2 := Lib.hid hR2
      have HO2 : Hid (Only K w w2) := Only.step (Kept.ofBelow HB.out) hO
      have c2 := HR2.out.cell2
      clear hR2 hO
      go_wp2_with fail
      refine (take_any s w2 HR2.out HS.out).mono ?_
      rintro r w3 ⟨o, rfl, hrow, hR3, hO⟩
      have HR3 := Lib.hid hR3
      have HO3 : Hid (Only K w w3) := Only.step HO2.out hO
      clear hrow hR3 hO
      go_wp2
      go_ret
      exact ⟨rfl, HR3.out, HO3.out⟩
    · have hz : n = 0 ∧ s = 0 := by
        rcases HF.out with ⟨h, _⟩ | ⟨h1, h2, _⟩
        · exact absurd h hf
        · exact ⟨h1, h2⟩
      obtain ⟨rfl, rfl⟩ := hz
      have hf' : ((f : Int) == 0) = false := by simp; omega
      clear hfit HF
      go_enter Try.func47, Try.ntmps47
      go_wp2_with fail
      refine H.out.mono ?_
      rintro r w1 ⟨rfl, hb⟩
      have HR1 := Lib.hid (HR.out.below hb)
      have HB := Lib.hid hb
      clear hb
      go_wp2_with fail
      refine (fail_any f w1 HR1.out).mono ?_
      rintro r w2 ⟨rfl, hR2, hO⟩
      rw [if_pos rfl] at hR2
      have HR2 := Lib.hid hR2
      have HO2 : Hid (Only K w w2) := Only.step (Kept.ofBelow HB.out) hO
      have c2 := HR2.out.cell2
      clear hR2 hO
      go_wp2
      go_ret
      exact ⟨rfl, HR2.out, HO2.out⟩
  · rw [if_neg he]
    have he' : ((e : Int) == 0) = false := by simp; omega
    have HE := Lib.hid he
    clear hfit HF he
    go_enter Try.func47, Try.ntmps47
    go_wp2_with fail
    refine H.out.mono ?_
    rintro r w1 ⟨rfl, hb⟩
    have HR1 := Lib.hid (HR.out.below hb)
    have HB := Lib.hid hb
    clear hb
    go_wp2_with fail
    refine (fail_any f w1 HR1.out).mono ?_
    rintro r w2 ⟨rfl, hR2, hO⟩
    rw [if_neg HE.out] at hR2
    have HR2 := Lib.hid hR2
    have HO2 : Hid (Only K w w2) := Only.step (Kept.ofBelow HB.out) hO
    have c2 := HR2.out.cell2
    clear hR2 hO
    go_wp2
    go_ret
    exact ⟨rfl, HR2.out, HO2.out⟩

theorem conv_bytes {w : World} {D o n c : Nat} {bs : List UInt8} (h : BRow w (some ⟨D, o, none⟩) bs) (hn : bs.length = n) :
    (convert 60 9 (.slice (some ⟨D, o, none⟩) n c)).run Try.prog w = .ok (.string ⟨bs.toArray⟩) w := by
  subst hn
  exact run_convert_bytes_back (P := Try.prog) w 60 9 5 ⟨D, o, none⟩ c bs Try.underlying60 Try.underlying5 Try.underlying9 (fun j hj => by
    obtain ⟨b, o', e, hc⟩ := h j hj
    cases e
    rw [Addr.add_lit, hc]
    simp [atB, hj])

end Go.Proofs.Ytoadifbbmfaakaa
