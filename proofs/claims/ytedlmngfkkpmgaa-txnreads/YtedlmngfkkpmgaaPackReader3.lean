
/-
  What the reader's Byte, Num, Text and Done hand back, for every reader that lies in memory. No conditions beyond what each theorem states.
-/
import Derived.Test.YtedlmngfkkpmgaaPackReader2
namespace Go.Proofs.Ytedlmngfkkpmgaa
open Go.ChangeShapes Go.WideShapes Go.ChangeAt Go.RowKit Go.Lib
set_option linter.unusedVariables false
set_option linter.unusedSimpArgs false

/-- What is read, how many bytes were read then, and the error. -/
def rdB (bs : List UInt8) (q e : Nat) : Nat × Nat × Nat := if e = 0 then (if q < bs.length then ((bs.getD q 0).toNat, q + 1, 0) else (0, q, 14)) else (0, q, e)
def rdN (bs : List UInt8) (q e limit : Nat) : Nat × Nat × Nat := if e = 0 then ((readN (bs.drop q) limit).1, q + (readN (bs.drop q) limit).2.1, (readN (bs.drop q) limit).2.2) else (0, q, e)
def rdT (bs : List UInt8) (q e limit : Nat) : List UInt8 × Nat × Nat := if e = 0 then ((readT (bs.drop q) limit).1, q + (readT (bs.drop q) limit).2.1, (readT (bs.drop q) limit).2.2) else ([], q, e)

set_option maxHeartbeats 800000 in
theorem done_any {K D : Nat} {bs : List UInt8} {q e : Nat} (w : World) (hR : Rd K D bs q e w) :
    Calls Try.prog 22 #[.pointer (some ⟨K, 0, none⟩)] w fun r w' => r = .returned (.int .i64 ((if e = 0 then (if q < bs.length then 15 else 0) else e : Nat) : Int)) ∧ Below w.heap.size w w' := by
  have c2 := hR.cell2
  have HR := Lib.hid hR
  have H := left_any w hR
  obtain ⟨m, hm⟩ : ∃ m, m = bs.length - q := ⟨_, rfl⟩
  rw [← hm] at H
  have H := Lib.hid H
  clear hR
  by_cases he : e = 0
  · subst he
    rw [if_pos rfl]
    by_cases hq : q < bs.length
    · have hm0 : (0 : Int) < (m : Int) := by omega
      rw [if_pos hq]
      clear hm hq
      go_enter Try.func22, Try.ntmps22
      go_wp2_with fail
      refine H.out.mono ?_
      rintro r w1 ⟨rfl, hb⟩
      have HB := Lib.hid hb
      clear hb
      go_wp2
      go_ret
      exact ⟨rfl, HB.out⟩
    · have hm0 : ¬ (0 : Int) < (m : Int) := by omega
      rw [if_neg hq]
      clear hm hq
      go_enter Try.func22, Try.ntmps22
      go_wp2_with fail
      refine H.out.mono ?_
      rintro r w1 ⟨rfl, hb⟩
      have c3 := (HR.out.below hb).cell2
      have HB := Lib.hid hb
      clear hb
      go_wp2
      go_ret
      exact ⟨rfl, HB.out⟩
  · rw [if_neg he]
    have he' : ((e : Int) == 0) = false := by simp; omega
    clear hm
    go_enter Try.func22, Try.ntmps22
    go_wp2
    go_ret
    exact ⟨rfl, Below.refl _ _⟩

set_option maxHeartbeats 1600000 in
theorem rnum_any {K D : Nat} {bs : List UInt8} {q e : Nat} (limit : Nat) (hlim : limit < 18446744073709551616) (w : World) (hR : Rd K D bs q e w) :
    Calls Try.prog 39 #[.pointer (some ⟨K, 0, none⟩), .int .u64 (limit : Int)] w fun r w' => r = .returned (.int .u64 ((rdN bs q e limit).1 : Int)) ∧ Rd K D bs (rdN bs q e limit).2.1 (rdN bs q e limit).2.2 w' ∧ Only K w w' := by
  have HR := Lib.hid hR
  have hfit := hR.fits
  have H := number_any limit hlim w hR
  have hF := read_fair (bs.drop q) limit
  rw [List.length_drop] at hF
  unfold rdN
  generalize readN (bs.drop q) limit = R at H hF ⊢
  obtain ⟨n, s, f⟩ := R
  simp only at H hF ⊢
  have H := Lib.hid H
  have HF := Lib.hid hF
  clear hR hF
  by_cases he : e = 0
  · subst he
    rw [if_pos rfl]
    by_cases hf : f = 0
    · subst hf
      have hs : q + s ≤ bs.length := by
        rcases HF.out with ⟨_, _, h, _⟩ | ⟨_, _, h⟩
        · simp only at h; omega
        · simp at h
      have HS := Lib.hid hs
      clear hs hfit HF
      go_enter Try.func39, Try.ntmps39
      go_wp2_with fail
      refine H.out.mono ?_
      rintro r w1 ⟨rfl, hb⟩
      have HR1 := Lib.hid (HR.out.below hb)
      have HB := Lib.hid hb
      clear hb
      go_wp2_with fail
      refine (fail_any 0 w1 HR1.out).mono ?_
      rintro r w2 ⟨rfl, hR2, hO⟩
      rw [if_pos rfl] at hR2
      have HR2 := Lib.hid hR2
      have HO2 : Hid (Only K w w2) := Only.step (Kept.ofBelow HB.out) hO
      have c2 := HR2.out.cell2
      clear hR2 hO
      go_wp2_with fail
      refine (take_any s w2 HR2.out HS.out).mono ?_
      rintro r w3 ⟨o, rfl, hrow, hR3, hO⟩
      have HR3 := Lib.hid hR3
      have HO3 : Hid (Only K w w3) := Only.step HO2.out hO
      clear hrow hR3 hO
      go_wp2
      go_ret
      exact ⟨rfl, HR3.out, HO3.out⟩
    · have hz : n = 0 ∧ s = 0 := by
        rcases HF.out with ⟨h, _⟩ | ⟨h1, h2, _⟩
        · exact absurd h hf
        · exact ⟨h1, h2⟩
      obtain ⟨rfl, rfl⟩ := hz
      have hf' : ((f : Int) == 0) = false := by simp; omega
      clear hfit HF
      go_enter Try.func39, Try.ntmps39
      go_wp2_with fail
      refine H.out.mono ?_
      rintro r w1 ⟨rfl, hb⟩
      have HR1 := Lib.hid (HR.out.below hb)
      have HB := Lib.hid hb
      clear hb
      go_wp2_with fail
      refine (fail_any f w1 HR1.out).mono ?_
      rintro r w2 ⟨rfl, hR2, hO⟩
      rw [if_pos rfl] at hR2
      have HR2 := Lib.hid hR2
      have HO2 : Hid (Only K w w2) := Only.step (Kept.ofBelow HB.out) hO
      have c2 := HR2.out.cell2
      clear hR2 hO
      go_wp2
      go_ret
      exact ⟨rfl, HR2.out, HO2.out⟩
  · rw [if_neg he]
    have he' : ((e : Int) == 0) = false := by simp; omega
    have HE := Lib.hid he
    clear hfit HF he
    go_enter Try.func39, Try.ntmps39
    go_wp2_with fail
    refine H.out.mono ?_
    rintro r w1 ⟨rfl, hb⟩
    have HR1 := Lib.hid (HR.out.below hb)
    have HB := Lib.hid hb
    clear hb
    go_wp2_with fail
    refine (fail_any f w1 HR1.out).mono ?_
    rintro r w2 ⟨rfl, hR2, hO⟩
    rw [if_neg HE.out] at hR2
    have HR2 := Lib.hid hR2
    have HO2 : Hid (Only K w w2) := Only.step (Kept.ofBelow HB.out) hO
    have c2 := HR2.out.cell2
    clear hR2 hO
    go_wp2
    go_ret
    exact ⟨rfl, HR2.out, HO2.out⟩

theorem conv_bytes {w : World} {D o n c : Nat} {bs : List UInt8} (h : BRow w (some ⟨D, o, none⟩) bs) (hn : bs.length = n) :
    (convert 52 9 (.slice (some ⟨D, o, none⟩) n c)).run Try.prog w = .ok (.string ⟨bs.toArray⟩) w := by
  subst hn
  exact run_convert_bytes_back (P := Try.prog) w 52 9 5 ⟨D, o, none⟩ c bs Try.underlying52 Try.underlying5 Try.underlying9 (fun j hj => by
    obtain ⟨b, o', e, hc⟩ := h j hj
    cases e
    rw [Addr.add_lit, hc]
    simp [atB, hj])

set_option maxHeartbeats 3200000 in
theorem rtext_any {K D : Nat} {bs : List UInt8} {q e : Nat} (limit : Int) (h1 : -9223372036854775808 ≤ limit) (h2 : limit < 9223372036854775808) (w : World) (hR : Rd K D bs q e w) :
    Calls Try.prog 63 #[.pointer (some ⟨K, 0, none⟩), .int .i64 limit] w fun r w' => r = .returned (.string ⟨(rdT bs q e limit.toNat).1.toArray⟩) ∧ Rd K D bs (rdT bs q e limit.toNat).2.1 (rdT bs q e limit.toNat).2.2 w' ∧ Only K w w' := by
  have HR := Lib.hid hR
  have hfit := hR.fits
  have hless := hR.less
  obtain ⟨L, hL⟩ : ∃ L, L = limit.toNat := ⟨_, rfl⟩
  rw [← hL]
  have hmx : (if limit < 0 then (0 : Int) else limit) = (L : Int) := by split <;> omega
  have hLb : L < 9223372036854775808 := by omega
  have H := number_any L (by omega) w hR
  have hF := read_fair (bs.drop q) L
  have HT : Hid (∀ n s f, readN (bs.drop q) L = (n, s, f) → readT (bs.drop q) L = if f ≠ 0 then ([], 0, f) else if (bs.drop q).length - s < n then ([], 0, 14) else (((bs.drop q).drop s).take n, s + n, 0)) := fun n s f h => by
    unfold readT; rw [h]
  unfold rdT
  generalize readN (bs.drop q) L = R at H hF HT
  obtain ⟨n, s, f⟩ := R
  have HT := Lib.hid (HT.out n s f rfl)
  rw [List.length_drop] at hF HT
  simp only at H hF
  rw [HT.out]
  have H := Lib.hid H
  have HF := Lib.hid hF
  clear hR hF HT
  by_cases he : e = 0
  · subst he
    rw [if_pos rfl]
    by_cases hf : f = 0
    · subst hf
      have hs : q + s ≤ bs.length ∧ n ≤ L := by
        rcases HF.out with ⟨_, _, h, h'⟩ | ⟨_, _, h⟩
        · simp only at h h'; omega
        · simp at h
      rw [if_neg (by simp)]
      have HS := Lib.hid hs.1
      obtain ⟨m, hm⟩ : ∃ m, m = bs.length - q := ⟨_, rfl⟩
      have hsm : s ≤ m ∧ m ≤ 1000000 := by have := hs.1; omega
      have hnL : n < 9223372036854775808 := by have := hs.2; omega
      rw [← hm]
      have HL : Hid (∀ W, Rd K D bs q 0 W → Calls Try.prog 41 #[.pointer (some ⟨K, 0, none⟩)] W fun r w' => r = .returned (.int .i64 (m : Int)) ∧ Below W.heap.size W w') := fun W h => by
        have := left_any W h
        rwa [← hm] at this
      have hw1 : IntKind.i64.wrap ((m : Int) - (s : Int)) = ((m - s : Nat) : Int) := by rw [IntKind.wrap_i64]; omega
      have hw2 : IntKind.u64.wrap ((m : Int) - (s : Int)) = ((m - s : Nat) : Int) := by rw [IntKind.wrap_u64]; omega
      have hw3 : IntKind.u64.wrap ((m - s : Nat) : Int) = ((m - s : Nat) : Int) := by rw [IntKind.wrap_u64]; omega
      have HM := Lib.hid hm
      clear HF hs hm hL h1 h2 hfit hless
      by_cases hshort : m - s < n
      · rw [if_pos hshort]
        have hsh : (((m - s : Nat) : Int)) < (n : Int) := by omega
        have hsh2 : (m : Int) - (s : Int) < (n : Int) := by omega
        clear hshort
        go_enter Try.func63, Try.ntmps63
        go_wp2_with fail
        refine H.out.mono ?_
        rintro r w1 ⟨rfl, hb⟩
        have HR1 := Lib.hid (HR.out.below hb)
        have HB := Lib.hid hb
        clear hb
        go_wp2_with fail
        refine (fail_any 0 w1 HR1.out).mono ?_
        rintro r w2 ⟨rfl, hR2, hO⟩
        rw [if_pos rfl] at hR2
        have HR2 := Lib.hid hR2
        have HO2 : Hid (Only K w w2) := Only.step (Kept.ofBelow HB.out) hO
        have c2 := HR2.out.cell2
        clear hR2 hO
        go_wp2_with fail
        refine (HL.out w2 HR2.out).mono ?_
        rintro r w3 ⟨rfl, hb⟩
        have HR3 := Lib.hid (HR2.out.below hb)
        have HO3 : Hid (Only K w w3) := Only.step HO2.out (Kept.ofBelow hb)
        clear hb
        go_wp2_with fail
        refine (fail_any 14 w3 HR3.out).mono ?_
        rintro r w4 ⟨rfl, hR4, hO⟩
        rw [if_pos rfl] at hR4
        have HR4 := Lib.hid hR4
        have HO4 : Hid (Only K w w4) := Only.step HO3.out hO
        have c4 := HR4.out.cell2
        clear hR4 hO
        go_wp2
        go_ret
        exact ⟨rfl, HR4.out, HO4.out⟩
      · rw [if_neg hshort]
        have hsh : ¬ (((m - s : Nat) : Int)) < (n : Int) := by omega
        have hsh2 : ¬ (m : Int) - (s : Int) < (n : Int) := by omega
        have HS2 : Hid (q + s + n ≤ bs.length) := by show q + s + n ≤ bs.length; have := HM.out; have := HS.out; omega
        have hw4 : IntKind.i64.wrap (n : Int) = n := by rw [IntKind.wrap_i64]; omega
        clear hshort
        go_enter Try.func63, Try.ntmps63
        go_wp2_with fail
        refine H.out.mono ?_
        rintro r w1 ⟨rfl, hb⟩
        have HR1 := Lib.hid (HR.out.below hb)
        have HB := Lib.hid hb
        clear hb
        go_wp2_with fail
        refine (fail_any 0 w1 HR1.out).mono ?_
        rintro r w2 ⟨rfl, hR2, hO⟩
        rw [if_pos rfl] at hR2
        have HR2 := Lib.hid hR2
        have HO2 : Hid (Only K w w2) := Only.step (Kept.ofBelow HB.out) hO
        have c2 := HR2.out.cell2
        clear hR2 hO
        go_wp2_with fail
        refine (HL.out w2 HR2.out).mono ?_
        rintro r w3 ⟨rfl, hb⟩
        have HR3 := Lib.hid (HR2.out.below hb)
        have HO3 : Hid (Only K w w3) := Only.step HO2.out (Kept.ofBelow hb)
        have c3 := HR3.out.cell2
        clear hb
        go_wp2_with fail
        refine (take_any s w3 HR3.out HS.out).mono ?_
        rintro r w4 ⟨o, rfl, hrow, hR4, hO⟩
        have HR4 := Lib.hid hR4
        have HO4 : Hid (Only K w w4) := Only.step HO3.out hO
        clear hrow hR4 hO
        go_wp2_with fail
        refine (take_any n w4 HR4.out HS2.out).mono ?_
        rintro r w5 ⟨o5, rfl, hrow, hR5, hO⟩
        have hcv : ∀ c, (convert 52 9 (.slice (some ⟨D, o5, none⟩) n c)).run Try.prog w5 = .ok (.string ⟨((bs.drop (q + s)).take n).toArray⟩) w5 := fun c => conv_bytes hrow (by rw [List.length_take, List.length_drop]; have := HS2.out; omega)
        have HX : Hid (((bs.drop q).drop s).take n = (bs.drop (q + s)).take n) := by show _ = _; rw [List.drop_drop]
        generalize (bs.drop (q + s)).take n = T at hcv HX
        have HR5 := Lib.hid hR5
        have HO5 : Hid (Only K w w5) := Only.step HO4.out hO
        clear hrow hR5 hO
        go_wp2
        go_ret
        exact ⟨by rw [HX.out]; rfl, by rw [← Nat.add_assoc]; exact HR5.out, HO5.out⟩
    · rw [if_pos hf]
      have hf' : ((f : Int) == 0) = false := by simp; omega
      clear HF hL h1 h2
      go_enter Try.func63, Try.ntmps63
      go_wp2_with fail
      refine H.out.mono ?_
      rintro r w1 ⟨rfl, hb⟩
      have HR1 := Lib.hid (HR.out.below hb)
      have HB := Lib.hid hb
      clear hb
      go_wp2_with fail
      refine (fail_any f w1 HR1.out).mono ?_
      rintro r w2 ⟨rfl, hR2, hO⟩
      rw [if_pos rfl] at hR2
      have HR2 := Lib.hid hR2
      have HO2 : Hid (Only K w w2) := Only.step (Kept.ofBelow HB.out) hO
      have c2 := HR2.out.cell2
      clear hR2 hO
      go_wp2
      go_ret
      exact ⟨rfl, HR2.out, HO2.out⟩
  · rw [if_neg he]
    have he' : ((e : Int) == 0) = false := by simp; omega
    have HE := Lib.hid he
    obtain ⟨m, hm⟩ : ∃ m, m = bs.length - q := ⟨_, rfl⟩
    have HL : Hid (∀ W, Rd K D bs q e W → Calls Try.prog 41 #[.pointer (some ⟨K, 0, none⟩)] W fun r w' => r = .returned (.int .i64 (m : Int)) ∧ Below W.heap.size W w') := fun W h => by
      have := left_any W h
      rwa [← hm] at this
    by_cases hf : f = 0
    · subst hf
      have hs : q + s ≤ bs.length ∧ n ≤ L := by
        rcases HF.out with ⟨_, _, h, h'⟩ | ⟨_, _, h⟩
        · simp only at h h'; omega
        · simp at h
      have hsm : s ≤ m ∧ m ≤ 1000000 := by have := hs.1; omega
      have hnL : n < 9223372036854775808 := by have := hs.2; omega
      have hw1 : IntKind.i64.wrap ((m : Int) - (s : Int)) = ((m - s : Nat) : Int) := by rw [IntKind.wrap_i64]; omega
      have hw2 : IntKind.u64.wrap ((m : Int) - (s : Int)) = ((m - s : Nat) : Int) := by rw [IntKind.wrap_u64]; omega
      have hw3 : IntKind.u64.wrap ((m - s : Nat) : Int) = ((m - s : Nat) : Int) := by rw [IntKind.wrap_u64]; omega
      clear HF hs hm hL h1 h2 hfit hless
      by_cases hshort : m - s < n
      · have hsh : (((m - s : Nat) : Int)) < (n : Int) := by omega
        have hsh2 : (m : Int) - (s : Int) < (n : Int) := by omega
        clear hshort
        go_enter Try.func63, Try.ntmps63
        go_wp2_with fail
        refine H.out.mono ?_
        rintro r w1 ⟨rfl, hb⟩
        have HR1 := Lib.hid (HR.out.below hb)
        have HB := Lib.hid hb
        clear hb
        go_wp2_with fail
        refine (fail_any 0 w1 HR1.out).mono ?_
        rintro r w2 ⟨rfl, hR2, hO⟩
        rw [if_neg HE.out] at hR2
        have HR2 := Lib.hid hR2
        have HO2 : Hid (Only K w w2) := Only.step (Kept.ofBelow HB.out) hO
        have c2 := HR2.out.cell2
        clear hR2 hO
        go_wp2_with fail
        refine (HL.out w2 HR2.out).mono ?_
        rintro r w3 ⟨rfl, hb⟩
        have HR3 := Lib.hid (HR2.out.below hb)
        have HO3 : Hid (Only K w w3) := Only.step HO2.out (Kept.ofBelow hb)
        have c3 := HR3.out.cell2
        clear hb
        go_wp2_with fail
        refine (fail_any 14 w3 HR3.out).mono ?_
        rintro r w4 ⟨rfl, hR4, hO⟩
        rw [if_neg HE.out] at hR4
        have HR4 := Lib.hid hR4
        have HO4 : Hid (Only K w w4) := Only.step HO3.out hO
        have c4 := HR4.out.cell2
        clear hR4 hO
        go_wp2
        go_ret
        exact ⟨rfl, HR4.out, HO4.out⟩
      · have hsh : ¬ (((m - s : Nat) : Int)) < (n : Int) := by omega
        have hsh2 : ¬ (m : Int) - (s : Int) < (n : Int) := by omega
        clear hshort
        go_enter Try.func63, Try.ntmps63
        go_wp2_with fail
        refine H.out.mono ?_
        rintro r w1 ⟨rfl, hb⟩
        have HR1 := Lib.hid (HR.out.below hb)
        have HB := Lib.hid hb
        clear hb
        go_wp2_with fail
        refine (fail_any 0 w1 HR1.out).mono ?_
        rintro r w2 ⟨rfl, hR2, hO⟩
        rw [if_neg HE.out] at hR2
        have HR2 := Lib.hid hR2
        have HO2 : Hid (Only K w w2) := Only.step (Kept.ofBelow HB.out) hO
        have c2 := HR2.out.cell2
        clear hR2 hO
        go_wp2_with fail
        refine (HL.out w2 HR2.out).mono ?_
        rintro r w3 ⟨rfl, hb⟩
        have HR3 := Lib.hid (HR2.out.below hb)
        have HO3 : Hid (Only K w w3) := Only.step HO2.out (Kept.ofBelow hb)
        have c3 := HR3.out.cell2
        clear hb
        go_wp2
        go_ret
        exact ⟨rfl, HR3.out, HO3.out⟩
    · have hf' : ((f : Int) == 0) = false := by simp; omega
      clear HF hm hL h1 h2
      go_enter Try.func63, Try.ntmps63
      go_wp2_with fail
      refine H.out.mono ?_
      rintro r w1 ⟨rfl, hb⟩
      have HR1 := Lib.hid (HR.out.below hb)
      have HB := Lib.hid hb
      clear hb
      go_wp2_with fail
      refine (fail_any f w1 HR1.out).mono ?_
      rintro r w2 ⟨rfl, hR2, hO⟩
      rw [if_neg HE.out] at hR2
      have HR2 := Lib.hid hR2
      have HO2 : Hid (Only K w w2) := Only.step (Kept.ofBelow HB.out) hO
      have c2 := HR2.out.cell2
      clear hR2 hO
      go_wp2
      go_ret
      exact ⟨rfl, HR2.out, HO2.out⟩

end Go.Proofs.Ytedlmngfkkpmgaa
