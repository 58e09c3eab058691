
/-
  What the document's own ReadText of layer 5 hands back, for all bytes. No conditions beyond what each theorem states.
-/
import Derived.Test.YtedlmngfkkpmgaaPackRef
namespace Go.Proofs.Ytedlmngfkkpmgaa
open Go.ChangeShapes Go.WideShapes Go.ChangeAt Go.RowKit Go.Lib
set_option linter.unusedVariables false
set_option linter.unusedSimpArgs false

theorem brow_at {w : World} {D o q s : Nat} {bs : List UInt8} (h : BRow w (some ⟨D, o, none⟩) bs) (hq : q + s ≤ bs.length) : BRow w (some ⟨D, o + q, none⟩) ((bs.drop q).take s) := fun i hi => by
  rw [List.length_take, List.length_drop] at hi
  obtain ⟨b, o', e, hc⟩ := h (q + i) (by omega)
  cases e
  exact ⟨D, o + q, rfl, by rw [atB_take (by omega), atB_drop, Nat.add_assoc]; exact hc⟩

set_option maxHeartbeats 1000000 in
set_option maxRecDepth 100000 in
theorem refreadtext_pos (bs : List UInt8) (q : Nat) (L : Nat) (hLb : L < 9223372036854775808) (p : Option Addr) (c : Nat) (hq : q ≤ bs.length) (hl : bs.length ≤ 1000000) (hcap : bs.length ≤ c) (w : World) (hR : BRow w p bs) :
    Calls Try.prog 65 #[.slice p bs.length c, .int .i64 (q : Int), .int .i64 (L : Int)] w fun r w' => r = .returned (.tuple #[.string ⟨(readT (bs.drop q) L).1.toArray⟩, .int .i64 ((q + (readT (bs.drop q) L).2.1 : Nat) : Int), .int .i64 ((readT (bs.drop q) L).2.2 : Int)]) ∧ w' = w := by
  have HRow := Lib.hid hR
  have H := refreadnum_any bs q L p c (by omega) hq hl w hR
  have hF := read_fair (bs.drop q) L
  have HT : Hid (∀ n s f, readN (bs.drop q) L = (n, s, f) → readT (bs.drop q) L = if f ≠ 0 then ([], 0, f) else if (bs.drop q).length - s < n then ([], 0, 14) else (((bs.drop q).drop s).take n, s + n, 0)) := fun n s f h => by
    unfold readT; rw [h]
  generalize readN (bs.drop q) L = R at H hF HT
  obtain ⟨n, s, f⟩ := R
  have HT := Lib.hid (HT.out n s f rfl)
  rw [List.length_drop] at hF HT
  simp only at H hF
  rw [HT.out]
  have HF := Lib.hid hF
  clear hR hF HT
  by_cases hf : f = 0
  · subst hf
    have hs : q + s ≤ bs.length ∧ n ≤ L ∧ 1 ≤ s := by
      rcases HF.out with ⟨_, h0, h, h'⟩ | ⟨_, _, h⟩
      · simp only at h h' h0; omega
      · simp at h
    have HP : Hid (∃ b o, p = some ⟨b, o, none⟩) := by
      obtain ⟨b, o, e, _⟩ := HRow.out 0 (by omega)
      exact ⟨b, o, e⟩
    obtain ⟨b, o, rfl⟩ := HP.out
    obtain ⟨m, hm⟩ : ∃ m, m = bs.length - q - s := ⟨_, rfl⟩
    rw [if_neg (by simp), ← hm]
    have hnL : n < 9223372036854775808 := by omega
    obtain ⟨Q, hQ⟩ : ∃ Q, Q = q + s := ⟨_, rfl⟩
    rw [← hQ] at H
    have hQb : Q < 9223372036854775808 := by omega
    have hQl : (Q : Int) ≤ (bs.length : Int) := by omega
    have H := Lib.hid H
    have hm1 : (bs.length : Int) - (Q : Int) = (m : Int) := by omega
    by_cases hshort : m < n
    · rw [if_pos hshort]
      have hsh : (m : Int) < (n : Int) := by omega
      clear hshort hs HF hQ hm HP HRow
      go_enter Try.func65, Try.ntmps65
      go_wp2_with fail
      refine H.out.mono ?_
      rintro r w' ⟨rfl, he⟩
      obtain rfl := Eq.symm he
      clear he
      go_wp2
      go_ret3
      exact ⟨rfl, rfl⟩
    · rw [if_neg hshort]
      have hsh : ¬ (m : Int) < (n : Int) := by omega
      have hb1 : (Q : Int) ≤ (Q : Int) + (n : Int) := by omega
      have hb2 : (Q : Int) + (n : Int) ≤ (c : Int) := by omega
      have hb3 : ((Q : Int) + (n : Int)).toNat = Q + n := by omega
      have hb4 : Q + n - Q = n := by omega
      have HX : Hid (((bs.drop q).drop s).take n = (bs.drop Q).take n) := by show _ = _; rw [List.drop_drop, hQ]
      have HLn : Hid (((bs.drop Q).take n).length = n) := by show _ = _; rw [List.length_take, List.length_drop]; omega
      have HQn : Hid (Q + n ≤ bs.length) := by show Q + n ≤ bs.length; omega
      have HQQ : Hid (q + (s + n) = Q + n) := by show _ = _; omega
      rw [HX.out, HQQ.out]
      by_cases hcq : c = Q
      · have hcv : ∀ x, (convert 52 9 (.slice (some ⟨b, o, none⟩) n x)).run Try.prog w = .ok (.string ⟨((bs.drop Q).take n).toArray⟩) w := fun x => by
          refine conv_bytes ?_ HLn.out
          have : (bs.drop Q).take n = [] := List.eq_nil_of_length_eq_zero (by rw [HLn.out]; omega)
          rw [this]; exact BRow.nil _ _
        have hn0 : n = 0 := by omega
        generalize (bs.drop Q).take n = T at hcv
        clear hshort hs HF hQ hm HX HLn HP HRow
        subst hn0
        subst hcq
        go_enter Try.func65, Try.ntmps65
        go_wp2_with fail
        refine H.out.mono ?_
        rintro r w' ⟨rfl, he⟩
        obtain rfl := Eq.symm he
        clear he
        go_wp2
        go_ret3
        exact ⟨rfl, rfl⟩
      · have hcv : ∀ x, (convert 52 9 (.slice (some ⟨b, o + Q, none⟩) n x)).run Try.prog w = .ok (.string ⟨((bs.drop Q).take n).toArray⟩) w := fun x => conv_bytes (brow_at HRow.out HQn.out) HLn.out
        generalize (bs.drop Q).take n = T at hcv
        clear hshort hs HF hQ hm HX HLn HP HRow
        go_enter Try.func65, Try.ntmps65
        go_wp2_with fail
        refine H.out.mono ?_
        rintro r w' ⟨rfl, he⟩
        obtain rfl := Eq.symm he
        clear he
        go_wp2
        go_ret3
        exact ⟨rfl, rfl⟩
  · rw [if_pos hf]
    have hf' : ((f : Int) == 0) = false := by simp; omega
    have H := Lib.hid H
    clear HF HRow
    go_enter Try.func65, Try.ntmps65
    go_wp2_with fail
    refine H.out.mono ?_
    rintro r w' ⟨rfl, he⟩
    obtain rfl := Eq.symm he
    clear he
    go_wp2
    go_ret3
    exact ⟨rfl, rfl⟩

set_option maxHeartbeats 1000000 in
set_option maxRecDepth 100000 in
theorem refreadtext_neg (bs : List UInt8) (q : Nat) (limit : Int) (h0 : limit < 0) (p : Option Addr) (c : Nat) (hq : q ≤ bs.length) (hl : bs.length ≤ 1000000) (hcap : bs.length ≤ c) (w : World) (hR : BRow w p bs) :
    Calls Try.prog 65 #[.slice p bs.length c, .int .i64 (q : Int), .int .i64 limit] w fun r w' => r = .returned (.tuple #[.string ⟨(readT (bs.drop q) 0).1.toArray⟩, .int .i64 ((q + (readT (bs.drop q) 0).2.1 : Nat) : Int), .int .i64 ((readT (bs.drop q) 0).2.2 : Int)]) ∧ w' = w := by
  have HRow := Lib.hid hR
  have H := refreadnum_any bs q 0 p c (by omega) hq hl w hR
  rw [show ((0 : Nat) : Int) = 0 from rfl] at H
  have hF := read_fair (bs.drop q) 0
  have HT : Hid (∀ n s f, readN (bs.drop q) 0 = (n, s, f) → readT (bs.drop q) 0 = if f ≠ 0 then ([], 0, f) else if (bs.drop q).length - s < n then ([], 0, 14) else (((bs.drop q).drop s).take n, s + n, 0)) := fun n s f h => by
    unfold readT; rw [h]
  generalize readN (bs.drop q) 0 = R at H hF HT
  obtain ⟨n, s, f⟩ := R
  have HT := Lib.hid (HT.out n s f rfl)
  rw [List.length_drop] at hF HT
  simp only at H hF
  rw [HT.out]
  have HF := Lib.hid hF
  clear hR hF HT
  by_cases hf : f = 0
  · subst hf
    have hs : q + s ≤ bs.length ∧ n ≤ 0 ∧ 1 ≤ s := by
      rcases HF.out with ⟨_, h0, h, h'⟩ | ⟨_, _, h⟩
      · simp only at h h' h0; omega
      · simp at h
    have HP : Hid (∃ b o, p = some ⟨b, o, none⟩) := by
      obtain ⟨b, o, e, _⟩ := HRow.out 0 (by omega)
      exact ⟨b, o, e⟩
    obtain ⟨b, o, rfl⟩ := HP.out
    obtain ⟨m, hm⟩ : ∃ m, m = bs.length - q - s := ⟨_, rfl⟩
    rw [if_neg (by simp), ← hm]
    have hnL : n < 9223372036854775808 := by omega
    obtain ⟨Q, hQ⟩ : ∃ Q, Q = q + s := ⟨_, rfl⟩
    rw [← hQ] at H
    have hQb : Q < 9223372036854775808 := by omega
    have hQl : (Q : Int) ≤ (bs.length : Int) := by omega
    have H := Lib.hid H
    have hm1 : (bs.length : Int) - (Q : Int) = (m : Int) := by omega
    by_cases hshort : m < n
    · rw [if_pos hshort]
      have hsh : (m : Int) < (n : Int) := by omega
      clear hshort hs HF hQ hm HP HRow
      go_enter Try.func65, Try.ntmps65
      go_wp2_with fail
      refine H.out.mono ?_
      rintro r w' ⟨rfl, he⟩
      obtain rfl := Eq.symm he
      clear he
      go_wp2
      go_ret3
      exact ⟨rfl, rfl⟩
    · rw [if_neg hshort]
      have hsh : ¬ (m : Int) < (n : Int) := by omega
      have hb1 : (Q : Int) ≤ (Q : Int) + (n : Int) := by omega
      have hb2 : (Q : Int) + (n : Int) ≤ (c : Int) := by omega
      have hb3 : ((Q : Int) + (n : Int)).toNat = Q + n := by omega
      have hb4 : Q + n - Q = n := by omega
      have HX : Hid (((bs.drop q).drop s).take n = (bs.drop Q).take n) := by show _ = _; rw [List.drop_drop, hQ]
      have HLn : Hid (((bs.drop Q).take n).length = n) := by show _ = _; rw [List.length_take, List.length_drop]; omega
      have HQn : Hid (Q + n ≤ bs.length) := by show Q + n ≤ bs.length; omega
      have HQQ : Hid (q + (s + n) = Q + n) := by show _ = _; omega
      rw [HX.out, HQQ.out]
      by_cases hcq : c = Q
      · have hcv : ∀ x, (convert 52 9 (.slice (some ⟨b, o, none⟩) n x)).run Try.prog w = .ok (.string ⟨((bs.drop Q).take n).toArray⟩) w := fun x => by
          refine conv_bytes ?_ HLn.out
          have : (bs.drop Q).take n = [] := List.eq_nil_of_length_eq_zero (by rw [HLn.out]; omega)
          rw [this]; exact BRow.nil _ _
        have hn0 : n = 0 := by omega
        generalize (bs.drop Q).take n = T at hcv
        clear hshort hs HF hQ hm HX HLn HP HRow
        subst hn0
        subst hcq
        go_enter Try.func65, Try.ntmps65
        go_wp2_with fail
        refine H.out.mono ?_
        rintro r w' ⟨rfl, he⟩
        obtain rfl := Eq.symm he
        clear he
        go_wp2
        go_ret3
        exact ⟨rfl, rfl⟩
      · have hcv : ∀ x, (convert 52 9 (.slice (some ⟨b, o + Q, none⟩) n x)).run Try.prog w = .ok (.string ⟨((bs.drop Q).take n).toArray⟩) w := fun x => conv_bytes (brow_at HRow.out HQn.out) HLn.out
        generalize (bs.drop Q).take n = T at hcv
        clear hshort hs HF hQ hm HX HLn HP HRow
        go_enter Try.func65, Try.ntmps65
        go_wp2_with fail
        refine H.out.mono ?_
        rintro r w' ⟨rfl, he⟩
        obtain rfl := Eq.symm he
        clear he
        go_wp2
        go_ret3
        exact ⟨rfl, rfl⟩
  · rw [if_pos hf]
    have hf' : ((f : Int) == 0) = false := by simp; omega
    have H := Lib.hid H
    clear HF HRow
    go_enter Try.func65, Try.ntmps65
    go_wp2_with fail
    refine H.out.mono ?_
    rintro r w' ⟨rfl, he⟩
    obtain rfl := Eq.symm he
    clear he
    go_wp2
    go_ret3
    exact ⟨rfl, rfl⟩

theorem refreadtext_any (bs : List UInt8) (q : Nat) (limit : Int) (p : Option Addr) (c : Nat) (h2 : limit < 9223372036854775808) (hq : q ≤ bs.length) (hl : bs.length ≤ 1000000) (hcap : bs.length ≤ c) (w : World) (hR : BRow w p bs) :
    Calls Try.prog 65 #[.slice p bs.length c, .int .i64 (q : Int), .int .i64 limit] w fun r w' => r = .returned (.tuple #[.string ⟨(readT (bs.drop q) limit.toNat).1.toArray⟩, .int .i64 ((q + (readT (bs.drop q) limit.toNat).2.1 : Nat) : Int), .int .i64 ((readT (bs.drop q) limit.toNat).2.2 : Int)]) ∧ w' = w := by
  by_cases h0 : limit < 0
  · rw [show limit.toNat = 0 by omega]
    exact refreadtext_neg bs q limit h0 p c hq hl hcap w hR
  · have := refreadtext_pos bs q limit.toNat (by omega) p c hq hl hcap w hR
    rwa [show ((limit.toNat : Nat) : Int) = limit by omega] at this

end Go.Proofs.Ytedlmngfkkpmgaa
