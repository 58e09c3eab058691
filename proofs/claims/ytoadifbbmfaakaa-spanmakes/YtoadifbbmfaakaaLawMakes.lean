
/-
  SpanMakes' function hands back true, for all names that lie in memory, if span's Of and IDs are as the document says. No conditions beyond what each theorem states.
-/
import Derived.Test.YtoadifbbmfaakaaSpanSpec
namespace Go.Proofs.Ytoadifbbmfaakaa
open Go.ChangeShapes Go.WideShapes Go.ChangeAt Go.RowKit Go.Lib
set_option linter.unusedVariables false
set_option linter.unusedSimpArgs false

set_option maxHeartbeats 6400000 in
set_option maxRecDepth 20000 in
theorem makes_any (HOF : OfSpec) (HID : IdsSpec) (ids : List Nm) (p : Option Addr) (c : Nat) (w : World) (hR : GRow layI w p ids) (hf : FitNs ids) (hc : ids.length ≤ c) (hp : p = none → c = 0) (hl : ids.length ≤ 9223372036854775807) :
    Calls Try.prog 4 #[.slice p ids.length c] w fun e w' => e = .returned (.bool true) ∧ Below w.heap.size w w' := by
  obtain ⟨i0, hi, hz0, hz1, hz2⟩ := info_parts infoRI
  have HA := Lib.hid (anchor_any HOF w)
  have HR := Lib.hid hR
  have HFT := Lib.hid hf
  clear hR hf
  go_enter Try.func4, Try.ntmps4
  go_wp2_with fail
  refine HA.out.mono ?_
  rintro e w1 ⟨rfl, hb1⟩
  have HB1 := Lib.hid hb1
  clear hb1 HA
  by_cases hbig : 3000 < ids.length
  · have hbig' : (3000 : Int) < (ids.length : Int) := by omega
    go_wp2
    go_ret
    exact ⟨rfl, HB1.out⟩
  have hbig' : (ids.length : Int) ≤ 3000 := by omega
  have HH0 : Hid (Hold layI w 46 (.slice none 0 0) [] w1) := (Hold.nil layI w1 46).rebase HB1.out
  clear HB1
  go_wp2_with fail
  go_loopg [3, 14] ids.length (fun g v i wr => ∃ k : Nat, k ≤ ids.length ∧ ids.length - k ≤ g ∧ i = .int .i64 (k : Int) ∧ Hold layI w 46 v (ids.take k) wr ∧ RightN (ids.take k))
  case atStart => exact ⟨0, Nat.zero_le _, by omega, rfl, HH0.out, by intro x hx; simp at hx⟩
  case round =>
    clear HH0
    obtain ⟨k, hk, hg, rfl, hO, hrt⟩ := hrel
    have HO := Lib.hid hO
    have HRT := Lib.hid hrt
    clear hO hrt
    by_cases hlt : k < ids.length
    · obtain ⟨b, o, rfl, c0', c1'⟩ := irow_at HR.out hlt
      have c0 := cellU c0' HO.out.2
      have c1 := cellU c1' HO.out.2
      have hfs := HFT.out.at hlt
      have HTK : Hid (rightN (ids.getD k n0) = true → RightN (ids.take (k + 1))) := fun h x hx => by
        rw [take_getD n0 hlt, List.mem_append] at hx
        rcases hx with hx | hx
        · exact HRT.out x hx
        · rw [List.mem_singleton] at hx; rw [hx]; exact h
      have HNX := Lib.hid (take_getD n0 hlt)
      generalize ids.getD k n0 = a at c0 c1 HTK HNX hfs
      obtain ⟨x, y⟩ := a
      simp only at c0 c1
      unfold FitN at hfs
      simp only at hfs
      have hkl : (ids.take k).length = k := by rw [List.length_take]; omega
      have HW : Hid (∀ o o', ((wr.alloc o).alloc o').ownsRow w.heap.size 46 2 u3 k (layI.flat (ids.take k))) := fun o o' => by
        have := ((HO.out.alloc o).alloc o').1
        rw [hkl] at this; exact this
      have HKL := Lib.hid hkl
      clear c0' c1' HRT hkl
      by_cases h1 : y < 1
      · go_wp2
        go_ret
        exact ⟨rfl, below_alloc HO.out.2 _⟩
      · by_cases h2 : 268435456 < y
        · go_wp2
          go_ret
          exact ⟨rfl, below_alloc HO.out.2 _⟩
        · have HRT2 : Hid (RightN (ids.take (k + 1))) := HTK.out (rightN_iff.2 ⟨by simp only; omega, by simp only; omega⟩)
          go_wp2_with (first
            | (at_builtin; refine wpList_append_own _ rfl (.tmp 26) (.tmp 28) 31 rfl w.heap.size 46 i0 (.agg #[.int .u16 0, .int .u32 0]) 2 8 Try.underlying31 hi hz0 hz1 hz2 rfl (by decide) _ k (layI.flat (ids.take k)) rfl (HW.out _ _) ⟨wr.heap.size + 1, 0, none⟩ 1 1 [.int .u16 x, .int .u32 y] rfl rfl (by have := cells_new (W := wr.alloc (.cells #[.int .u16 x, .int .u32 y] 26)) (cs := [.int .u16 x, .int .u32 y]) (t := 46); simpa using this) (layI.one (x, y)) (by unfold maxLen; omega) (by omega) (by have := HO.out.2.size; simp; omega) ?_))
          intro v' w2 hown' hgrow _
          have HO2 : Hid (Hold layI w 46 v' (ids.take (k + 1)) w2) := by
            rw [HNX.out]
            exact ((HO.out.alloc _).alloc _).onto rfl (by rw [HKL.out]; rfl) hown' hgrow
          clear hown' hgrow
          go_wp2
          go_roundg (ids.length - (k + 1))
          case measure => omega
          case rel => exact ⟨k + 1, by omega, Nat.le_refl _, by go_num, HO2.out, HRT2.out⟩
    · have : k = ids.length := by omega
      subst this
      rw [List.take_length] at HO HRT
      obtain ⟨px, cx, rfl, hrx, -, -⟩ := HO.out.gave layI_pos
      have HX := Lib.hid hrx
      have HBw := Lib.hid HO.out.2
      clear hrx HO
      have HIO := Lib.hid (ids_of HRT.out)
      have hol := of_len ids
      have H1 := Lib.hid (HOF ids p c wr (HR.out.below HBw.out) HRT.out HFT.out (by omega) hc hp)
      have H2 := Lib.hid (fun W hb => (refof_any ids px cx W (HX.out.below (w' := W) hb) HRT.out (by omega)).mono fun e w' h => h.gave layS_pos)
      have H3 : Hid (∀ W p1 c1 q1 d1, GRow layS W p1 (ofL ids) → GRow layS W q1 (ofL ids) → Calls Try.prog 17 #[.slice p1 (ofL ids).length c1, .slice q1 (ofL ids).length d1] W fun e w' => e = .returned (.bool true) ∧ Below W.heap.size W w') := fun W p1 c1 q1 d1 hp1 hq1 => by
        have := same_any (ofL ids) (ofL ids) p1 q1 c1 d1 W hp1 hq1 (by omega) (by omega)
        rwa [decide_eq_true rfl] at this
      have H4 : Hid (∀ W p1 c1, GRow layS W p1 (ofL ids) → (ofL ids).length ≤ c1 → (p1 = none → c1 = 0) → Calls Try.prog 13 #[.slice p1 (ofL ids).length c1] W (Gave layI W ids)) := fun W p1 c1 hp1 hc1 hn1 => by
        have := HID (ofL ids) p1 c1 W hp1 (right_of HRT.out) (fit_of_of HRT.out HFT.out) (by omega) (by rw [total_of HRT.out]; omega) hc1 hn1
        rwa [HIO.out] at this
      have H5 : Hid (∀ W p1 c1 q1 d1, GRow layI W p1 ids → GRow layI W q1 ids → Calls Try.prog 12 #[.slice p1 ids.length c1, .slice q1 ids.length d1] W fun e w' => e = .returned (.bool true) ∧ Below W.heap.size W w') := fun W p1 c1 q1 d1 hp1 hq1 => by
        have := names_any ids ids p1 q1 c1 d1 W hp1 hq1 (by omega) (by omega)
        rwa [decide_eq_true rfl] at this
      clear hol HIO
      go_wp2_with fail
      refine H1.out.mono ?_
      rintro e w2 ⟨p2, c2, rfl, hr2, hc2, hn2, hb2⟩
      have HB2 : Hid (Below wr.heap.size wr w2) := hb2
      have HR2 := Lib.hid hr2
      have HC2 : Hid ((ofL ids).length ≤ c2 ∧ (p2 = none → c2 = 0)) := ⟨hc2, hn2⟩
      clear hr2 hb2 hc2 hn2 H1
      go_wp2_with fail
      refine (H2.out _ HB2.out).mono ?_
      rintro e w3 ⟨p3, c3, rfl, hr3, -, -, hb3⟩
      have HB3 : Hid (Below wr.heap.size wr w3) := below_step HB2.out hb3
      have HR3 := Lib.hid hr3
      have HR2 : Hid (GRow layS w3 p2 (ofL ids)) := HR2.out.below hb3
      clear hr3 hb3 H2 HB2
      go_wp2_with fail
      refine (H3.out _ _ _ _ _ HR2.out HR3.out).mono ?_
      rintro e w4 ⟨rfl, hb4⟩
      have HB4 : Hid (Below wr.heap.size wr w4) := below_step HB3.out hb4
      have HR2 : Hid (GRow layS w4 p2 (ofL ids)) := HR2.out.below hb4
      clear hb4 H3 HB3 HR3
      go_wp2_with fail
      refine (H4.out _ _ _ HR2.out HC2.out.1 HC2.out.2).mono ?_
      rintro e w5 ⟨p5, c5, rfl, hr5, -, -, hb5⟩
      have HB5 : Hid (Below wr.heap.size wr w5) := below_step HB4.out hb5
      have HR5 := Lib.hid hr5
      clear hb5 hr5 H4 HB4
      go_wp2_with fail
      refine (H5.out _ _ _ _ _ HR5.out (HX.out.below HB5.out)).mono ?_
      rintro e w6 ⟨rfl, hb6⟩
      have HB6 : Hid (Below w.heap.size w w6) := below_step (below_step HBw.out HB5.out) hb6
      clear hb6 H5
      go_wp2
      go_ret
      exact ⟨rfl, HB6.out⟩

end Go.Proofs.Ytoadifbbmfaakaa
