
/-
  PackCuts' function hands back true, for all things that lie in memory and any place. No conditions beyond what each theorem states.
-/
import Derived.Test.YtnoppejmcckgjaaPackCutMath
namespace Go.Proofs.Ytnoppejmcckgjaa
open Go.ChangeShapes Go.WideShapes Go.ChangeAt Go.RowKit Go.Lib
set_option linter.unusedVariables false
set_option linter.unusedSimpArgs false

theorem enc_next {b : Bool} {xs : List Th} {k : Nat} {bs c : List UInt8} (hk : k < xs.length) (hb : bs = encTo b xs k) (hc : encG b (atO xs k) = c) : bs ++ c = encTo b xs (k + 1) := by rw [encTo_succ hk, hc, hb]

set_option maxHeartbeats 12800000 in
set_option maxRecDepth 20000 in
theorem cuts_any (xs : List Th) (a : Int) (pl : Option Addr) (cl : Nat) (w : World) (hO : ORow w pl xs) (ha0 : -9223372036854775808 ≤ a) (ha1 : a < 9223372036854775808) (hl : xs.length ≤ 9223372036854775807) (hF : OFit xs) (hS : ∀ i, i < xs.length → (atO xs i).2.2.1.length ≤ 9223372036854775807) :
    Calls Try.prog 5 #[.slice pl xs.length cl, .int .i64 a] w fun e w' => e = .returned (.bool true) ∧ Below w.heap.size w w' := by
  have HO := Lib.hid hO
  have HF := Lib.hid hF
  have HFEW := Lib.hid (fun W (h : ORow W pl xs) => few_any xs pl cl W h hl hS)
  obtain ⟨i0, hi, hz0, hz1, hz2⟩ := info_parts infoB
  clear hO hF hS
  by_cases hfew : fewB xs = true
  · rw [hfew] at HFEW
    have h60 := (fewB_at hfew).1
    have HS := Lib.hid (fewB_at hfew).2
    have HLEN : Hid (∀ k, k ≤ xs.length → (encTo false xs k).length ≤ 18540) := fun k hk => by have := encTo_len (b := false) HS.out k hk; omega
    clear hfew
    go_enter Try.func5, Try.ntmps5
    go_wp2_with fail
    refine (anchor_any w).mono ?_
    rintro e w1 ⟨rfl, hb1⟩
    have HB1 := Lib.hid hb1
    clear hb1
    go_wp2_with fail
    refine (HFEW.out w1 (HO.out.below HB1.out)).mono ?_
    rintro e w2 ⟨rfl, hb2⟩
    have HB2 : Hid (Below w.heap.size w w2) := below_step HB1.out hb2
    clear hb2 HB1
    go_wp2
    go_loopg [5, 22] xs.length (fun g v i wr => ∃ (k : Nat) (bs : List UInt8), k ≤ xs.length ∧ xs.length - k ≤ g ∧ i = .int .i64 (k : Int) ∧ bs = encTo false xs k ∧ wr.ownsRow w.heap.size 5 1 v bs.length (byteCells bs) ∧ Below w.heap.size w wr)
    case atStart => exact ⟨0, [], Nat.zero_le _, by omega, rfl, rfl, World.ownsRow_nil _ _ _ _, HB2.out⟩
    case round =>
      obtain ⟨k, bs, hk, hg, rfl, hbs, hown, hb⟩ := hrel
      have hbl : bs.length ≤ 18540 := by rw [hbs]; exact HLEN.out k hk
      have HBS := Lib.hid hbs
      clear hbs HB2
      by_cases hlt : k < xs.length
      · obtain ⟨b, o, rfl, c0, c1, c2, c3⟩ := HO.out.below hb k hlt
        obtain ⟨f1, f2, f3, f4, f5⟩ := HF.out k hlt
        have hs3 := HS.out k hlt
        have HE : Hid (∀ c, encG false (atO xs k) = c → bs ++ c = encTo false xs (k + 1)) := fun c hc => enc_next hlt HBS.out hc
        have HEG : Hid (∀ kind N S L, (atO xs k).1 = kind → (atO xs k).2.1 = N → (atO xs k).2.2.1 = S → (atO xs k).2.2.2 = L → encG false (atO xs k) = encG false (kind, N, S, L)) := by
          rintro kind N S L rfl rfl rfl rfl; rfl
        generalize hkind : (atO xs k).1 = kind at c0 f1 f2
        generalize hNN : (atO xs k).2.1 = N at c1 f3
        generalize hSS : (atO xs k).2.2.1 = S at c2 hs3
        generalize hLL : (atO xs k).2.2.2 = L at c3 f4 f5
        have HENC : Hid (bs ++ encG false (kind, N, S, L) = encTo false xs (k + 1)) := HE.out _ (HEG.out kind N S L hkind hNN hSS hLL)
        clear HE HEG hkind hNN hSS hLL
        have HB := Lib.hid hb
        have HBX := Lib.hid (OBox.new wr (kind, N, S, L))
        have HOwn := Lib.hid (hown.alloc (.cells #[.int .i64 kind, .int .u64 (N : Int), .string ⟨S.toArray⟩, .int .i64 L] 30))
        have HBA : Hid (Below w.heap.size w (wr.alloc (.cells #[.int .i64 kind, .int .u64 (N : Int), .string ⟨S.toArray⟩, .int .i64 L] 30))) := below_alloc hb _
        clear hown hb
        by_cases hk1 : kind = 1
        · subst hk1
          obtain ⟨M, hM⟩ : ∃ M, M = N % 256 := ⟨_, rfl⟩
          have hMb : M < 256 := by omega
          have hw1 : IntKind.u8.wrap (N : Int) = (M : Int) := by rw [IntKind.wrap_u8]; omega
          have hw2 : (N : Int) % 256 = (M : Int) := by omega
          rw [show encG false (1, N, S, L) = [UInt8.ofNat M] by rw [hM]; rfl] at HENC
          obtain ⟨y, hy⟩ : ∃ y, y = UInt8.ofNat M := ⟨_, rfl⟩
          have hyM : (y.toNat : Int) = (M : Int) := by rw [hy, u8_nat hMb]
          rw [← hy] at HENC
          have HYM := Lib.hid hyM
          clear hM hy hyM
          go_wp2_with (first
            | (at_builtin; refine wpList_append_own_at _ rfl (.tmp 30) (.tmp 34) 25 rfl w.heap.size 5 i0 (.int .u8 0) 1 1 Try.underlying25 hi hz0 hz1 hz2 rfl (by decide) _ _ _ rfl (HOwn.out.alloc _) ⟨wr.heap.size + 1, 0, none⟩ 1 1 [.int .u8 (M : Int)] rfl rfl (by have := cell_one_new (wr.alloc (.cells #[.int .i64 1, .int .u64 (N : Int), .string ⟨S.toArray⟩, .int .i64 L] 30)) (.int .u8 (M : Int)) 5; simpa using this) (by intro u hu; simp at hu; subst hu; rfl) (by unfold maxLen; omega) (by omega) (by have := HBA.out.size; simp at this ⊢; omega) ?_))
          intro v' w3 hown hgrow _ _
          have HOWN2 : Hid (w3.ownsRow w.heap.size 5 1 v' (bs ++ [y]).length (byteCells (bs ++ [y]))) := by
            show w3.ownsRow w.heap.size 5 1 v' (bs ++ [y]).length (byteCells (bs ++ [y]))
            rw [byteCells_append, List.length_append, bytes_one, HYM.out]; exact hown
          have HB3 : Hid (Below w.heap.size w w3) := (below_alloc HBA.out _).grown hgrow (by have := HBA.out.size; simp at this ⊢; omega) (fun k e => (HOwn.out.lt k e).1)
          clear hown hgrow HOwn HBX
          go_wp2
          go_roundg (xs.length - (k + 1))
          case measure => omega
          case rel => exact ⟨k + 1, _, by omega, Nat.le_refl _, by go_num, HENC.out, HOWN2.out, HB3.out⟩
        · have hk1' : (kind == 1) = false := by simp [hk1]
          by_cases hk2 : kind = 2
          · subst hk2
            have H := Lib.hid (refnum_any N f3)
            have HX : Hid (encG false (2, N, S, L) = encN (N % 9223372036854775808)) := rfl
            rw [HX.out] at HENC
            have hcb : (encN (N % 9223372036854775808)).length ≤ 309 ∧ 1 ≤ (encN (N % 9223372036854775808)).length := ⟨by have := encN_len (n := N % 9223372036854775808) (Nat.mod_lt _ (by decide)); omega, encN_pos _⟩
            generalize encN (N % 9223372036854775808) = cs at H HENC hcb
            clear HX
            go_wp2_with fail
            refine (H.out _).mono ?_
            rintro e w3 ⟨v3, rfl, hown3, hb3⟩
            obtain ⟨g3, c3', rfl, hr3⟩ := owns_some hown3 hcb.2
            have HR3 := Lib.hid hr3
            have HOwn3 := Lib.hid ((Kept.ofBelow (S := fun _ => False) hb3).row HOwn.out (fun _ _ f => f))
            have HBb : Hid (Below w.heap.size w w3) := below_step HBA.out hb3
            clear hown3 hb3 hr3 HOwn
            go_wp2_with (first
              | (at_builtin; refine wpList_append_own_at _ rfl (.tmp 38) (.tmp 41) 25 rfl w.heap.size 5 i0 (.int .u8 0) 1 1 Try.underlying25 hi hz0 hz1 hz2 rfl (by decide) _ _ _ rfl HOwn3.out ⟨g3, 0, none⟩ cs.length c3' (byteCells cs) rfl (by rw [byteCells_length, Nat.mul_one]) (brow_news HR3.out) (byteCells_one _) (by unfold maxLen; omega) (by omega) HBb.out.size ?_))
            intro v' w4 hown hgrow _ _
            have HOWN2 : Hid (w4.ownsRow w.heap.size 5 1 v' (bs ++ cs).length (byteCells (bs ++ cs))) := by
              show w4.ownsRow w.heap.size 5 1 v' (bs ++ cs).length (byteCells (bs ++ cs))
              rw [byteCells_append, List.length_append]; exact hown
            have HB3 : Hid (Below w.heap.size w w4) := HBb.out.grown hgrow HBb.out.size (fun k e => (HOwn3.out.lt k e).1)
            clear hown hgrow HOwn3 HR3
            go_wp2
            go_roundg (xs.length - (k + 1))
            case measure => omega
            case rel => exact ⟨k + 1, _, by omega, Nat.le_refl _, by go_num, HENC.out, HOWN2.out, HB3.out⟩
          · have hk2' : (kind == 2) = false := by simp [hk2]
            by_cases hk3 : kind = 3
            · subst hk3
              have H := Lib.hid (reftext_any S (by omega))
              have HX : Hid (encG false (3, N, S, L) = encT S) := rfl
              rw [HX.out] at HENC
              have hcb : (encT S).length ≤ 309 ∧ 1 ≤ (encT S).length := ⟨by have := encN_len (n := S.length) (by omega); unfold encT; rw [List.length_append]; omega, by have := encN_pos S.length; unfold encT; rw [List.length_append]; omega⟩
              generalize encT S = cs at H HENC hcb
              clear HX
              go_wp2_with fail
              refine (H.out _).mono ?_
              rintro e w3 ⟨v3, rfl, hown3, hb3⟩
              obtain ⟨g3, c3', rfl, hr3⟩ := owns_some hown3 hcb.2
              have HR3 := Lib.hid hr3
              have HOwn3 := Lib.hid ((Kept.ofBelow (S := fun _ => False) hb3).row HOwn.out (fun _ _ f => f))
              have HBb : Hid (Below w.heap.size w w3) := below_step HBA.out hb3
              clear hown3 hb3 hr3 HOwn
              go_wp2_with (first
                | (at_builtin; refine wpList_append_own_at _ rfl (.tmp 45) (.tmp 48) 25 rfl w.heap.size 5 i0 (.int .u8 0) 1 1 Try.underlying25 hi hz0 hz1 hz2 rfl (by decide) _ _ _ rfl HOwn3.out ⟨g3, 0, none⟩ cs.length c3' (byteCells cs) rfl (by rw [byteCells_length, Nat.mul_one]) (brow_news HR3.out) (byteCells_one _) (by unfold maxLen; omega) (by omega) HBb.out.size ?_))
              intro v' w4 hown hgrow _ _
              have HOWN2 : Hid (w4.ownsRow w.heap.size 5 1 v' (bs ++ cs).length (byteCells (bs ++ cs))) := by
                show w4.ownsRow w.heap.size 5 1 v' (bs ++ cs).length (byteCells (bs ++ cs))
                rw [byteCells_append, List.length_append]; exact hown
              have HB3 : Hid (Below w.heap.size w w4) := HBb.out.grown hgrow HBb.out.size (fun k e => (HOwn3.out.lt k e).1)
              clear hown hgrow HOwn3 HR3
              go_wp2
              go_roundg (xs.length - (k + 1))
              case measure => omega
              case rel => exact ⟨k + 1, _, by omega, Nat.le_refl _, by go_num, HENC.out, HOWN2.out, HB3.out⟩
            · have hk3' : (kind == 3) = false := by simp [hk3]
              rw [show encG false (kind, N, S, L) = [] by simp [encG, hk1, hk2, hk3], List.append_nil] at HENC
              have HOWN2 := HOwn
              have HB3 := HBA
              go_wp2
              go_roundg (xs.length - (k + 1))
              case measure => omega
              case rel => exact ⟨k + 1, _, by omega, Nat.le_refl _, by go_num, HENC.out, HOWN2.out, HB3.out⟩
      · have : k = xs.length := by omega
        subst this
        clear hg hk
        have HB := Lib.hid hb
        by_cases hin : 0 ≤ a ∧ a < (bs.length : Int)
        · obtain ⟨A, rfl⟩ : ∃ A : Nat, a = (A : Int) := ⟨a.toNat, by omega⟩
          have hA : A < bs.length := by omega
          have hA1 : ¬ (A : Int) < 0 := by omega
          have hA2 : ¬ (bs.length : Int) ≤ (A : Int) := by omega
          obtain ⟨g, c, rfl, hr⟩ := owns_some hown (by omega)
          have hcap : bs.length ≤ c := by
            rcases hown.2 with ⟨h, _⟩ | ⟨g', cap, cur, h, _, _, h1, _⟩
            · cases h
            · cases h; exact h1
          have hcap1 : (A : Int) ≤ (c : Int) := by omega
          have hcap2 : ¬ c = 0 := by omega
          have hr2 : BRow wr (some ⟨g, 0, none⟩) (bs.take A) := fun i hi => by
            rw [List.length_take] at hi
            obtain ⟨b', o', e', hc'⟩ := hr i (by omega)
            cases e'
            exact ⟨g, 0, rfl, by rw [atB_take (by omega)]; exact hc'⟩
          have hFr := fun cc => from_any (bs.take A) (some ⟨g, 0, none⟩) cc wr hr2 (by rw [List.length_take]; omega)
          rw [show (bs.take A).length = A by rw [List.length_take]; omega] at hFr
          have HFr := Lib.hid hFr
          have HAL : Hid ((bs.take A).length = A) := by show _ = _; rw [List.length_take]; omega
          have HAB := Lib.hid hA
          clear hown hr hr2 hFr hb hin
          go_wp2_with fail
          refine (HFr.out _).mono ?_
          rintro e w3 ⟨K, rfl, hK, hR3, hb3⟩
          have HB3 : Hid (Below w.heap.size w w3) := below_step HB.out hb3
          have hKw : w.heap.size ≤ K := by have := HB.out.size; omega
          have HR3 := Lib.hid hR3
          have HSTEP : Hid (∀ W W' : World, Below w.heap.size w W → Only K W W' → Below w.heap.size w W') := fun W W' h1 h2 => h1.trans (h2.below h1.size (by intro k e; omega))
          have HSPL : Hid (∀ k, k < xs.length → bs = encTo false xs k ++ encG false (atO xs k) ++ (xs.drop (k + 1)).flatMap (encG false)) := fun k hk => by rw [HBS.out]; exact encTo_split hk
          generalize wr.heap.size = D at HR3
          clear hb3 hK hR3 hKw HFr
          go_wp2
          go_loopg [65] xs.length (fun g i wr => ∃ k q e : Nat, k ≤ xs.length ∧ xs.length - k ≤ g ∧ i = .int .i64 (k : Int) ∧ Rd K D (bs.take A) q e wr ∧ ((e = 0 ∧ q = (encTo false xs k).length) ∨ e = 14) ∧ Below w.heap.size w wr)
          case atStart => exact ⟨0, 0, 0, Nat.zero_le _, by omega, rfl, HR3.out, Or.inl ⟨rfl, rfl⟩, HB3.out⟩
          case round =>
            obtain ⟨k, q, e, hk, hg, rfl, hR, hqe, hb⟩ := hrel
            clear HR3 HB3 HB
            by_cases hlt : k < xs.length
            · obtain ⟨b, o, rfl, c0, c1, c2, c3⟩ := HO.out.below hb k hlt
              obtain ⟨f1, f2, f3, f4, f5⟩ := HF.out k hlt
              have hs3 := HS.out k hlt
              have hsp := HSPL.out k hlt
              have hnx := encTo_succ (b := false) hlt
              have HEG : ∀ kind N S L, (atO xs k).1 = kind → (atO xs k).2.1 = N → (atO xs k).2.2.1 = S → (atO xs k).2.2.2 = L → encG false (atO xs k) = encG false (kind, N, S, L) := by
                rintro kind N S L rfl rfl rfl rfl; rfl
              generalize hkind : (atO xs k).1 = kind at c0 f1 f2
              generalize hNN : (atO xs k).2.1 = N at c1 f3
              generalize hSS : (atO xs k).2.2.1 = S at c2 hs3
              generalize hLL : (atO xs k).2.2.2 = L at c3 f4 f5
              rw [HEG kind N S L hkind hNN hSS hLL] at hsp hnx
              clear HEG hkind hNN hSS hLL
              generalize encTo false xs k = pre at hsp hnx hqe
              generalize (xs.drop (k + 1)).flatMap (encG false) = post at hsp
              have hfit := hR.fits
              rw [HAL.out] at hfit
              have HSP := Lib.hid hsp
              have HNX : Hid ((encTo false xs (k + 1)).length = pre.length + (encG false (kind, N, S, L)).length) := by show _ = _; rw [hnx, List.length_append]
              have HBX := Lib.hid (OBox.new wr (kind, N, S, L))
              have HR := Lib.hid (hR.below (below_alloc (Below.refl _ _) (.cells #[.int .i64 kind, .int .u64 (N : Int), .string ⟨S.toArray⟩, .int .i64 L] 30)))
              have HBA : Hid (Below w.heap.size w (wr.alloc (.cells #[.int .i64 kind, .int .u64 (N : Int), .string ⟨S.toArray⟩, .int .i64 L] 30))) := below_alloc hb _
              have HKW : Hid (wr.heap.size ≠ K) := by have := lt_of_block hR.box; show wr.heap.size ≠ K; omega
              clear hR hb hsp hnx
              have HER : Hid (∀ (q e : Nat) (W : World), Rd K D (bs.take A) q e W → Calls Try.prog 25 #[.pointer (some ⟨K, 0, none⟩)] W fun r w' => r = .returned (.int .i64 (e : Int)) ∧ w' = W) := fun q e W h => error_any W h
              by_cases hk1 : kind = 1
              · subst hk1
                obtain ⟨M, hM⟩ : ∃ M, M = N % 256 := ⟨_, rfl⟩
                have hMb : M < 256 := by omega
                have hw1 : IntKind.u8.wrap (N : Int) = (M : Int) := by rw [IntKind.wrap_u8]; omega
                have hw2 : (N : Int) % 256 = (M : Int) := by omega
                have hM2 : (UInt8.ofNat M).toNat = M := u8_nat hMb
                rw [show encG false (1, N, S, L) = [UInt8.ofNat M] by rw [hM]; rfl] at HSP HNX
                clear hM
                rcases hqe with ⟨rfl, rfl⟩ | rfl
                · have H := Lib.hid (rbyte_any _ HR.out)
                  have hcut0 := rdB_cut (pre := pre) (post := post) (y := UInt8.ofNat M) hfit (by rw [← HSP.out]; have := HAB.out; omega)
                  rw [show pre ++ [UInt8.ofNat M] ++ post = bs from HSP.out.symm] at hcut0
                  rcases hcut0 with hcut | hcut
                  · rw [hcut] at H
                    rw [hM2] at H
                    go_wp2_with fail
                    refine (HER.out _ _ _ HR.out).mono ?_
                    rintro r w8 ⟨rfl, he⟩
                    obtain rfl := Eq.symm he
                    clear he
                    go_wp2_with fail
                    refine H.out.mono ?_
                    rintro r w5 ⟨rfl, hR5, hO5⟩
                    have c5 := (show OBox wr.heap.size (1, N, S, L) w5 from hO5.stays HBX.out HKW.out).c1
                    have HR5 := Lib.hid hR5
                    have HB5 : Hid (Below w.heap.size w w5) := HSTEP.out _ _ HBA.out hO5
                    clear hR5 hO5 H
                    go_wp2_with fail
                    refine (HER.out _ _ _ HR5.out).mono ?_
                    rintro r w8 ⟨rfl, he⟩
                    obtain rfl := Eq.symm he
                    clear he
                    go_wp2
                    go_roundg (xs.length - (k + 1))
                    case measure => omega
                    case rel => exact ⟨k + 1, _, 0, by omega, Nat.le_refl _, by go_num, HR5.out, Or.inl ⟨rfl, by first | exact HNX.out.symm | (rw [HNX.out]; rfl)⟩, HB5.out⟩
                  · rw [hcut] at H
                    go_wp2_with fail
                    refine (HER.out _ _ _ HR.out).mono ?_
                    rintro r w8 ⟨rfl, he⟩
                    obtain rfl := Eq.symm he
                    clear he
                    go_wp2_with fail
                    refine H.out.mono ?_
                    rintro r w5 ⟨rfl, hR5, hO5⟩
                    have HR5 := Lib.hid hR5
                    have HB5 : Hid (Below w.heap.size w w5) := HSTEP.out _ _ HBA.out hO5
                    clear hR5 hO5 H
                    go_wp2_with fail
                    refine (HER.out _ _ _ HR5.out).mono ?_
                    rintro r w8 ⟨rfl, he⟩
                    obtain rfl := Eq.symm he
                    clear he
                    go_wp2
                    go_roundg (xs.length - (k + 1))
                    case measure => omega
                    case rel => exact ⟨k + 1, _, 14, by omega, Nat.le_refl _, by go_num, HR5.out, Or.inr rfl, HB5.out⟩
                · have H := Lib.hid (rbyte_any _ HR.out)
                  rw [show rdB (bs.take A) q 14  = (0, q, 14) from rfl] at H
                  go_wp2_with fail
                  refine (HER.out _ _ _ HR.out).mono ?_
                  rintro r w8 ⟨rfl, he⟩
                  obtain rfl := Eq.symm he
                  clear he
                  go_wp2_with fail
                  refine H.out.mono ?_
                  rintro r w5 ⟨rfl, hR5, hO5⟩
                  have HR5 := Lib.hid hR5
                  have HB5 : Hid (Below w.heap.size w w5) := HSTEP.out _ _ HBA.out hO5
                  clear hR5 hO5 H
                  go_wp2
                  go_roundg (xs.length - (k + 1))
                  case measure => omega
                  case rel => exact ⟨k + 1, _, 14, by omega, Nat.le_refl _, by go_num, HR5.out, Or.inr rfl, HB5.out⟩
              · have hk1' : (kind == 1) = false := by simp [hk1]
                by_cases hk2 : kind = 2
                · subst hk2
                  obtain ⟨M, hM⟩ : ∃ M, M = N % 9223372036854775808 := ⟨_, rfl⟩
                  have hMb : M < 9223372036854775808 := by omega
                  have hw2 : (N : Int) % 9223372036854775808 = (M : Int) := by omega
                  rw [show encG false (2, N, S, L) = encN M by rw [hM]; rfl] at HSP HNX
                  clear hM
                  rcases hqe with ⟨rfl, rfl⟩ | rfl
                  · have H := Lib.hid (rnum_any 9223372036854775807 (by omega) _ HR.out)
                    have hcut0 := rdN_cut (pre := pre) (post := post) (limit := 9223372036854775807) hMb (by omega) hfit
                    rw [show pre ++ encN M ++ post = bs from HSP.out.symm] at hcut0
                    rcases hcut0 with hcut | hcut
                    · rw [hcut] at H
                      go_wp2_with fail
                      refine (HER.out _ _ _ HR.out).mono ?_
                      rintro r w8 ⟨rfl, he⟩
                      obtain rfl := Eq.symm he
                      clear he
                      go_wp2_with fail
                      refine H.out.mono ?_
                      rintro r w5 ⟨rfl, hR5, hO5⟩
                      have c5 := (show OBox wr.heap.size (2, N, S, L) w5 from hO5.stays HBX.out HKW.out).c1
                      have HR5 := Lib.hid hR5
                      have HB5 : Hid (Below w.heap.size w w5) := HSTEP.out _ _ HBA.out hO5
                      clear hR5 hO5 H
                      go_wp2_with fail
                      refine (HER.out _ _ _ HR5.out).mono ?_
                      rintro r w8 ⟨rfl, he⟩
                      obtain rfl := Eq.symm he
                      clear he
                      go_wp2
                      go_roundg (xs.length - (k + 1))
                      case measure => omega
                      case rel => exact ⟨k + 1, _, 0, by omega, Nat.le_refl _, by go_num, HR5.out, Or.inl ⟨rfl, by first | exact HNX.out.symm | (rw [HNX.out]; rfl)⟩, HB5.out⟩
                    · rw [hcut] at H
                      go_wp2_with fail
                      refine (HER.out _ _ _ HR.out).mono ?_
                      rintro r w8 ⟨rfl, he⟩
                      obtain rfl := Eq.symm he
                      clear he
                      go_wp2_with fail
                      refine H.out.mono ?_
                      rintro r w5 ⟨rfl, hR5, hO5⟩
                      have HR5 := Lib.hid hR5
                      have HB5 : Hid (Below w.heap.size w w5) := HSTEP.out _ _ HBA.out hO5
                      clear hR5 hO5 H
                      go_wp2_with fail
                      refine (HER.out _ _ _ HR5.out).mono ?_
                      rintro r w8 ⟨rfl, he⟩
                      obtain rfl := Eq.symm he
                      clear he
                      go_wp2
                      go_roundg (xs.length - (k + 1))
                      case measure => omega
                      case rel => exact ⟨k + 1, _, 14, by omega, Nat.le_refl _, by go_num, HR5.out, Or.inr rfl, HB5.out⟩
                  · have H := Lib.hid (rnum_any 9223372036854775807 (by omega) _ HR.out)
                    rw [show rdN (bs.take A) q 14 9223372036854775807 = (0, q, 14) from rfl] at H
                    go_wp2_with fail
                    refine (HER.out _ _ _ HR.out).mono ?_
                    rintro r w8 ⟨rfl, he⟩
                    obtain rfl := Eq.symm he
                    clear he
                    go_wp2_with fail
                    refine H.out.mono ?_
                    rintro r w5 ⟨rfl, hR5, hO5⟩
                    have HR5 := Lib.hid hR5
                    have HB5 : Hid (Below w.heap.size w w5) := HSTEP.out _ _ HBA.out hO5
                    clear hR5 hO5 H
                    go_wp2
                    go_roundg (xs.length - (k + 1))
                    case measure => omega
                    case rel => exact ⟨k + 1, _, 14, by omega, Nat.le_refl _, by go_num, HR5.out, Or.inr rfl, HB5.out⟩
                · have hk2' : (kind == 2) = false := by simp [hk2]
                  by_cases hk3 : kind = 3
                  · subst hk3
                    rw [show encG false (3, N, S, L) = encT S from rfl] at HSP HNX
                    rcases hqe with ⟨rfl, rfl⟩ | rfl
                    · have H := Lib.hid (rtext_any 300 (by omega) (by omega) _ HR.out)
                      have hcut0 := rdT_cut (pre := pre) (post := post) (s := S) (limit := (300 : Int).toNat) (by omega) (by simpa using hs3) hfit
                      rw [show pre ++ encT S ++ post = bs from HSP.out.symm] at hcut0
                      rcases hcut0 with hcut | hcut
                      · rw [hcut] at H
                        go_wp2_with fail
                        refine (HER.out _ _ _ HR.out).mono ?_
                        rintro r w8 ⟨rfl, he⟩
                        obtain rfl := Eq.symm he
                        clear he
                        go_wp2_with fail
                        refine H.out.mono ?_
                        rintro r w5 ⟨rfl, hR5, hO5⟩
                        have c5 := (show OBox wr.heap.size (3, N, S, L) w5 from hO5.stays HBX.out HKW.out).c2
                        have HR5 := Lib.hid hR5
                        have HB5 : Hid (Below w.heap.size w w5) := HSTEP.out _ _ HBA.out hO5
                        clear hR5 hO5 H
                        go_wp2_with fail
                        refine (HER.out _ _ _ HR5.out).mono ?_
                        rintro r w8 ⟨rfl, he⟩
                        obtain rfl := Eq.symm he
                        clear he
                        go_wp2
                        go_roundg (xs.length - (k + 1))
                        case measure => omega
                        case rel => exact ⟨k + 1, _, 0, by omega, Nat.le_refl _, by go_num, HR5.out, Or.inl ⟨rfl, by first | exact HNX.out.symm | (rw [HNX.out]; rfl)⟩, HB5.out⟩
                      · rw [hcut] at H
                        go_wp2_with fail
                        refine (HER.out _ _ _ HR.out).mono ?_
                        rintro r w8 ⟨rfl, he⟩
                        obtain rfl := Eq.symm he
                        clear he
                        go_wp2_with fail
                        refine H.out.mono ?_
                        rintro r w5 ⟨rfl, hR5, hO5⟩
                        have HR5 := Lib.hid hR5
                        have HB5 : Hid (Below w.heap.size w w5) := HSTEP.out _ _ HBA.out hO5
                        clear hR5 hO5 H
                        go_wp2_with fail
                        refine (HER.out _ _ _ HR5.out).mono ?_
                        rintro r w8 ⟨rfl, he⟩
                        obtain rfl := Eq.symm he
                        clear he
                        go_wp2
                        go_roundg (xs.length - (k + 1))
                        case measure => omega
                        case rel => exact ⟨k + 1, _, 14, by omega, Nat.le_refl _, by go_num, HR5.out, Or.inr rfl, HB5.out⟩
                    · have H := Lib.hid (rtext_any 300 (by omega) (by omega) _ HR.out)
                      rw [show rdT (bs.take A) q 14 (300 : Int).toNat = ([], q, 14) from rfl] at H
                      go_wp2_with fail
                      refine (HER.out _ _ _ HR.out).mono ?_
                      rintro r w8 ⟨rfl, he⟩
                      obtain rfl := Eq.symm he
                      clear he
                      go_wp2_with fail
                      refine H.out.mono ?_
                      rintro r w5 ⟨rfl, hR5, hO5⟩
                      have HR5 := Lib.hid hR5
                      have HB5 : Hid (Below w.heap.size w w5) := HSTEP.out _ _ HBA.out hO5
                      clear hR5 hO5 H
                      go_wp2
                      go_roundg (xs.length - (k + 1))
                      case measure => omega
                      case rel => exact ⟨k + 1, _, 14, by omega, Nat.le_refl _, by go_num, HR5.out, Or.inr rfl, HB5.out⟩
                  · have hk3' : (kind == 3) = false := by simp [hk3]
                    rw [show encG false (kind, N, S, L) = [] by simp [encG, hk1, hk2, hk3], List.length_nil, Nat.add_zero] at HNX
                    have HR5 := HR
                    have HB5 := HBA
                    go_wp2_with fail
                    refine (HER.out _ _ _ HR.out).mono ?_
                    rintro r w8 ⟨rfl, he⟩
                    obtain rfl := Eq.symm he
                    clear he
                    go_wp2
                    go_roundg (xs.length - (k + 1))
                    case measure => omega
                    case rel => exact ⟨k + 1, _, _, by omega, Nat.le_refl _, by go_num, HR5.out, by rcases hqe with ⟨h1, h2⟩ | h; exact Or.inl ⟨h1, by rw [HNX.out]; exact h2⟩; exact Or.inr h, HB5.out⟩
            · have : k = xs.length := by omega
              subst this
              have hfit := hR.fits
              rw [HAL.out] at hfit
              have he : e = 14 := by
                rcases hqe with ⟨h1, h2⟩ | h
                · rw [← HBS.out] at h2; have := HAB.out; omega
                · exact h
              subst he
              have HR := Lib.hid hR
              have HB := Lib.hid hb
              have H := done_any wr hR
              rw [if_neg (by omega)] at H
              have H := Lib.hid H
              clear hR hb hqe
              go_wp2_with fail
              refine (error_any wr HR.out).mono ?_
              rintro r w8 ⟨rfl, he⟩
              obtain rfl := Eq.symm he
              clear he
              go_wp2_with fail
              refine H.out.mono ?_
              rintro r w9 ⟨rfl, hb9⟩
              have HB9 : Hid (Below w.heap.size w w9) := below_step HB.out hb9
              clear hb9
              go_wp2
              go_ret
              exact ⟨rfl, HB9.out⟩
        · obtain ⟨p5, c5, rfl⟩ := owns_slice hown
          clear hown hb
          by_cases hneg : a < 0
          · go_wp2
            go_ret
            exact ⟨rfl, HB.out⟩
          · have hge : (bs.length : Int) ≤ a := by omega
            go_wp2
            go_ret
            exact ⟨rfl, HB.out⟩
  · rw [show fewB xs = false by simpa using hfew] at HFEW
    go_enter Try.func5, Try.ntmps5
    go_wp2_with fail
    refine (anchor_any w).mono ?_
    rintro e w1 ⟨rfl, hb1⟩
    have HB1 := Lib.hid hb1
    clear hb1
    go_wp2_with fail
    refine (HFEW.out w1 (HO.out.below HB1.out)).mono ?_
    rintro e w2 ⟨rfl, hb2⟩
    have HB2 : Hid (Below w.heap.size w w2) := below_step HB1.out hb2
    clear hb2
    go_wp2
    go_ret
    exact ⟨rfl, HB2.out⟩

end Go.Proofs.Ytnoppejmcckgjaa
