
/-
  PackWrites' function hands back true, for all things that lie in memory. No conditions beyond what each theorem states.
-/
import Derived.Test.YtnoppejmcckgjaaPackTwo
import Derived.Deep.RegionWith
namespace Go.Proofs.Ytnoppejmcckgjaa
open Go.ChangeShapes Go.WideShapes Go.ChangeAt Go.RowKit Go.Lib
set_option linter.unusedVariables false
set_option linter.unusedSimpArgs false

theorem enc_nextW {b : Bool} {xs : List Th} {k : Nat} {bs c : List UInt8} (hk : k < xs.length) (hb : bs = encTo b xs k) (hc : encG b (atO xs k) = c) : bs ++ c = encTo b xs (k + 1) := by rw [encTo_succ hk, hc, hb]
theorem rdB_in {bs pre post S : List UInt8} {j : Nat} (h : bs = pre ++ S ++ post) (hj : j < S.length) : rdB bs (pre.length + j) 0 = ((S.getD j 0).toNat, pre.length + (j + 1), 0) := by
  have e : bs = (pre ++ S.take j) ++ [S.getD j 0] ++ (S.drop (j + 1) ++ post) := by
    rw [h]
    have : S = S.take j ++ ([S.getD j 0] ++ S.drop (j + 1)) := by
      have h2 := drop_atB hj
      rw [List.singleton_append, ← h2, List.take_append_drop]
    rw [List.append_assoc pre, List.append_assoc pre, List.append_assoc pre]
    congr 1
    conv => lhs; rw [this]
    simp
  have := rdB_all (pre := pre ++ S.take j) (post := S.drop (j + 1) ++ post) (y := S.getD j 0)
  rw [← e, List.length_append, List.length_take, Nat.min_eq_left (by omega)] at this
  rw [this, Nat.add_assoc]
/-- The same world, but for what was drawn. -/
abbrev SameW (A W : World) : Prop := W.heap = A.heap ∧ W.os = A.os ∧ W.tape = A.tape ∧ W.output = A.output
theorem region_call {J D : Nat} {bs : List UInt8} {q q' e' B0 : Nat} {x : Th} {w A : World} {f : FuncId} {args : Array Value} {r : Ending} (hR : Rd J D bs q 0 A) (hx : OBox B0 x A) (hne : B0 ≠ J) (hb : Below w.heap.size w A)
    (hstep : ∀ W W' : World, Below w.heap.size w W → Only J W W' → Below w.heap.size w W') (hc : ∀ W, Rd J D bs q 0 W → Calls Try.prog f args W fun r' w' => r' = r ∧ Rd J D bs q' e' w' ∧ Only J W w') :
    ∀ W, SameW A W → Calls Try.prog f args W fun r' w' => r' = r ∧ Rd J D bs q' e' w' ∧ OBox B0 x w' ∧ Below w.heap.size w w' := by
  rintro W ⟨h1, h2, h3, h4⟩
  have hRW : Rd J D bs q 0 W := ⟨by rw [h1]; exact hR.box, by rw [h1]; exact hR.row, hR.fits, hR.less⟩
  have hxW : OBox B0 x W := by show W.heap[B0]? = _; rw [h1]; exact hx
  have hbW : Below w.heap.size w W := ⟨h2.trans hb.os, h3.trans hb.tape, h4.trans hb.output, by rw [h1]; exact hb.size, fun k hk => by rw [h1]; exact hb.block k hk⟩
  refine (hc W hRW).mono ?_
  rintro r' w' ⟨rfl, k1, k2⟩
  exact ⟨rfl, k1, k2.stays hxW hne, hstep W w' hbW k2⟩
theorem twoByte {B K m : Nat} {b1 b2 : List UInt8} {u : Value} {W : World} (h : Two B K b1 b2 u W) (hm : m < 256) (hl : b1.length ≤ 500000) :
    Calls Try.prog 8 #[.pointer (some ⟨K, 0, none⟩), .int .u8 (m : Int)] W fun e w' => e = .returned (.tuple #[]) ∧ Two B K (b1 ++ [UInt8.ofNat m]) b2 u w' ∧ Below B W w' ∧ ∀ k x, OBox k x W → OBox k x w' :=
  h.call (fun v hv => wbyte_nat B K v b1 m hm W hv (by omega))
theorem twoNum {B K n : Nat} {b1 b2 : List UInt8} {u : Value} {W : World} (h : Two B K b1 b2 u W) (hn : n < 18446744073709551616) (hl : b1.length ≤ 500000) :
    Calls Try.prog 9 #[.pointer (some ⟨K, 0, none⟩), .int .u64 (n : Int)] W fun e w' => e = .returned (.tuple #[]) ∧ Two B K (b1 ++ encN (n % 9223372036854775808)) b2 u w' ∧ Below B W w' ∧ ∀ k x, OBox k x W → OBox k x w' :=
  h.call (fun v hv => wnum_any B K v b1 n hn W hv (by omega))
theorem twoText {B K : Nat} {b1 b2 s : List UInt8} {u : Value} {W : World} (h : Two B K b1 b2 u W) (hs : s.length ≤ 300) (hl : b1.length ≤ 500000) :
    Calls Try.prog 11 #[.pointer (some ⟨K, 0, none⟩), .string ⟨s.toArray⟩] W fun e w' => e = .returned (.tuple #[]) ∧ Two B K (b1 ++ encT s) b2 u w' ∧ Below B W w' ∧ ∀ k x, OBox k x W → OBox k x w' :=
  h.call (fun v hv => wtext_any B K v b1 s W hv (by omega) (by omega))
theorem twoRaw {B K c : Nat} {a : Addr} {b1 b2 s : List UInt8} {u : Value} {W : World} (h : Two B K b1 b2 u W) (hr : BRow W (some a) s) (hs : s.length ≤ 300) (hl : b1.length ≤ 500000) :
    Calls Try.prog 13 #[.pointer (some ⟨K, 0, none⟩), .slice (some a) s.length c] W fun e w' => e = .returned (.tuple #[]) ∧ Two B K (b1 ++ s) b2 u w' ∧ Below B W w' ∧ ∀ k x, OBox k x W → OBox k x w' :=
  h.call (fun v hv => wraw_any B K v b1 s a c W hv hr (by omega) (by omega))

set_option maxHeartbeats 25600000 in
set_option maxRecDepth 20000 in
theorem writes_any (xs : List Th) (pl : Option Addr) (cl : Nat) (w : World) (hO : ORow w pl xs) (hl : xs.length ≤ 9223372036854775807) (hF : OFit xs) (hS : ∀ i, i < xs.length → (atO xs i).2.2.1.length ≤ 9223372036854775807) :
    Calls Try.prog 3 #[.slice pl xs.length cl] w fun e w' => e = .returned (.bool true) ∧ Below w.heap.size w w' := by
  have HO := Lib.hid hO
  have HF := Lib.hid hF
  have HFEW := Lib.hid (fun W (h : ORow W pl xs) => few_any xs pl cl W h hl hS)
  obtain ⟨i0, hi, hz0, hz1, hz2⟩ := info_parts infoB
  clear hO hF hS
  by_cases hfew : fewB xs = true
  · rw [hfew] at HFEW
    have h60 := (fewB_at hfew).1
    have HS := Lib.hid (fewB_at hfew).2
    have HLEN : Hid (∀ k, k ≤ xs.length → (encTo true xs k).length ≤ 18540) := fun k hk => by have := encTo_len (b := true) HS.out k hk; omega
    clear hfew
    go_enter Try.func3, Try.ntmps3
    go_wp2_with fail
    refine (anchor_any w).mono ?_
    rintro e w1 ⟨rfl, hb1⟩
    have HB1 := Lib.hid hb1
    clear hb1
    go_wp2_with fail
    refine (HFEW.out w1 (HO.out.below HB1.out)).mono ?_
    rintro e w2 ⟨rfl, hb2⟩
    have HB2 : Hid (Below w.heap.size w (w2.alloc (.cells #[.slice none 0 0] 27))) := below_alloc (below_step HB1.out hb2) _
    have HT2 : Hid (Two w.heap.size w2.heap.size [] [] (.slice none 0 0) (w2.alloc (.cells #[.slice none 0 0] 27))) := by
      have hsz := (below_step HB1.out hb2).size
      exact ⟨_, ⟨hsz, by simp; omega, heap_alloc_new w2 _, World.ownsRow_nil _ _ _ _⟩, World.ownsRow_nil _ _ _ _, fun k e => by cases e⟩
    have HKw : Hid (w.heap.size ≤ w2.heap.size) := (below_step HB1.out hb2).size
    clear hb2 HB1
    go_wp2
    generalize w2.heap.size = K at HT2 HKw ⊢
    go_loopg [4, 19] xs.length (fun g u i wr => ∃ (k : Nat) (bs : List UInt8), k ≤ xs.length ∧ xs.length - k ≤ g ∧ i = .int .i64 (k : Int) ∧ bs = encTo true xs k ∧ Two w.heap.size K bs bs u wr ∧ Below w.heap.size w wr)
    case atStart => exact ⟨0, [], Nat.zero_le _, by omega, rfl, rfl, HT2.out, HB2.out⟩
    case round =>
      obtain ⟨k, bs, hk, hg, rfl, hbs, hT, hb⟩ := hrel
      have hbl : bs.length ≤ 18540 := by rw [hbs]; exact HLEN.out k hk
      have HBS := Lib.hid hbs
      clear hbs HB2 HT2
      by_cases hlt : k < xs.length
      · obtain ⟨b, o, rfl, c0, c1, c2, c3⟩ := HO.out.below hb k hlt
        obtain ⟨f1, f2, f3, f4, f5⟩ := HF.out k hlt
        have hs3 := HS.out k hlt
        have HE : Hid (∀ c, encG true (atO xs k) = c → bs ++ c = encTo true xs (k + 1)) := fun c hc => enc_nextW hlt HBS.out hc
        have HEG : Hid (∀ kind N S L, (atO xs k).1 = kind → (atO xs k).2.1 = N → (atO xs k).2.2.1 = S → (atO xs k).2.2.2 = L → encG true (atO xs k) = encG true (kind, N, S, L)) := by
          rintro kind N S L rfl rfl rfl rfl; rfl
        generalize hkind : (atO xs k).1 = kind at c0 f1 f2
        generalize hNN : (atO xs k).2.1 = N at c1 f3
        generalize hSS : (atO xs k).2.2.1 = S at c2 hs3
        generalize hLL : (atO xs k).2.2.2 = L at c3 f4 f5
        have HENC : Hid (bs ++ encG true (kind, N, S, L) = encTo true xs (k + 1)) := HE.out _ (HEG.out kind N S L hkind hNN hSS hLL)
        clear HE HEG hkind hNN hSS hLL
        have HBX := Lib.hid (OBox.new wr (kind, N, S, L))
        have HT := Lib.hid (hT.below (below_alloc (Below.refl _ _) (.cells #[.int .i64 kind, .int .u64 (N : Int), .string ⟨S.toArray⟩, .int .i64 L] 30)))
        have HBA : Hid (Below w.heap.size w (wr.alloc (.cells #[.int .i64 kind, .int .u64 (N : Int), .string ⟨S.toArray⟩, .int .i64 L] 30))) := below_alloc hb _
        clear hT hb
        by_cases hk1 : kind = 1
        · subst hk1
          obtain ⟨M, hM⟩ : ∃ M, M = N % 256 := ⟨_, rfl⟩
          have hMb : M < 256 := by omega
          have hw1 : IntKind.u8.wrap (N : Int) = (M : Int) := by rw [IntKind.wrap_u8]; omega
          have hw2 : (N : Int) % 256 = (M : Int) := by omega
          rw [show encG true (1, N, S, L) = [UInt8.ofNat M] by rw [hM]; rfl] at HENC
          have H := Lib.hid (twoByte HT.out hMb (by omega))
          obtain ⟨y, hy⟩ : ∃ y, y = UInt8.ofNat M := ⟨_, rfl⟩
          have hyM : (y.toNat : Int) = (M : Int) := by rw [hy, u8_nat hMb]
          rw [← hy] at HENC H
          have HYM := Lib.hid hyM
          clear hM hy hyM
          go_wp2_with fail
          refine H.out.mono ?_
          rintro e w5 ⟨rfl, hT5, hb5, hx5⟩
          have hbx5 := hx5 _ _ HBX.out
          have d1 := hbx5.c1
          have HT5 := Lib.hid hT5
          have HB5 : Hid (Below w.heap.size w w5) := HBA.out.trans hb5
          clear hT5 hb5 hx5 hbx5 HT
          go_wp2_with (first
            | (at_builtin; refine wpList_append_own_at _ rfl (.tmp 31) (.tmp 35) 25 rfl w.heap.size 5 i0 (.int .u8 0) 1 1 Try.underlying25 hi hz0 hz1 hz2 rfl (by decide) _ _ _ rfl (HT5.out.row.alloc _) ⟨w5.heap.size, 0, none⟩ 1 1 [.int .u8 (M : Int)] rfl rfl (cell_one_new _ _ _) (by intro u hu; simp at hu; subst hu; rfl) (by unfold maxLen; omega) (by omega) (by have := HT5.out.room; simp; omega) ?_))
          intro u' w7 hown hgrow _ hat
          obtain ⟨hT7, hb7⟩ := (HT5.out.below (below_alloc (Below.refl _ _) (.cells #[.int .u8 (M : Int)] 5))).onto (cs := [y]) (by rw [bytes_one, HYM.out]; exact hown) hgrow (by simpa using hat)
          have HT7 := Lib.hid hT7
          have HB7 : Hid (Below w.heap.size w w7) := (below_alloc HB5.out _).trans hb7
          clear hown hgrow hat hT7 hb7 HBX
          go_wp2
          go_roundg (xs.length - (k + 1))
          case measure => omega
          case rel => exact ⟨k + 1, _, by omega, Nat.le_refl _, by go_num, HENC.out, HT7.out, HB7.out⟩
        · have hk1' : (kind == 1) = false := by simp [hk1]
          by_cases hk2 : kind = 2
          · subst hk2
            have H0 := Lib.hid (twoNum HT.out f3 (by omega))
            have H := Lib.hid (refnum_any N f3)
            have HX : Hid (encG true (2, N, S, L) = encN (N % 9223372036854775808)) := rfl
            rw [HX.out] at HENC
            have hcb : (encN (N % 9223372036854775808)).length ≤ 309 ∧ 1 ≤ (encN (N % 9223372036854775808)).length := ⟨by have := encN_len (n := N % 9223372036854775808) (Nat.mod_lt _ (by decide)); omega, encN_pos _⟩
            generalize encN (N % 9223372036854775808) = cs at H H0 HENC hcb
            clear HX
            go_wp2_with fail
            refine H0.out.mono ?_
            rintro e w5 ⟨rfl, hT5, hb5, hx5⟩
            have hbx5 := hx5 _ _ HBX.out
            have d1 := hbx5.c1
            have HT5 := Lib.hid hT5
            have HB5 : Hid (Below w.heap.size w w5) := HBA.out.trans hb5
            clear hT5 hb5 hx5 hbx5 HT
            clear H0
            go_wp2_with fail
            refine (H.out _).mono ?_
            rintro e w6 ⟨v6, rfl, hown6, hb6⟩
            obtain ⟨g6, c6, rfl, hr6⟩ := owns_some hown6 hcb.2
            have HR6 := Lib.hid hr6
            have HT6 := Lib.hid (HT5.out.below hb6)
            have HB6 : Hid (Below w.heap.size w w6) := below_step HB5.out hb6
            clear hown6 hb6 hr6 HT5
            go_wp2_with (first
              | (at_builtin; refine wpList_append_own_at _ rfl (.tmp 42) (.tmp 45) 25 rfl w.heap.size 5 i0 (.int .u8 0) 1 1 Try.underlying25 hi hz0 hz1 hz2 rfl (by decide) _ _ _ rfl HT6.out.row ⟨g6, 0, none⟩ cs.length c6 (byteCells cs) rfl (by rw [byteCells_length, Nat.mul_one]) (brow_news HR6.out) (byteCells_one _) (by unfold maxLen; omega) (by omega) HT6.out.room ?_))
            intro u' w7 hown hgrow _ hat
            obtain ⟨hT7, hb7⟩ := HT6.out.onto (cs := cs) hown hgrow hat
            have HT7 := Lib.hid hT7
            have HB7 : Hid (Below w.heap.size w w7) := HB6.out.trans hb7
            clear hown hgrow hat hT7 hb7 HBX HR6
            go_wp2
            go_roundg (xs.length - (k + 1))
            case measure => omega
            case rel => exact ⟨k + 1, _, by omega, Nat.le_refl _, by go_num, HENC.out, HT7.out, HB7.out⟩
          · have hk2' : (kind == 2) = false := by simp [hk2]
            by_cases hk3 : kind = 3
            · subst hk3
              have H0 := Lib.hid (twoText HT.out hs3 (by omega))
              have H := Lib.hid (reftext_any S (by omega))
              have HX : Hid (encG true (3, N, S, L) = encT S) := rfl
              rw [HX.out] at HENC
              have hcb : (encT S).length ≤ 309 ∧ 1 ≤ (encT S).length := ⟨by have := encN_len (n := S.length) (by omega); unfold encT; rw [List.length_append]; omega, by have := encN_pos S.length; unfold encT; rw [List.length_append]; omega⟩
              generalize encT S = cs at H H0 HENC hcb
              clear HX
              go_wp2_with fail
              refine H0.out.mono ?_
              rintro e w5 ⟨rfl, hT5, hb5, hx5⟩
              have hbx5 := hx5 _ _ HBX.out
              have d1 := hbx5.c2
              have HT5 := Lib.hid hT5
              have HB5 : Hid (Below w.heap.size w w5) := HBA.out.trans hb5
              clear hT5 hb5 hx5 hbx5 HT
              clear H0
              go_wp2_with fail
              refine (H.out _).mono ?_
              rintro e w6 ⟨v6, rfl, hown6, hb6⟩
              obtain ⟨g6, c6, rfl, hr6⟩ := owns_some hown6 hcb.2
              have HR6 := Lib.hid hr6
              have HT6 := Lib.hid (HT5.out.below hb6)
              have HB6 : Hid (Below w.heap.size w w6) := below_step HB5.out hb6
              clear hown6 hb6 hr6 HT5
              go_wp2_with (first
                | (at_builtin; refine wpList_append_own_at _ rfl (.tmp 52) (.tmp 55) 25 rfl w.heap.size 5 i0 (.int .u8 0) 1 1 Try.underlying25 hi hz0 hz1 hz2 rfl (by decide) _ _ _ rfl HT6.out.row ⟨g6, 0, none⟩ cs.length c6 (byteCells cs) rfl (by rw [byteCells_length, Nat.mul_one]) (brow_news HR6.out) (byteCells_one _) (by unfold maxLen; omega) (by omega) HT6.out.room ?_))
              intro u' w7 hown hgrow _ hat
              obtain ⟨hT7, hb7⟩ := HT6.out.onto (cs := cs) hown hgrow hat
              have HT7 := Lib.hid hT7
              have HB7 : Hid (Below w.heap.size w w7) := HB6.out.trans hb7
              clear hown hgrow hat hT7 hb7 HBX HR6
              go_wp2
              go_roundg (xs.length - (k + 1))
              case measure => omega
              case rel => exact ⟨k + 1, _, by omega, Nat.le_refl _, by go_num, HENC.out, HT7.out, HB7.out⟩
            · have hk3' : (kind == 3) = false := by simp [hk3]
              by_cases hk4 : kind = 4
              · subst hk4
                rw [show encG true (4, N, S, L) = S from rfl] at HENC
                obtain ⟨w4, c4, hcv, hr4, hb4⟩ := bytes_conv S (wr.alloc (.cells #[.int .i64 4, .int .u64 (N : Int), .string ⟨S.toArray⟩, .int .i64 L] 30))
                rw [show (wr.alloc (.cells #[.int .i64 4, .int .u64 (N : Int), .string ⟨S.toArray⟩, .int .i64 L] 30)).heap.size = wr.heap.size + 1 by simp] at hcv hr4
                have HBX4 : Hid (OBox wr.heap.size (4, N, S, L) w4) := by
                  show w4.heap[wr.heap.size]? = _
                  rw [hb4.block _ (lt_of_block HBX.out)]; exact HBX.out
                have HT4 := Lib.hid (HT.out.below hb4)
                have HB4 : Hid (Below w.heap.size w w4) := below_step HBA.out hb4
                have H := Lib.hid (twoRaw (c := c4) HT4.out hr4 hs3 (by omega))
                clear hr4 hb4 HT HBX
                go_wp2_with fail
                refine H.out.mono ?_
                rintro e w5 ⟨rfl, hT5, hb5, hx5⟩
                have hbx5 := hx5 _ _ HBX4.out
                have d1 := hbx5.c2
                have HT5 := Lib.hid hT5
                have HB5 : Hid (Below w.heap.size w w5) := HB4.out.trans hb5
                clear hT5 hb5 hx5 hbx5 HT4 H
                go_wp2_with (first
                  | (at_builtin; refine wpList_app_str _ rfl (.tmp 63) (.tmp 65) 25 9 rfl w.heap.size 5 i0 Try.underlying25 Try.underlying9 hi hz0 hz1 hz2 _ _ _ rfl HT5.out.row ⟨S.toArray⟩ rfl (by rw [str_size]; omega) HT5.out.room ?_))
                intro u' w7 hown hgrow hat
                obtain ⟨hT7, hb7⟩ := HT5.out.onto (cs := S) hown hgrow hat
                have HT7 := Lib.hid hT7
                have HB7 : Hid (Below w.heap.size w w7) := HB5.out.trans hb7
                clear hown hgrow hat hT7 hb7
                go_wp2
                go_roundg (xs.length - (k + 1))
                case measure => omega
                case rel => exact ⟨k + 1, _, by omega, Nat.le_refl _, by go_num, HENC.out, HT7.out, HB7.out⟩
              · have hk4' : (kind == 4) = false := by simp [hk4]
                rw [show encG true (kind, N, S, L) = [] by simp [encG, hk1, hk2, hk3, hk4], List.append_nil] at HENC
                have HT7 := HT
                have HB7 := HBA
                go_wp2
                go_roundg (xs.length - (k + 1))
                case measure => omega
                case rel => exact ⟨k + 1, _, by omega, Nat.le_refl _, by go_num, HENC.out, HT7.out, HB7.out⟩
      · have : k = xs.length := by omega
        subst this
        clear hg hk
        have HB := Lib.hid hb
        obtain ⟨v, hWr, hown, _⟩ := hT
        obtain ⟨pu, cu, rfl, _, hru, hpu⟩ := brow_owns hown
        have H := Lib.hid (wbytes_any _ _ _ _ wr hWr (by omega))
        have HWr := Lib.hid hWr
        have HRU := Lib.hid hru
        clear hWr hown hru hpu hb
        go_wp2_with fail
        refine H.out.mono ?_
        rintro e w3 ⟨rfl, hrow3, hb3⟩
        have hr3 := brow_block hrow3
        have HR3 := Lib.hid hr3
        have HB3 : Hid (Below w.heap.size w w3) := below_step HB.out hb3
        have HWr3 := Lib.hid (HWr.out.kept (S := fun _ => False) (Kept.ofBelow hb3) (fun f => f) (fun _ _ f => f))
        have hcv1 : ∀ c, (convert 25 9 (.slice (some ⟨wr.heap.size, 0, none⟩) bs.length c)).run Try.prog w3 = .ok (.string ⟨bs.toArray⟩) w3 := fun c => conv_any hr3 rfl
        have hcv2 : ∀ c, (convert 25 9 (.slice pu bs.length c)).run Try.prog w3 = .ok (.string ⟨bs.toArray⟩) w3 := fun c => conv_any (HRU.out.below hb3) rfl
        have HFr := Lib.hid (fun cc => from_any bs (some ⟨wr.heap.size, 0, none⟩) cc w3 hr3 (by omega))
        clear hrow3 hb3 hr3 H HRU HWr
        go_wp2_with fail
        refine (wlen_any _ _ _ _ w3 HWr3.out).mono ?_
        rintro e w4 ⟨rfl, he⟩
        obtain rfl := Eq.symm he
        clear he
        go_wp2_with fail
        refine (HFr.out _).mono ?_
        rintro e w4 ⟨J, rfl, hJ, hR4, hb4⟩
        have HB4 : Hid (Below w.heap.size w w4) := below_step HB3.out hb4
        have hJw : w.heap.size ≤ J := by have := HB3.out.size; omega
        have HR4 := Lib.hid hR4
        have HSTEP : Hid (∀ W W' : World, Below w.heap.size w W → Only J W W' → Below w.heap.size w W') := fun W W' h1 h2 => h1.trans (h2.below h1.size (by intro k e; omega))
        have HSPL : Hid (∀ k, k < xs.length → bs = encTo true xs k ++ encG true (atO xs k) ++ (xs.drop (k + 1)).flatMap (encG true)) := fun k hk => by rw [HBS.out]; exact encTo_split hk
        generalize w3.heap.size = D at HR4
        clear hb4 hJ hR4 hJw HFr hcv1 hcv2 HB3 HB HWr3 HR3
        go_wp2
        go_loopg [84] xs.length (fun g i wr => ∃ k q : Nat, k ≤ xs.length ∧ xs.length - k ≤ g ∧ i = .int .i64 (k : Int) ∧ Rd J D bs q 0 wr ∧ q = (encTo true xs k).length ∧ Below w.heap.size w wr)
        case atStart => exact ⟨0, 0, Nat.zero_le _, by omega, rfl, HR4.out, rfl, HB4.out⟩
        case round =>
          obtain ⟨k, q, hk, hg, rfl, hR, hq, hb⟩ := hrel
          clear HR4 HB4
          by_cases hlt : k < xs.length
          · obtain ⟨b, o, rfl, c0, c1, c2, c3⟩ := HO.out.below hb k hlt
            obtain ⟨f1, f2, f3, f4, f5⟩ := HF.out k hlt
            have hs3 := HS.out k hlt
            have hsp := HSPL.out k hlt
            have hnx := encTo_succ (b := true) hlt
            have HEG : ∀ kind N S L, (atO xs k).1 = kind → (atO xs k).2.1 = N → (atO xs k).2.2.1 = S → (atO xs k).2.2.2 = L → encG true (atO xs k) = encG true (kind, N, S, L) := by
              rintro kind N S L rfl rfl rfl rfl; rfl
            generalize hkind : (atO xs k).1 = kind at c0 f1 f2
            generalize hNN : (atO xs k).2.1 = N at c1 f3
            generalize hSS : (atO xs k).2.2.1 = S at c2 hs3
            generalize hLL : (atO xs k).2.2.2 = L at c3 f4 f5
            rw [HEG kind N S L hkind hNN hSS hLL] at hsp hnx
            clear HEG hkind hNN hSS hLL
            generalize encTo true xs k = pre at hsp hnx hq
            generalize (xs.drop (k + 1)).flatMap (encG true) = post at hsp
            subst hq
            have HSP := Lib.hid hsp
            have HNX : Hid ((encTo true xs (k + 1)).length = pre.length + (encG true (kind, N, S, L)).length) := by show _ = _; rw [hnx, List.length_append]
            have HKW : wr.heap.size ≠ J := by have := lt_of_block hR.box; omega
            have HRA := Lib.hid (hR.below (below_alloc (Below.refl _ _) (.cells #[.int .i64 kind, .int .u64 (N : Int), .string ⟨S.toArray⟩, .int .i64 L] 30)))
            have HBXA := Lib.hid (OBox.new wr (kind, N, S, L))
            have HBA : Hid (Below w.heap.size w (wr.alloc (.cells #[.int .i64 kind, .int .u64 (N : Int), .string ⟨S.toArray⟩, .int .i64 L] 30))) := below_alloc hb _
            have HRC : Hid (∀ (f : FuncId) (args : Array Value) (r : Ending) (q' : Nat), (∀ W, Rd J D bs pre.length 0 W → Calls Try.prog f args W fun r' w' => r' = r ∧ Rd J D bs q' 0 w' ∧ Only J W w') →
                ∀ W, SameW (wr.alloc (.cells #[.int .i64 kind, .int .u64 (N : Int), .string ⟨S.toArray⟩, .int .i64 L] 30)) W → Calls Try.prog f args W fun r' w' => r' = r ∧ Rd J D bs q' 0 w' ∧ OBox wr.heap.size (kind, N, S, L) w' ∧ Below w.heap.size w w') :=
              fun f args r q' hc W hW => region_call HRA.out HBXA.out HKW HBA.out HSTEP.out hc W hW
            have HKW := Lib.hid HKW
            clear hR hb hsp hnx
            by_cases hk1 : kind = 1
            · subst hk1
              obtain ⟨M, hM⟩ : ∃ M, M = N % 256 := ⟨_, rfl⟩
              have hMb : M < 256 := by omega
              have hw1 : IntKind.u8.wrap (N : Int) = (M : Int) := by rw [IntKind.wrap_u8]; omega
              have hw2 : (N : Int) % 256 = (M : Int) := by omega
              rw [show encG true (1, N, S, L) = [UInt8.ofNat M] by rw [hM]; rfl] at HSP HNX
              have hrd : rdB bs pre.length 0 = (M, pre.length + 1, 0) := by rw [HSP.out, rdB_all, u8_nat hMb]
              have HRD := Lib.hid hrd
              clear hM hrd
              have H := Lib.hid (HRC.out 17 _ _ _ (fun W h => (by have := rbyte_any W h; rw [HRD.out] at this; exact this)))
              clear HRC HRA HBA
              go_wp2_with fail
              go_region_with (first | (go_at_call 17; refine (H.out _ (by exact ⟨rfl, rfl, rfl, rfl⟩)).mono ?_; rintro e w5 ⟨rfl, hR5, hx5, hb5⟩; have d1 := hx5.c1))
              all_goals
                have HR6 := Lib.hid hR5
                have HB6 := Lib.hid hb5
                clear hR5 hb5 hx5 d1
                go_wp2
                go_roundg (xs.length - (k + 1))
                case measure => omega
                case rel => exact ⟨k + 1, _, by omega, Nat.le_refl _, by go_num, HR6.out, by first | exact HNX.out.symm | (rw [HNX.out]; rfl), HB6.out⟩
            · have hk1' : (kind == 1) = false := by simp [hk1]
              by_cases hk2 : kind = 2
              · subst hk2
                obtain ⟨M, hM⟩ : ∃ M, M = N % 9223372036854775808 := ⟨_, rfl⟩
                have hMb : M < 9223372036854775808 := by omega
                have hw2 : (N : Int) % 9223372036854775808 = (M : Int) := by omega
                have hw3 : (N : Int).tmod 9223372036854775808 = (M : Int) := by rw [Int.tmod_eq_emod_of_nonneg (by omega)]; exact hw2
                rw [show encG true (2, N, S, L) = encN M by rw [hM]; rfl] at HSP HNX
                have hrd : rdN bs pre.length 0 9223372036854775807 = (M, pre.length + (encN M).length, 0) := by rw [HSP.out]; exact rdN_all hMb (by omega)
                have HRD := Lib.hid hrd
                clear hM hrd
                have H := Lib.hid (HRC.out 18 _ _ _ (fun W h => (by have := rnum_any 9223372036854775807 (by omega) W h; rw [HRD.out] at this; exact this)))
                clear HRC HRA HBA
                go_wp2_with fail
                go_region_with (first | (go_at_call 18; refine (H.out _ (by exact ⟨rfl, rfl, rfl, rfl⟩)).mono ?_; rintro e w5 ⟨rfl, hR5, hx5, hb5⟩; have d1 := hx5.c1))
                all_goals
                  have HR6 := Lib.hid hR5
                  have HB6 := Lib.hid hb5
                  clear hR5 hb5 hx5 d1
                  go_wp2
                  go_roundg (xs.length - (k + 1))
                  case measure => omega
                  case rel => exact ⟨k + 1, _, by omega, Nat.le_refl _, by go_num, HR6.out, by first | exact HNX.out.symm | (rw [HNX.out]; rfl), HB6.out⟩
              · have hk2' : (kind == 2) = false := by simp [hk2]
                by_cases hk3 : kind = 3
                · subst hk3
                  rw [show encG true (3, N, S, L) = encT S from rfl] at HSP HNX
                  have hrd : rdT bs pre.length 0 (300 : Int).toNat = (S, pre.length + (encT S).length, 0) := by rw [HSP.out]; exact rdT_all (by omega) (by simpa using hs3)
                  have HRD := Lib.hid hrd
                  clear hrd
                  have H := Lib.hid (HRC.out 19 _ _ _ (fun W h => (by have := rtext_any 300 (by omega) (by omega) W h; rw [HRD.out] at this; exact this)))
                  clear HRC HRA HBA
                  go_wp2_with fail
                  go_region_with (first | (go_at_call 19; refine (H.out _ (by exact ⟨rfl, rfl, rfl, rfl⟩)).mono ?_; rintro e w5 ⟨rfl, hR5, hx5, hb5⟩; have d1 := hx5.c2))
                  all_goals
                    have HR6 := Lib.hid hR5
                    have HB6 := Lib.hid hb5
                    clear hR5 hb5 hx5 d1
                    go_wp2
                    go_roundg (xs.length - (k + 1))
                    case measure => omega
                    case rel => exact ⟨k + 1, _, by omega, Nat.le_refl _, by go_num, HR6.out, by first | exact HNX.out.symm | (rw [HNX.out]; rfl), HB6.out⟩
                · have hk3' : (kind == 3) = false := by simp [hk3]
                  by_cases hk4 : kind = 4
                  · subst hk4
                    rw [show encG true (4, N, S, L) = S from rfl] at HSP HNX
                    clear HRC
                    have e2 := HBXA.out.c2
                    go_wp2
                    go_loopg [118] S.length (fun g i wq => ∃ j : Nat, j ≤ S.length ∧ S.length - j ≤ g ∧ i = .int .i64 (j : Int) ∧ Rd J D bs (pre.length + j) 0 wq ∧ OBox wr.heap.size (4, N, S, L) wq ∧ Below w.heap.size w wq)
                    case atStart => exact ⟨0, Nat.zero_le _, by omega, rfl, HRA.out, HBXA.out, HBA.out⟩
                    case round =>
                      obtain ⟨j, hj, hgj, rfl, hRq, hxq, hbq⟩ := hrel
                      by_cases hjl : j < S.length
                      · have hjl' : (j : Int) < (S.length : Int) := by omega
                        have e3 := hxq.c2
                        have HC := Lib.hid (region_call hRq hxq HKW.out hbq HSTEP.out (fun W h => (by have := rbyte_any W h; rw [rdB_in HSP.out hjl] at this; exact this)))
                        clear HRA HBA HBXA e2 hRq hxq hbq
                        go_wp2_with fail
                        go_region_with (first | (go_at_call 17; refine (HC.out _ (by exact ⟨rfl, rfl, rfl, rfl⟩)).mono ?_; rintro e w5 ⟨rfl, hR5, hx5, hb5⟩; have d1 := hx5.c2))
                        all_goals
                          have hbb : ((((S[j]'hjl).toNat : Nat) : Int) != ((((⟨S.toArray⟩ : ByteArray)[j]'hjl).toNat : Nat) : Int)) = false := by
                            show ((((S[j]'hjl).toNat : Nat) : Int) != (((S[j]'hjl).toNat : Nat) : Int)) = false
                            exact bne_self_eq_false _
                          simp only [hbb]
                          have HR6 := Lib.hid hR5
                          have HX6 := Lib.hid hx5
                          have HB6 := Lib.hid hb5
                          clear hR5 hx5 hb5 d1
                          go_wp2
                          go_roundg (S.length - (j + 1))
                          case measure => omega
                          case rel => exact ⟨j + 1, by omega, Nat.le_refl _, by go_num, HR6.out, HX6.out, HB6.out⟩
                      · have hjl2 : j = S.length := by omega
                        have HR6 := Lib.hid hRq
                        have HB6 := Lib.hid hbq
                        have HQ : Hid (pre.length + j = (encTo true xs (k + 1)).length) := by show _ = _; rw [HNX.out, hjl2]
                        clear HRA HBA HBXA e2 hRq hxq hbq
                        subst hjl2
                        go_wp2
                        go_roundg (xs.length - (k + 1))
                        case measure => omega
                        case rel => exact ⟨k + 1, _, by omega, Nat.le_refl _, by go_num, HR6.out, HQ.out, HB6.out⟩
                  · have hk4' : (kind == 4) = false := by simp [hk4]
                    rw [show encG true (kind, N, S, L) = [] by simp [encG, hk1, hk2, hk3, hk4], List.length_nil, Nat.add_zero] at HNX
                    clear HRC
                    go_wp2
                    go_roundg (xs.length - (k + 1))
                    case measure => omega
                    case rel => exact ⟨k + 1, _, by omega, Nat.le_refl _, by go_num, HRA.out, HNX.out.symm, HBA.out⟩
          · have : k = xs.length := by omega
            subst this
            rw [← HBS.out] at hq
            subst hq
            have HR := Lib.hid hR
            have HB := Lib.hid hb
            have H := done_any wr hR
            rw [if_pos rfl, if_neg (by omega)] at H
            have H := Lib.hid H
            have HL : Hid (∀ W, Rd J D bs bs.length 0 W → Calls Try.prog 21 #[.pointer (some ⟨J, 0, none⟩)] W fun r w' => r = .returned (.int .i64 0) ∧ Below W.heap.size W w') := fun W h => by
              have := left_any W h
              rwa [Nat.sub_self] at this
            clear hR hb
            go_wp2_with fail
            refine H.out.mono ?_
            rintro r w5 ⟨rfl, hb5⟩
            have HR5 := Lib.hid (HR.out.below hb5)
            have HB5 : Hid (Below w.heap.size w w5) := below_step HB.out hb5
            clear hb5 H
            go_wp2_with fail
            refine (HL.out _ HR5.out).mono ?_
            rintro r w6 ⟨rfl, hb6⟩
            have HR6 := Lib.hid (HR5.out.below hb6)
            have HB6 : Hid (Below w.heap.size w w6) := below_step HB5.out hb6
            clear hb6 HL
            go_wp2_with fail
            refine (at_any w6 HR6.out).mono ?_
            rintro r w7 ⟨rfl, he⟩
            obtain rfl := Eq.symm he
            clear he
            go_wp2
            go_ret
            exact ⟨rfl, HB6.out⟩
  · rw [show fewB xs = false by simpa using hfew] at HFEW
    go_enter Try.func3, Try.ntmps3
    go_wp2_with fail
    refine (anchor_any w).mono ?_
    rintro e w1 ⟨rfl, hb1⟩
    have HB1 := Lib.hid hb1
    clear hb1
    go_wp2_with fail
    refine (HFEW.out w1 (HO.out.below HB1.out)).mono ?_
    rintro e w2 ⟨rfl, hb2⟩
    have HB2 : Hid (Below w.heap.size w w2) := below_step HB1.out hb2
    clear hb2
    go_wp2
    go_ret
    exact ⟨rfl, HB2.out⟩

end Go.Proofs.Ytnoppejmcckgjaa
