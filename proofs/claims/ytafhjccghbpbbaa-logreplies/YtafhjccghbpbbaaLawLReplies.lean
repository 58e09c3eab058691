
/-
  LogReplies, over a log's calls as premises. No conditions beyond what each theorem states.
-/
import Derived.Test.YtafhjccghbpbbaaLogAnchor
import Derived.Test.YtafhjccghbpbbaaMix2
namespace Go.Proofs.Ytafhjccghbpbbaa
open Go.ChangeShapes Go.WideShapes Go.ChangeAt Go.RowKit Go.Lib
set_option linter.unusedVariables false
set_option linter.unusedSimpArgs false

theorem infoL12 : (Try.prog.info? 40).map (fun i => (i.zero, i.size, i.bytes)) = some (some (.agg #[.int .u16 0, .int .u32 0, .string ⟨#[]⟩]), 3, 24) := by kernel_rfl
theorem three_cellsL {w : World} {B : Nat} {a b c : Value} {t : TypeId} (h : w.heap[B]? = some (.cells #[a, b, c] t (0, 0))) : w.cell? ⟨B, 0, none⟩ = some a ∧ w.cell? ⟨B, 1, none⟩ = some b ∧ w.cell? ⟨B, 2, none⟩ = some c :=
  ⟨by rw [cell_of_block h]; rfl, by rw [cell_of_block h]; rfl, by rw [cell_of_block h]; rfl⟩
theorem kept_boxL {w w1 : World} {B : Nat} {cs : Array Value} {t : TypeId} (h : w.heap[B]? = some (.cells cs t (0, 0))) (hb : Below w.heap.size w w1) : w1.heap[B]? = some (.cells cs t (0, 0)) := by
  rw [hb.block B (lt_of_block h)]; exact h
/-- The log and the document's list keep the same. -/
def LgJ (Lg : (Nat → Prop) → Nat → List Lm → World → Prop) (w0 : World) (K : Nat) (l : List Lm) (v : Value) (w : World) : Prop := ∃ S, Lg S K l w ∧ (∀ k, S k → w0.heap.size ≤ k) ∧ Below w0.heap.size w0 w ∧ w.ownsRow w0.heap.size 40 3 v l.length (layL.flat l)
set_option maxHeartbeats 6400000 in
set_option maxRecDepth 20000 in
theorem logreplies_any {Lg : (Nat → Prop) → Nat → List Lm → World → Prop} (HL : LogSpec Lg) (xs : List PutV) (r fr tu most : Int) (p : Option Addr) (c : Nat) (w : World) (hA : ArgU w p xs) (hr : 0 ≤ r ∧ r ≤ 65535) (hf : 0 ≤ fr ∧ fr ≤ 4294967295) (ht : 0 ≤ tu ∧ tu ≤ 4294967295) (hm : -9223372036854775808 ≤ most ∧ most ≤ 9223372036854775807) (hxl : xs.length ≤ 17592186043904) :
    Calls Try.prog 4 #[.slice p xs.length c, .agg #[.int .u16 r, .int .u32 fr, .int .u32 tu], .int .i64 most] w fun e w' => e = .returned (.bool true) ∧ Below w.heap.size w w' := by
  have hb0 : Below w.heap.size w (w.alloc (.cells #[.int .u16 r, .int .u32 fr, .int .u32 tu] 48)) := below_alloc (Below.refl _ _) _
  have HB0 := Lib.hid hb0
  have HG0 := Lib.hid (heap_alloc_new w (.cells #[.int .u16 r, .int .u32 fr, .int .u32 tu] 48))
  have HAR : Hid (ArgU (w.alloc (.cells #[.int .u16 r, .int .u32 fr, .int .u32 tu] 48)) p xs) := ⟨hA.row.below hb0, fun x hx => by
    have h := hA.each x hx
    exact ⟨h.row.below hb0, h.r, h.s, h.cap, h.nil, h.len⟩⟩
  have HR := Lib.hid hr
  have HM := Lib.hid hm
  clear hA hb0 hr hm
  go_enter Try.func4, Try.ntmps4
  go_wp2_with fail
  generalize (w.alloc (.cells #[.int .u16 r, .int .u32 fr, .int .u32 tu] 48)) = w0 at HB0 HG0 HAR ⊢
  generalize w.heap.size = G at HG0 ⊢
  refine (anchor12_any HL w0).mono ?_
  rintro e w1 ⟨rfl, hb1⟩
  have HB1 := Lib.hid hb1
  obtain ⟨y0, y1, y2⟩ := three_cellsL (kept_boxL HG0.out hb1)
  have HBW : Hid (∀ W, Below w0.heap.size w0 W → Below w.heap.size w W) := fun W hb => HB0.out.trans (hb.mono HB0.out.size)
  clear hb1
  by_cases h200 : 200 < xs.length
  · have hd : decide ((200 : Int) < (xs.length : Int)) = true := by simp; omega
    have hxi : (200 : Int) < (xs.length : Int) := by omega
    have HE := Lib.hid (HBW.out _ HB1.out)
    go_wp2
    go_ret
    exact ⟨rfl, HE.out⟩
  have hd : decide ((200 : Int) < (xs.length : Int)) = false := by simp; omega
  have hxi : ¬ (200 : Int) < (xs.length : Int) := by omega
  by_cases hgap : fr < tu ∧ 1000 < tu - fr
  · have e1 : decide (fr < tu) = true := decide_eq_true hgap.1
    have e0 : fr < tu := hgap.1
    have e2 : IntKind.u32.wrap (tu - fr) = tu - fr := by rw [IntKind.wrap_u32]; omega
    have e3 : (1000 : Int) < tu - fr := hgap.2
    have e4 : decide ((1000 : Int) < tu - fr) = true := decide_eq_true e3
    have HE := Lib.hid (HBW.out _ HB1.out)
    clear hgap
    go_wp2
    go_ret
    exact ⟨rfl, HE.out⟩
  have hto : tu ≤ fr + 1000 := by omega
  have HTO := Lib.hid hto
  have HCD : Hid (fr < tu → IntKind.u32.wrap (tu - fr) = tu - fr ∧ ¬ (1000 : Int) < tu - fr) := fun h => ⟨by rw [IntKind.wrap_u32]; omega, by omega⟩
  obtain ⟨S0, hB0', hS0⟩ := HL.zero w1
  have HZ : Hid (LgJ Lg w0 w1.heap.size [] (.slice none 0 0) (w1.alloc (.cells #[.map none, .slice none 0 0, .int .i64 0] 31))) := ⟨S0, hB0', fun k hk => Nat.le_trans HB1.out.size (hS0 k hk), below_alloc HB1.out _, World.ownsRow_nil _ _ _ _⟩
  clear hB0' hS0 hgap hto
  have HRF : Hid (∀ (l : List Lm) q d W, Below w0.heap.size w0 W → GRow layL W q l → l.length ≤ 200 → Calls Try.prog 13 #[.slice q l.length d, .int .u16 r, .int .u32 fr, .int .u32 tu, .int .i64 most] W (Gave layX W (replyL l r fr tu most))) := fun l q d W hb hq hl => refreplyL_any l r fr tu most q d W hq (by omega) hf ht
  have HRY : Hid (∀ S K l W, Lg S K l W → l.length ≤ 200 → Calls Try.prog 12 #[.pointer (some ⟨K, 0, none⟩), .agg #[.int .u16 r, .int .u32 fr, .int .u32 tu], .int .i64 most] W fun e w' => ∃ q d, e = .returned (.slice q (replyL l r fr tu most).length d) ∧ MoreB w' q (replyL l r fr tu most) ∧ Below W.heap.size W w') := fun S K l W h1 h2 => HL.reply S K l W r fr tu most h1 HR.out hf ht HTO.out HM.out h2
  obtain ⟨i0, hi, hz0, hz1, hz2⟩ := info_parts infoL12
  by_cases hlt0 : fr < tu
  all_goals
    first
    | (have e1 : decide (fr < tu) = true := decide_eq_true hlt0
       obtain ⟨e2, e3⟩ := HCD.out hlt0
       have e4 : decide ((1000 : Int) < tu - fr) = false := decide_eq_false e3)
    | (have e1 : decide (fr < tu) = false := decide_eq_false hlt0)
    clear HCD
    go_wp2_with fail
    generalize (w1.alloc (.cells #[.map none, .slice none 0 0, .int .i64 0] 31)) = w3 at HZ ⊢
    generalize w1.heap.size = K at HZ ⊢
    go_loopg [8, 36] xs.length (fun g v i wr => ∃ k : Nat, k ≤ xs.length ∧ xs.length - k ≤ g ∧ i = .int .i64 (k : Int) ∧ LgJ Lg w0 K (putsG (xs.take k)) v wr)
    case atStart => exact ⟨0, Nat.zero_le _, by omega, rfl, HZ.out⟩
    case round =>
      clear HZ y0 y1 y2
      obtain ⟨k, hk, hg, rfl, hlg⟩ := hrel
      have HLG := Lib.hid hlg
      clear hlg
      obtain ⟨S, hlog, hSg, hbr, hown⟩ := HLG.out
      have hfirm : FirmG S wr (fun W => Below w0.heap.size w0 W) := FirmG.base hbr hSg
      have HBR := Lib.hid hbr
      have hpl : (putsG (xs.take k)).length ≤ 200 := by have := putsG_len (xs.take k); rw [List.length_take] at this; omega
      by_cases hlt : k < xs.length
      · have hkl : (k : Int) < (xs.length : Int) := by omega
        have hin := HAR.out.each _ (getD_mem u0P hlt)
        obtain ⟨b, o, rfl, c0, c1, c2⟩ := urow_at (HAR.out.row.below HBR.out) hlt
        have HNX := Lib.hid (putsG_step xs hlt)
        generalize xdef : xs.getD k u0P = X at c0 c1 c2 hin HNX
        clear xdef
        generalize putsG (xs.take k) = l at HNX hlog hown hpl
        obtain ⟨xr, xq, xb, xp, xc⟩ := X
        simp only at c0 c1 c2 hin
        have HBX : Hid (Below wr.heap.size wr (wr.alloc (.cells #[.int .u16 xr, .int .u32 xq, .slice xp xb.length xc] 35))) := below_alloc (Below.refl _ _) _
        have HZX := Lib.hid (heap_alloc_new wr (.cells #[.int .u16 xr, .int .u32 xq, .slice xp xb.length xc] 35))
        have hxbl := hin.len
        by_cases h500 : 500 < xb.length
        · have hd5 : (500 : Int) < (xb.length : Int) := by omega
          have HE := Lib.hid (HBW.out _ (below_step HBR.out HBX.out))
          clear hlog hfirm hown hSg hbr
          go_wp2
          go_ret
          exact ⟨rfl, HE.out⟩
        have hd5 : ¬ (500 : Int) < (xb.length : Int) := by omega
        have hnb : ¬ S wr.heap.size := fun hs => by have := HL.lt _ _ _ _ hlog _ hs; omega
        have HPT := Lib.hid (HL.put S K l _ ⟨xr, xq, xb⟩ xp xc (HL.below _ _ _ _ _ hlog HBX.out) ((hfirm.below HBX.out).mono fun W hb => hin.row.below hb) hin.r hin.s (by simp only; omega) hin.cap hin.nil hpl)
        have HST : Hid (∀ S' w5, StepG S S' (wr.alloc (.cells #[.int .u16 xr, .int .u32 xq, .slice xp xb.length xc] 35)) w5 → (∀ j, S' j → w0.heap.size ≤ j) ∧ Below w0.heap.size w0 w5 ∧ w5.ownsRow w0.heap.size 40 3 u8 l.length (layL.flat l) ∧ w5.heap[wr.heap.size]? = some (.cells #[.int .u16 xr, .int .u32 xq, .slice xp xb.length xc] 35 (0, 0)) ∧ BRow w5 xp xb) := fun S' w5 hst => by
          have ho1 := hown.alloc (.cells #[.int .u16 xr, .int .u32 xq, .slice xp xb.length xc] 35)
          have hlg1 := HL.below _ _ _ _ _ hlog HBX.out
          refine ⟨fun j hj => (by
            rcases Nat.lt_or_ge j (wr.alloc (.cells #[.int .u16 xr, .int .u32 xq, .slice xp xb.length xc] 35)).heap.size with h1 | h1
            · exact hSg j (hst.new j h1 hj)
            · exact Nat.le_trans (below_step hbr HBX.out).size h1), ((hfirm.below HBX.out).step hst).now, own_kept ho1 hst.kept (fun j hj hs => ?_), hst.kept.stays HZX.out hnb, hin.row.below ((hfirm.below HBX.out).step hst).now⟩
          obtain ⟨cs, f, hc⟩ := own_kind ho1 j hj
          exact HL.others _ _ _ _ hlg1 j hs _ _ _ hc rfl
        clear hlog hfirm hown hnb hSg hbr
        go_wp2_with fail
        refine HPT.out.mono ?_
        rintro e w5 ⟨rfl, S', hlog5, hst5⟩
        obtain ⟨hs5, hb5, ho5, hz5, hr5⟩ := HST.out S' w5 hst5
        obtain ⟨z0, z1, z2⟩ := three_cellsL hz5
        cases hkp : keptL l xr xq with
        | true =>
          have HN : Hid (LgJ Lg w0 K (putsG (xs.take (k + 1))) u8 w5) := by
            have e9 : putG l (PutV.m ⟨xr, xq, xb, xp, xc⟩) = l := by unfold putG PutV.m; simp only [hkp]; rfl
            show LgJ _ _ _ _ _ _
            rw [HNX.out, e9]
            have h5 : putG l ⟨xr, xq, xb⟩ = l := e9
            rw [h5] at hlog5
            exact ⟨S', hlog5, hs5, hb5, ho5⟩
          clear hlog5 hst5 hs5 hb5 ho5 hz5 hr5 HPT HST HNX
          rw [if_pos rfl]
          go_wp2
          go_roundg (xs.length - (k + 1))
          case measure => omega
          case rel => exact ⟨k + 1, by omega, Nat.le_refl _, by go_num, HN.out⟩
        | false =>
          have e9 : putG l (PutV.m ⟨xr, xq, xb, xp, xc⟩) = l ++ [⟨xr, xq, xb⟩] := by unfold putG PutV.m; simp only [hkp]; rfl
          have h5 : putG l ⟨xr, xq, xb⟩ = l ++ [⟨xr, xq, xb⟩] := e9
          rw [h5] at hlog5
          have hcv : (convert 33 9 (.slice xp xb.length xc)).run Try.prog w5 = .ok (.string ⟨xb.toArray⟩) w5 := conv_any hr5 rfl
          have HLO := Lib.hid hlog5
          have HOW := Lib.hid ho5
          have HB5 := Lib.hid hb5
          have HS5 := Lib.hid hs5
          clear hlog5 hst5 hs5 hb5 ho5 hz5 hr5 HPT HST
          rw [if_neg Bool.false_ne_true]
          go_wp2_with (first
            | (at_builtin; refine wpList_append_own _ rfl (.tmp 50) (.tmp 61) 32 rfl w0.heap.size 40 i0 (.agg #[.int .u16 0, .int .u32 0, .string ⟨#[]⟩]) 3 24 Try.underlying32 hi hz0 hz1 hz2 rfl (by decide) _ l.length (layL.flat l) rfl (HOW.out.alloc _) ⟨w5.heap.size, 0, none⟩ 1 1 [.int .u16 xr, .int .u32 xq, .string ⟨xb.toArray⟩] rfl rfl (cells_new (cs := [.int .u16 xr, .int .u32 xq, .string ⟨xb.toArray⟩])) (layL.one ⟨xr, xq, xb⟩) (by unfold maxLen; omega) (by omega) (by have := HB5.out.size; simp; omega) ?_))
          intro v' w7 hown7 hgrow _
          have HN : Hid (LgJ Lg w0 K (putsG (xs.take (k + 1))) v' w7) := by
            have ha := (HOW.out.alloc (.cells #[.int .u16 xr, .int .u32 xq, .string ⟨xb.toArray⟩] 40))
            have hba : Below w5.heap.size w5 (w5.alloc (.cells #[.int .u16 xr, .int .u32 xq, .string ⟨xb.toArray⟩] 40)) := below_alloc (Below.refl _ _) _
            show LgJ _ _ _ _ _ _
            rw [HNX.out, e9]
            refine ⟨S', HL.apart S' K _ _ w7 u8.ownBlock (HL.below _ _ _ _ _ HLO.out hba) (own_kind ha) (Kept.ofGrown hgrow (fun j h => h)), HS5.out, (below_step HB5.out hba).grown hgrow (below_step HB5.out hba).size (fun j hj => (ha.lt j hj).1), ?_⟩
            rw [List.length_append, layL.flat_append, layL.flat_one]
            exact hown7
          clear hown7 hgrow HLO HOW HB5 HS5 HNX
          go_wp2
          go_roundg (xs.length - (k + 1))
          case measure => omega
          case rel => exact ⟨k + 1, by omega, Nat.le_refl _, by go_num, HN.out⟩
      · have : k = xs.length := by omega
        subst this
        have hkl : ¬ (xs.length : Int) < (xs.length : Int) := by omega
        rw [List.take_length] at hlog hown hpl
        obtain ⟨q, d, rfl, -, hG, -, -⟩ := grow_owns layL_pos hown
        have HRY1 : Hid (∀ W, Below wr.heap.size wr W → Calls Try.prog 12 #[.pointer (some ⟨K, 0, none⟩), .agg #[.int .u16 r, .int .u32 fr, .int .u32 tu], .int .i64 most] W fun e w' => ∃ q d, e = .returned (.slice q (replyL (putsG xs) r fr tu most).length d) ∧ MoreB w' q (replyL (putsG xs) r fr tu most) ∧ Below W.heap.size W w') := fun W hb => HRY.out S K (putsG xs) W (HL.below _ _ _ _ _ hlog hb) hpl
        have HRF1 : Hid (∀ W, Below wr.heap.size wr W → Calls Try.prog 13 #[.slice q (putsG xs).length d, .int .u16 r, .int .u32 fr, .int .u32 tu, .int .i64 most] W (Gave layX W (replyL (putsG xs) r fr tu most))) := fun W hb => HRF.out (putsG xs) q d W (below_step hbr hb) (hG.below hb) hpl
        have hgb := kept_boxL HG0.out hbr
        have HGB := Lib.hid hgb
        obtain ⟨g0', g1', g2'⟩ := three_cellsL hgb
        have g0 := cell_regrown g0'
        have g1 := cell_regrown g1'
        have g2 := cell_regrown g2'
        have hRLn := replyL_len (putsG xs) r fr tu most
        generalize replyL (putsG xs) r fr tu most = RL at HRY1 HRF1 hRLn
        have HRLN := Lib.hid hRLn
        clear hRLn
        clear hlog hown hSg hbr hfirm hG HRY HRF hgb g0' g1' g2' HLG
        go_wp2_with fail
        refine wp_region_mixG_below [(true, 0), (true, 1), (true, 3), (true, 4), (true, 5), (true, 6), (true, 7), (true, 8), (true, 9), (true, 10), (false, 2), (false, 11), (false, 12)] [13] (by kernel_rfl) (by kernel_rfl) (fun _ _ d _ _ h => by cases d <;> exact h) ?_
        simp only [pickOps, pickG, List.filterMap_cons, List.filterMap_nil, List.getElem?_cons_zero, List.getElem?_cons_succ, Option.map_some]
        iterate 10
          refine seqG_quiet ?_
          first | go_big_quiet_step (fail) | quiet_step (fail)
          refine wpQuiet_nil ?_
        clear g0 g1 g2
        refine seqG_step fun KK hK => ?_
        go_wp2_with fail
        refine (HRY1.out _ (by first | exact Below.refl _ _ | exact (Below.refl _ _).drew)).mono ?_
        rintro e w5 ⟨q5, d5, rfl, hm5, hb5⟩
        have HB5 : Hid (Below wr.heap.size wr w5) := by first | exact hb5 | exact below_of_drew hb5
        have HM5 := Lib.hid hm5
        clear hm5 hb5
        go_wp2_with fail
        refine hK _ _ (regrown_of_below HB5.out) ?_
        clear hK KK
        refine seqG_step fun KK hK => ?_
        go_wp2_with fail
        refine (HRF1.out _ (HB5.out)).mono ?_
        rintro e w6 ⟨q6, d6, rfl, hx6, -, -, hb6⟩
        have HB6 := Lib.hid (below_step HB5.out hb6)
        have HX6 := Lib.hid hx6
        have HM6 := Lib.hid (HM5.out.below hb6)
        clear hx6 hb6 HM5 HB5
        go_wp2_with fail
        refine hK _ _ (regrown_of_below HB6.out) ?_
        clear hK KK
        refine seqG_step fun KK hK => ?_
        go_wp2_with fail
        refine hK _ _ (regrown_of_below HB6.out) ?_
        clear hK KK
        refine seqG_nil ?_
        have HBF := Lib.hid (below_step HBR.out HB6.out)
        clear HRY1 HRF1 HB6 HGB
        go_wp2_with fail
        go_loopg [83] RL.length (fun g i wr => ∃ k : Nat, k ≤ RL.length ∧ RL.length - k ≤ g ∧ i = .int .i64 (k : Int) ∧ Below w6.heap.size w6 wr)
        case atStart => exact ⟨0, Nat.zero_le _, by rw [Nat.sub_zero]; exact Nat.le_refl _, rfl, Below.refl _ _⟩
        case round =>
          clear hk hg hlt hkl
          obtain ⟨k, hk, hg, rfl, hb⟩ := hrel
          have HB := Lib.hid hb
          clear hb
          by_cases hlt : k < RL.length
          · have hkl : (k : Int) < (RL.length : Int) := by omega
            have hRLn := HRLN.out
            obtain ⟨b1, o1, pp, pc, rfl, h1, h2⟩ := (HM6.out.below HB.out) k hlt
            obtain ⟨b2, o2, rfl, h3⟩ := xrow_at (HX6.out.below HB.out) hlt
            generalize RL.getD k [] = bb at h1 h2 h3
            have hcv : ∀ n, (convert 33 9 (.slice pp bb.length pc)).run Try.prog (wr.drewN n) = .ok (.string ⟨bb.toArray⟩) (wr.drewN n) := fun n => conv_any (h2.below (below_drewN (Below.refl _ _) n)) rfl
            clear h2
            go_wp2_with fail
            go_quiet (fail)
            go_wp2
            go_roundg (RL.length - (k + 1))
            case measure => omega
            case rel => exact ⟨k + 1, by omega, Nat.le_refl _, by go_num, below_drewN HB.out _⟩
          · have : k = RL.length := by omega
            subst this
            have hkl : ¬ (RL.length : Int) < (RL.length : Int) := Int.lt_irrefl _
            have HE := Lib.hid (HBW.out _ (below_step HBF.out HB.out))
            go_wp2
            go_ret
            exact ⟨rfl, HE.out⟩
end Go.Proofs.Ytafhjccghbpbbaa
