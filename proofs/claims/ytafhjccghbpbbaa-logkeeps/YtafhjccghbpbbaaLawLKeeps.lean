
/-
  LogKeeps, over a log's calls as premises. No conditions beyond what each theorem states.
-/
import Derived.Test.YtafhjccghbpbbaaLawLReplies
import Derived.Test.YtafhjccghbpbbaaRoundQuiet
import Derived.Shelf.Abstract
import Derived.Shelf.RegionOpen
import Derived.WalkKit
import Derived.OwnWalkIn
import Derived.TacticsInMore
import Derived.LoopNIn
import Derived.LoopIn
import Derived.Deep.DeepCutAuto
namespace Go.Proofs.Ytafhjccghbpbbaa
open Go.ChangeShapes Go.WideShapes Go.ChangeAt Go.RowKit Go.Lib
set_option linter.unusedVariables false
set_option linter.unusedSimpArgs false
attribute [local go_sem] Oper.semAt_some

theorem load_boolLK {w : World} {a : Addr} {b : Bool} (h : w.cell? a = some (.bool b)) : (loadVar 4 a).run Try.prog w = .ok (.bool b) w := by
  simp [go_sem, loadVar, Try.underlying4, h]
theorem results_cLK {P : Program} {fn : Func} {p : Tmp} {ty : TypeId} (h : fn.results = #[.cell p ty]) (tmps : Array Value) (w : World) (a : Addr) (va : Value)
    (hp : tmps.getD p undef = .pointer (some a)) (la : (loadVar ty a).run P w = .ok va w) : (results fn tmps).run P w = .ok va w := by
  have hp' : tmps[p]?.getD undef = .pointer (some a) := by simpa using hp
  simp [results, h, hp', asAddr, la]
/-- The ways out. -/
structure OutLK (n : Nat) (w : World) (G : Nat) (Q : Exit → Act → World → Prop) : Prop where
  plain : ∀ (a : Act) (W : World), a.defers = [] → a.tmps.getD 6 undef = .pointer (some ⟨G, 0, none⟩) → W.cell? ⟨G, 0, none⟩ = some (.bool true) → Below w.heap.size w W → Q .ret a W
  mark : ∀ (a : Act) (W : World) (D : Nat), a.defers = [{ target := .collected D, args := #[] }] → a.tmps.getD 6 undef = .pointer (some ⟨G, 0, none⟩) → W.cell? ⟨G, 0, none⟩ = some (.bool true) → Below w.heap.size w W → w.heap.size ≤ D → W.heap[D]? = some (.deferred (some [])) → Q .ret a W
theorem outLK (n : Nat) (w : World) (G : Nat) : OutLK n w G (bodyPostM Fence.wide n Try.prog Try.f3 fun e w' => e = .returned (.bool true) ∧ Below w.heap.size w w') where
  plain a W h1 h2 h3 h4 := by
    show LeavesInM _ _ _ _ _ _ a.defers _ _
    rw [h1]
    exact ⟨_, results_cLK rfl _ _ _ _ h2 (load_boolLK h3), rfl, h4⟩
  mark a W D h1 h2 h3 h4 h5 h6 := by
    show LeavesInM _ _ _ _ _ _ a.defers _ _
    rw [h1]
    have hc : (W.putObj D (.deferred none)).cell? ⟨G, 0, none⟩ = some (.bool true) := by
      refine (cell_kept h3 (grownBy_putObj' W D (.deferred none)) fun r e => ?_)
      cases e
      exact ⟨_, h6, rfl⟩
    refine ⟨by simp, .inl ⟨_, _, rfl, run_takeDeferred h6, ?_⟩⟩
    exact ⟨_, results_cLK rfl _ _ _ _ h2 (load_boolLK hc), rfl, h4.trans (belowK_b (w := w) (Nat.le_refl _) _ _ _ _ h5 h6 rfl rfl)⟩
theorem OutLK.ret {n : Nat} {w W : World} {G : Nat} {Q : Exit → Act → World → Prop} {t : TypeId} {v : Value} (h : OutLK n w G Q) (hc : W.heap[G]? = some (.cells #[v] t (0, 0))) (hb : Below w.heap.size w W) (hG : w.heap.size ≤ G) : ∀ a : Act, a.defers = [] → a.tmps.getD 6 undef = .pointer (some ⟨G, 0, none⟩) → Q .ret a (W.setCell ⟨G, 0, none⟩ (.bool true)) := fun a h1 h2 =>
  h.plain a _ h1 h2 (World.cell?_setCell_same' _ _ _ (by rw [cell_of_block hc]; rfl)) (hb.setCell (p := ⟨G, 0, none⟩) hG _)
/-- The log and the document's list keep the same; the list lies in a box. -/
def LkJ (Lg : (Nat → Prop) → Nat → List Lm → World → Prop) (w0 : World) (K B : Nat) (l : List Lm) (w : World) : Prop := ∃ S v, Lg S K l w ∧ (∀ k, S k → w0.heap.size ≤ k) ∧ Below w0.heap.size w0 w ∧ w.heap[B]? = some (.cells #[v] 32 (0, 0)) ∧ w.ownsRow w0.heap.size 40 3 v l.length (layL.flat l)
theorem one_cellLK {w : World} {B : Nat} {a : Value} {t : TypeId} (h : w.heap[B]? = some (.cells #[a] t (0, 0))) : w.cell? ⟨B, 0, none⟩ = some a ∧ w.frozen? ⟨B, 0, none⟩ = false :=
  ⟨by rw [cell_of_block h]; rfl, by simp [World.frozen?, h]⟩
theorem two_cellsLK {w : World} {B : Nat} {a b : Value} {t : TypeId} (h : w.heap[B]? = some (.cells #[a, b] t (0, 0))) : w.cell? ⟨B, 0, none⟩ = some a ∧ w.cell? ⟨B, 1, none⟩ = some b :=
  ⟨by rw [cell_of_block h]; rfl, by rw [cell_of_block h]; rfl⟩
theorem sizeL_snoc (l : List Lm) (x : Lm) : sizeL (l ++ [x]) = sizeL l + x.b.length := by
  unfold sizeL
  rw [List.foldl_append]
  rfl
theorem set_boxLK {w : World} {B B' : Nat} {cs : Array Value} {v : Value} {t : TypeId} (h : w.heap[B]? = some (.cells cs t (0, 0))) (hn : B ≠ B') : (w.setCell ⟨B', 0, none⟩ v).heap[B]? = some (.cells cs t (0, 0)) := by
  have hk : Kept (fun k => k = B') w (w.setCell ⟨B', 0, none⟩ v) := Kept.set (S := fun k => k = B') (Kept.refl _ w) rfl v
  exact hk.stays h hn
theorem set_sameLK {w : World} {B : Nat} {u v : Value} {t : TypeId} (h : w.heap[B]? = some (.cells #[u] t (0, 0))) : (w.setCell ⟨B, 0, none⟩ v).heap[B]? = some (.cells #[v] t (0, 0)) := by
  have := heap_setCell_same w B 0 _ t v h
  simpa using this
set_option maxHeartbeats 6400000 in
set_option maxRecDepth 20000 in
theorem logkeeps_any {Lg : (Nat → Prop) → Nat → List Lm → World → Prop} (HL : LogSpec Lg) (xs : List PutV) (r s stop : Int) (p : Option Addr) (c : Nat) (w : World) (hA : ArgU w p xs) (hr : 0 ≤ r ∧ r ≤ 65535) (hs : 0 ≤ s ∧ s ≤ 4294967295) (hst : -9223372036854775808 ≤ stop ∧ stop ≤ 9223372036854775807) (hxl : xs.length ≤ 17592186043904) :
    Calls Try.prog 3 #[.slice p xs.length c, .agg #[.int .u16 r, .int .u32 s], .int .i64 stop] w fun e w' => e = .returned (.bool true) ∧ Below w.heap.size w w' := by
  have HO := Lib.hid (outLK 9 w (w.heap.size + 2))
  refine (callsIn_wide (n := 9)).1 (callsIn_of_wp_marks Try.func3 rfl trivial (wpIn_wide.2 ?_) rfl)
  simp only [Try.ntmps3, List.size_toArray, List.length_cons, List.length_nil, Nat.reduceAdd, Nat.reduceSub, Array.replicate_succ, Array.replicate_zero, List.push_toArray, List.append_toArray, List.nil_append, List.cons_append]
  generalize (bodyPostM Fence.wide 9 Try.prog Try.f3 fun e w' => e = .returned (.bool true) ∧ Below w.heap.size w w') = Q at HO ⊢
  obtain ⟨w0, hw0⟩ : ∃ w0, w0 = ((w.alloc (.cells #[.int .u16 r, .int .u32 s] 26)).alloc (.cells #[.int .i64 stop] 3)).alloc (.cells #[.bool false] 4) := ⟨_, rfl⟩
  have hb0 : Below w.heap.size w w0 := by rw [hw0]; exact below_alloc (below_alloc (below_alloc (Below.refl _ _) _) _) _
  have HZ0 : Hid (w0.heap.size = w.heap.size + 3) := by show _ = _; rw [hw0]; simp
  have hB1 : w0.heap[w.heap.size]? = some (.cells #[.int .u16 r, .int .u32 s] 26 (0, 0)) := by
    rw [hw0]
    exact kept_boxL (kept_boxL (heap_alloc_new w _) (below_alloc (Below.refl _ _) _)) (below_alloc (Below.refl _ _) _)
  have hB2 : w0.heap[w.heap.size + 1]? = some (.cells #[.int .i64 stop] 3 (0, 0)) := by
    rw [hw0]
    have h := heap_alloc_new (w.alloc (.cells #[.int .u16 r, .int .u32 s] 26)) (.cells #[.int .i64 stop] 3)
    rw [World.size_alloc] at h
    exact kept_boxL h (below_alloc (Below.refl _ _) _)
  have hB3 : w0.heap[w.heap.size + 2]? = some (.cells #[.bool false] 4 (0, 0)) := by
    rw [hw0]
    have h := heap_alloc_new ((w.alloc (.cells #[.int .u16 r, .int .u32 s] 26)).alloc (.cells #[.int .i64 stop] 3)) (.cells #[.bool false] 4)
    rw [World.size_alloc, World.size_alloc] at h
    exact h
  have HB0 := Lib.hid hb0
  have HB1 := Lib.hid hB1
  have HB2 := Lib.hid hB2
  have HB3 := Lib.hid hB3
  have HAR : Hid (ArgU w0 p xs) := ⟨hA.row.below hb0, fun x hx => by
    have h := hA.each x hx
    exact ⟨h.row.below hb0, h.r, h.s, h.cap, h.nil, h.len⟩⟩
  have HR := Lib.hid hr
  have HS := Lib.hid hs
  have HT := Lib.hid hst
  clear hA hb0 hB1 hB2 hB3 hr hs hst
  go_wp2_with fail
  rw [← hw0]
  clear hw0
  refine (anchor12_any HL w0).mono ?_
  rintro e w1 ⟨rfl, hb1⟩
  have HBA := Lib.hid hb1
  clear hb1
  have HBW : Hid (∀ W, Below w0.heap.size w0 W → Below w.heap.size w W) := fun W hb => HB0.out.trans (hb.mono HB0.out.size)
  have HRT : Hid (∀ W, Below w0.heap.size w0 W → ∀ a : Act, a.defers = [] → a.tmps.getD 6 undef = .pointer (some ⟨w.heap.size + 2, 0, none⟩) → Q .ret a (W.setCell ⟨w.heap.size + 2, 0, none⟩ (.bool true))) := fun W hb => HO.out.ret (kept_boxL HB3.out hb) (HBW.out _ hb) (by omega)
  have HRB : Hid (∀ W, Below w0.heap.size w0 W → W.cell? ⟨w.heap.size + 2, 0, none⟩ = some (.bool false) ∧ W.frozen? ⟨w.heap.size + 2, 0, none⟩ = false) := fun W hb => one_cellLK (kept_boxL HB3.out hb)
  have hq := HRB.out _ HBA.out
  obtain ⟨hq1, hq2⟩ := hq
  by_cases h200 : 200 < xs.length
  · have hxi : (200 : Int) < (xs.length : Int) := by omega
    go_wp2
    (try simp only [Exit.inBlock, Exit.then])
    exact HRT.out _ HBA.out _ rfl rfl
  have hxi : ¬ (200 : Int) < (xs.length : Int) := by omega
  obtain ⟨S0, hL0, hS0⟩ := HL.zero w1
  have HZ : Hid (LkJ Lg w0 w1.heap.size (w1.heap.size + 1) [] ((w1.alloc (.cells #[.map none, .slice none 0 0, .int .i64 0] 31)).alloc (.cells #[.slice none 0 0] 32))) := by
    refine ⟨S0, .slice none 0 0, HL.below _ _ _ _ _ hL0 (below_alloc (Below.refl _ _) _), fun k hk => Nat.le_trans HBA.out.size (hS0 k hk), below_alloc (below_alloc HBA.out _) _, ?_, World.ownsRow_nil _ _ _ _⟩
    have h := heap_alloc_new (w1.alloc (.cells #[.map none, .slice none 0 0, .int .i64 0] 31)) (.cells #[.slice none 0 0] 32)
    rw [World.size_alloc] at h
    exact h
  have HKB : Hid (w0.heap.size ≤ w1.heap.size + 1) := by have := HBA.out.size; show _ ≤ _; omega
  clear hL0 hS0 hq1 hq2
  obtain ⟨i0, hi, hz0, hz1, hz2⟩ := info_parts infoL12
  go_wp2_with fail
  generalize ((w1.alloc (.cells #[.map none, .slice none 0 0, .int .i64 0] 31)).alloc (.cells #[.slice none 0 0] 32)) = w3 at HZ ⊢
  generalize hKK : w1.heap.size = K at HZ HKB ⊢
  clear hKK
  go_loopg [9, 26] xs.length (fun g z i wr => ∃ k : Nat, k ≤ xs.length ∧ xs.length - k ≤ g ∧ i = .int .i64 (k : Int) ∧ z = .int .i64 (sizeL (putsG (xs.take k)) : Int) ∧ sizeL (putsG (xs.take k)) ≤ 500 * k ∧ LkJ Lg w0 K (K + 1) (putsG (xs.take k)) wr)
  case atStart => exact ⟨0, Nat.zero_le _, by rw [Nat.sub_zero]; exact Nat.le_refl _, rfl, rfl, Nat.le_refl _, HZ.out⟩
  case round =>
    clear HZ
    obtain ⟨k, hk, hg, rfl, rfl, hsz, hlg⟩ := hrel
    have HLG := Lib.hid hlg
    clear hlg
    obtain ⟨S, v8, hlog, hSg, hbr, h8, hown⟩ := HLG.out
    have hfirm : FirmG S wr (fun W => Below w0.heap.size w0 W) := FirmG.base hbr hSg
    have HBR := Lib.hid hbr
    have hpl : (putsG (xs.take k)).length ≤ 200 := by have := putsG_len (xs.take k); rw [List.length_take] at this; omega
    by_cases hlt : k < xs.length
    · have hkl : (k : Int) < (xs.length : Int) := by omega
      clear HLG
      have hin := HAR.out.each _ (getD_mem u0P hlt)
      obtain ⟨b, o, rfl, c0, c1, c2⟩ := urow_at (HAR.out.row.below HBR.out) hlt
      have HNX := Lib.hid (putsG_step xs hlt)
      generalize xdef : xs.getD k u0P = X at c0 c1 c2 hin HNX
      clear xdef
      generalize putsG (xs.take k) = l at HNX hlog hown hpl hsz ⊢
      obtain ⟨xr, xq, xb, xp, xc⟩ := X
      simp only at c0 c1 c2 hin
      have HBX : Hid (Below wr.heap.size wr (wr.alloc (.cells #[.int .u16 xr, .int .u32 xq, .slice xp xb.length xc] 35))) := below_alloc (Below.refl _ _) _
      have HZX := Lib.hid (heap_alloc_new wr (.cells #[.int .u16 xr, .int .u32 xq, .slice xp xb.length xc] 35))
      have hxbl := hin.len
      by_cases h500 : 500 < xb.length
      · have hd5 : (500 : Int) < (xb.length : Int) := by omega
        have HE := Lib.hid (HRT.out _ (below_step HBR.out HBX.out))
        obtain ⟨hq1, hq2⟩ := HRB.out _ (below_step HBR.out HBX.out)
        clear hlog hfirm hown hSg hbr
        go_wp2
        (try simp only [Exit.inBlock, Exit.then])
        exact HE.out _ rfl rfl
      have hd5 : ¬ (500 : Int) < (xb.length : Int) := by omega
      have hnb : ¬ S wr.heap.size := fun hs => by have := HL.lt _ _ _ _ hlog _ hs; omega
      have hn8 : ¬ S (K + 1) := fun hs => HL.othersK _ _ _ _ hlog _ hs _ _ _ h8 (Or.inr (Or.inl rfl))
      have HNE : Hid (K + 1 < wr.heap.size) := lt_of_block h8
      have HPT := Lib.hid (HL.put S K l _ ⟨xr, xq, xb⟩ xp xc (HL.below _ _ _ _ _ hlog HBX.out) ((hfirm.below HBX.out).mono fun W hb => hin.row.below hb) hin.r hin.s (by simp only; omega) hin.cap hin.nil hpl)
      have HST : Hid (∀ S' w5, StepG S S' (wr.alloc (.cells #[.int .u16 xr, .int .u32 xq, .slice xp xb.length xc] 35)) w5 → (∀ j, S' j → w0.heap.size ≤ j) ∧ Below w0.heap.size w0 w5 ∧ w5.ownsRow w0.heap.size 40 3 v8 l.length (layL.flat l) ∧ w5.heap[wr.heap.size]? = some (.cells #[.int .u16 xr, .int .u32 xq, .slice xp xb.length xc] 35 (0, 0)) ∧ BRow w5 xp xb ∧ w5.heap[K + 1]? = some (.cells #[v8] 32 (0, 0))) := fun S' w5 hst => by
        have ho1 := hown.alloc (.cells #[.int .u16 xr, .int .u32 xq, .slice xp xb.length xc] 35)
        have hlg1 := HL.below _ _ _ _ _ hlog HBX.out
        refine ⟨fun j hj => (by
          rcases Nat.lt_or_ge j (wr.alloc (.cells #[.int .u16 xr, .int .u32 xq, .slice xp xb.length xc] 35)).heap.size with h1 | h1
          · exact hSg j (hst.new j h1 hj)
          · exact Nat.le_trans (below_step hbr HBX.out).size h1), ((hfirm.below HBX.out).step hst).now, own_kept ho1 hst.kept (fun j hj hs => ?_), hst.kept.stays HZX.out hnb, hin.row.below ((hfirm.below HBX.out).step hst).now, hst.kept.stays (kept_boxL h8 HBX.out) hn8⟩
        obtain ⟨cs, f, hc⟩ := own_kind ho1 j hj
        exact HL.others _ _ _ _ hlg1 j hs _ _ _ hc rfl
      obtain ⟨zl, hzl⟩ : ∃ zl, zl = sizeL l := ⟨_, rfl⟩
      rw [← hzl] at hsz ⊢
      have HZL := Lib.hid hzl
      clear hzl
      clear hlog hfirm hown hnb hn8 hSg hbr h8
      go_wp2_with fail
      refine HPT.out.mono ?_
      rintro e w5 ⟨rfl, S', hlog5, hst5⟩
      obtain ⟨hs5, hb5, ho5, hz5, hr5, h85⟩ := HST.out S' w5 hst5
      obtain ⟨z0, z1, z2⟩ := three_cellsL hz5
      obtain ⟨q8, d8, rfl, -, hG8, -, -⟩ := grow_owns layL_pos ho5
      obtain ⟨y8, f8⟩ := one_cellLK h85
      have HAT := Lib.hid (refat_any l xr xq q8 d8 w5 hG8 (by omega))
      cases hp2 : placeL l xr xq with
      | some i =>
        have hkp : keptL l xr xq = true := by unfold keptL; rw [hp2]; rfl
        have hpi : placeI l xr xq = (i : Int) := by unfold placeI; rw [hp2]
        rw [hpi] at HAT
        have hi0 : (0 : Int) ≤ (i : Int) := by omega
        have e9 : putG l ⟨xr, xq, xb⟩ = l := by unfold putG; simp only [hkp]; rfl
        have HN : Hid (putsG (xs.take (k + 1)) = l ∧ LkJ Lg w0 K (K + 1) l w5) := by
          rw [e9] at hlog5
          exact ⟨HNX.out.trans e9, S', _, hlog5, hs5, hb5, h85, ho5⟩
        clear hlog5 hst5 hs5 hb5 ho5 hz5 hr5 HPT HST HNX h85 hG8 e9 hpi hp2
        rw [if_pos hkp]
        clear hkp
        go_wp2_with fail
        refine HAT.out.mono ?_
        rintro e w6 ⟨rfl, he6⟩
        obtain rfl := Eq.symm he6
        clear HAT
        go_wp2
        go_roundg (xs.length - (k + 1))
        case measure => omega
        case rel => exact ⟨k + 1, by omega, Nat.le_refl _, by go_num, by rw [HN.out.1, HZL.out], by rw [HN.out.1, ← HZL.out]; omega, by rw [HN.out.1]; exact HN.out.2⟩
      | none =>
        have hkp : keptL l xr xq = false := by unfold keptL; rw [hp2]; rfl
        have hpi : placeI l xr xq = -1 := by unfold placeI; rw [hp2]
        rw [hpi] at HAT
        have e9 : putG l ⟨xr, xq, xb⟩ = l ++ [⟨xr, xq, xb⟩] := by unfold putG; simp only [hkp]; rfl
        have HNE2 : Hid (putsG (xs.take (k + 1)) = l ++ [⟨xr, xq, xb⟩]) := HNX.out.trans e9
        rw [e9] at hlog5
        have hcv : (convert 33 9 (.slice xp xb.length xc)).run Try.prog w5 = .ok (.string ⟨xb.toArray⟩) w5 := conv_any hr5 rfl
        have HLO := Lib.hid hlog5
        have HOW := Lib.hid ho5
        have HB5 := Lib.hid hb5
        have HS5 := Lib.hid hs5
        have HZ5 := Lib.hid hz5
        have H85 := Lib.hid h85
        clear hlog5 hst5 hs5 hb5 ho5 hz5 hr5 HPT HST HNX h85 hG8 e9 hpi hp2
        rw [if_neg (by rw [hkp]; exact Bool.false_ne_true)]
        clear hkp
        go_wp2_with fail
        refine HAT.out.mono ?_
        rintro e w6 ⟨rfl, he6⟩
        obtain rfl := Eq.symm he6
        clear HAT
        go_wp2_with (first
          | (at_builtin; refine wpList_append_own _ rfl (.tmp 50) (.tmp 61) 32 rfl w0.heap.size 40 i0 (.agg #[.int .u16 0, .int .u32 0, .string ⟨#[]⟩]) 3 24 Try.underlying32 hi hz0 hz1 hz2 rfl (by decide) _ l.length (layL.flat l) rfl (HOW.out.alloc _) ⟨w5.heap.size, 0, none⟩ 1 1 [.int .u16 xr, .int .u32 xq, .string ⟨xb.toArray⟩] rfl rfl (cells_new (cs := [.int .u16 xr, .int .u32 xq, .string ⟨xb.toArray⟩])) (layL.one ⟨xr, xq, xb⟩) (by unfold maxLen; omega) (by omega) (by have := HB5.out.size; simp; omega) ?_))
        intro v' w7 hown7 hgrow _
        obtain ⟨q9, d9, rfl⟩ := owns_slice hown7
        have HXR : Hid (Below w5.heap.size w5 (w5.alloc (.cells #[.int .u16 xr, .int .u32 xq, .string ⟨xb.toArray⟩] 40))) := below_alloc (Below.refl _ _) _
        have ha := HOW.out.alloc (.cells #[.int .u16 xr, .int .u32 xq, .string ⟨xb.toArray⟩] 40)
        have h8a := kept_boxL H85.out HXR.out
        have hzx := kept_boxL HZ5.out HXR.out
        have hne : ∀ j, Value.ownBlock (.slice q8 l.length d8) = some j → j ≠ K + 1 ∧ j ≠ wr.heap.size := fun j hj => by
          obtain ⟨cs, f, hc⟩ := own_kind ha j hj
          refine ⟨fun e => ?_, fun e => ?_⟩
          · rw [e, h8a] at hc
            have h2 := Option.some.inj hc
            simp at h2
          · rw [e, hzx] at hc
            have h2 := Option.some.inj hc
            simp at h2
        have h87 : w7.heap[K + 1]? = some (.cells #[.slice q8 l.length d8] 32 (0, 0)) := (hgrow.block _ (lt_of_block h8a) (fun e => (hne _ e.symm).1 rfl)).trans h8a
        have hz7 : w7.heap[wr.heap.size]? = some (.cells #[.int .u16 xr, .int .u32 xq, .slice xp xb.length xc] 35 (0, 0)) := (hgrow.block _ (lt_of_block hzx) (fun e => (hne _ e.symm).2 rfl)).trans hzx
        have hb7 : Below w0.heap.size w0 w7 := (below_step HB5.out HXR.out).grown hgrow (below_step HB5.out HXR.out).size (fun j hj => (ha.lt j hj).1)
        have hl7 := HL.apart S' K _ _ w7 _ (HL.below _ _ _ _ _ HLO.out HXR.out) (own_kind ha) (Kept.ofGrown hgrow (fun j h => h))
        have hk8 : Kept (fun k => k = K + 1) w7 (w7.setCell ⟨K + 1, 0, none⟩ (.slice q9 (l.length + 1) d9)) := Kept.set (S := fun k => k = K + 1) (Kept.refl _ w7) rfl (.slice q9 (l.length + 1) d9)
        have HN : Hid (LkJ Lg w0 K (K + 1) (l ++ [⟨xr, xq, xb⟩]) (w7.setCell ⟨K + 1, 0, none⟩ (.slice q9 (l.length + 1) d9))) := by
          refine ⟨S', (.slice q9 (l.length + 1) d9), HL.apartK S' K _ _ _ _ hl7 (fun k e => ?_) hk8, HS5.out, hb7.setCell (p := ⟨K + 1, 0, none⟩) HKB.out _, set_sameLK h87, ?_⟩
          · cases e
            exact ⟨_, _, _, h87, Or.inr (Or.inl rfl)⟩
          · have ho7 : w7.ownsRow w0.heap.size 40 3 (.slice q9 (l.length + 1) d9) (l ++ [(⟨xr, xq, xb⟩ : Lm)]).length (layL.flat (l ++ [⟨xr, xq, xb⟩])) := by
              rw [List.length_append, layL.flat_append, layL.flat_one]
              exact hown7
            refine own_kept ho7 hk8 (fun j hj e => ?_)
            obtain ⟨cs, f, hc⟩ := own_kind ho7 j hj
            rw [e, h87] at hc
            have h2 := Option.some.inj hc
            simp at h2
        obtain ⟨y8', f8'⟩ := one_cellLK h87
        obtain ⟨-, -, z2'⟩ := three_cellsL (set_boxLK (B := wr.heap.size) (B' := K + 1) (v := .slice q9 (l.length + 1) d9) hz7 (by have := HNE.out; omega))
        clear hown7 hgrow HLO HOW HB5 HS5 HZ5 H85 ha h8a hzx hne h87 hz7 hb7 hl7 hk8 y8 f8 z0 z1 z2 HXR hcv
        go_wp2
        go_roundg (xs.length - (k + 1))
        case measure => omega
        case rel => exact ⟨k + 1, by omega, Nat.le_refl _, by go_num, by rw [HNE2.out, sizeL_snoc, ← HZL.out]; go_num, by rw [HNE2.out, sizeL_snoc, ← HZL.out]; simp only; omega, by rw [HNE2.out]; exact HN.out⟩
    · have : k = xs.length := by omega
      subst this
      have hkl : ¬ (xs.length : Int) < (xs.length : Int) := Int.lt_irrefl _
      rw [List.take_length] at hlog hown hpl hsz ⊢
      clear HLG
      generalize putsG xs = l at hlog hown hpl hsz ⊢
      obtain ⟨q8, d8, rfl, -, hG8, -, -⟩ := grow_owns layL_pos hown
      have HLG : Hid (∀ W, Below wr.heap.size wr W → Lg S K l W ∧ GRow layL W q8 l ∧ W.heap[K + 1]? = some (.cells #[.slice q8 l.length d8] 32 (0, 0)) ∧ Below w0.heap.size w0 W) := fun W hb => ⟨HL.below _ _ _ _ _ hlog hb, hG8.below hb, kept_boxL h8 hb, below_step hbr hb⟩
      have HGT := Lib.hid (HL.get S K l wr r s hlog HR.out HS.out hpl)
      have hpk := kept_boxL HB1.out hbr
      obtain ⟨p0, p1⟩ := two_cellsLK hpk
      clear hlog hown hSg hbr hfirm hG8 h8 HBR hpk hg hk hlt
      go_wp2_with fail
      refine HGT.out.mono ?_
      rintro e w5 ⟨p3, c3, rfl, hr3, hb3⟩
      clear HGT p0 p1
      have HB3' := Lib.hid hb3
      have HR3 := Lib.hid hr3
      obtain ⟨hlg5, hg5, h85, hb5⟩ := HLG.out w5 hb3
      obtain ⟨y8, f8⟩ := one_cellLK h85
      obtain ⟨p0, p1⟩ := two_cellsLK (kept_boxL HB1.out hb5)
      have HAT := Lib.hid (refat_any l r s q8 d8 w5 hg5 (by omega))
      have HLN : Hid (∀ W, Below w5.heap.size w5 W → Calls Try.prog 9 #[.pointer (some ⟨K, 0, none⟩)] W fun e w' => e = .returned (.int .i64 (l.length : Int)) ∧ Below W.heap.size W w') := fun W hb => HL.len S K l W (HLG.out _ (below_step hb3 hb)).1 hpl
      have HSZ : Hid (∀ W, Below w5.heap.size w5 W → Calls Try.prog 10 #[.pointer (some ⟨K, 0, none⟩)] W fun e w' => e = .returned (.int .i64 (sizeL l : Int)) ∧ Below W.heap.size W w') := fun W hb => HL.size S K l W (HLG.out _ (below_step hb3 hb)).1 hpl
      clear hlg5 hg5 h85 hb5 hb3 hr3
      go_wp2_with fail
      refine HAT.out.mono ?_
      rintro e w6 ⟨rfl, he6⟩
      obtain rfl := Eq.symm he6
      clear HAT p0 p1
      have y8r := cell_regrown y8
      go_upto_region 24 with fail
      go_cut [13, 14, 15, 118] from 71 to 118 (fun s13 s14 s15 s118 wx => s118 = .bool false ∧ Below w5.heap.size w5 wx)
      case first =>
        cases hp2 : placeL l r s
        case' some i =>
          obtain ⟨hil, -⟩ := placeL_some hp2
          have hkp : keptL l r s = true := by unfold keptL; rw [hp2]; rfl
          have hpi : placeI l r s = (i : Int) := by unfold placeI; rw [hp2]
          have hgl : gotL l r s = (l.getD i l0L).b := by unfold gotL; rw [hp2]
          rw [hpi, hkp, hgl]
          rw [hgl] at HR3
          have hi0 : (0 : Int) ≤ (i : Int) := by omega
          have hii : (i : Int) < (l.length : Int) := by omega
          obtain ⟨b9, o9, rfl, -, -, c2⟩ := lrow_at (HLG.out w5 HB3'.out).2.1 hil
          have c2r := cell_regrown c2
          generalize (l.getD i l0L).b = bb at c2 c2r HR3 ⊢
          have hcv : ∀ d os, (convert 33 9 (.slice p3 bb.length c3)).run Try.prog (Go.Sort.grow (redrawn w5 d) os) = .ok (.string ⟨bb.toArray⟩) (Go.Sort.grow (redrawn w5 d) os) := fun d os => conv_any (HR3.out.below (below_regrown _ _ _)) rfl
          clear hpi hkp hgl hp2 hil c2 y8
        case' none =>
          have hkp : keptL l r s = false := by unfold keptL; rw [hp2]; rfl
          have hpi : placeI l r s = -1 := by unfold placeI; rw [hp2]
          have hgl : gotL l r s = [] := by unfold gotL; rw [hp2]
          rw [hpi, hkp, hgl]
          clear hpi hkp hgl hp2 y8
        all_goals
          go_wp2_with fail
          refine wp_region_quiet_below (by kernel_rfl) (by kernel_rfl) ?_
          repeat (first
            | go_big_quiet_step ((go_at_call 9; exact Calls.regrown_of (HLN.out _ (below_regrown _ _ _))))
            | quiet_step ((go_at_call 9; exact Calls.regrown_of (HLN.out _ (below_regrown _ _ _))))
            | go_big_quiet_step ((go_at_call 10; exact Calls.regrown_of (HSZ.out _ (below_regrown _ _ _))))
            | quiet_step ((go_at_call 10; exact Calls.regrown_of (HSZ.out _ (below_regrown _ _ _)))))
          refine wpQuiet_nil ?_
          intro w7 hw'
          have HB7' : Hid (Below w5.heap.size w5 w7) := by obtain ⟨⟨dq, osq⟩, rfl⟩ := hw'; exact below_regrown _ _ _
          clear hw'
          go_wp2_with fail
          go_meet
          case rel => exact ⟨rfl, HB7'.out⟩
      case rest =>
        obtain ⟨rfl, hbx⟩ := hcut
        have HB7 := Lib.hid (below_step HB3'.out hbx)
        clear hbx y8r y8 f8 HLN HSZ HR3 HB3'
        generalize wc = w7 at HB7 ⊢
        obtain ⟨hlg7, hg7, h87, hb7⟩ := HLG.out w7 HB7.out
        have HSB : Hid (w.heap.size + 1 < w7.heap.size) := lt_of_block (kept_boxL HB2.out hb7)
        have HSB3 : Hid (w.heap.size + 3 ≤ w7.heap.size) := by have h1 := HZ0.out; have h2 := hb7.size; show _ ≤ _; omega
        have HBN : Hid (Below w7.heap.size w7 (w7.alloc (.cells #[.int .i64 0] 3))) := below_alloc (Below.refl _ _) _
        have HNB := Lib.hid (heap_alloc_new w7 (.cells #[.int .i64 0] 3))
        have HAL := Lib.hid (HL.all S K l _ (HL.below _ _ _ _ _ hlg7 HBN.out) hpl)
        clear hlg7 hg7 h87 hb7
        go_wp2_with fail
        refine HAL.out.mono ?_
        rintro e w9 ⟨hb9, gf, lb, rfl, hent, hseq⟩
        have HSQ := Lib.hid hseq
        have HB9 := Lib.hid (below_step HBN.out hb9)
        have HNB9 := Lib.hid (kept_boxL HNB.out hb9)
        have HLT : Hid (w7.heap.size < w9.heap.size) := lt_of_block HNB9.out
        have HFN : Hid (∀ D W, w9.heap.size ≤ D → Below w0.heap.size w0 W → W.heap[D]? = some (.deferred (some [])) → ∀ a : Act, a.defers = [{ target := .collected D, args := #[] }] → a.tmps.getD 6 undef = .pointer (some ⟨w.heap.size + 2, 0, none⟩) → Q .ret a (W.setCell ⟨w.heap.size + 2, 0, none⟩ (.bool true))) := fun D W hD hb hdf a h1 h2 => by
          have h3 := HSB3.out
          have h4 := HLT.out
          exact HO.out.mark a _ D h1 h2 (World.cell?_setCell_same' _ _ _ (by rw [(HRB.out W hb).1]; rfl)) ((HBW.out _ hb).setCell (p := ⟨w.heap.size + 2, 0, none⟩) (by show _ ≤ w.heap.size + 2; omega) _) (by omega) ((Below.heap_setCell _ _ _ _ (by show _ ≠ w.heap.size + 2; omega)).trans hdf)
        clear hseq hb9 HNB HBN
        go_wp2_with fail
        refine (wpIn_wide (n := 9)).1 ?_
        refine wpIn_rangeTells (F := Fence.wide) rfl (by omega) rfl trivial hent (HSQ.out (fun k => k = w7.heap.size) 8 w9 (by omega) (Below.refl _ _) (fun k e => by cases e; exact ⟨_, _, heap_alloc_new w7 _⟩)) (fun _ => rfl)
          (fun pre W => W.heap[w7.heap.size]? = some (.cells #[.int .i64 (pre.length : Int)] 3 (0, 0)) ∧ Below w7.heap.size w7 W)
          (fun c pre W => (c = .exit 2 ∧ (pre.length : Int) = stop) ∧ W.heap[w7.heap.size]? = some (.cells #[.int .i64 (pre.length : Int)] 3 (0, 0)) ∧ Below w7.heap.size w7 W)
          ((ownFrom_block HLT.out (fun pre : List PutV => .cells #[.int .i64 (pre.length : Int)] 3 (0, 0))).and (ownFrom_below (Nat.le_refl _) (Nat.le_of_lt HLT.out)))
          (fun c => (ownFrom_pure _ (fun pre : List PutV => c = .exit 2 ∧ (pre.length : Int) = stop)).and ((ownFrom_block HLT.out (fun pre : List PutV => .cells #[.int .i64 (pre.length : Int)] 3 (0, 0))).and (ownFrom_below (Nat.le_refl _) (Nat.le_of_lt HLT.out))))
          ⟨HNB9.out, HB9.out⟩ ?round ?done ?stop
        case round =>
          rintro l2 pre x W hle ⟨ob, hob, hoc⟩ ⟨hn, hbw⟩ ⟨hpm, hpl2, hxm, hxr⟩
          gi_wp2
          refine ⟨KeepsFrom.of_grownBy (World.grownBy_alloc W _ none) (fun j e => by cases e), RoundK.alloc (RoundK.refl _ _ _) _, ?_⟩
          intro W2 hg2
          have hl2 := (Array.getElem?_eq_some_iff.1 hob).1
          have hba : Below W.heap.size W (W.alloc (.cells #[.int .u16 x.r, .int .u32 x.s] 26)) := below_alloc (Below.refl _ _) _
          have hx0 := heap_alloc_new W (.cells #[.int .u16 x.r, .int .u32 x.s] 26)
          have hob0 : (W.alloc (.cells #[.int .u16 x.r, .int .u32 x.s] 26)).heap[l2]? = some ob := by rw [hba.block _ hl2]; exact hob
          have keep : ∀ k o, (W.alloc (.cells #[.int .u16 x.r, .int .u32 x.s] 26)).heap[k]? = some o → k ≠ l2 → W2.heap[k]? = some o := fun k o h hne => (hg2.block k (Array.getElem?_eq_some_iff.1 h).1 (fun e => hne (Option.some.inj e))).trans h
          have HX2 := Lib.hid (keep _ _ hx0 (by omega))
          have HN2 := Lib.hid (keep _ _ (kept_boxL hn hba) (by have := HLT.out; omega))
          have HBB2 : Hid (Below w7.heap.size w7 W2) := (below_step hbw hba).grown hg2 (below_step hbw hba).size (fun k e => by cases e; have := HLT.out; omega)
          have HXR : Hid (BRow W2 x.p x.b) := fun i hi => by
            obtain ⟨b, o, e, hc⟩ := (hxr.below hba) i hi
            exact ⟨b, o, e, cell_kept hc hg2 (fun r e => by cases e; exact ⟨_, hob0, hoc⟩)⟩
          obtain ⟨-, hg9, h89, hb9⟩ := HLG.out W2 (below_step HB7.out HBB2.out)
          obtain ⟨b9, o9, e9, c0, c1, c2⟩ := lrow_at hg9 hpl2
          cases e9
          rw [← hxm] at c0 c1 c2
          obtain ⟨x0, x1⟩ := two_cellsLK HX2.out
          obtain ⟨n0, n1⟩ := one_cellLK HN2.out
          obtain ⟨y8, f8⟩ := one_cellLK h89
          simp only [PutV.m] at c0 c1 c2
          obtain ⟨s0, s1⟩ := one_cellLK (kept_boxL HB2.out hb9)
          have hpi : (pre.length : Int) < (l.length : Int) := by omega
          have hcv : ∀ m, (convert 33 9 (.slice x.p x.b.length x.c)).run Try.prog (W2.drewN m) = .ok (.string ⟨x.b.toArray⟩) (W2.drewN m) := fun m => conv_any (HXR.out.below (below_drewN (Below.refl _ _) m)) rfl
          have HFIN : Hid (∀ m (v : Int), v = (pre.length : Int) + 1 → KeepsFrom w9.heap.size W2 ((W2.drewN m).setCell ⟨w7.heap.size, 0, none⟩ (.int .i64 v)) ∧ RoundK (fun k => k = w7.heap.size) l2 W2 ((W2.drewN m).setCell ⟨w7.heap.size, 0, none⟩ (.int .i64 v)) ∧ ((W2.drewN m).setCell ⟨w7.heap.size, 0, none⟩ (.int .i64 v)).heap[w7.heap.size]? = some (.cells #[.int .i64 ((pre ++ [x]).length : Int)] 3 (0, 0)) ∧ Below w7.heap.size w7 ((W2.drewN m).setCell ⟨w7.heap.size, 0, none⟩ (.int .i64 v))) := fun m v hv => by
            have hd : (W2.drewN m).heap = W2.heap := rfl
            have hk1 : KeepsFrom w9.heap.size W2 (W2.drewN m) := ⟨by rw [hd]; exact Nat.le_refl _, fun k o _ h _ => by rw [hd]; exact h⟩
            refine ⟨hk1.trans ((KeepsOthers.setCell _ _ _).from _), RoundK.set (N := fun k => k = w7.heap.size) (Kept.ofBelow (below_drewN (Below.refl _ _) m)) rfl _, ?_, (below_drewN HBB2.out m).setCell (p := ⟨w7.heap.size, 0, none⟩) (Nat.le_refl _) _⟩
            have hn3 : (W2.drewN m).heap[w7.heap.size]? = some (.cells #[.int .i64 (pre.length : Int)] 3 (0, 0)) := HN2.out
            rw [set_sameLK hn3, hv, List.length_append]
            rfl
          clear hx0 hob0 keep hg9 h89 hb9 hba hxr hn hbw
          gi_wp2
          refine wpIn_round_quiet (by kernel_rfl) (by kernel_rfl) (by kernel_rfl) (by rintro ⟨a, W, h⟩; exact h) ?_
          iterate 29
            (first | go_big_quiet_step (fail) | quiet_step (fail))
          refine wpQuiet_nil ?_
          rintro w11 ⟨m, rfl⟩
          have hnle : ¬ l.length ≤ pre.length := by omega
          simp only [hnle, decide_false]
          have hne : w.heap.size + 1 ≠ w7.heap.size := by have := HSB.out; omega
          have hne' : w7.heap.size ≠ w.heap.size + 1 := by have := HSB.out; omega
          have hp0 : (0 : Int) ≤ (pre.length : Int) := by omega
          have hp9 : (pre.length : Int) < 200 := by omega
          clear hcv hpi y8 f8 x0 x1 c0 c1 c2 hnle hpm hpl2 hxm
          by_cases hst : (pre.length : Int) + 1 = stop
          · have hbq : ((pre.length : Int) + 1 == stop) = true := beq_iff_eq.2 hst
            have HF := Lib.hid (HFIN.out m stop hst.symm)
            clear HFIN
            gi_wp2
            exact ⟨HF.out.1, ⟨rfl, by rw [← hst]; simp⟩, HF.out.2.2.1, HF.out.2.2.2⟩
          · have hbq : ((pre.length : Int) + 1 == stop) = false := beq_eq_false_iff_ne.2 hst
            have HF := Lib.hid (HFIN.out m ((pre.length : Int) + 1) rfl)
            clear HFIN
            gi_wp2
            exact HF.out
        case done =>
          rintro D ys W hD hS ⟨hn, hbw⟩ hdf
          have hlen : (ys.length : Int) = (l.length : Int) := by rw [← hS, List.length_map]
          rw [hlen] at hn
          obtain ⟨n0, n1⟩ := one_cellLK hn
          obtain ⟨-, -, h8W, hbW⟩ := HLG.out W (below_step HB7.out hbw)
          obtain ⟨y8, f8⟩ := one_cellLK h8W
          obtain ⟨s0, s1⟩ := one_cellLK (kept_boxL HB2.out hbW)
          obtain ⟨hq1, hq2⟩ := HRB.out _ hbW
          have HE := Lib.hid (HFN.out D W hD hbW hdf)
          clear hS hlen HSQ hent hdf hD hn hbw h8W hbW
          go_wp2
          (try simp only [Exit.inBlock, Exit.then])
          exact HE.out _ rfl rfl
        case stop =>
          rintro D c2 pre W hD - ⟨⟨rfl, hst⟩, hn, hbw⟩ hdf
          rw [hst] at hn
          obtain ⟨n0, n1⟩ := one_cellLK hn
          obtain ⟨-, -, h8W, hbW⟩ := HLG.out W (below_step HB7.out hbw)
          obtain ⟨y8, f8⟩ := one_cellLK h8W
          obtain ⟨s0, s1⟩ := one_cellLK (kept_boxL HB2.out hbW)
          obtain ⟨hq1, hq2⟩ := HRB.out _ hbW
          have HE := Lib.hid (HFN.out D W hD hbW hdf)
          clear HSQ hent hdf hD hn hbw h8W hbW hst
          refine (wpIn_wide (n := 9)).2 ?_
          by_cases hsl : stop = (l.length : Int)
          · have hbq : (stop == (l.length : Int)) = true := beq_iff_eq.2 hsl
            go_wp2
            (try simp only [Exit.inBlock, Exit.then])
            exact HE.out _ rfl rfl
          · have hbq : (stop == (l.length : Int)) = false := beq_eq_false_iff_ne.2 hsl
            go_wp2
            (try simp only [Exit.inBlock, Exit.then])
            exact HE.out _ rfl rfl
end Go.Proofs.Ytafhjccghbpbbaa
