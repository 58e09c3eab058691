
/-
  What the landed log's All hands back, and what its iterator tells. No conditions beyond what each theorem states.
-/
import Derived.Test.YtafhjccghbpbbaaLogProg1
import Derived.Test.YtafhjccghbpbbaaMixIn
import Derived.Shelf.Abstract
import Derived.WalkKit
import Derived.OwnWalkIn
import Derived.TacticsInMore
import Derived.LoopNIn
import Derived.LoopIn
namespace Go.Proofs.Ytafhjccghbpbbaa
open Go.ChangeShapes Go.WideShapes Go.ChangeAt Go.RowKit Go.Lib
set_option linter.unusedVariables false
set_option linter.unusedSimpArgs false

theorem nrow_at {w : World} {p : Option Addr} {xs : List Lm} (h : GRow layN w p xs) {i : Nat} (hi : i < xs.length) : ∃ b o, p = some ⟨b, o, none⟩ ∧ w.cell? ⟨b, o + i * 2, none⟩ = some (.int .u16 (xs.getD i l0L).r) ∧ w.cell? ⟨b, o + i * 2 + 1, none⟩ = some (.int .u32 (xs.getD i l0L).s) := by
  obtain ⟨b, o, rfl, h0⟩ := h.cell l0L (j := 0) hi rfl
  obtain ⟨b1, o1, e1, h1⟩ := h.cell l0L (j := 1) hi rfl
  cases e1
  exact ⟨b, o, rfl, h0, h1⟩
theorem grown_below {w w' : World} (hb : Below w.heap.size w w') : w.grownBy w' none := ⟨hb.os, hb.tape, hb.output, hb.size, fun k hk _ => hb.block k hk⟩
theorem one_cellG {w : World} {B : Nat} {a : Value} {t : TypeId} (h : w.heap[B]? = some (.cells #[a] t (0, 0))) : w.cell? ⟨B, 0, none⟩ = some a := by rw [cell_of_block h]; rfl
theorem pair_cellsG {w : World} {B : Nat} {a b : Value} {t : TypeId} (h : w.heap[B]? = some (.cells #[a, b] t (0, 0))) : w.cell? ⟨B, 0, none⟩ = some a ∧ w.cell? ⟨B, 1, none⟩ = some b :=
  ⟨by rw [cell_of_block h]; rfl, by rw [cell_of_block h]; rfl⟩
/-- The blocks that a round may write. -/
def RndN (N : Nat → Prop) (lp k : Nat) : Prop := N k ∨ k = lp ∨ k + 1 = lp
set_option maxHeartbeats 6400000 in
set_option maxRecDepth 20000 in
theorem iter_any (N : Nat → Prop) (n : Nat) (S : Nat → Prop) (K : Nat) (l : List Lm) (mo : Option Nat) (q : Option Addr) (d : Nat) (w2 : World) (B1 B2 : Nat) (h : LgM S K l mo (.slice q l.length d) w2) (hb1 : w2.heap[B1]? = some (.cells #[.slice q l.length d] 29 (0, 0))) (hb2 : w2.heap[B2]? = some (.cells #[.pointer (some ⟨K, 0, none⟩)] 54 (0, 0))) (hN : ∀ k, N k → ∃ cs f, w2.heap[k]? = some (.cells cs 3 f)) (hl : l.length ≤ 200) :
    SeqTells Fence.wide n Try.prog 15 #[.pointer (some ⟨B1, 0, none⟩), .pointer (some ⟨B2, 0, none⟩)] (fun x : PutV => #[.agg #[.int .u16 x.r, .int .u32 x.s], .slice x.p x.b.length x.c]) N (toldL l) (fun ys => ys.map PutV.m = l) (fun _ => True) w2 := by
  intro lp J Jx W hlp hW hJ hJx hY h0
  have HST : Hid (∀ wr, Kept (RndN N lp) w2 wr → LgM S K l mo (.slice q l.length d) wr ∧ wr.heap[B1]? = some (.cells #[.slice q l.length d] 29 (0, 0)) ∧ wr.heap[B2]? = some (.cells #[.pointer (some ⟨K, 0, none⟩)] 54 (0, 0))) := fun wr hk => by
    have hout : ∀ k, RndN N lp k → ∀ cs t f, w2.heap[k]? = some (.cells cs t f) → t = 3 := fun k hn cs t f hc => by
      rcases hn with hn | hn
      · obtain ⟨cs', f', hc'⟩ := hN k hn
        rw [hc] at hc'
        simp only [Option.some.injEq, Obj.cells.injEq] at hc'
        exact hc'.2.1
      · have := lt_of_block hc
        omega
    refine ⟨h.keptN hk (fun k hs hn => ?_) (fun k hn cs f hc => ?_), hk.stays hb1 (fun e => ?_), hk.stays hb2 (fun e => ?_)⟩
    · rcases hn with hn | hn
      · obtain ⟨cs, f, hc⟩ := hN k hn
        exact h.apart hc (by decide) (by decide) hs
      · have := h.lt k hs
        omega
    · exact absurd (hout k hn _ _ _ hc) (by decide)
    · exact absurd (hout _ e _ _ _ hb1) (by decide)
    · exact absurd (hout _ e _ _ _ hb2) (by decide)
  have HW : Hid (Kept (RndN N lp) w2 W) := Kept.ofBelow hW
  obtain ⟨-, hb1W, hb2W⟩ := HST.out W HW.out
  have y1 := one_cellG hb1W
  refine callsIn_of_wp Try.func15 rfl trivial ?_ rfl
  simp only [Try.ntmps15, List.size_toArray, List.length_cons, List.length_nil, Nat.reduceAdd, Nat.reduceSub, Array.replicate_succ, Array.replicate_zero, List.push_toArray, List.append_toArray, List.nil_append, List.cons_append]
  clear hb1W hb2W hb1 hb2 hN h
  gi_wp2
  clear y1
  gi_loopw [8] (fun i wr => ∃ (k : Nat) (pre : List PutV), k ≤ l.length ∧ i = .int .i64 (k : Int) ∧ pre.length = k ∧ pre.map PutV.m = l.take k ∧ J pre wr ∧ Kept (RndN N lp) w2 wr) (fun i _ => l.length - natOf i)
  case atStart => exact ⟨0, [], Nat.zero_le _, rfl, rfl, by simp, h0, HW.out⟩
  case round =>
    obtain ⟨k, pre, hk, rfl, hpl, hpm, hJs, hKp⟩ := hrel
    obtain ⟨hL, hb1, hb2⟩ := HST.out _ hKp
    by_cases hlt : k < l.length
    · have hkl : (k : Int) < (l.length : Int) := by omega
      have hk0 : (0 : Int) ≤ (k : Int) := by omega
      obtain ⟨q', d', e', -, hG, -, -⟩ := grow_owns layN_pos hL.names
      cases e'
      obtain ⟨b, o, rfl, c0, c1⟩ := nrow_at hG hlt
      have hfx := hL.fit _ (getD_mem l0L hlt)
      obtain ⟨hgk, -⟩ := gotL_some (hL.one k hlt)
      obtain ⟨pl, dl, hrow, hbl, hlook⟩ := look_any hL.map hL.fit hL.one hfx.r hfx.s false
      rw [hgk] at hrow hbl hlook
      have HTK := Lib.hid (take_getD l0L hlt)
      obtain ⟨X, hX⟩ : ∃ X, X = l.getD k l0L := ⟨_, rfl⟩
      have HLX := Lib.hid hX
      rw [← hX] at c0 c1 hfx hrow hbl hlook HTK
      clear hX hgk
      obtain ⟨xr, xs, xb⟩ := X
      simp only at c0 c1 hrow hbl hlook
      unfold keyL at hlook
      have HBX : Hid (Below wr.heap.size wr (wr.alloc (.cells #[.int .u16 xr, .int .u32 xs] 26))) := below_alloc (Below.refl _ _) _
      have HX := Lib.hid (heap_alloc_new wr (.cells #[.int .u16 xr, .int .u32 xs] 26))
      obtain ⟨k0, -, -⟩ := three_cellsG (kept_boxG hL.head HBX.out)
      obtain ⟨z0, z1⟩ := pair_cellsG HX.out
      have y2 := one_cellG (kept_boxG hb2 HBX.out)
      have k0r := cell_regrown k0
      have z0r := cell_regrown z0
      have z1r := cell_regrown z1
      have y2r := cell_regrown y2
      have hlk : (Instr.lookup 28 (.map mo) (.agg #[.int .u16 xr, .int .u32 xs]) false).run Try.prog (wr.alloc (.cells #[.int .u16 xr, .int .u32 xs] 26)).drew = .ok (.slice pl xb.length dl) (wr.alloc (.cells #[.int .u16 xr, .int .u32 xs] 26)).drew := hlook _ (fun M e => by
        subst e
        show (wr.alloc _).heap[M]? = _
        exact HBX.out.block M (MapL.lt hL.map))
      have HCL : Hid (∀ W, Below wr.heap.size wr W → Calls Try.prog 14 #[.slice pl xb.length dl] W fun e w' => ∃ p' c', e = .returned (.slice p' xb.length c') ∧ RowB w' p' c' xb ∧ Below W.heap.size W w') := fun W hb => cloneL_any _ _ _ W (hrow.row.below hb) hrow.nil (by omega)
      have HTD : Hid (∀ p5 d5 w5, Below wr.heap.size wr w5 → BRow w5 p5 xb → YieldAt Fence.wide (n - 1) Try.prog lp #[.agg #[.int .u16 xr, .int .u32 xs], .slice p5 xb.length d5] w5 fun e W' => (e = .returned (.bool true) ∧ J (pre ++ [⟨xr, xs, xb, p5, d5⟩]) W' ∧ RoundK N lp w5 W') ∨ (e = .returned (.bool false) ∧ Jx (pre ++ [⟨xr, xs, xb, p5, d5⟩]) W')) := fun p5 d5 w5 hb hr => hY pre ⟨xr, xs, xb, p5, d5⟩ w5 (hJ pre wr w5 none hJs (grown_below hb) (fun r e => by cases e)) ⟨by rw [hpl]; exact hpm, by omega, by rw [hpl]; exact HLX.out, hr⟩
      have HKP := Lib.hid hKp
      have HPM : Hid ((pre.map PutV.m) ++ [⟨xr, xs, xb⟩] = l.take (k + 1)) := by rw [hpm]; exact HTK.out.symm
      have HPL : Hid (pre.length = k ∧ k < l.length) := ⟨hpl, hlt⟩
      clear hY hJ hJx h0 hW hL hb1 hb2 hG hfx hrow hbl hlook k0 z0 z1 y2 hJs hpm hKp HLX HTK hpl hlt
      gi_wp2
      refine wpIn_region_mixR [0, 1, 2, 3, 4, 5, 6] [7, 8] [9, 10] (by kernel_rfl) (by kernel_rfl) ?_
      simp only [pickOps, List.filterMap_cons, List.filterMap_nil, List.getElem?_cons_zero, List.getElem?_cons_succ]
      repeat (first | go_big_quiet_step (fail) | quiet_step (fail))
      refine wpQuiet_nil ?_
      clear k0r z0r z1r y2r c0 c1
      refine seqR_step fun K2 hK2 => ?_
      go_wp2_with fail
      refine hK2 _ _ (regrown_of_below (by first | exact (Below.refl _ _).drew | exact Below.refl _ _)) ?_
      clear hK2 K2 hlk
      refine seqR_step fun K2 hK2 => ?_
      go_wp2_with fail
      refine (HCL.out _ (by first | exact below_drewN HBX.out 1 | exact HBX.out)).mono ?_
      rintro e w5 ⟨p5, d5, rfl, hr5, hb5⟩
      have HB5 : Hid (Below (wr.alloc (.cells #[.int .u16 xr, .int .u32 xs] 26)).heap.size (wr.alloc (.cells #[.int .u16 xr, .int .u32 xs] 26)) w5) := below_of_drew hb5
      have HR5 := Lib.hid hr5
      clear hr5 hb5 HCL
      go_wp2_with fail
      refine hK2 _ _ (regrown_of_below HB5.out) ?_
      clear hK2 K2
      refine seqR_nil ?_
      have HB6 : Hid (Below wr.heap.size wr w5) := below_step HBX.out HB5.out
      obtain ⟨fn, tmps, assign, body, hy, hR⟩ := HTD.out p5 d5 w5 HB6.out HR5.out.row
      clear HTD HR5 HX HBX HB5
      gi_wp2
      refine ⟨fun e => (by cases e), hR.mono ?_⟩
      clear hR hy
      rintro e W3 (⟨rfl, hJ3, hk3⟩ | ⟨rfl, hJx3⟩)
      · have HJ3 := Lib.hid hJ3
        have HK3 : Hid (Kept (RndN N lp) w2 W3) := ((HKP.out.trans (T := fun _ => False) (Kept.ofBelow HB6.out) (fun _ _ f => f.elim)).trans (show Kept (RndN N lp) w5 W3 from hk3) (fun _ _ f => f))
        clear hJ3 hk3 HKP HB6
        gi_wp2
        go_roundw
        case rel => exact ⟨k + 1, pre ++ [⟨xr, xs, xb, p5, d5⟩], by have := HPL.out.2; omega, by go_num, by rw [List.length_append, HPL.out.1]; rfl, by rw [List.map_append]; exact HPM.out, HJ3.out, HK3.out⟩
        case measure => simp only [natOf]; have := HPL.out.2; simp; omega
      · have HJ3 := Lib.hid hJx3
        clear hJx3 HKP HB6
        gi_wp2
        refine bodyPost_ret (results_none rfl _ _ _) rfl ?_
        exact ⟨⟨_, rfl⟩, .inr ⟨_, trivial, HJ3.out⟩⟩
    · have : k = l.length := by omega
      subst this
      have hkl : ¬ (l.length : Int) < (l.length : Int) := Int.lt_irrefl _
      rw [List.take_length] at hpm
      clear hL hb1 hb2
      gi_wp2
      go_end0
      exact ⟨⟨_, rfl⟩, .inl ⟨pre, hpm, hJs⟩⟩
set_option maxHeartbeats 3200000 in
theorem all_anyL (S : Nat → Prop) (K : Nat) (l : List Lm) (w : World) (h : Lgg S K l w) (hl : l.length ≤ 200) : Calls Try.prog 11 #[.pointer (some ⟨K, 0, none⟩)] w fun e w' => Below w.heap.size w w' ∧ ∃ gf lb, e = .returned (.func (.func gf) #[] lb) ∧ (∀ args W, (callFunc gf args).run Try.prog W = .ok (.enter gf args) W) ∧ ∀ N n w2, 4 ≤ n → Below w'.heap.size w' w2 → (∀ k, N k → ∃ cs f, w.heap[k]? = some (.cells cs 3 f)) → SeqTells Fence.wide n Try.prog gf lb (fun x : PutV => #[.agg #[.int .u16 x.r, .int .u32 x.s], .slice x.p x.b.length x.c]) N (toldL l) (fun ys => ys.map PutV.m = l) (fun _ => True) w2 := by
  obtain ⟨mo, v, h⟩ := h
  obtain ⟨q, d, rfl⟩ := owns_slice h.names
  have HB1 : Hid (Below w.heap.size w (w.alloc (.cells #[.pointer (some ⟨K, 0, none⟩)] 54))) := below_alloc (Below.refl _ _) _
  have HX1 := Lib.hid (heap_alloc_new w (.cells #[.pointer (some ⟨K, 0, none⟩)] 54))
  obtain ⟨k0, k1, k2⟩ := three_cellsG (kept_boxG h.head HB1.out)
  have HL := Lib.hid h
  clear h k0 k2
  go_enter Try.func11, Try.ntmps11
  go_wp2
  go_ret
  have hb2 : Below w.heap.size w ((w.alloc (.cells #[.pointer (some ⟨K, 0, none⟩)] 54)).alloc (.cells #[.slice q l.length d] 29)) := below_alloc HB1.out _
  have hq : ((w.alloc (.cells #[.pointer (some ⟨K, 0, none⟩)] 54)).alloc (.cells #[.slice q l.length d] 29)).heap[w.heap.size + 1]? = some (.cells #[.slice q l.length d] 29 (0, 0)) := by
    have h1 := heap_alloc_new (w.alloc (.cells #[.pointer (some ⟨K, 0, none⟩)] 54)) (.cells #[.slice q l.length d] 29)
    rw [World.size_alloc] at h1
    exact h1
  refine ⟨hb2, 15, _, rfl, fun args W => rfl, fun N n w2 hn hb hN => ?_⟩
  exact iter_any N n S K l mo q d w2 (w.heap.size + 1) w.heap.size (HL.out.below (below_step hb2 hb)) (kept_boxG hq hb) (kept_boxG (kept_boxG HX1.out (below_alloc (Below.refl _ _) _)) hb) (fun k hk => by
    obtain ⟨cs, f, hc⟩ := hN k hk
    exact ⟨cs, f, by rw [(below_step hb2 hb).block k (lt_of_block hc)]; exact hc⟩) hl
end Go.Proofs.Ytafhjccghbpbbaa
