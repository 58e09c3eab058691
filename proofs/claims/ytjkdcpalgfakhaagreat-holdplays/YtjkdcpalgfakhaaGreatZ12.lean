/-
  Several texts of one proof, joined: each part says at its head what it proves. No conditions beyond what each theorem states.
-/
import Derived.Test.YtjkdcpalgfakhaaGreatZ11
import Derived.Test.YtjkdcpalgfakhaaGreatZ10
import Derived.Test.YtjkdcpalgfakhaaGreatZ09
import Derived.Test.YtjkdcpalgfakhaaGreatZ08
/-
  The laws' own 'is' and 'first', over a buffer's calls as premises.
-/
namespace Go.Proofs.YtjkdcpalgfakhaaGreat
open Go.ChangeShapes Go.WideShapes Go.ChangeAt Go.RowKit Go.Lib
set_option linter.unusedVariables false
set_option linter.unusedSimpArgs false

theorem names_at (xs : List EV) {i : Nat} (h : i < xs.length) : Vec.atL (namesM (xs.map (·.e))) i = ((xs.getD i x0E).e.txn.r, (xs.getD i x0E).e.txn.seq) := by
  unfold namesM Vec.atL
  simp [List.getD_eq_getElem?_getD, h]
theorem names_len (xs : List EV) : (namesM (xs.map (·.e))).length = xs.length := by unfold namesM; simp
theorem allM_len {l : List Em} (h : ∀ x ∈ l, x.deps.length ≤ 100) : (allM l).length ≤ 101 * l.length := by
  have key : ∀ (m : List Em) (v : List Vec.En), (∀ x ∈ m, x.deps.length ≤ 100) → (m.foldl allStep v).length ≤ v.length + 101 * m.length := by
    intro m
    induction m with
    | nil => intro v _; simp
    | cons x m ih =>
      intro v hm
      have h1 := ih (allStep v x) (fun y hy => hm y (by simp [hy]))
      have h2 := allStep_le v x
      have h3 := hm x (by simp)
      rw [List.foldl_cons, List.length_cons]; omega
  have := key l [] h
  simp only [List.length_nil, Nat.zero_add] at this
  exact this
set_option maxHeartbeats 6400000 in
set_option maxRecDepth 20000 in
theorem is_any {Buf : (Nat → Prop) → Nat → List Em → World → Prop} (HS : BufSpec Buf) (S : Nat → Prop) (K : Nat) (xs : List EV) (p : Option Addr) (c : Nat) (h : List Vec.En) (s : Option Addr) (f : Nat) (w : World) (hB : Buf S K (xs.map (·.e)) w) (hL : ListE w p xs) (hl : xs.length ≤ 64) (hf : ∀ x ∈ xs, FairE x.e ∧ x.e.deps.length ≤ 100) (hH : Vec.Row w s h) (hK : Known h s f) :
    Calls Tryz.prog 18 #[.pointer (some ⟨K, 0, none⟩), .slice p xs.length c, .slice s h.length f] w fun r w' => r = .returned (.bool true) ∧ Below w.heap.size w w' := by
  have hfm : ∀ y ∈ xs.map (·.e), FairE y ∧ y.deps.length ≤ 100 := fun y hy => by
    obtain ⟨x, hx, rfl⟩ := List.mem_map.1 hy
    exact hf x hx
  have hwl : (wantsM (xs.map (·.e)) h).length ≤ 101 * 64 := by
    have h1 := Vec.lacksL_le h (allM (xs.map (·.e)))
    have h2 := allM_len (fun y hy => (hfm y hy).2)
    rw [List.length_map] at h2
    unfold wantsM
    omega
  have HN : Hid (Calls Tryz.prog 39 #[.pointer (some ⟨K, 0, none⟩)] w fun r w' => ∃ p1 c1, r = .returned (.slice p1 xs.length c1) ∧ (∀ i, i < xs.length → ∃ b o, p1 = some ⟨b, o, none⟩ ∧ w'.cell? ⟨b, o + i * 2, none⟩ = some (.int .u16 (xs.getD i x0E).e.txn.r) ∧ w'.cell? ⟨b, o + i * 2 + 1, none⟩ = some (.int .u32 (xs.getD i x0E).e.txn.seq)) ∧ Below w.heap.size w w') := by
    refine (HS.names S K _ w hB).mono ?_
    rintro r w' ⟨p1, c1, rfl, hr, hb⟩
    rw [names_len]
    refine ⟨p1, c1, rfl, fun i hi => ?_, hb⟩
    obtain ⟨b, o, e, h1, h2⟩ := hr i (by rw [names_len]; exact hi)
    rw [names_at xs hi] at h1 h2
    exact ⟨b, o, e, h1, h2⟩
  have HLN : Hid (∀ W, Below w.heap.size w W → Calls Tryz.prog 40 #[.pointer (some ⟨K, 0, none⟩)] W fun r w' => r = .returned (.int .i64 (xs.length : Int)) ∧ Below W.heap.size W w') := fun W hb => by
    have := HS.len S K _ W (HS.below _ _ _ _ _ hB hb)
    rw [List.length_map] at this
    exact this
  have HWA : Hid (∀ W, Below w.heap.size w W → Calls Tryz.prog 20 #[.pointer (some ⟨K, 0, none⟩), .slice s h.length f] W fun r w' => ∃ p c, r = .returned (.slice p (wantsM (xs.map (·.e)) h).length c) ∧ Vec.Row3 w' p (wantsM (xs.map (·.e)) h) ∧ Below W.heap.size W w') := fun W hb => (HS.wants S K _ W h s f (HS.below _ _ _ _ _ hB hb) (hH.below hb) hK).mono (by
    rintro r w' ⟨p1, c1, h1, h2, h3⟩
    exact ⟨p1, c1, h1, h2.now, h3⟩)
  have HVE : Hid (∀ W, Below w.heap.size w W → Calls Tryz.prog 7 #[.slice s h.length f] W (MadeD h W)) := fun W hb => svec_any h s f W (hH.below hb) (by have := hK.len; omega)
  have HRW : Hid (∀ W p2 c2, Below w.heap.size w W → Vec.Row W p2 h → Calls Tryz.prog 42 #[.slice p xs.length c, .slice p2 h.length c2] W (Vec.Gave3 W (wantsM (xs.map (·.e)) h))) := fun W p2 c2 hb h2 => refwants_any xs h p c p2 c2 W (hL.row.below hb) (fun x hx => ⟨(hL.each x hx).1.deps.below hb, (hf x hx).2, by have := (hf x hx).1.seq; omega, by have := (hf x hx).1.seq; omega⟩) h2 (by omega) hK.len hK.fits (allM_fits fun y hy => (hfm y hy).1)
  have HR := Lib.hid hL.row
  clear hB hL hf hH hK hfm
  unfold MadeD at HVE
  generalize wantsM (xs.map (·.e)) h = G at HWA HRW hwl
  have t0 : ((xs.length : Int) != (xs.length : Int)) = false := by simp
  go_enter Tryz.func18, Tryz.ntmps18
  go_wp2_with fail
  refine HN.out.mono ?_
  rintro r w1 ⟨p1, c1, rfl, hr1, hb1⟩
  have HNM := Lib.hid hr1
  have HB1 := Lib.hid hb1
  clear hr1 hb1 HN
  go_wp2_with fail
  refine (HLN.out w1 HB1.out).mono ?_
  rintro r w2 ⟨rfl, hb2⟩
  have HB2 := Lib.hid hb2
  clear hb2 HLN
  go_wp2_with fail
  go_loopg [26] xs.length (fun g i wr => ∃ k : Nat, k ≤ xs.length ∧ xs.length - k ≤ g ∧ i = .int .i64 (k : Int) ∧ Below w1.heap.size w1 wr)
  case atStart => exact ⟨0, Nat.zero_le _, by omega, rfl, HB2.out⟩
  case round =>
    obtain ⟨k, hk, hg, rfl, hb⟩ := hrel
    have HB := Lib.hid hb
    have HBW := Lib.hid (below_step HB1.out hb)
    clear hb HB2
    by_cases hlt : k < xs.length
    · have hkl : (k : Int) < (xs.length : Int) := by omega
      obtain ⟨bn, on, rfl, n0', n1'⟩ := HNM.out k hlt
      have n0' := cellU n0' HB.out
      have n1' := cellU n1' HB.out
      obtain ⟨b, o, rfl, c0, c1, c2, c3, c4, c5⟩ := erow_at (HR.out.below HBW.out) hlt
      generalize xs.getD k x0E = X1 at n0' n1' c0 c1 c2 c3 c4 c5
      obtain ⟨⟨xd, ⟨xr, xq, xc, xu, xo⟩⟩, xys, xp, xcc, xqq, xdd⟩ := X1
      simp only at n0' n1' c0 c1 c2 c3 c4 c5
      have HBX : Hid (Below wr.heap.size wr (wr.alloc (.cells #[.slice xp xd.length xcc, .int .u16 xr, .int .u32 xq, .int .u64 xc, .int .i64 xu, .slice xqq xo.length xdd] 48))) := below_alloc (Below.refl _ _) _
      have n0 := cellU n0' HBX.out
      have n1 := cellU n1' HBX.out
      obtain ⟨y0, y1, y2, y3, y4, y5⟩ := six_cells (heap_alloc_new wr (.cells #[.slice xp xd.length xcc, .int .u16 xr, .int .u32 xq, .int .u64 xc, .int .i64 xu, .slice xqq xo.length xdd] 48))
      clear n0' n1' y0 y3 y4 y5
      go_wp2_with fail
      go_quiet (fail)
      go_wp2
      go_roundg (xs.length - (k + 1))
      case measure => omega
      case rel => exact ⟨k + 1, by omega, Nat.le_refl _, by go_num, below_drewN (below_step HB.out HBX.out) _⟩
    · have : k = xs.length := by omega
      subst this
      have hkl : ¬ (xs.length : Int) < (xs.length : Int) := by omega
      have HW1 := Lib.hid (HWA.out wr HBW.out)
      go_wp2_with fail
      refine HW1.out.mono ?_
      rintro r w3 ⟨p3, c3, rfl, hr3, hb3⟩
      have HG3 := Lib.hid hr3
      have HB3 := Lib.hid (below_step HBW.out hb3)
      clear hr3 hb3 HW1
      have HV3 := Lib.hid (HVE.out w3 HB3.out)
      go_wp2_with fail
      refine HV3.out.mono ?_
      rintro r w4 ⟨p4, c4, rfl, hr4, -, hb4⟩
      have HW2 := Lib.hid (HRW.out w4 p4 c4 (below_step HB3.out hb4) hr4)
      have HG4 := Lib.hid (HG3.out.below hb4)
      have HB4 := Lib.hid (below_step HB3.out hb4)
      clear hr4 hb4 HV3 HG3
      go_wp2_with fail
      refine HW2.out.mono ?_
      rintro r w5 ⟨p5, c5, rfl, hr5, hb5⟩
      have HSG := Lib.hid (Vec.sgsame_yes G p3 p5 c3 c5 w5 (HG4.out.below hb5) hr5 (by omega))
      have HB5 := Lib.hid (below_step HB4.out hb5)
      clear hr5 hb5 HW2 HG4
      go_wp2_with fail
      refine HSG.out.mono ?_
      rintro r w6 ⟨rfl, hb6⟩
      have HB6 := Lib.hid (below_step HB5.out hb6)
      clear hb6 HSG
      go_wp2
      go_ret
      exact ⟨rfl, HB6.out⟩
end Go.Proofs.YtjkdcpalgfakhaaGreat
/-
  What the laws' own SameOp and SameTxn of copyistmade tell, of any two. No conditions beyond what each theorem states.
-/
namespace Go.Proofs.YtjkdcpalgfakhaaGreat
open Go.ChangeShapes Go.WideShapes Go.ChangeAt Go.RowKit Go.Lib
set_option linter.unusedVariables false
set_option linter.unusedSimpArgs false

/-- A Bool that tells whether two things are one. -/
def Tells {α : Type} (a b : α) (w : World) (e : Ending) (w' : World) : Prop := ∃ v : Bool, e = .returned (.bool v) ∧ (v = true ↔ a = b) ∧ Below w.heap.size w w'
set_option maxHeartbeats 6400000 in
set_option maxRecDepth 20000 in
theorem msameop_dec (o u : Om) (p q : Option Addr) (c d : Nat) (w : World) (hR : GRow layS w p o.spans) (hS : GRow layS w q u.spans) (hl : o.spans.length ≤ 8796093021952) (hm : u.spans.length ≤ 8796093021952) :
    Calls Tryz.prog 60 #[ov o p c, ov u q d] w (Tells o u w) := by
  have HR := Lib.hid hR
  have HS := Lib.hid hS
  obtain ⟨k1, r1, n1, m1, x1, l1, q1⟩ := o
  obtain ⟨k2, r2, n2, m2, x2, l2, q2⟩ := u
  unfold ov
  simp only at HR HS hl hm ⊢
  clear hR hS
  have HBW : Hid (Below w.heap.size w ((w.alloc (.cells #[.int .i64 k1, .int .u16 r1, .int .u32 n1, .int .u32 m1, .string ⟨x1.toArray⟩, .slice p l1.length c, .int .u32 q1] 108)).alloc (.cells #[.int .i64 k2, .int .u16 r2, .int .u32 n2, .int .u32 m2, .string ⟨x2.toArray⟩, .slice q l2.length d, .int .u32 q2] 108))) := below_alloc (below_alloc (Below.refl _ _) _) _
  have H1 := Lib.hid (heap_alloc2_old w (.cells #[.int .i64 k1, .int .u16 r1, .int .u32 n1, .int .u32 m1, .string ⟨x1.toArray⟩, .slice p l1.length c, .int .u32 q1] 108) (.cells #[.int .i64 k2, .int .u16 r2, .int .u32 n2, .int .u32 m2, .string ⟨x2.toArray⟩, .slice q l2.length d, .int .u32 q2] 108))
  have H2 := Lib.hid (heap_alloc2_new w (.cells #[.int .i64 k1, .int .u16 r1, .int .u32 n1, .int .u32 m1, .string ⟨x1.toArray⟩, .slice p l1.length c, .int .u32 q1] 108) (.cells #[.int .i64 k2, .int .u16 r2, .int .u32 n2, .int .u32 m2, .string ⟨x2.toArray⟩, .slice q l2.length d, .int .u32 q2] 108))
  have no : ∀ {P : Prop}, ¬ P → (false = true ↔ P) := fun h => ⟨fun e => (by cases e), fun e => absurd e h⟩
  by_cases g1 : k1 = k2
  case neg =>
    have t1 : (k1 == k2) = false := beq_no g1
    have t2 : (k1 != k2) = true := bne_int g1
    go_enter Tryz.func60, Tryz.ntmps60
    go_wp2
    go_ret
    exact ⟨false, rfl, no (fun e => g1 (by injection e)), HBW.out⟩
  subst g1
  by_cases g2 : r1 = r2
  case neg =>
    have t1 : (r1 == r2) = false := beq_no g2
    have t2 : (r1 != r2) = true := bne_int g2
    go_enter Tryz.func60, Tryz.ntmps60
    go_wp2
    go_ret
    exact ⟨false, rfl, no (fun e => g2 (by injection e)), HBW.out⟩
  subst g2
  by_cases g3 : n1 = n2
  case neg =>
    have t1 : (n1 == n2) = false := beq_no g3
    have t2 : (n1 != n2) = true := bne_int g3
    go_enter Tryz.func60, Tryz.ntmps60
    go_wp2
    go_ret
    exact ⟨false, rfl, no (fun e => g3 (by injection e)), HBW.out⟩
  subst g3
  by_cases g4 : m1 = m2
  case neg =>
    have t1 : (m1 == m2) = false := beq_no g4
    have t2 : (m1 != m2) = true := bne_int g4
    go_enter Tryz.func60, Tryz.ntmps60
    go_wp2
    go_ret
    exact ⟨false, rfl, no (fun e => g4 (by injection e)), HBW.out⟩
  subst g4
  by_cases g5 : x1 = x2
  case neg =>
    have t1 : (x1 == x2) = false := by simpa using g5
    go_enter Tryz.func60, Tryz.ntmps60
    go_wp2
    go_ret
    exact ⟨false, rfl, no (fun e => g5 (by injection e)), HBW.out⟩
  subst g5
  by_cases g6 : q1 = q2
  case neg =>
    have t1 : (q1 == q2) = false := beq_no g6
    have t2 : (q1 != q2) = true := bne_int g6
    go_enter Tryz.func60, Tryz.ntmps60
    go_wp2
    go_ret
    exact ⟨false, rfl, no (fun e => g6 (by injection e)), HBW.out⟩
  subst g6
  by_cases g7 : l1.length = l2.length
  case neg =>
    have t0 : ¬ (l1.length : Int) = (l2.length : Int) := by omega
    have t1 : ((l1.length : Int) == (l2.length : Int)) = false := beq_no t0
    have t2 : ((l1.length : Int) != (l2.length : Int)) = true := bne_int t0
    go_enter Tryz.func60, Tryz.ntmps60
    go_wp2
    go_ret
    exact ⟨false, rfl, no (fun e => g7 (by injection e; rename_i h _; rw [h])), HBW.out⟩
  rw [← g7] at HBW H1 H2 ⊢
  have HL := Lib.hid g7
  clear g7
  generalize (⟨x1.toArray⟩ : ByteArray) = bt at HBW H1 H2 ⊢
  go_enter Tryz.func60, Tryz.ntmps60
  go_wp2_with fail
  generalize (w.alloc (.cells #[.int .i64 k1, .int .u16 r1, .int .u32 n1, .int .u32 m1, .string bt, .slice p l1.length c, .int .u32 q1] 108)).alloc (.cells #[.int .i64 k1, .int .u16 r1, .int .u32 n1, .int .u32 m1, .string bt, .slice q l1.length d, .int .u32 q1] 108) = W at H1 H2 HBW ⊢
  have HRW : Hid (GRow layS W p l1) := HR.out.below HBW.out
  have HSW : Hid (GRow layS W q l2) := HS.out.below HBW.out
  clear HR HS
  go_loopg [51] l1.length (fun g i wr => ∃ k : Nat, k ≤ l1.length ∧ l1.length - k ≤ g ∧ i = .int .i64 (k : Int) ∧ (∀ j, j < k → l1.getD j s0 = l2.getD j s0) ∧ Below W.heap.size W wr)
  case atStart => exact ⟨0, Nat.zero_le _, by omega, rfl, fun j hj => by omega, Below.refl _ _⟩
  case round =>
    obtain ⟨k, hk, hg, rfl, hno, hB⟩ := hrel
    have HB := Lib.hid hB
    have HN := Lib.hid hno
    clear hB hno
    by_cases hlt : k < l1.length
    · have hkl : (k : Int) < (l1.length : Int) := by omega
      have hk0 : (0 : Int) ≤ (k : Int) := by omega
      obtain ⟨b1, o1, rfl, a0, a1, a2⟩ := srow_at (HRW.out.below HB.out) hlt
      obtain ⟨b2, o2, rfl, e0, e1, e2⟩ := srow_at (HSW.out.below HB.out) (by rw [← HL.out]; exact hlt)
      have x5 := (seven_cells (kept_box H1.out HB.out)).2.2.2.2.2.1
      have y5 := (seven_cells (kept_box H2.out HB.out)).2.2.2.2.2.1
      generalize hs1 : l1.getD k s0 = s at a0 a1 a2
      generalize hs2 : l2.getD k s0 = t at e0 e1 e2
      have HE : Hid (l1.getD k s0 = s ∧ l2.getD k s0 = t) := ⟨hs1, hs2⟩
      clear hs1 hs2
      obtain ⟨r', n', m'⟩ := s
      obtain ⟨r2', n2', m2'⟩ := t
      simp only at a0 a1 a2 e0 e1 e2
      by_cases d1 : r' = r2'
      case neg =>
        have t1 : (r' == r2') = false := beq_no d1
        go_wp2_with fail
        go_quiet (fail)
        go_wp2
        go_ret
        exact ⟨false, rfl, no (fun e => d1 (by injection e; rename_i h _; have := HE.out; rw [h] at this; have := this.1.symm.trans this.2; injection this)), below_step HBW.out (below_drewN HB.out _)⟩
      subst d1
      by_cases d2 : n' = n2'
      case neg =>
        have t1 : (n' == n2') = false := beq_no d2
        go_wp2_with fail
        go_quiet (fail)
        go_wp2
        go_ret
        exact ⟨false, rfl, no (fun e => d2 (by injection e; rename_i h _; have := HE.out; rw [h] at this; have := this.1.symm.trans this.2; injection this with _ hh; injection hh)), below_step HBW.out (below_drewN HB.out _)⟩
      subst d2
      by_cases d3 : m' = m2'
      case neg =>
        have t1 : (m' == m2') = false := beq_no d3
        go_wp2_with fail
        go_quiet (fail)
        go_wp2
        go_ret
        exact ⟨false, rfl, no (fun e => d3 (by injection e; rename_i h _; have := HE.out; rw [h] at this; have := this.1.symm.trans this.2; injection this with _ hh; injection hh)), below_step HBW.out (below_drewN HB.out _)⟩
      subst d3
      go_wp2_with fail
      go_quiet (fail)
      go_wp2
      go_roundg (l1.length - (k + 1))
      case measure => omega
      case rel => exact ⟨k + 1, by omega, Nat.le_refl _, by go_num, fun j hj => by
        by_cases e : j = k
        · subst e; rw [HE.out.1, HE.out.2]
        · exact HN.out j (by omega), below_drewN HB.out _⟩
    · have : k = l1.length := by omega
      subst this
      have hkl : ¬ (l1.length : Int) < (l1.length : Int) := by omega
      have HQ : Hid (l1 = l2) := ext_getD s0 HL.out HN.out
      go_wp2
      go_ret
      exact ⟨true, rfl, ⟨fun _ => by rw [HQ.out], fun _ => rfl⟩, below_step HBW.out HB.out⟩
set_option maxHeartbeats 6400000 in
set_option maxRecDepth 20000 in
theorem msametxn_dec (t u : Tm) (xs ys : List OV) (p q : Option Addr) (c d : Nat) (w : World) (H : RowT t xs p c w) (Gops : u.ops = ys.map (·.1)) (Grow : GRow layO w q ys) (Geach : ∀ y ∈ ys, GRow layS w y.2.1 y.1.spans) (hl : t.ops.length ≤ 9223372036854775807) (hm : u.ops.length ≤ 9223372036854775807) (hs : ∀ x ∈ xs, x.1.spans.length ≤ 8796093021952) (hs2 : ∀ y ∈ ys, y.1.spans.length ≤ 8796093021952) :
    Calls Tryz.prog 34 #[tv t p c, tv u q d] w (Tells t u w) := by
  have hx : xs.length = t.ops.length := by rw [H.ops, List.length_map]
  have hy : ys.length = u.ops.length := by rw [Gops, List.length_map]
  have HX := Lib.hid hx
  have HY := Lib.hid hy
  have HGX : Hid (∀ k, k < xs.length → (xs.getD k ov0).1 = t.ops.getD k o0) := fun k hk => by rw [H.ops, getD_map1 xs hk]
  have HGY : Hid (∀ k, k < ys.length → (ys.getD k ov0).1 = u.ops.getD k o0) := fun k hk => by rw [Gops, getD_map1 ys hk]
  have HSO : Hid (∀ k, k < xs.length → k < ys.length → ∀ W, Below w.heap.size w W → Calls Tryz.prog 60 #[ov (xs.getD k ov0).1 (xs.getD k ov0).2.1 (xs.getD k ov0).2.2, ov (ys.getD k ov0).1 (ys.getD k ov0).2.1 (ys.getD k ov0).2.2] W (Tells (xs.getD k ov0).1 (ys.getD k ov0).1 W)) := fun k h1 h2 W hb => msameop_dec _ _ _ _ _ _ W ((H.at h1).1.below hb) ((Geach _ (getD_mem ov0 h2)).below hb) (hs _ (getD_mem ov0 h1)) (hs2 _ (getD_mem ov0 h2))
  have HR := Lib.hid H.row
  have HS := Lib.hid Grow
  clear H Gops Grow Geach hs hs2 hx hy
  unfold tv
  obtain ⟨r1, q1, c1, u1, l1⟩ := t
  obtain ⟨r2, q2, c2, u2, l2⟩ := u
  simp only at *
  generalize hL1 : l1.length = TL1 at *
  generalize hL2 : l2.length = TL2 at *
  have HL1 := Lib.hid hL1
  have HL2 := Lib.hid hL2
  clear hL1 hL2
  have HBW : Hid (Below w.heap.size w ((w.alloc (.cells #[.int .u16 r1, .int .u32 q1, .int .u64 c1, .int .i64 u1, .slice p TL1 c] 46)).alloc (.cells #[.int .u16 r2, .int .u32 q2, .int .u64 c2, .int .i64 u2, .slice q TL2 d] 46))) := below_alloc (below_alloc (Below.refl _ _) _) _
  have H1 := Lib.hid (heap_alloc2_old w (.cells #[.int .u16 r1, .int .u32 q1, .int .u64 c1, .int .i64 u1, .slice p TL1 c] 46) (.cells #[.int .u16 r2, .int .u32 q2, .int .u64 c2, .int .i64 u2, .slice q TL2 d] 46))
  have H2 := Lib.hid (heap_alloc2_new w (.cells #[.int .u16 r1, .int .u32 q1, .int .u64 c1, .int .i64 u1, .slice p TL1 c] 46) (.cells #[.int .u16 r2, .int .u32 q2, .int .u64 c2, .int .i64 u2, .slice q TL2 d] 46))
  have no : ∀ {P : Prop}, ¬ P → (false = true ↔ P) := fun h => ⟨fun e => (by cases e), fun e => absurd e h⟩
  by_cases g1 : r1 = r2
  case neg =>
    have t1 : (r1 == r2) = false := beq_no g1
    have t2 : (r1 != r2) = true := bne_int g1
    go_enter Tryz.func34, Tryz.ntmps34
    go_wp2
    go_ret
    exact ⟨false, rfl, no (fun e => g1 (by injection e)), HBW.out⟩
  subst g1
  by_cases g2 : q1 = q2
  case neg =>
    have t1 : (q1 == q2) = false := beq_no g2
    have t2 : (q1 != q2) = true := bne_int g2
    go_enter Tryz.func34, Tryz.ntmps34
    go_wp2
    go_ret
    exact ⟨false, rfl, no (fun e => g2 (by injection e)), HBW.out⟩
  subst g2
  by_cases g3 : c1 = c2
  case neg =>
    have t1 : (c1 == c2) = false := beq_no g3
    have t2 : (c1 != c2) = true := bne_int g3
    go_enter Tryz.func34, Tryz.ntmps34
    go_wp2
    go_ret
    exact ⟨false, rfl, no (fun e => g3 (by injection e)), HBW.out⟩
  subst g3
  by_cases g4 : u1 = u2
  case neg =>
    have t1 : (u1 == u2) = false := beq_no g4
    have t2 : (u1 != u2) = true := bne_int g4
    go_enter Tryz.func34, Tryz.ntmps34
    go_wp2
    go_ret
    exact ⟨false, rfl, no (fun e => g4 (by injection e)), HBW.out⟩
  subst g4
  by_cases g7 : TL1 = TL2
  case neg =>
    have t0 : ¬ (TL1 : Int) = (TL2 : Int) := by omega
    have t1 : ((TL1 : Int) == (TL2 : Int)) = false := beq_no t0
    have t2 : ((TL1 : Int) != (TL2 : Int)) = true := bne_int t0
    go_enter Tryz.func34, Tryz.ntmps34
    go_wp2
    go_ret
    exact ⟨false, rfl, no (fun e => g7 (by injection e; rename_i h; rw [← HL1.out, ← HL2.out, h])), HBW.out⟩
  subst g7
  obtain ⟨L, hLL⟩ : ∃ L, L = TL1 := ⟨_, rfl⟩
  subst hLL
  go_enter Tryz.func34, Tryz.ntmps34
  go_wp2_with fail
  generalize (w.alloc (.cells #[.int .u16 r1, .int .u32 q1, .int .u64 c1, .int .i64 u1, .slice p L c] 46)).alloc (.cells #[.int .u16 r1, .int .u32 q1, .int .u64 c1, .int .i64 u1, .slice q L d] 46) = W at H1 H2 HBW ⊢
  go_loopg [44] L (fun g i wr => ∃ k : Nat, k ≤ L ∧ L - k ≤ g ∧ i = .int .i64 (k : Int) ∧ (∀ j, j < k → l1.getD j o0 = l2.getD j o0) ∧ Below W.heap.size W wr)
  case atStart => exact ⟨0, Nat.zero_le _, by omega, rfl, fun j hj => by omega, Below.refl _ _⟩
  case round =>
    obtain ⟨k, hk, hg, rfl, hno, hB⟩ := hrel
    have HB := Lib.hid hB
    have HN := Lib.hid hno
    have HBB : Hid (Below w.heap.size w wr) := below_step HBW.out HB.out
    clear hB hno
    by_cases hlt : k < L
    · have hkl : (k : Int) < (L : Int) := by omega
      have hk0 : (0 : Int) ≤ (k : Int) := by omega
      have hkx : k < xs.length := by rw [HX.out]; exact hlt
      have hky : k < ys.length := by rw [HY.out]; exact hlt
      have HSK : Hid (∀ W, Below w.heap.size w W → _) := fun W hb => HSO.out k hkx hky W hb
      have hgx := HGX.out k hkx
      have hgy := HGY.out k hky
      obtain ⟨b1, o1, rfl, a0', a1', a2', a3', a4', a5', a6'⟩ := orow_at (HR.out.below HBB.out) hkx
      obtain ⟨b2, o2, rfl, e0', e1', e2', e3', e4', e5', e6'⟩ := orow_at (HS.out.below HBB.out) hky
      have x5' := (five_cells (kept_box H1.out HB.out)).2.2.2.2
      have y5' := (five_cells (kept_box H2.out HB.out)).2.2.2.2
      have a0 := cell_regrown a0'
      have a1 := cell_regrown a1'
      have a2 := cell_regrown a2'
      have a3 := cell_regrown a3'
      have a4 := cell_regrown a4'
      have a5 := cell_regrown a5'
      have a6 := cell_regrown a6'
      have e0 := cell_regrown e0'
      have e1 := cell_regrown e1'
      have e2 := cell_regrown e2'
      have e3 := cell_regrown e3'
      have e4 := cell_regrown e4'
      have e5 := cell_regrown e5'
      have e6 := cell_regrown e6'
      have x5 := cell_regrown x5'
      have y5 := cell_regrown y5'
      clear a0' a1' a2' a3' a4' a5' a6' e0' e1' e2' e3' e4' e5' e6' x5' y5'
      generalize xs.getD k ov0 = x at a0 a1 a2 a3 a4 a5 a6 HSK hgx
      generalize ys.getD k ov0 = y at e0 e1 e2 e3 e4 e5 e6 HSK hgy
      obtain ⟨ox, px, cx⟩ := x
      obtain ⟨oy, py, cy⟩ := y
      simp only at a0 a1 a2 a3 a4 a5 a6 e0 e1 e2 e3 e4 e5 e6 HSK hgx hgy
      by_cases heq : ox = oy
      · have HEQ : Hid (l1.getD k o0 = l2.getD k o0) := by show _ = _; rw [← hgx, ← hgy, heq]
        have HSR : Hid (∀ dd os, Calls Tryz.prog 60 #[ov ox px cx, ov oy py cy] (Go.Sort.grow (redrawn wr dd) os) fun e w' => e = .returned (.bool true) ∧ Below (Go.Sort.grow (redrawn wr dd) os).heap.size (Go.Sort.grow (redrawn wr dd) os) w') := fun dd os => (HSK.out _ (below_step HBB.out (below_regrown _ _ _))).mono (by rintro r w' ⟨v, rfl, hv, hb⟩; exact ⟨by rw [hv.2 heq], hb⟩)
        clear HSK hgx hgy heq
        unfold ov at HSR
        generalize (⟨ox.text.toArray⟩ : ByteArray) = btx at a4 HSR
        generalize (⟨oy.text.toArray⟩ : ByteArray) = bty at e4 HSR
        go_wp2_with fail
        refine wp_region_quiet_below (by kernel_rfl) (by kernel_rfl) ?_
        repeat (first | go_big_quiet_step ((go_at_call 60; exact Calls.regrown_of (HSR.out _ _))) | quiet_step ((go_at_call 60; exact Calls.regrown_of (HSR.out _ _))))
        refine wpQuiet_nil ?_
        intro _ hw'
        obtain ⟨⟨dq, osq⟩, hw''⟩ := hw'
        subst hw''
        clear a0 a1 a2 a3 a4 a5 a6 e0 e1 e2 e3 e4 e5 e6 x5 y5
        go_wp2
        go_roundg (L - (k + 1))
        case measure => omega
        case rel => exact ⟨k + 1, by omega, Nat.le_refl _, by go_num, fun j hj => by
          by_cases e : j = k
          · subst e; exact HEQ.out
          · exact HN.out j (by omega), below_step HB.out (below_regrown _ _ _)⟩
      · have HNE : Hid (¬ l1 = l2) := fun e => heq (by rw [hgx, hgy, e])
        have HSR : Hid (∀ dd os, Calls Tryz.prog 60 #[ov ox px cx, ov oy py cy] (Go.Sort.grow (redrawn wr dd) os) fun e w' => e = .returned (.bool false) ∧ Below (Go.Sort.grow (redrawn wr dd) os).heap.size (Go.Sort.grow (redrawn wr dd) os) w') := fun dd os => (HSK.out _ (below_step HBB.out (below_regrown _ _ _))).mono (by rintro r w' ⟨v, rfl, hv, hb⟩; exact ⟨by cases v; rfl; exact absurd (hv.1 rfl) heq, hb⟩)
        clear HSK hgx hgy heq
        unfold ov at HSR
        generalize (⟨ox.text.toArray⟩ : ByteArray) = btx at a4 HSR
        generalize (⟨oy.text.toArray⟩ : ByteArray) = bty at e4 HSR
        go_wp2_with fail
        refine wp_region_quiet_below (by kernel_rfl) (by kernel_rfl) ?_
        repeat (first | go_big_quiet_step ((go_at_call 60; exact Calls.regrown_of (HSR.out _ _))) | quiet_step ((go_at_call 60; exact Calls.regrown_of (HSR.out _ _))))
        refine wpQuiet_nil ?_
        intro _ hw'
        obtain ⟨⟨dq, osq⟩, hw''⟩ := hw'
        subst hw''
        clear a0 a1 a2 a3 a4 a5 a6 e0 e1 e2 e3 e4 e5 e6 x5 y5
        go_wp2
        go_ret
        exact ⟨false, rfl, no (fun e => HNE.out (by injection e)), below_step HBB.out (below_regrown _ _ _)⟩
    · have : k = L := by omega
      subst this
      have hkl : ¬ (k : Int) < (k : Int) := by omega
      have HQ : Hid (l1 = l2) := ext_getD o0 (by rw [HL1.out, HL2.out]) (by rw [HL1.out]; exact HN.out)
      go_wp2
      go_ret
      exact ⟨true, rfl, ⟨fun _ => by rw [HQ.out], fun _ => rfl⟩, HBB.out⟩
end Go.Proofs.YtjkdcpalgfakhaaGreat
/-
  What the laws' own SameEnvelope, Right and Small of copyistsent hand back. No conditions beyond what each theorem states.
-/
namespace Go.Proofs.YtjkdcpalgfakhaaGreat
open Go.ChangeShapes Go.WideShapes Go.ChangeAt Go.RowKit Go.Lib
set_option linter.unusedVariables false
set_option linter.unusedSimpArgs false

set_option maxHeartbeats 6400000 in
set_option maxRecDepth 20000 in
theorem ssame_any (e x : Em) (xs ys : List OV) (p q p2 q2 : Option Addr) (c d c2 d2 : Nat) (w : World) (hR : Vec.Row w p e.deps) (hR2 : Vec.Row w p2 x.deps) (hT : RowT e.txn xs q d w) (hT2 : RowT x.txn ys q2 d2 w) (hm : e.deps.length ≤ 1000000) (hl : e.txn.ops.length ≤ 1000000) (hl2 : x.txn.ops.length ≤ 1000000) (hs : ∀ y ∈ xs, y.1.spans.length ≤ 1000000) (hs2 : ∀ y ∈ ys, y.1.spans.length ≤ 1000000) :
    Calls Tryz.prog 14 #[ev e p c q d, ev x p2 c2 q2 d2] w (Tells e x w) := by
  have HV : Hid (∀ W, Below w.heap.size w W → Calls Tryz.prog 33 #[.slice p e.deps.length c, .slice p2 x.deps.length c2] W fun r w' => r = .returned (.bool (decide (e.deps = x.deps))) ∧ Below W.heap.size W w') := fun W hb => Vec.svsame_any e.deps x.deps p p2 c c2 W (hR.below hb) (hR2.below hb) (by omega)
  have HM : Hid (∀ W, Below w.heap.size w W → Calls Tryz.prog 24 #[tv e.txn q d] W (MadeT e.txn W)) := fun W hb => mtxn_any e.txn xs q d W (hT.below hb) (by omega) (fun y hy => by have := hs y hy; omega)
  have hsz : ∀ zs : List OV, e.txn.ops = zs.map (·.1) → ∀ z ∈ zs, z.1.spans.length ≤ 8796093021952 := fun zs hz z hzm => by
    have hmm : z.1 ∈ e.txn.ops := by rw [hz]; exact List.mem_map.2 ⟨z, hzm, rfl⟩
    rw [hT.ops] at hmm
    obtain ⟨y, hy, ey⟩ := List.mem_map.1 hmm
    rw [← ey]; have := hs y hy; omega
  have HT : Hid (∀ W zs p' c', Below w.heap.size w W → RowT e.txn zs p' c' W → Calls Tryz.prog 34 #[tv e.txn p' c', tv x.txn q2 d2] W (Tells e.txn x.txn W)) := fun W zs p' c' hb h => msametxn_dec e.txn x.txn zs ys p' q2 c' d2 W h hT2.ops (hT2.row.below hb) (fun y hy => (hT2.each y hy).1.below hb) (by omega) (by omega) (hsz zs h.ops) (fun y hy => by have := hs2 y hy; omega)
  clear hR hR2 hT hT2 hs hs2 hsz
  unfold MadeT at HM
  unfold ev
  obtain ⟨de, te⟩ := e
  obtain ⟨dx, tx⟩ := x
  unfold tv at HM HT
  simp only at *
  have HBW : Hid (Below w.heap.size w ((w.alloc (.cells #[.slice p de.length c, .int .u16 te.r, .int .u32 te.seq, .int .u64 te.clock, .int .i64 te.user, .slice q te.ops.length d] 38)).alloc (.cells #[.slice p2 dx.length c2, .int .u16 tx.r, .int .u32 tx.seq, .int .u64 tx.clock, .int .i64 tx.user, .slice q2 tx.ops.length d2] 48))) := below_alloc (below_alloc (Below.refl _ _) _) _
  have HX := Lib.hid (heap_alloc2_old w (.cells #[.slice p de.length c, .int .u16 te.r, .int .u32 te.seq, .int .u64 te.clock, .int .i64 te.user, .slice q te.ops.length d] 38) (.cells #[.slice p2 dx.length c2, .int .u16 tx.r, .int .u32 tx.seq, .int .u64 tx.clock, .int .i64 tx.user, .slice q2 tx.ops.length d2] 48))
  have HY := Lib.hid (heap_alloc2_new w (.cells #[.slice p de.length c, .int .u16 te.r, .int .u32 te.seq, .int .u64 te.clock, .int .i64 te.user, .slice q te.ops.length d] 38) (.cells #[.slice p2 dx.length c2, .int .u16 tx.r, .int .u32 tx.seq, .int .u64 tx.clock, .int .i64 tx.user, .slice q2 tx.ops.length d2] 48))
  by_cases hd : de = dx
  case neg =>
    rw [decide_eq_false hd] at HV
    go_enter Tryz.func14, Tryz.ntmps14
    go_wp2_with fail
    generalize hw0 : (w.alloc (.cells #[.slice p de.length c, .int .u16 te.r, .int .u32 te.seq, .int .u64 te.clock, .int .i64 te.user, .slice q te.ops.length d] 38)).alloc (.cells #[.slice p2 dx.length c2, .int .u16 tx.r, .int .u32 tx.seq, .int .u64 tx.clock, .int .i64 tx.user, .slice q2 tx.ops.length d2] 48) = w0 at HX HY HBW ⊢
    clear hw0
    obtain ⟨x0', x1', x2', x3', x4', x5'⟩ := six_cells HX.out
    obtain ⟨y0', y1', y2', y3', y4', y5'⟩ := six_cells HY.out
    have x0 := cell_regrown x0'
    have y0 := cell_regrown y0'
    have HVR : Hid (∀ dd os, Calls Tryz.prog 33 #[.slice p de.length c, .slice p2 dx.length c2] (Go.Sort.grow (redrawn w0 dd) os) fun r w' => r = .returned (.bool false) ∧ Below (Go.Sort.grow (redrawn w0 dd) os).heap.size (Go.Sort.grow (redrawn w0 dd) os) w') := fun dd os => HV.out _ (below_step HBW.out (below_regrown _ _ _))
    clear x0' x1' x2' x3' x4' x5' y0' y1' y2' y3' y4' y5' HM HT HV
    refine wp_region_quiet_below (by kernel_rfl) (by kernel_rfl) ?_
    repeat (first | go_big_quiet_step ((go_at_call 33; exact Calls.regrown_of (HVR.out _ _))) | quiet_step ((go_at_call 33; exact Calls.regrown_of (HVR.out _ _))))
    refine wpQuiet_nil ?_
    intro w3 hw'
    have HB3 : Hid (Below w.heap.size w w3) := by obtain ⟨⟨dq, osq⟩, rfl⟩ := hw'; exact below_step HBW.out (below_regrown _ _ _)
    clear hw' HVR
    go_wp2
    go_ret
    exact ⟨false, rfl, ⟨fun e => (by cases e), fun e => absurd (by injection e) hd⟩, HB3.out⟩
  subst hd
  rw [decide_eq_true rfl] at HV
  obtain ⟨V, hV⟩ : ∃ V : Bool, (V = true ↔ te = tx) := by
    by_cases h : te = tx
    · exact ⟨true, fun _ => h, fun _ => rfl⟩
    · exact ⟨false, fun e => (by cases e), fun e => absurd e h⟩
  have HVV := Lib.hid hV
  have HT2 : Hid (∀ W zs p' c', Below w.heap.size w W → RowT te zs p' c' W → Calls Tryz.prog 34 #[.agg #[.int .u16 te.r, .int .u32 te.seq, .int .u64 te.clock, .int .i64 te.user, .slice p' te.ops.length c'], .agg #[.int .u16 tx.r, .int .u32 tx.seq, .int .u64 tx.clock, .int .i64 tx.user, .slice q2 tx.ops.length d2]] W fun r w' => r = .returned (.bool V) ∧ Below W.heap.size W w') := fun W zs p' c' hb h => (HT.out W zs p' c' hb h).mono (by
    rintro r w' ⟨v, rfl, hv, hb2⟩
    refine ⟨?_, hb2⟩
    have : v = V := by
      cases v <;> cases V <;> first | rfl | (exact absurd (hv.2 (HVV.out.1 rfl)) (by simp)) | (exact absurd (HVV.out.2 (hv.1 rfl)) (by simp))
    rw [this])
  clear hV HT
  go_enter Tryz.func14, Tryz.ntmps14
  go_wp2_with fail
  generalize hw0 : (w.alloc (.cells #[.slice p de.length c, .int .u16 te.r, .int .u32 te.seq, .int .u64 te.clock, .int .i64 te.user, .slice q te.ops.length d] 38)).alloc (.cells #[.slice p2 de.length c2, .int .u16 tx.r, .int .u32 tx.seq, .int .u64 tx.clock, .int .i64 tx.user, .slice q2 tx.ops.length d2] 48) = w0 at HX HY HBW ⊢
  clear hw0
  have HC : Hid (∀ W, Below w0.heap.size w0 W → _) := fun W hb => six_cells (kept_box HX.out hb)
  have HD : Hid (∀ W, Below w0.heap.size w0 W → _) := fun W hb => six_cells (kept_box HY.out hb)
  have L0 : Below w0.heap.size w0 w0.drew := (Below.refl _ _).drew
  obtain ⟨x0, x1, x2, x3, x4, x5⟩ := HC.out _ L0
  obtain ⟨y0, y1, y2, y3, y4, y5⟩ := HD.out _ L0
  go_region_with (first
    | (go_at_call 33; refine (HV.out _ (below_step HBW.out L0)).mono ?_; rintro r wa ⟨rfl, hba⟩
       have D1 : Below w0.heap.size w0 wa := below_step L0 hba
       obtain ⟨u0, u1, u2, u3, u4, u5⟩ := HC.out _ D1
       obtain ⟨v0, v1, v2, v3, v4, v5⟩ := HD.out _ D1)
    | (go_at_call 24; refine (HM.out _ (below_step HBW.out D1)).mono ?_; rintro r wb ⟨zs, pb, cb, rfl, hTb, hbb⟩
       have T1 : Below w0.heap.size w0 wb := below_step D1 hbb
       obtain ⟨a0, a1, a2, a3, a4, a5⟩ := HC.out _ T1
       obtain ⟨b0, b1, b2, b3, b4, b5⟩ := HD.out _ T1)
    | (go_at_call 34; refine (HT2.out _ _ _ _ (below_step HBW.out T1) hTb).mono ?_; rintro r wc ⟨rfl, hbc⟩
       have E1 : Below w0.heap.size w0 wc := below_step T1 hbc))
  all_goals
    have HE := Lib.hid E1
    clear E1 hbc hTb T1 hbb D1 hba L0
    go_wp2
    go_ret
    exact ⟨V, rfl, ⟨fun e => by rw [HVV.out.1 e], fun e => HVV.out.2 (by injection e)⟩, below_step HBW.out HE.out⟩
set_option maxHeartbeats 1600000 in
set_option maxRecDepth 20000 in
theorem sright_any (l : List Vec.En) (p : Option Addr) (c : Nat) (w : World) (hR : Vec.Row w p l) (hl : l.length ≤ 17592186043904) :
    Calls Tryz.prog 5 #[.slice p l.length c] w fun r w' => r = .returned (.bool (Vec.rightH l)) ∧ Below w.heap.size w w' := by
  have HV := Lib.hid (svec_any l p c w hR hl)
  have HS : Hid (Vec.rightH l = (decide (l.length ≤ 100) && Vec.rightB l)) := rfl
  generalize Vec.rightH l = S at HS ⊢
  clear hR
  unfold MadeD at HV
  by_cases h : l.length ≤ 100
  · have h' : (l.length : Int) ≤ 100 := by omega
    have HS2 : Hid (S = Vec.rightB l) := by show _ = _; rw [HS.out, decide_eq_true h, Bool.true_and]
    have HRR := Lib.hid (fun W p' c' (hr : Vec.Row W p' l) => Vec.refright_any l p' c' W hr (by omega))
    clear HS
    generalize Vec.rightB l = B at HS2 HRR
    go_enter Tryz.func5, Tryz.ntmps5
    go_wp2_with fail
    refine HV.out.mono ?_
    rintro r w1 ⟨p1, c1, rfl, hr1, -, hb1⟩
    have HB1 := Lib.hid hb1
    have HR1 := Lib.hid hr1
    clear hb1 hr1 HV
    go_wp2_with fail
    refine (HRR.out _ _ _ HR1.out).mono ?_
    rintro r w2 ⟨rfl, hb2⟩
    have HB2 : Hid (Below w.heap.size w w2) := below_step HB1.out hb2
    clear hb2
    go_wp2
    go_ret
    exact ⟨by rw [HS2.out]; rfl, HB2.out⟩
  · have h' : ¬ (l.length : Int) ≤ 100 := by omega
    have HS2 : Hid (S = false) := by show _ = _; rw [HS.out, decide_eq_false h, Bool.false_and]
    clear HS
    go_enter Tryz.func5, Tryz.ntmps5
    go_wp2
    go_ret
    exact ⟨by rw [HS2.out]; rfl, Below.refl _ _⟩
/-- Small, and fit. -/
def goodE (e : Em) : Bool := smallE e && decide (fitE e = 0)
theorem small_x {e : Em} {xs : List OV} (hx : e.txn.ops = xs.map (·.1)) (h : smallE e = true) : e.deps.length ≤ 100 ∧ SmallP xs ∧ xs.length ≤ 40 := by
  unfold smallE at h
  rw [Bool.and_eq_true] at h
  have := smallT_x hx h.2
  exact ⟨of_decide_eq_true h.1, this.1, this.2⟩
set_option maxHeartbeats 3200000 in
set_option maxRecDepth 20000 in
theorem ssmall_any (e : Em) (xs : List OV) (p q : Option Addr) (c d : Nat) (w : World) (hR : Vec.Row w p e.deps) (H : InT e.txn xs q d w) (hl : e.txn.ops.length ≤ 1954687338211) (hq : ∀ x ∈ xs, x.1.text.length ≤ 9223372036854775807 ∧ x.1.spans.length ≤ 8796093021952) :
    Calls Tryz.prog 6 #[ev e p c q d] w fun r w' => r = .returned (.bool (goodE e)) ∧ Below w.heap.size w w' := by
  have H1 : Hid (∀ W, Below w.heap.size w W → Calls Tryz.prog 22 #[.agg #[.int .u16 e.txn.r, .int .u32 e.txn.seq, .int .u64 e.txn.clock, .int .i64 e.txn.user, .slice q e.txn.ops.length d]] W fun r w' => r = .returned (.bool (smallT e.txn)) ∧ Below W.heap.size W w') := fun W hb => msmall_any e.txn xs q d W (H.below hb) (by omega) (fun x hx => ⟨(hq x hx).1, by have := (hq x hx).2; omega⟩)
  have H2 : Hid (e.deps.length ≤ 100 → ∀ W, Below w.heap.size w W → Calls Tryz.prog 8 #[ev e p c q d] W (MadeEK e W)) := fun h W hb => senv_any e xs p q c d W (hR.below hb) (by omega) (H.rows.below hb) hl (fun x hx => (hq x hx).2)
  have H3 : Hid (smallE e = true → ∀ W ys p2 c2 q2 d2, Vec.Row W p2 e.deps → RowT e.txn ys q2 d2 W → Calls Tryz.prog 23 #[ev e p2 c2 q2 d2] W fun r w' => r = .returned (.int .i64 (fitE e)) ∧ Below W.heap.size W w') := fun h W ys p2 c2 q2 d2 h1 h2 => reffitE_any e ys p2 q2 c2 d2 W h1 (by have := (small_x H.ops h).1; omega) (h2.inT H.fit).lie (small_x h2.ops h).2.1.wide
  have HG : Hid (goodE e = (smallE e && decide (fitE e = 0))) := rfl
  have HS : Hid (smallE e = (decide (e.deps.length ≤ 100) && smallT e.txn)) := rfl
  clear H hl hq hR
  unfold MadeEK at H2
  unfold ev at *
  generalize goodE e = GE at HG ⊢
  generalize smallE e = SE at HG HS H3
  generalize smallT e.txn = T at H1 HS
  generalize fitE e = F at HG H3
  generalize e.deps.length = L at *
  generalize e.txn.ops.length = TL at *
  generalize e.txn.r = tr at *
  generalize e.txn.seq = ts at *
  generalize e.txn.clock = tc at *
  generalize e.txn.user = tu at *
  have HX := Lib.hid (heap_alloc_new w (.cells #[.slice p L c, .int .u16 tr, .int .u32 ts, .int .u64 tc, .int .i64 tu, .slice q TL d] 38))
  have HB0 : Hid (Below w.heap.size w (w.alloc (.cells #[.slice p L c, .int .u16 tr, .int .u32 ts, .int .u64 tc, .int .i64 tu, .slice q TL d] 38))) := below_alloc (Below.refl _ _) _
  obtain ⟨x0, x1, x2, x3, x4, x5⟩ := six_cells HX.out
  by_cases h : L ≤ 100
  case neg =>
    have h' : ¬ (L : Int) ≤ 100 := by omega
    have HG2 : Hid (GE = false) := by show _ = _; rw [HG.out, HS.out, decide_eq_false h]; rfl
    go_enter Tryz.func6, Tryz.ntmps6
    go_wp2
    go_ret
    exact ⟨by rw [HG2.out]; rfl, HB0.out⟩
  have h' : (L : Int) ≤ 100 := by omega
  have H22 := Lib.hid (H2.out h)
  clear H2
  go_enter Tryz.func6, Tryz.ntmps6
  go_wp2_with fail
  generalize (w.alloc (.cells #[.slice p L c, .int .u16 tr, .int .u32 ts, .int .u64 tc, .int .i64 tu, .slice q TL d] 38)) = w0 at HX HB0 x0 x1 x2 x3 x4 x5 ⊢
  refine (H1.out _ HB0.out).mono ?_
  rintro r w1 ⟨rfl, hb1⟩
  have HB1 : Hid (Below w.heap.size w w1) := below_step HB0.out hb1
  have HX1 := Lib.hid (kept_box HX.out hb1)
  clear hb1 H1 x0 x1 x2 x3 x4 x5 HX HB0
  cases T with
  | false =>
    have HG2 : Hid (GE = false) := by show _ = _; rw [HG.out, HS.out, Bool.and_false]; rfl
    go_wp2
    go_ret
    exact ⟨by rw [HG2.out]; rfl, HB1.out⟩
  | true =>
  have HSE : Hid (SE = true) := by show _ = _; rw [HS.out, decide_eq_true h]; rfl
  have H33 := Lib.hid (H3.out HSE.out)
  have HG2 : Hid (GE = decide (F = 0)) := by show _ = _; rw [HG.out, HSE.out, Bool.true_and]
  clear H3 HG HS HSE
  obtain ⟨x0, x1, x2, x3, x4, x5⟩ := six_cells HX1.out
  go_wp2_with fail
  refine (H22.out _ HB1.out).mono ?_
  rintro r w2 ⟨ys, p2, c2, q2, d2, rfl, hv2, -, hT2, hb2, -, -⟩
  have HB2 : Hid (Below w.heap.size w w2) := below_step HB1.out hb2
  have HV2 := Lib.hid hv2
  have HT2 := Lib.hid hT2
  clear hb2 hv2 hT2 H22 x0 x1 x2 x3 x4 x5
  go_wp2_with fail
  refine (H33.out _ _ _ _ _ _ HV2.out HT2.out).mono ?_
  rintro r w3 ⟨rfl, hb3⟩
  have HB3 : Hid (Below w.heap.size w w3) := below_step HB2.out hb3
  clear hb3 H33
  by_cases h0 : F = 0
  · have q1 : (F == 0) = true := by simp [h0]
    rw [decide_eq_true h0] at HG2
    go_wp2
    go_ret
    exact ⟨by rw [HG2.out]; rfl, HB3.out⟩
  · have q1 : (F == 0) = false := beq_no h0
    rw [decide_eq_false h0] at HG2
    go_wp2
    go_ret
    exact ⟨by rw [HG2.out]; rfl, HB3.out⟩
end Go.Proofs.YtjkdcpalgfakhaaGreat
/-
  What the document's ahead, Has and Ready of layer 11 hand back. No conditions beyond what each theorem states.
-/
namespace Go.Proofs.YtjkdcpalgfakhaaGreat
open Go.ChangeShapes Go.WideShapes Go.ChangeAt Go.RowKit Go.Lib
set_option linter.unusedVariables false
set_option linter.unusedSimpArgs false

set_option maxHeartbeats 3200000 in
set_option maxRecDepth 20000 in
theorem refahead_any (a b : Em) (p q p2 q2 : Option Addr) (c d c2 d2 : Nat) (w : World) :
    Calls Tryz.prog 29 #[ev a p c q d, ev b p2 c2 q2 d2] w fun r w' => r = .returned (.bool (aheadM a b)) ∧ Below w.heap.size w w' := by
  obtain ⟨da, ⟨ra, sa, ca, ua, oa⟩⟩ := a
  obtain ⟨db, ⟨rb, sb, cb, ub, ob⟩⟩ := b
  have HF : Hid (∀ v : Bool, (v = true ↔ ra < rb ∨ ra = rb ∧ sa < sb) → aheadM ⟨da, ⟨ra, sa, ca, ua, oa⟩⟩ ⟨db, ⟨rb, sb, cb, ub, ob⟩⟩ = v) := fun v hv => by
    unfold aheadM
    simp only
    cases v
    · exact decide_eq_false (fun h => by have := hv.2 h; cases this)
    · exact decide_eq_true (hv.1 rfl)
  unfold ev
  simp only
  generalize aheadM ⟨da, ⟨ra, sa, ca, ua, oa⟩⟩ ⟨db, ⟨rb, sb, cb, ub, ob⟩⟩ = A at HF ⊢
  generalize da.length = L1
  generalize db.length = L2
  generalize oa.length = T1
  generalize ob.length = T2
  have HBW : Hid (Below w.heap.size w ((w.alloc (.cells #[.slice p L1 c, .int .u16 ra, .int .u32 sa, .int .u64 ca, .int .i64 ua, .slice q T1 d] 48)).alloc (.cells #[.slice p2 L2 c2, .int .u16 rb, .int .u32 sb, .int .u64 cb, .int .i64 ub, .slice q2 T2 d2] 48))) := below_alloc (below_alloc (Below.refl _ _) _) _
  by_cases h1 : ra < rb
  · have HA : Hid (A = true) := HF.out true ⟨fun _ => Or.inl h1, fun _ => rfl⟩
    clear HF
    go_enter Tryz.func29, Tryz.ntmps29
    go_wp2
    go_ret
    exact ⟨by rw [HA.out]; rfl, HBW.out⟩
  · by_cases h2 : ra = rb
    · subst h2
      have t1 : (ra == ra) = true := by simp
      by_cases h3 : sa < sb
      · have HA : Hid (A = true) := HF.out true ⟨fun _ => Or.inr ⟨rfl, h3⟩, fun _ => rfl⟩
        clear HF
        go_enter Tryz.func29, Tryz.ntmps29
        go_wp2
        go_ret
        exact ⟨by rw [HA.out]; rfl, HBW.out⟩
      · have HA : Hid (A = false) := HF.out false ⟨fun e => (by cases e), fun h => by omega⟩
        clear HF
        go_enter Tryz.func29, Tryz.ntmps29
        go_wp2
        go_ret
        exact ⟨by rw [HA.out]; rfl, HBW.out⟩
    · have t1 : (ra == rb) = false := beq_no h2
      have HA : Hid (A = false) := HF.out false ⟨fun e => (by cases e), fun h => by omega⟩
      clear HF
      go_enter Tryz.func29, Tryz.ntmps29
      go_wp2
      go_ret
      exact ⟨by rw [HA.out]; rfl, HBW.out⟩
set_option maxHeartbeats 6400000 in
set_option maxRecDepth 20000 in
theorem refhasE_any (xs : List EV) (e : Em) (p : Option Addr) (c : Nat) (pe qe : Option Addr) (ce de : Nat) (w : World) (hR : GRow layE w p xs) (hl : xs.length ≤ 1000000) :
    Calls Tryz.prog 10 #[.slice p xs.length c, ev e pe ce qe de] w fun r w' => r = .returned (.bool (hasM (xs.map (·.e)) e)) ∧ Below w.heap.size w w' := by
  have HR := Lib.hid hR
  have HYES : Hid (∀ k, k < xs.length → (xs.getD k x0E).e.txn.r = e.txn.r → (xs.getD k x0E).e.txn.seq = e.txn.seq → hasM (xs.map (·.e)) e = true) := fun k hk h1 h2 => hasM_iff.2 ⟨_, List.mem_map.2 ⟨_, getD_mem x0E hk, rfl⟩, h1, h2⟩
  have HNO : Hid ((∀ j, j < xs.length → ¬ ((xs.getD j x0E).e.txn.r = e.txn.r ∧ (xs.getD j x0E).e.txn.seq = e.txn.seq)) → hasM (xs.map (·.e)) e = false) := fun h => by
    cases hc : hasM (xs.map (·.e)) e with
    | false => rfl
    | true =>
      obtain ⟨x, hx, h1, h2⟩ := hasM_iff.1 hc
      obtain ⟨y, hy, rfl⟩ := List.mem_map.1 hx
      obtain ⟨i, hi, rfl⟩ := mem_getD x0E hy
      exact absurd ⟨h1, h2⟩ (h i hi)
  clear hR
  generalize hasM (xs.map (·.e)) e = V at HYES HNO ⊢
  unfold ev
  obtain ⟨de', ⟨r, seq, clock, user, ops⟩⟩ := e
  simp only at HYES HNO ⊢
  generalize de'.length = DL
  generalize ops.length = TL
  have HX := Lib.hid (heap_alloc_new w (.cells #[.slice pe DL ce, .int .u16 r, .int .u32 seq, .int .u64 clock, .int .i64 user, .slice qe TL de] 48))
  have HB0 : Hid (Below w.heap.size w (w.alloc (.cells #[.slice pe DL ce, .int .u16 r, .int .u32 seq, .int .u64 clock, .int .i64 user, .slice qe TL de] 48))) := below_alloc (Below.refl _ _) _
  go_enter Tryz.func10, Tryz.ntmps10
  go_wp2_with fail
  generalize (w.alloc (.cells #[.slice pe DL ce, .int .u16 r, .int .u32 seq, .int .u64 clock, .int .i64 user, .slice qe TL de] 48)) = w0 at HX HB0 ⊢
  go_loopg [5] xs.length (fun g i wr => ∃ k : Nat, k ≤ xs.length ∧ xs.length - k ≤ g ∧ i = .int .i64 (k : Int) ∧ (∀ j, j < k → ¬ ((xs.getD j x0E).e.txn.r = r ∧ (xs.getD j x0E).e.txn.seq = seq)) ∧ Below w0.heap.size w0 wr)
  case atStart => exact ⟨0, Nat.zero_le _, by omega, rfl, fun j hj => by omega, Below.refl _ _⟩
  case round =>
    obtain ⟨k, hk, hg, rfl, hno, hb⟩ := hrel
    have HB := Lib.hid hb
    have HN := Lib.hid hno
    clear hb hno
    by_cases hlt : k < xs.length
    · have hkl : (k : Int) < (xs.length : Int) := by omega
      have HYK := Lib.hid (HYES.out k hlt)
      obtain ⟨b, o, rfl, c0, c1, c2, c3, c4, c5⟩ := erow_at (HR.out.below (below_step HB0.out HB.out)) hlt
      obtain ⟨y0, y1, y2, y3, y4, y5⟩ := six_cells (kept_box HX.out HB.out)
      have HNK : Hid (¬ ((xs.getD k x0E).e.txn.r = r ∧ (xs.getD k x0E).e.txn.seq = seq) → ∀ j, j < k + 1 → ¬ ((xs.getD j x0E).e.txn.r = r ∧ (xs.getD j x0E).e.txn.seq = seq)) := fun h j hj => by
        by_cases e : j = k
        · subst e; exact h
        · exact HN.out j (by omega)
      generalize (xs.getD k x0E).e.txn.r = r2 at c1 HYK HNK
      generalize (xs.getD k x0E).e.txn.seq = s2 at c2 HYK HNK
      clear c0 c3 c4 c5
      by_cases h1 : r2 = r
      · have t1 : (r2 == r) = true := by simp [h1]
        by_cases h2 : s2 = seq
        · have t2 : (s2 == seq) = true := by simp [h2]
          have HV : Hid (V = true) := HYK.out h1 h2
          clear h1 h2
          go_wp2_with fail
          go_quiet (fail)
          go_wp2
          go_ret
          exact ⟨by rw [HV.out]; rfl, below_step HB0.out (below_drewN HB.out _)⟩
        · have t2 : (s2 == seq) = false := beq_no h2
          have HN2 := Lib.hid (HNK.out (fun h => h2 h.2))
          clear h1 h2
          go_wp2_with fail
          go_quiet (fail)
          go_wp2
          go_roundg (xs.length - (k + 1))
          case measure => omega
          case rel => exact ⟨k + 1, by omega, Nat.le_refl _, by go_num, HN2.out, below_drewN HB.out _⟩
      · have t1 : (r2 == r) = false := beq_no h1
        have HN2 := Lib.hid (HNK.out (fun h => h1 h.1))
        clear h1
        go_wp2_with fail
        go_quiet (fail)
        go_wp2
        go_roundg (xs.length - (k + 1))
        case measure => omega
        case rel => exact ⟨k + 1, by omega, Nat.le_refl _, by go_num, HN2.out, below_drewN HB.out _⟩
    · have : k = xs.length := by omega
      subst this
      have hkl : ¬ (xs.length : Int) < (xs.length : Int) := by omega
      have HV : Hid (V = false) := HNO.out HN.out
      go_wp2
      go_ret
      exact ⟨by rw [HV.out]; rfl, below_step HB0.out HB.out⟩
/-- The place of the first that is ready, as the document tells it. -/
def readyI (l : List Em) (h : List Vec.En) : Int := match readyM l h with | some i => (i : Int) | none => -1
theorem readyI_at : ∀ (l : List Em) (h : List Vec.En) (k : Nat), k < l.length → (∀ j, j < k → readyE (l.getD j e0) h = false) → readyE (l.getD k e0) h = true → readyM l h = some k := by
  intro l
  induction l with
  | nil => intro h k hk; simp at hk
  | cons x l ih =>
    intro h k hk hno hyes
    cases k with
    | zero =>
      simp only [List.getD_cons_zero] at hyes
      rw [readyM, if_pos hyes]
    | succ k =>
      have h0 := hno 0 (by omega)
      simp only [List.getD_cons_zero] at h0
      simp only [List.getD_cons_succ] at hyes
      rw [readyM, if_neg (by rw [h0]; simp), ih h k (by simpa using hk) (fun j hj => by have := hno (j + 1) (by omega); simpa using this) hyes]
      rfl
theorem readyI_no : ∀ (l : List Em) (h : List Vec.En), (∀ j, j < l.length → readyE (l.getD j e0) h = false) → readyM l h = none := by
  intro l
  induction l with
  | nil => intro h _; rfl
  | cons x l ih =>
    intro h hno
    have h0 := hno 0 (by simp)
    simp only [List.getD_cons_zero] at h0
    rw [readyM, if_neg (by rw [h0]; simp), ih h (fun j hj => by have := hno (j + 1) (by simpa using hj); simpa using this)]
    rfl
theorem getD_mapE (xs : List EV) {k : Nat} (h : k < xs.length) : (xs.map (·.e)).getD k e0 = (xs.getD k x0E).e := by
  simp [List.getD_eq_getElem?_getD, h]
set_option maxHeartbeats 6400000 in
set_option maxRecDepth 20000 in
theorem refreadyl_any (xs : List EV) (h : List Vec.En) (p : Option Addr) (c : Nat) (s : Option Addr) (f : Nat) (w : World) (hR : GRow layE w p xs) (hE : ∀ x ∈ xs, Vec.Row w x.p x.e.deps ∧ x.e.deps.length ≤ 1000 ∧ Vec.Fits x.e.deps) (hH : Vec.Row w s h) (hl : xs.length ≤ 1000000) (hhl : h.length ≤ 40000) (hf : Vec.Fits h) (hr : Vec.RightP h) :
    Calls Tryz.prog 13 #[.slice p xs.length c, .slice s h.length f] w fun r w' => r = .returned (.int .i64 (readyI (xs.map (·.e)) h)) ∧ Below w.heap.size w w' := by
  have HR := Lib.hid hR
  have HRD : Hid (∀ k, k < xs.length → ∀ W, Below w.heap.size w W → Calls Tryz.prog 32 #[ev (xs.getD k x0E).e (xs.getD k x0E).p (xs.getD k x0E).c (xs.getD k x0E).q (xs.getD k x0E).d, .slice s h.length f] W fun r w' => r = .returned (.bool (readyE (xs.getD k x0E).e h)) ∧ Below W.heap.size W w') := fun k hk W hb => by
    have hx := hE _ (getD_mem x0E hk)
    exact refreadyE_any _ h _ _ s _ _ f W (hx.1.below hb) (hH.below hb) hhl hx.2.1 hf hx.2.2 hr
  have HYES : Hid (∀ k, k < xs.length → (∀ j, j < k → readyE (xs.getD j x0E).e h = false) → readyE (xs.getD k x0E).e h = true → readyI (xs.map (·.e)) h = (k : Int)) := fun k hk h1 h2 => by
    unfold readyI
    rw [readyI_at (xs.map (·.e)) h k (by rw [List.length_map]; exact hk) (fun j hj => by rw [getD_mapE xs (by omega)]; exact h1 j hj) (by rw [getD_mapE xs hk]; exact h2)]
  have HNO : Hid ((∀ j, j < xs.length → readyE (xs.getD j x0E).e h = false) → readyI (xs.map (·.e)) h = -1) := fun h1 => by
    unfold readyI
    rw [readyI_no (xs.map (·.e)) h (fun j hj => by rw [List.length_map] at hj; rw [getD_mapE xs hj]; exact h1 j hj)]
  clear hR hE hH
  generalize readyI (xs.map (·.e)) h = V at HYES HNO ⊢
  go_enter Tryz.func13, Tryz.ntmps13
  go_wp2
  go_loopg [5] xs.length (fun g i wr => ∃ k : Nat, k ≤ xs.length ∧ xs.length - k ≤ g ∧ i = .int .i64 (k : Int) ∧ (∀ j, j < k → readyE (xs.getD j x0E).e h = false) ∧ Below w.heap.size w wr)
  case atStart => exact ⟨0, Nat.zero_le _, by omega, rfl, fun j hj => by omega, Below.refl _ _⟩
  case round =>
    obtain ⟨k, hk, hg, rfl, hno, hb⟩ := hrel
    have HB := Lib.hid hb
    have HN := Lib.hid hno
    clear hb hno
    by_cases hlt : k < xs.length
    · have hkl : (k : Int) < (xs.length : Int) := by omega
      have HRK := Lib.hid (HRD.out k hlt wr HB.out)
      have HYK := Lib.hid (HYES.out k hlt HN.out)
      have HNK : Hid (readyE (xs.getD k x0E).e h = false → ∀ j, j < k + 1 → readyE (xs.getD j x0E).e h = false) := fun h1 j hj => by
        by_cases e : j = k
        · subst e; exact h1
        · exact HN.out j (by omega)
      obtain ⟨b, o, rfl, c0, c1, c2, c3, c4, c5⟩ := erow_at (HR.out.below HB.out) hlt
      unfold ev at HRK
      generalize readyE (xs.getD k x0E).e h = RV at HRK HYK HNK
      generalize xs.getD k x0E = x at c0 c1 c2 c3 c4 c5 HRK
      obtain ⟨⟨xd, ⟨xr, xq, xc, xu, xo⟩⟩, xys, xp, xcc, xqq, xdd⟩ := x
      simp only at c0 c1 c2 c3 c4 c5 HRK
      go_wp2_with fail
      refine HRK.out.mono ?_
      rintro r w1 ⟨rfl, hb1⟩
      have HB1 : Hid (Below w.heap.size w w1) := below_step HB.out hb1
      clear hb1 HRK c0 c1 c2 c3 c4 c5
      cases RV with
      | true =>
        have HV : Hid (V = (k : Int)) := HYK.out rfl
        go_wp2
        go_ret
        exact ⟨by rw [HV.out]; rfl, HB1.out⟩
      | false =>
        have HN2 := Lib.hid (HNK.out rfl)
        go_wp2
        go_roundg (xs.length - (k + 1))
        case measure => omega
        case rel => exact ⟨k + 1, by omega, Nat.le_refl _, by go_num, HN2.out, HB1.out⟩
    · have : k = xs.length := by omega
      subst this
      have hkl : ¬ (xs.length : Int) < (xs.length : Int) := by omega
      have HV : Hid (V = -1) := HNO.out HN.out
      go_wp2
      go_ret
      exact ⟨by rw [HV.out]; rfl, HB.out⟩
end Go.Proofs.YtjkdcpalgfakhaaGreat
/-
  The laws' own 'first'. No conditions beyond what each theorem states.
-/
namespace Go.Proofs.YtjkdcpalgfakhaaGreat
open Go.ChangeShapes Go.WideShapes Go.ChangeAt Go.RowKit Go.Lib
set_option linter.unusedVariables false
set_option linter.unusedSimpArgs false

/-- An envelope that was handed in, small and fit. -/
structure ArgE (w : World) (x : EV) : Prop where
  into : InE x.e x.ys x.p x.c x.q x.d w
  small : SmallP x.ys
  ops : x.ys.length ≤ 40
  deps : x.e.deps.length ≤ 100
  fit : fitE x.e = 0
theorem ArgE.below {w w' : World} {x : EV} (h : ArgE w x) (hb : Below w.heap.size w w') : ArgE w' x := ⟨h.into.below hb, h.small, h.ops, h.deps, h.fit⟩
theorem ArgE.len {w : World} {x : EV} (h : ArgE w x) : x.e.txn.ops.length ≤ 40 := by
  have := h.into.txn.ops
  rw [this, List.length_map]; exact h.ops
theorem ArgE.fair {w : World} {x : EV} (h : ArgE w x) : FairE x.e := ⟨h.fit, h.into.fits, h.into.txn.fit.1, h.into.txn.fit.2.1⟩
theorem find_at {l : List Em} {e : Em} {k : Nat} (hk : k < l.length) (hno : ∀ j, j < k → nameM (l.getD j e0) e = false) (hy : nameM (l.getD k e0) e = true) : l.find? (fun z => nameM z e) = some (l.getD k e0) := by
  induction l generalizing k with
  | nil => simp at hk
  | cons x l ih =>
    cases k with
    | zero => simp only [List.getD_cons_zero] at hy ⊢; rw [List.find?_cons, hy]
    | succ k =>
      have h0 := hno 0 (by omega)
      simp only [List.getD_cons_zero] at h0
      simp only [List.getD_cons_succ] at hy ⊢
      rw [List.find?_cons, h0]
      exact ih (by simpa using hk) (fun j hj => by have := hno (j + 1) (by omega); simpa using this) hy
theorem find_no {l : List Em} {e : Em} (hno : ∀ j, j < l.length → nameM (l.getD j e0) e = false) : l.find? (fun z => nameM z e) = none := by
  refine List.find?_eq_none.2 fun z hz => ?_
  obtain ⟨i, hi, rfl⟩ := mem_getD e0 hz
  rw [hno i hi]; simp
end Go.Proofs.YtjkdcpalgfakhaaGreat
