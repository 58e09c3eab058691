/-
  Several texts of one proof, joined: each part says at its head what it proves. No conditions beyond what each theorem states.
-/
import Derived.Laws.AppendOwnNone
import Derived.Deep.RegionWith
import Derived.Shelf.SlSorted.Search
import Derived.Lib.Hide
import Derived.Test.YtjkdcpalgfakhaaGreatZ06
import Derived.Test.YtjkdcpalgfakhaaGreatZ05
import Derived.Test.YtjkdcpalgfakhaaGreatProg
import Derived.Test.YtjkdcpalgfakhaaGreatZ02
/-
  What Join hands back, for every list of entries and every list of such lists that lie in memory. No conditions beyond what each theorem states.
-/
namespace Go.Proofs.YtjkdcpalgfakhaaGreat.Vec
open Go.ChangeShapes Go.WideShapes Go.ChangeAt Go.RowKit Go.Lib
open Go.Sort
set_option linter.unusedVariables false
set_option linter.unusedSimpArgs false

set_option maxHeartbeats 800000 in
theorem clone_any (xs : List En) (p : Option Addr) (c : Nat) (w : World) (hR : Row w p xs) (hl : xs.length ≤ 100000) :
    Calls Tryz.prog 54 #[.slice p xs.length c] w fun e w' => ∃ v', e = .returned v' ∧ Holding w 74 v' xs w' := by
  have q23 : ∀ (w : World) (a : Option Addr) (n c n' c' : Nat), (binOp .eql 24 (.slice a n c) (.slice none n' c')).run Tryz.prog w = .ok (.bool a.isNone) w := fun w a n c n' c' => Lib.run_eql_slice_nil w _ _ a n c n' c' Tryz.underlying24
  cases p with
  | none =>
    have e := row_none hR
    subst e
    clear hR
    go_enter Tryz.func54, Tryz.ntmps54
    go_wp2
    go_ret
    exact ⟨_, rfl, Holding.nil w 74⟩
  | some a =>
    obtain ⟨i0, hi, hz0, hz1, hz2⟩ := info_parts info55
    have HC : Hid (∀ j u, (cellsL xs)[j]? = some u → w.cell? (a.add j) = some u) := cells_of_row hR
    clear hR
    go_enter Tryz.func54, Tryz.ntmps54
    go_wp2_with (first
      | (at_builtin; refine wpList_append_own _ rfl (.tmp 5) (.tmp 6) 24 rfl w.heap.size 74 i0 (.agg #[.int .u16 0, .int .u32 0]) 2 8 Tryz.underlying24 hi hz0 hz1 hz2 rfl (by decide) _ _ _ rfl (World.ownsRow_made w #[] 0 (Nat.le_refl _) (Nat.zero_le _) (by simp)) a xs.length c (cellsL xs) rfl (cellsL_length xs) (fun j u hj => cellA (HC.out j u hj) _) (cellsL_one xs) (by unfold maxLen; omega) (by omega) (by simp) ?_))
    intro v' w1 hown hgrow _
    have HO : Hid (Holding w 74 v' xs w1) := ⟨by simpa using hown, (below_alloc (Below.refl _ _) _).grown hgrow (by simp) (by intro k hk; simp [Value.ownBlock] at hk; omega)⟩
    clear hown hgrow
    go_wp2
    go_ret
    exact ⟨_, rfl, HO.out⟩

/-- The vectors behind a slice of vectors: each one's address, capacity and entries. -/
abbrev Mo := Option Addr × Nat × List En
def atM (ms : List Mo) (i : Nat) : Mo := ms.getD i (none, 0, [])
def flatM (ms : List Mo) : List En := ms.flatMap fun m => m.2.2
def MoreRow (w : World) (q : Option Addr) (ms : List Mo) : Prop :=
  ∀ i, i < ms.length → (∃ b o, q = some ⟨b, o, none⟩ ∧ w.cell? ⟨b, o + i, none⟩ = some (.slice (atM ms i).1 (atM ms i).2.2.length (atM ms i).2.1)) ∧ Row w (atM ms i).1 (atM ms i).2.2 ∧ ((atM ms i).1 = none → (atM ms i).2.1 = 0)
theorem flatM_step (ms : List Mo) (k : Nat) (h : k < ms.length) : flatM (ms.take (k + 1)) = flatM (ms.take k) ++ (atM ms k).2.2 := by
  have e : ms.take (k + 1) = ms.take k ++ [atM ms k] := by rw [List.take_add_one]; simp [atM, h]
  rw [e, flatM, List.flatMap_append]; simp [flatM]
theorem flatM_take_le (ms : List Mo) (k : Nat) : (flatM (ms.take k)).length ≤ (flatM ms).length := by
  have : flatM ms = flatM (ms.take k) ++ flatM (ms.drop k) := by rw [flatM, flatM, flatM, ← List.flatMap_append, List.take_append_drop]
  rw [this, List.length_append]; omega
/-- A slice of the call's own that holds these entries; nil of no room. -/
def GaveV (w : World) (xs : List En) (e : Ending) (w' : World) : Prop := ∃ p c, e = .returned (.slice p xs.length c) ∧ (p = none → c = 0) ∧ Row w' p xs ∧ Below w.heap.size w w'
/-- The entries of all, in order, of one replica the greatest. -/
def Joined (w : World) (l : List En) (e : Ending) (w' : World) : Prop := ∃ ys, ys.Perm l ∧ (∀ i j, i < j → j < ys.length → ltOf most (atL ys j) (atL ys i) = false) ∧ GaveV w (compL ys) e w'

theorem free_of_owns {w : World} {base e g cap : Nat} {xs : List En} (h : w.ownsRow base e 2 (.slice (some ⟨g, 0, none⟩) xs.length cap) xs.length (cellsL xs)) : Free w g 0 xs := fun i hi =>
  ⟨⟨by rw [h.cellAt (0 + i * 2) (by omega), Nat.zero_add]; exact (cellsL_at xs i hi).1, by rw [h.cellAt (0 + i * 2 + 1) (by omega), Nat.zero_add]; exact (cellsL_at xs i hi).2⟩, h.frozenAt _, h.frozenAt _⟩

set_option maxHeartbeats 3200000 in
set_option maxRecDepth 100000 in
theorem join_any (xs : List En) (ms : List Mo) (p q : Option Addr) (c d : Nat) (w : World) (hR : Row w p xs) (hM : MoreRow w q ms) (hl : xs.length + (flatM ms).length ≤ 100000) (hml : ms.length ≤ 100000) :
    Calls Tryz.prog 45 #[.slice p xs.length c, .slice q ms.length d] w (Joined w (xs ++ flatM ms)) := by
  have HR : Hid (Row w p xs) := hR
  have HM : Hid (MoreRow w q ms) := hM
  have HL : Hid (xs.length + (flatM ms).length ≤ 100000) := hl
  have hl0 : xs.length ≤ 100000 := by omega
  obtain ⟨i0, hi, hz0, hz1, hz2⟩ := info_parts info55
  clear hR hM hl
  go_enter Tryz.func45, Tryz.ntmps45
  go_wp2_with (first | (go_at_call 54; refine (clone_any xs p c _ HR.out hl0).mono ?_; rintro e w1 ⟨v1, rfl, ho1⟩))
  have HO1 : Hid (Holding w 74 v1 xs w1) := ho1
  clear ho1
  go_loopg [5, 12] ms.length (fun n s t wr => ∃ k : Nat, k ≤ ms.length ∧ ms.length - k ≤ n ∧ t = .int .i64 k ∧ Holding w 74 s (xs ++ flatM (ms.take k)) wr)
  case atStart => exact ⟨0, Nat.zero_le _, by omega, rfl, by simpa [flatM] using HO1.out⟩
  case round =>
    clear HO1
    obtain ⟨k, hk, hg, rfl, hO⟩ := hrel
    have HO : Hid (Holding w 74 u5 (xs ++ flatM (ms.take k)) wr) := hO
    clear hO
    by_cases hlt : k < ms.length
    · obtain ⟨⟨b, o, rfl, c0'⟩, hrow, hnil⟩ := HM.out k hlt
      have c0 := cellU c0' HO.out.2
      have hle : (xs ++ flatM (ms.take k)).length + (atM ms k).2.2.length ≤ 100000 := by
        have h1 := flatM_take_le ms (k + 1)
        rw [flatM_step ms k hlt, List.length_append] at h1
        have := HL.out
        rw [List.length_append]; omega
      have HST : Hid (flatM (ms.take (k + 1)) = flatM (ms.take k) ++ (atM ms k).2.2) := flatM_step ms k hlt
      have HRW : Hid (Row wr (atM ms k).1 (atM ms k).2.2) := hrow.below HO.out.2
      clear c0' hrow
      obtain ⟨⟨pk, ck, yk⟩, hE⟩ : ∃ m, m = atM ms k := ⟨_, rfl⟩
      rw [← hE] at c0 hnil hle HST HRW
      clear hE
      simp only at c0 hnil hle HST HRW
      cases pk with
      | none =>
        have e := row_none HRW.out
        have e2 := hnil rfl
        subst e e2
        clear hnil HRW
        go_wp2_with (first
          | (at_builtin; refine wpList_append_own_none (.tmp 0) rfl (.tmp 16) (.tmp 17) 24 rfl w.heap.size 74 i0 2 Tryz.underlying24 hi _ _ _ rfl HO.out.1 rfl ?_)
          | (at_builtin; refine wpList_append_own_none rfl (.tmp 16) (.tmp 17) 24 rfl w.heap.size 74 i0 2 Tryz.underlying24 hi _ _ _ rfl HO.out.1 rfl ?_))
        go_roundg (ms.length - (k + 1))
        case measure => omega
        case rel => exact ⟨k + 1, by omega, Nat.le_refl _, by go_num, by rw [HST.out, List.append_nil]; exact HO.out⟩
      | some a =>
        clear hnil
        have hle2 := hle
        rw [List.length_append] at hle2
        go_wp2_with (first
          | (at_builtin; refine wpList_append_own _ rfl (.tmp 16) (.tmp 17) 24 rfl w.heap.size 74 i0 (.agg #[.int .u16 0, .int .u32 0]) 2 8 Tryz.underlying24 hi hz0 hz1 hz2 rfl (by decide) _ _ _ rfl HO.out.1 a yk.length ck (cellsL yk) rfl (cellsL_length yk) (cells_of_row HRW.out) (cellsL_one yk) (by unfold maxLen; omega) (by omega) (by exact HO.out.2.size) ?_))
        intro v' w2 hown hgrow _
        have HO2 : Hid (Holding w 74 v' (xs ++ flatM (ms.take (k + 1))) w2) := by
          rw [HST.out, ← List.append_assoc]
          exact HO.out.cat (by first | exact hown | (rw [List.length_append]; exact hown)) hgrow
        clear hown hgrow
        go_wp2
        go_roundg (ms.length - (k + 1))
        case measure => omega
        case rel => exact ⟨k + 1, by omega, Nat.le_refl _, by go_num, HO2.out⟩
    · have : k = ms.length := by omega
      subst this
      rw [List.take_length] at HO
      obtain ⟨l, hE⟩ : ∃ l, l = xs ++ flatM ms := ⟨_, rfl⟩
      rw [← hE] at HO
      have HE : Hid (l = xs ++ flatM ms) := hE
      have hll : l.length ≤ 100000 := by rw [hE, List.length_append]; exact HL.out
      clear hE HL HM
      obtain ⟨ho, hbe⟩ := HO.out
      rcases ho.2 with ⟨hv, h0⟩ | ⟨g, cap, cur, hv, hbase, hh, h1, h2, h3, h4⟩
      · have e : l = [] := List.eq_nil_of_length_eq_zero h0
        subst e
        subst hv
        have HB : Hid (Below w.heap.size w wr) := hbe
        clear ho hbe h0 HO
        go_wp2_with (first | (go_at_call 65; refine (sort_none _ _ _ _).mono ?_; rintro e w2 ⟨rfl, he⟩; obtain rfl := Eq.symm he) | (go_at_call 67; refine (compact_none 0 none _ _).mono ?_; rintro e w3 ⟨rfl, he⟩; obtain rfl := Eq.symm he))
        go_ret
        rw [← HE.out]
        exact ⟨[], List.Perm.refl _, fun i j _ hj => by simp at hj, none, 0, rfl, fun _ => rfl, fun i hi => by simp [compL, compTo] at hi, HB.out⟩
      · subst hv
        have HFr : Hid (Free wr g 0 l) := free_of_owns ho
        have HB : Hid (Below w.heap.size w wr ∧ w.heap.size ≤ g ∧ g < wr.heap.size) := ⟨hbe, hbase, (Array.getElem?_eq_some_iff.1 hh).1⟩
        have hcap : l.length ≤ cap := h1
        clear ho hbe hh h2 h3 h4 HO hbase h1
        go_wp2_with (first | (go_at_call 65; refine (sort_any w.heap.size g 0 cap l _ HFr.out HB.out.2.2 HB.out.2.1 hll).mono ?_; rintro e w2 ⟨rfl, ys, hperm, hsort, hfree, hbel⟩))
        have hyl := hperm.length_eq
        have HP : Hid (ys.Perm l ∧ (∀ i j, i < j → j < ys.length → ltOf most (atL ys j) (atL ys i) = false)) := ⟨hperm, hsort⟩
        have hgl : g < w2.heap.size := by have := hbel.size; have := HB.out.2.2; omega
        rw [← hyl] at hcap hll ⊢
        refine (compact_any w.heap.size g 0 cap ys w2 hfree hgl HB.out.2.1 hcap hll).mono ?_
        rintro e w3 ⟨p3, c3, rfl, hp3, hr3, hb3⟩
        have HB3 : Hid (Below w.heap.size w w3) := (HB.out.1.trans hbel).trans hb3
        have HR3 : Hid (Row w3 p3 (compL ys) ∧ p3 ≠ none) := ⟨hr3, hp3⟩
        clear hperm hsort hfree hbel hb3 hr3 hp3 hgl hyl HFr
        go_wp2
        go_ret
        rw [← HE.out]
        exact ⟨ys, HP.out.1, HP.out.2, p3, c3, rfl, fun h => absurd h HR3.out.2, HR3.out.1, HB3.out⟩

end Go.Proofs.YtjkdcpalgfakhaaGreat.Vec
/-
  What the document's Join hands back, for every two lists of entries that lie in memory. No conditions beyond what each theorem states.
-/
namespace Go.Proofs.YtjkdcpalgfakhaaGreat.Vec
open Go.ChangeShapes Go.WideShapes Go.ChangeAt Go.RowKit
set_option linter.unusedVariables false
set_option linter.unusedSimpArgs false

def joinStep (v : List En) (y : En) : List En := if getL v y.1 < y.2 then withL v y.1 y.2 else v
/-- What is known by one of two, as the document's reference goes. -/
def joinL (xs ys : List En) : List En := ys.foldl joinStep xs
theorem joinL_step {xs ys : List En} {k : Nat} (h : k < ys.length) : joinL xs (ys.take (k + 1)) = joinStep (joinL xs (ys.take k)) (atL ys k) := by
  rw [take_atL ys k h]; simp [joinL]
theorem withL_le (xs : List En) (r s : Int) : (withL xs r s).length ≤ xs.length + 1 := by
  have h : (lo xs r).length + (hi xs r).length ≤ xs.length := by
    induction xs with
    | nil => simp [lo, hi]
    | cons x xs ih =>
      simp only [lo, hi, List.filter_cons, List.length_cons] at ih ⊢
      split <;> split <;> simp_all <;> omega
  have h2 : (mid r s).length ≤ 1 := by unfold mid; split <;> simp
  simp only [withL, List.length_append]; omega
theorem joinStep_le (v : List En) (y : En) : (joinStep v y).length ≤ v.length + 1 := by
  unfold joinStep; split
  · exact withL_le _ _ _
  · omega

set_option maxHeartbeats 3200000 in
theorem refjoin_any (xs ys : List En) (p q : Option Addr) (c d : Nat) (w : World) (hR : Row w p xs) (hS : Row w q ys) (hl : xs.length ≤ 20000) (hm : ys.length ≤ 20000) :
    Calls Tryz.prog 62 #[.slice p xs.length c, .slice q ys.length d] w (Gave w (joinL xs ys)) := by
  have HS : Hid (Row w q ys) := hS
  have HR : Hid (Row w p xs) := hR
  clear hR hS
  go_enter Tryz.func62, Tryz.ntmps62
  go_wp2
  go_loopg [0, 5] ys.length (fun g s i wr => ∃ (k : Nat) (v : List En) (p' : Option Addr) (c' : Nat), k ≤ ys.length ∧ ys.length - k ≤ g ∧ i = .int .i64 k ∧ s = .slice p' v.length c' ∧ v = joinL xs (ys.take k) ∧ Row wr p' v ∧ v.length ≤ 20000 + k ∧ Below w.heap.size w wr)
  case atStart => exact ⟨0, xs, p, c, Nat.zero_le _, by omega, rfl, rfl, by simp [joinL], HR.out, by omega, Below.refl _ _⟩
  case round =>
    obtain ⟨k, v, p', c', hk, hg, rfl, rfl, hv, hr, hvl, hb⟩ := hrel
    have HV : Hid (v = joinL xs (ys.take k)) := hv
    have HV2 : Hid (Row wr p' v) := hr
    have HB : Hid (Below w.heap.size w wr) := hb
    clear hv hr hb
    by_cases hlt : k < ys.length
    · obtain ⟨b, o, rfl, c0', c1'⟩ := HS.out k hlt
      have c0 := cellU c0' HB.out
      have c1 := cellU c1' HB.out
      clear c0' c1'
      generalize hx : (atL ys k).1 = x at c0
      generalize hy : (atL ys k).2 = y at c1
      have B : Hid (atL ys k = (x, y)) := Prod.ext hx hy
      clear hx hy
      have HG : Hid (∀ W, Below wr.heap.size wr W → Calls Tryz.prog 46 #[.slice p' v.length c', .int .u16 x] W fun e w' => e = .returned (.int .u32 (getL v x)) ∧ w' = W) := fun W hW => refget_any v x p' c' W (HV2.out.below hW) (by omega)
      generalize hz : getL v x = z at HG
      have HZ : Hid (getL v x = z) := hz
      clear hz
      by_cases hlz : z < y
      · have hd : decide (z < y) = true := by simp [hlz]
        go_wp2_with fail
        go_quiet (first | (go_at_call 46; refine Calls.quiet_of_same (HG.out _ (below_drewN (Below.refl _ _) _))))
        go_wp2_with fail
        go_region_with (first | (go_at_call 73; refine (refwith_any v x y p' c' _ (HV2.out.below (by first | exact below_drewN (Below.refl _ _) _ | exact (below_drewN (Below.refl _ _) _).drew)) (by omega)).mono ?_; rintro e w4 ⟨p4, c4, rfl, hr4, hb4⟩))
        all_goals
          have HB4 : Hid (Below w.heap.size w w4) := below_step (below_step HB.out (by first | exact below_drewN (Below.refl _ _) _ | exact (below_drewN (Below.refl _ _) _).drew)) hb4
          have HR4 : Hid (Row w4 p4 (withL v x y)) := hr4
          have hwl := withL_le v x y
          clear hr4 hb4
          go_wp2
          go_roundg (ys.length - (k + 1))
          case measure => omega
          case rel => exact ⟨k + 1, withL v x y, p4, c4, by omega, Nat.le_refl _, by go_num, rfl, by rw [joinL_step hlt, ← HV.out, B.out, joinStep, if_pos (by simp only [HZ.out]; omega)], HR4.out, by omega, HB4.out⟩
      · have hd : decide (z < y) = false := by simp [hlz]
        go_wp2_with fail
        go_quiet (first | (go_at_call 46; refine Calls.quiet_of_same (HG.out _ (below_drewN (Below.refl _ _) _))))
        go_wp2
        go_roundg (ys.length - (k + 1))
        case measure => omega
        case rel => exact ⟨k + 1, v, p', c', by omega, Nat.le_refl _, by go_num, rfl, by rw [joinL_step hlt, ← HV.out, B.out, joinStep, if_neg (by simp only [HZ.out]; omega)], HV2.out.below (below_drewN (Below.refl _ _) _), by omega, below_drewN HB.out _⟩
    · have : k = ys.length := by omega
      subst this
      rw [List.take_length] at HV
      go_wp2
      go_ret
      have e := HV.out
      subst e
      exact ⟨p', c', rfl, HV2.out, HB.out⟩

end Go.Proofs.YtjkdcpalgfakhaaGreat.Vec
/-
  The library's own theorem of the search, laid at this program: sort.Search. Its conditions are the library's.
-/
namespace Go.Proofs
open Go.Shelf
def Tryz.laysSearch_ren : Go.Shelf.Ren := ⟨fun | 16 => 49 | n => n, fun | 3 => 3 | 35 => 112 | 4 => 4 | 38 => 134 | n => n, fun | n => n⟩
theorem Tryz.laysSearch : Go.Proofs.SlLaysO.n16 Tryz.prog Tryz.laysSearch_ren := {
  mixed := by kernel_rfl
  f16 := Tryz.func49.trans (congrArg some (by kernel_rfl))
  t3 := Tryz.underlying3
  a3 := Tryz.isAgg3
  z3 := Tryz.sizeOf3
  v3 := Tryz.zeroValue3
  t4 := Tryz.underlying4
  a4 := Tryz.isAgg4
  z4 := Tryz.sizeOf4
  v4 := Tryz.zeroValue4
  t35 := Tryz.underlying112
  a35 := Tryz.isAgg112
  z35 := Tryz.sizeOf112
  v35 := Tryz.zeroValue112
  t38 := Tryz.underlying134
  a38 := Tryz.isAgg134
  z38 := Tryz.sizeOf134
  v38 := Tryz.zeroValue134 }
end Go.Proofs
/-
  What find and Get hand back, for every list of entries by rising replicas that lies in memory. No conditions beyond what each theorem states.
-/
namespace Go.Proofs.YtjkdcpalgfakhaaGreat.Vec
open Go.ChangeShapes Go.WideShapes Go.ChangeAt Go.RowKit Go.Lib
open Go.Sort
set_option linter.unusedVariables false
set_option linter.unusedSimpArgs false

/-- By rising replicas. -/
def Srt (xs : List En) : Prop := ∀ i j, i < j → j < xs.length → (atL xs i).1 < (atL xs j).1

theorem count_first (p : Nat → Bool) : ∀ n, (∀ a b, a ≤ b → b < n → p a = true → p b = true) → ∀ i, i < n → (p i = true ↔ (List.range n).countP (fun i => !p i) ≤ i)
  | 0, _, i, hi => by omega
  | n + 1, h, i, hi => by
    have ih := count_first p n (fun a b hab hb => h a b hab (by omega))
    have hle : (List.range n).countP (fun i => !p i) ≤ n := by have := List.countP_le_length (p := fun i => !p i) (l := List.range n); simpa using this
    rw [List.range_succ, List.countP_append]
    cases hp : p n with
    | true =>
      have e : List.countP (fun i => !p i) [n] = 0 := by simp [hp]
      rw [e, Nat.add_zero]
      by_cases hin : i = n
      · subst hin; simp [hp, hle]
      · exact ih i (by omega)
    | false =>
      have hall : ∀ j, j < n + 1 → p j = false := fun j hj => by
        cases hj2 : p j with
        | false => rfl
        | true => rw [h j n (by omega) (by omega) hj2] at hp; cases hp
      have e1 : (List.range n).countP (fun i => !p i) = n := by
        rw [List.countP_eq_length.2 (fun a ha => by rw [hall a (by have := List.mem_range.1 ha; omega)]; rfl)]; simp
      have e2 : List.countP (fun i => !p i) [n] = 1 := by simp [hp]
      rw [e1, e2, hall i hi]
      constructor
      · intro h; cases h
      · intro h; omega

/-- How many entries are of lesser replicas. -/
def rank (xs : List En) (r : Int) : Nat := (List.range xs.length).countP (fun i => !decide (r ≤ (atL xs i).1))
def hasL (xs : List En) (r : Int) : Bool := decide (rank xs r < xs.length ∧ (atL xs (rank xs r)).1 = r)
theorem rank_le (xs : List En) (r : Int) : rank xs r ≤ xs.length := by have := List.countP_le_length (p := fun i => !decide (r ≤ (atL xs i).1)) (l := List.range xs.length); simpa [rank] using this
theorem mono_srt {xs : List En} (h : Srt xs) (r : Int) : ∀ a b, a ≤ b → b < xs.length → decide (r ≤ (atL xs a).1) = true → decide (r ≤ (atL xs b).1) = true := by
  intro a b hab hb ha
  simp only [decide_eq_true_eq] at ha ⊢
  rcases Nat.eq_or_lt_of_le hab with e | e
  · subst e; exact ha
  · have := h a b e hb; omega
theorem rank_iff {xs : List En} (h : Srt xs) (r : Int) {i : Nat} (hi : i < xs.length) : r ≤ (atL xs i).1 ↔ rank xs r ≤ i := by
  have := count_first (fun i => decide (r ≤ (atL xs i).1)) xs.length (mono_srt h r) i hi
  simpa [rank] using this

set_option maxHeartbeats 800000 in
theorem findf_any (xs : List En) (r : Int) (p : Option Addr) (c i b1 b2 : Nat) (W : World) (h1 : W.cell? ⟨b1, 0, none⟩ = some (.slice p xs.length c)) (h2 : W.cell? ⟨b2, 0, none⟩ = some (.int .u16 r)) (hR : Row W p xs) (hi : i < xs.length) (hl : xs.length ≤ 1000000) :
    Calls Tryz.prog 74 #[.int .i64 i, .pointer (some ⟨b1, 0, none⟩), .pointer (some ⟨b2, 0, none⟩)] W fun e w' => e = .returned (.bool (decide (r ≤ (atL xs i).1))) ∧ ∃ q os', w' = grow (W.drewN q) os' := by
  obtain ⟨b, o, rfl, c0, c1⟩ := hR i hi
  clear hR c1
  generalize (atL xs i).1 = x at c0 ⊢
  go_enter Tryz.func74, Tryz.ntmps74
  go_wp2_with fail
  go_quiet (fail)
  go_wp2
  go_ret
  exact ⟨rfl, _, #[], (grow_empty _).symm⟩

theorem below_grown (w : World) (q : Nat) (os : Array Obj) : Below w.heap.size w (grow (w.drewN q) os) := ⟨rfl, rfl, rfl, by simp [grow], fun k hk => by simp [grow, Array.getElem?_append, hk]⟩

set_option maxHeartbeats 1600000 in
set_option maxRecDepth 100000 in
theorem find_any (xs : List En) (r : Int) (p : Option Addr) (c : Nat) (w : World) (hR : Row w p xs) (hs : Srt xs) (hl : xs.length ≤ 1000000) :
    Calls Tryz.prog 64 #[.slice p xs.length c, .int .u16 r] w fun e w' => e = .returned (.tuple #[.int .i64 (rank xs r : Nat), .bool (hasL xs r)]) ∧ Below w.heap.size w w' := by
  have eg : ∀ args w, (callFunc 74 args).run Tryz.prog w = .ok (.enter 74 args) w := enters_of Tryz.func74 (by kernel_rfl) rfl
  have HR : Hid (Row w p xs) := hR
  have hb2 : Below w.heap.size w ((w.alloc (.cells #[.slice p xs.length c] 24)).alloc (.cells #[.int .u16 r] 31)) := below_alloc (below_alloc (Below.refl _ _) _) _
  have g1 : ((w.alloc (.cells #[.slice p xs.length c] 24)).alloc (.cells #[.int .u16 r] 31)).cell? ⟨w.heap.size, 0, none⟩ = some (.slice p xs.length c) := cellA (by simp) _
  have g2 : ((w.alloc (.cells #[.slice p xs.length c] 24)).alloc (.cells #[.int .u16 r] 31)).cell? ⟨w.heap.size + 1, 0, none⟩ = some (.int .u16 r) := by simp
  have hsr := Any.sort_Search Tryz.laysSearch 74 #[.pointer (some ⟨w.heap.size, 0, none⟩), .pointer (some ⟨w.heap.size + 1, 0, none⟩)] xs.length (fun i => decide (r ≤ (atL xs i).1)) ((w.alloc (.cells #[.slice p xs.length c] 24)).alloc (.cells #[.int .u16 r] 31)) eg (by omega)
    (fun m os i hi => findf_any xs r p c i w.heap.size (w.heap.size + 1) _ (cellU g1 (below_grown _ m os)) (cellU g2 (below_grown _ m os)) ((hR.below hb2).below (below_grown _ m os)) hi hl) (mono_srt hs r)
  change Calls Tryz.prog 49 _ _ _ at hsr
  have HS := Lib.hid hsr
  have HRK : Hid ((List.range xs.length).countP (fun i => !decide (r ≤ (atL xs i).1)) = rank xs r) := rfl
  rw [HRK.out] at HS
  have hrl := rank_le xs r
  have G : Hid (((w.alloc (.cells #[.slice p xs.length c] 24)).alloc (.cells #[.int .u16 r] 31)).cell? ⟨w.heap.size, 0, none⟩ = some (.slice p xs.length c) ∧ ((w.alloc (.cells #[.slice p xs.length c] 24)).alloc (.cells #[.int .u16 r] 31)).cell? ⟨w.heap.size + 1, 0, none⟩ = some (.int .u16 r)) := ⟨g1, g2⟩
  have HB2 := Lib.hid hb2
  have HH : Hid (hasL xs r = decide (rank xs r < xs.length ∧ (atL xs (rank xs r)).1 = r)) := rfl
  generalize rank xs r = k at HS hrl HH ⊢
  generalize hasL xs r = b at HH ⊢
  clear hsr hR hs g1 g2 hb2 HRK
  go_enter Tryz.func64, Tryz.ntmps64
  go_wp2_with (first | (go_at_call 49; refine HS.out.mono ?_; rintro e w1 ⟨rfl, q, os, rfl⟩))
  have g1 := cellU G.out.1 (below_grown _ q os)
  have g2 := cellU G.out.2 (below_grown _ q os)
  have HB3 : Hid (Below w.heap.size w (grow (((w.alloc (.cells #[.slice p xs.length c] 24)).alloc (.cells #[.int .u16 r] 31)).drewN q) os)) := below_step HB2.out (below_grown _ q os)
  clear HS HB2 G
  generalize grow (((w.alloc (.cells #[.slice p xs.length c] 24)).alloc (.cells #[.int .u16 r] 31)).drewN q) os = W at g1 g2 HB3 ⊢
  have HRW : Hid (Row W p xs) := HR.out.below HB3.out
  clear HR
  by_cases hk : k < xs.length
  · have hk' : (k : Int) < (xs.length : Int) := by omega
    obtain ⟨b', o, rfl, c0, -⟩ := HRW.out k hk
    have HE : Hid (∀ v, v = decide ((atL xs k).1 = r) → b = v) := fun v hv => by rw [HH.out, hv]; simp [hk]
    generalize (atL xs k).1 = x at c0 HE
    clear HH
    by_cases hx : x = r
    · have hx' : (x == r) = true := by simp [hx]
      have e := HE.out true (by simp [hx])
      subst e
      go_quiet (fail)
      go_wp2
      go_ret2
      exact ⟨rfl, below_drewN HB3.out _⟩
    · have hx' : (x == r) = false := by simp [hx]
      have e := HE.out false (by simp [hx])
      subst e
      go_quiet (fail)
      go_wp2
      go_ret2
      exact ⟨rfl, below_drewN HB3.out _⟩
  · have hk' : decide ((k : Int) < (xs.length : Int)) = false := by simp; omega
    have hkn : ¬ (k : Int) < (xs.length : Int) := by omega
    have e : b = false := by rw [HH.out]; simp [hk]
    subst e
    clear HH
    go_quiet (fail)
    go_wp2
    go_ret2
    exact ⟨rfl, below_drewN HB3.out _⟩

theorem getL_has {xs : List En} (h : Srt xs) {r : Int} (hh : hasL xs r = true) : getL xs r = (atL xs (rank xs r)).2 := by
  simp only [hasL, decide_eq_true_eq] at hh
  refine getL_at hh.1 (fun i hi e => ?_) hh.2
  have := (rank_iff h r (show i < xs.length by omega)).1 (by omega)
  omega
theorem getL_hasnt {xs : List En} (h : Srt xs) {r : Int} (hh : hasL xs r = false) : getL xs r = 0 := by
  refine getL_none fun i hi e => ?_
  simp only [hasL, decide_eq_false_iff_not] at hh
  have h1 := (rank_iff h r hi).1 (by omega)
  apply hh
  have h2 := (rank_iff h r (show rank xs r < xs.length by omega)).2 (Nat.le_refl _)
  refine ⟨by omega, ?_⟩
  rcases Nat.eq_or_lt_of_le h1 with e2 | e2
  · rw [e2]; exact e
  · have := h _ _ e2 hi; omega

set_option maxHeartbeats 800000 in
theorem get_any (xs : List En) (r : Int) (p : Option Addr) (c : Nat) (w : World) (hR : Row w p xs) (hs : Srt xs) (hl : xs.length ≤ 1000000) :
    Calls Tryz.prog 57 #[.slice p xs.length c, .int .u16 r] w fun e w' => e = .returned (.int .u32 (getL xs r)) ∧ Below w.heap.size w w' := by
  have HF : Hid (Calls Tryz.prog 64 #[.slice p xs.length c, .int .u16 r] w fun e w' => e = .returned (.tuple #[.int .i64 (rank xs r : Nat), .bool (hasL xs r)]) ∧ Below w.heap.size w w') := find_any xs r p c w hR hs hl
  have HR : Hid (Row w p xs) := hR
  clear hR
  cases hh : hasL xs r with
  | true =>
    have hk : rank xs r < xs.length := by simp only [hasL, decide_eq_true_eq] at hh; exact hh.1
    rw [getL_has hs hh]
    rw [hh] at HF
    clear hh
    generalize rank xs r = k at HF hk ⊢
    obtain ⟨b', o, rfl, -, c1⟩ := HR.out k hk
    generalize (atL xs k).2 = y at c1 ⊢
    go_enter Tryz.func57, Tryz.ntmps57
    go_wp2_with (first | (go_at_call 64; refine HF.out.mono ?_; rintro e w1 ⟨rfl, hb⟩; have c2 := cellU c1 hb))
    go_ret
    exact ⟨rfl, hb⟩
  | false =>
    rw [getL_hasnt hs hh]
    rw [hh] at HF
    clear hh
    generalize rank xs r = k at HF ⊢
    go_enter Tryz.func57, Tryz.ntmps57
    go_wp2_with (first | (go_at_call 64; refine HF.out.mono ?_; rintro e w1 ⟨rfl, hb⟩))
    go_ret
    exact ⟨rfl, hb⟩

end Go.Proofs.YtjkdcpalgfakhaaGreat.Vec
/-
  What it is to join vectors, in plain terms, with no program: the list is the one that has of each replica the greatest entry; the document's reference and the program's way both come to it. No conditions beyond what each theorem states.
-/
namespace Go.Proofs.YtjkdcpalgfakhaaGreat.Vec
open Go.ChangeShapes Go.WideShapes Go.ChangeAt Go.RowKit Go.Lib
open Go.Sort
set_option linter.unusedVariables false
set_option linter.unusedSimpArgs false

def SP (xs : List En) : Prop := xs.Pairwise fun a b => a.1 < b.1
theorem srt_of_sp {xs : List En} (h : SP xs) : Srt xs := fun i j hij hj => by
  have := List.pairwise_iff_getElem.1 h i j (by omega) hj hij
  simpa [atL, show i < xs.length by omega, hj] using this
theorem sp_of_srt {xs : List En} (h : Srt xs) : SP xs := List.pairwise_iff_getElem.2 fun i j hi hj hij => by
  have := h i j hij hj
  simpa [atL, hi, hj] using this
theorem srt_of_right {xs : List En} (h : RightP xs) : Srt xs := by
  intro i j hij hj
  induction j with
  | zero => omega
  | succ j ih =>
    have h1 := (h (j + 1) hj).2.2 (by omega)
    simp only [Nat.add_sub_cancel] at h1
    rcases Nat.lt_or_ge i j with h2 | h2
    · have := ih h2 (by omega); omega
    · have : i = j := by omega
      subst this; exact h1
theorem right_iff (xs : List En) : RightP xs ↔ Srt xs ∧ ∀ x ∈ xs, 1 ≤ x.2 ∧ x.2 ≤ 268435456 := by
  constructor
  · intro h
    refine ⟨srt_of_right h, fun x hx => ?_⟩
    obtain ⟨i, hi, rfl⟩ := mem_atL hx
    exact ⟨(h i hi).1, (h i hi).2.1⟩
  · rintro ⟨h1, h2⟩ i hi
    exact ⟨(h2 _ (atL_mem hi)).1, (h2 _ (atL_mem hi)).2, fun h0 => h1 _ _ (by omega) hi⟩
theorem sp_inj {xs : List En} (h : SP xs) : ∀ {x y : En}, x ∈ xs → y ∈ xs → x.1 = y.1 → x = y := by
  intro x y hx hy e
  obtain ⟨i, hi, rfl⟩ := mem_atL hx
  obtain ⟨j, hj, rfl⟩ := mem_atL hy
  rcases Nat.lt_trichotomy i j with h1 | h1 | h1
  · have := srt_of_sp h i j h1 hj; omega
  · rw [h1]
  · have := srt_of_sp h j i h1 hi; omega
theorem sp_ext : ∀ {xs ys : List En}, SP xs → SP ys → (∀ x, x ∈ xs ↔ x ∈ ys) → xs = ys
  | [], [], _, _, _ => rfl
  | [], y :: ys, _, _, h => by have := (h y).2 (by simp); cases this
  | x :: xs, [], _, _, h => by have := (h x).1 (by simp); cases this
  | x :: xs, y :: ys, hx, hy, h => by
    have h1 := List.pairwise_cons.1 hx
    have h2 := List.pairwise_cons.1 hy
    have e : x = y := by
      rcases List.mem_cons.1 ((h x).1 (by simp)) with e | e
      · exact e
      · rcases List.mem_cons.1 ((h y).2 (by simp)) with e2 | e2
        · exact e2.symm
        · have a := h2.1 x e; have b := h1.1 y e2; omega
    subst e
    rw [sp_ext h1.2 h2.2 (fun z => by
      constructor
      · intro hz
        rcases List.mem_cons.1 ((h z).1 (by simp [hz])) with e | e
        · have := h1.1 z hz; rw [e] at this; omega
        · exact e
      · intro hz
        rcases List.mem_cons.1 ((h z).2 (by simp [hz])) with e | e
        · have := h2.1 z hz; rw [e] at this; omega
        · exact e)]

/-- Each one's entry is known by another list, or more. -/
def Dom (a b : List En) : Prop := ∀ x ∈ a, ∃ y ∈ b, y.1 = x.1 ∧ x.2 ≤ y.2
theorem Dom.of_sub {a b : List En} (h : ∀ x ∈ a, x ∈ b) : Dom a b := fun x hx => ⟨x, h x hx, rfl, Int.le_refl _⟩
theorem Dom.trans {a b c : List En} (h : Dom a b) (k : Dom b c) : Dom a c := fun x hx => by
  obtain ⟨y, hy, e, l⟩ := h x hx
  obtain ⟨z, hz, e2, l2⟩ := k y hy
  exact ⟨z, hz, by omega, by omega⟩
theorem Dom.app {a b c : List En} (h : Dom a c) (k : Dom b c) : Dom (a ++ b) c := fun x hx => by
  rcases List.mem_append.1 hx with hx | hx
  · exact h x hx
  · exact k x hx
theorem Dom.left {a b c : List En} (h : Dom a b) : Dom a (b ++ c) := h.trans (Dom.of_sub fun x hx => by simp [hx])
theorem Dom.right {a b c : List En} (h : Dom a c) : Dom a (b ++ c) := h.trans (Dom.of_sub fun x hx => by simp [hx])
theorem Dom.refl (a : List En) : Dom a a := Dom.of_sub fun _ h => h

/-- The list that has of each replica the greatest entry. -/
structure IsJoin (l z : List En) : Prop where
  sp : SP z
  sub : ∀ x ∈ z, x ∈ l
  dom : Dom l z
theorem IsJoin.back {l z : List En} (h : IsJoin l z) : Dom z l := Dom.of_sub h.sub
theorem IsJoin.congr {l m z : List En} (h : IsJoin l z) (a : Dom l m) (b : Dom m l) : IsJoin m z := by
  refine ⟨h.sp, fun x hx => ?_, b.trans h.dom⟩
  obtain ⟨y, hy, e, le⟩ := a x (h.sub x hx)
  obtain ⟨y', hy', e', le'⟩ := (b.trans h.dom) y hy
  have := sp_inj h.sp hy' hx (by omega)
  subst this
  have : y = y' := Prod.ext (by omega) (by omega)
  subst this; exact hy
theorem IsJoin.unique {l z z' : List En} (h : IsJoin l z) (h' : IsJoin l z') : z = z' := by
  have key : ∀ {z z' : List En}, IsJoin l z → IsJoin l z' → ∀ x, x ∈ z → x ∈ z' := by
    intro z z' h h' x hx
    exact ((h'.congr (h.dom) h.back).sub) |> fun _ => by
      obtain ⟨y, hy, e, le⟩ := h'.dom x (h.sub x hx)
      obtain ⟨y2, hy2, e2, le2⟩ := h.dom y (h'.sub y hy)
      have := sp_inj h.sp hy2 hx (by omega)
      subst this
      have : y = y2 := Prod.ext (by omega) (by omega)
      subst this; exact hy
  exact sp_ext h.sp h'.sp fun x => ⟨key h h' x, key h' h x⟩
theorem IsJoin.self {z : List En} (h : SP z) : IsJoin z z := ⟨h, fun _ hx => hx, Dom.refl z⟩

theorem getL_mem {xs : List En} (h : SP xs) {x : En} (hx : x ∈ xs) : getL xs x.1 = x.2 := by
  obtain ⟨i, hi, rfl⟩ := mem_atL hx
  exact getL_at hi (fun j hj e => by have := srt_of_sp h j i hj hi; omega) rfl
theorem getL_zero {xs : List En} {r : Int} (h : ∀ x ∈ xs, x.1 ≠ r) : getL xs r = 0 := getL_none fun i hi => h _ (atL_mem hi)

theorem IsJoin.step {l v : List En} (h : IsJoin l v) {y : En} (hy : 1 ≤ y.2) : IsJoin (l ++ [y]) (joinStep v y) := by
  unfold joinStep
  by_cases hg : getL v y.1 < y.2
  · rw [if_pos hg]
    have hm : mid y.1 y.2 = [y] := by rw [mid, if_pos (by omega)]
    refine ⟨?_, ?_, ?_⟩
    · rw [withL, hm]
      refine List.pairwise_append.2 ⟨List.pairwise_append.2 ⟨h.sp.filter _, by simp, ?_⟩, h.sp.filter _, ?_⟩
      · intro a ha b hb
        simp only [lo, List.mem_filter, decide_eq_true_eq] at ha
        simp only [List.mem_singleton] at hb
        subst hb; exact ha.2
      · intro a ha b hb
        simp only [hi, List.mem_filter, decide_eq_true_eq] at hb
        rcases List.mem_append.1 ha with ha | ha
        · simp only [lo, List.mem_filter, decide_eq_true_eq] at ha; omega
        · simp only [List.mem_singleton] at ha; subst ha; exact hb.2
    · intro x hx
      rw [withL, hm] at hx
      simp only [List.mem_append, lo, hi, List.mem_filter, List.mem_singleton] at hx ⊢
      rcases hx with (hx | hx) | hx
      · exact Or.inl (h.sub x hx.1)
      · exact Or.inr hx
      · exact Or.inl (h.sub x hx.1)
    · refine Dom.app (fun x hx => ?_) (Dom.of_sub fun x hx => by rw [withL, hm]; simp only [List.mem_append]; exact Or.inl (Or.inr hx))
      obtain ⟨z, hz, e, le⟩ := h.dom x hx
      rw [withL, hm]
      rcases Int.lt_trichotomy z.1 y.1 with h1 | h1 | h1
      · exact ⟨z, by simp [lo, hz, h1], e, le⟩
      · have := getL_mem h.sp hz
        rw [h1] at this
        exact ⟨y, by simp, by omega, by omega⟩
      · exact ⟨z, by simp [hi, hz, h1], e, le⟩
  · rw [if_neg hg]
    refine ⟨h.sp, fun x hx => by simp [h.sub x hx], Dom.app h.dom fun x hx => ?_⟩
    simp only [List.mem_singleton] at hx
    subst hx
    by_cases hex : ∃ z ∈ v, z.1 = x.1
    · obtain ⟨z, hz, e⟩ := hex
      have := getL_mem h.sp hz
      rw [e] at this
      exact ⟨z, hz, e, by omega⟩
    · have : getL v x.1 = 0 := getL_zero fun z hz e => hex ⟨z, hz, e⟩
      omega
theorem IsJoin.fold {ys : List En} (hy : ∀ y ∈ ys, 1 ≤ y.2) : ∀ {l v : List En}, IsJoin l v → IsJoin (l ++ ys) (joinL v ys) := by
  induction ys with
  | nil => intro l v h; simpa [joinL] using h
  | cons y ys ih =>
    intro l v h
    have := ih (fun z hz => hy z (by simp [hz])) (h.step (hy y (by simp)))
    simpa [joinL] using this

/-- What the sort and the compacting leave is the list that has of each replica the greatest. -/
theorem comp_inv {ys : List En} (hs : ∀ i j, i < j → j < ys.length → (atL ys i).1 < (atL ys j).1 ∨ (atL ys i).1 = (atL ys j).1 ∧ (atL ys j).2 ≤ (atL ys i).2) : ∀ m, m ≤ ys.length →
    SP (compTo ys m) ∧ (∀ x ∈ compTo ys m, x ∈ ys ∧ (0 < m → x.1 ≤ (atL ys (m - 1)).1)) ∧ (∀ i, i < m → ∃ y ∈ compTo ys m, y.1 = (atL ys i).1 ∧ (atL ys i).2 ≤ y.2)
  | 0, _ => ⟨by simp [compTo, SP], by simp [compTo], fun i hi => by omega⟩
  | m + 1, hm => by
    obtain ⟨h1, h2, h3⟩ := comp_inv hs m (by omega)
    rw [compTo]
    by_cases hk : keepsL ys m = true
    · rw [if_pos hk]
      have hlt : ∀ x ∈ compTo ys m, x.1 < (atL ys m).1 := fun x hx => by
        cases m with
        | zero => simp [compTo] at hx
        | succ m =>
          have a := (h2 x hx).2 (by omega)
          simp only [keepsL, decide_eq_true_eq] at hk
          have b := hs m (m + 1) (by omega) (by omega)
          simp only [Nat.add_sub_cancel] at a hk
          omega
      refine ⟨List.pairwise_append.2 ⟨h1, by simp, fun a ha b hb => by simp only [List.mem_singleton] at hb; subst hb; exact hlt a ha⟩, fun x hx => ?_, fun i hi => ?_⟩
      · rcases List.mem_append.1 hx with hx | hx
        · exact ⟨(h2 x hx).1, fun _ => by have := hlt x hx; simp only [Nat.add_sub_cancel]; omega⟩
        · simp only [List.mem_singleton] at hx
          subst hx
          exact ⟨atL_mem (by omega), fun _ => by simp⟩
      · by_cases e : i = m
        · subst e; exact ⟨_, by simp, rfl, Int.le_refl _⟩
        · obtain ⟨y, hy, e1, e2⟩ := h3 i (by omega)
          exact ⟨y, by simp [hy], e1, e2⟩
    · rw [if_neg hk]
      have hm0 : 0 < m := by
        rcases Nat.eq_zero_or_pos m with e | e
        · subst e; exact absurd (keeps_zero ys) hk
        · exact e
      have he : (atL ys m).1 = (atL ys (m - 1)).1 := by
        simp only [keepsL, decide_eq_true_eq, not_or, Decidable.not_not] at hk
        exact hk.2
      refine ⟨h1, fun x hx => ⟨(h2 x hx).1, fun _ => by have := (h2 x hx).2 hm0; simp only [Nat.add_sub_cancel]; omega⟩, fun i hi => ?_⟩
      by_cases e : i = m
      · subst e
        obtain ⟨y, hy, e1, e2⟩ := h3 (i - 1) (by omega)
        have := hs (i - 1) i (by omega) (by omega)
        exact ⟨y, hy, by omega, by omega⟩
      · exact h3 i (by omega)

theorem isJoin_comp {l ys : List En} (hp : ys.Perm l) (hs : ∀ i j, i < j → j < ys.length → ltOf most (atL ys j) (atL ys i) = false) : IsJoin l (compL ys) := by
  have hs' : ∀ i j, i < j → j < ys.length → (atL ys i).1 < (atL ys j).1 ∨ (atL ys i).1 = (atL ys j).1 ∧ (atL ys j).2 ≤ (atL ys i).2 := fun i j hij hj => by
    have := hs i j hij hj
    rw [lt_most] at this
    simp only [decide_eq_false_iff_not] at this
    omega
  obtain ⟨h1, h2, h3⟩ := comp_inv hs' ys.length (Nat.le_refl _)
  refine ⟨h1, fun x hx => hp.mem_iff.1 (h2 x hx).1, fun x hx => ?_⟩
  obtain ⟨i, hi, rfl⟩ := mem_atL (hp.mem_iff.2 hx)
  exact h3 i hi

/-- Join, where it is known what the joined list is. -/
theorem join_to (xs : List En) (ms : List Mo) (Z : List En) (hZ : IsJoin (xs ++ flatM ms) Z) (p q : Option Addr) (c d : Nat) (w : World) (hR : Row w p xs) (hM : MoreRow w q ms) (hl : xs.length + (flatM ms).length ≤ 100000) (hml : ms.length ≤ 100000) :
    Calls Tryz.prog 45 #[.slice p xs.length c, .slice q ms.length d] w (GaveV w Z) :=
  (join_any xs ms p q c d w hR hM hl hml).mono fun e w' ⟨ys, hp, hs, hg⟩ => by
    rw [hZ.unique (isJoin_comp hp hs)]; exact hg

theorem covers_of_dom {l z : List En} (h : IsJoin l z) {u : List En} (hu : Dom u l) : coversL z u = true := decide_eq_true fun y hy => by
  obtain ⟨x, hx, e, le⟩ := (hu.trans h.dom) y hy
  have := getL_mem h.sp hx
  rw [e] at this; omega
theorem covers_join {u v z : List En} (h : IsJoin (u ++ v) z) (w : List En) : coversL w z = (coversL w u && coversL w v) := by
  rw [Bool.eq_iff_iff, Bool.and_eq_true]
  simp only [coversL, decide_eq_true_eq]
  constructor
  · intro hh
    refine ⟨fun y hy => ?_, fun y hy => ?_⟩
    · obtain ⟨x, hx, e, le⟩ := h.dom y (by simp [hy])
      have := hh x hx; rw [e] at this; omega
    · obtain ⟨x, hx, e, le⟩ := h.dom y (by simp [hy])
      have := hh x hx; rw [e] at this; omega
  · rintro ⟨h1, h2⟩ y hy
    rcases List.mem_append.1 (h.sub y hy) with h3 | h3
    · exact h1 y h3
    · exact h2 y h3

end Go.Proofs.YtjkdcpalgfakhaaGreat.Vec
/-
  Envelopes that wait, as a plain list by their names: what is put, taken, dropped and wanted. Of no program; no conditions beyond what each theorem states.
-/
namespace Go.Proofs.YtjkdcpalgfakhaaGreat
open Go.ChangeShapes Go.WideShapes Go.ChangeAt Go.RowKit Go.Lib
set_option linter.unusedVariables false
set_option linter.unusedSimpArgs false

/-- Does a name stand ahead of another one? -/
def aheadM (a b : Em) : Bool := decide (a.txn.r < b.txn.r ∨ a.txn.r = b.txn.r ∧ a.txn.seq < b.txn.seq)
def nameM (a b : Em) : Bool := decide (a.txn.r = b.txn.r ∧ a.txn.seq = b.txn.seq)
def hasM (l : List Em) (e : Em) : Bool := l.any fun x => nameM x e
def putM (l : List Em) (e : Em) : List Em := l.filter (fun x => aheadM x e) ++ [e] ++ l.filter (fun x => aheadM e x)
/-- The place of the first that is ready. -/
def readyM : List Em → List Vec.En → Option Nat
  | [], _ => none
  | x :: l, h => if readyE x h = true then some 0 else (readyM l h).map (· + 1)
def dropM (l : List Em) (h : List Vec.En) : List Em := l.filter fun x => !pastE x h
def allStep (v : List Vec.En) (e : Em) : List Vec.En := if 1 < e.txn.seq then Vec.joinL (Vec.joinL v e.deps) [(e.txn.r, e.txn.seq - 1)] else Vec.joinL v e.deps
/-- What must be known ahead of any of them. -/
def allM (l : List Em) : List Vec.En := l.foldl allStep []
def wantsM (l : List Em) (h : List Vec.En) : List Vec.Gp := Vec.lacksL h (allM l)

theorem nameM_iff {a b : Em} : nameM a b = true ↔ a.txn.r = b.txn.r ∧ a.txn.seq = b.txn.seq := by unfold nameM; simp
theorem hasM_iff {l : List Em} {e : Em} : hasM l e = true ↔ ∃ x ∈ l, x.txn.r = e.txn.r ∧ x.txn.seq = e.txn.seq := by
  unfold hasM
  rw [List.any_eq_true]
  exact ⟨fun ⟨x, hx, h⟩ => ⟨x, hx, nameM_iff.1 h⟩, fun ⟨x, hx, h⟩ => ⟨x, hx, nameM_iff.2 h⟩⟩
theorem mem_putM {l : List Em} {e x : Em} (hn : hasM l e = false) : x ∈ putM l e ↔ x = e ∨ x ∈ l := by
  unfold putM
  simp only [List.mem_append, List.mem_filter, List.mem_singleton]
  constructor
  · rintro ((h | h) | h)
    · exact Or.inr h.1
    · exact Or.inl h
    · exact Or.inr h.1
  · rintro (h | h)
    · exact Or.inl (Or.inr h)
    · by_cases h1 : aheadM x e = true
      · exact Or.inl (Or.inl ⟨h, h1⟩)
      · refine Or.inr ⟨h, ?_⟩
        have hne : ¬ (x.txn.r = e.txn.r ∧ x.txn.seq = e.txn.seq) := fun hh => by
          have := hasM_iff.2 ⟨x, h, hh⟩
          rw [hn] at this; cases this
        unfold aheadM at h1 ⊢
        simp only [decide_eq_true_eq] at h1 ⊢
        omega
theorem putM_length {l : List Em} {e : Em} (hn : hasM l e = false) : (putM l e).length = l.length + 1 := by
  unfold putM
  have key : ∀ m : List Em, (∀ x ∈ m, ¬ (x.txn.r = e.txn.r ∧ x.txn.seq = e.txn.seq)) → (m.filter (fun x => aheadM x e)).length + (m.filter (fun x => aheadM e x)).length = m.length := by
    intro m
    induction m with
    | nil => intro _; rfl
    | cons y m ih =>
      intro h
      have hy := h y (by simp)
      have i := ih (fun x hx => h x (by simp [hx]))
      simp only [List.filter_cons]
      unfold aheadM at i ⊢
      by_cases h1 : y.txn.r < e.txn.r ∨ y.txn.r = e.txn.r ∧ y.txn.seq < e.txn.seq
      · have h2 : ¬ (e.txn.r < y.txn.r ∨ e.txn.r = y.txn.r ∧ e.txn.seq < y.txn.seq) := by omega
        rw [if_pos (by simpa using h1), if_neg (by simpa using h2)]
        simp only [List.length_cons]; omega
      · have h2 : e.txn.r < y.txn.r ∨ e.txn.r = y.txn.r ∧ e.txn.seq < y.txn.seq := by omega
        rw [if_neg (by simpa using h1), if_pos (by simpa using h2)]
        simp only [List.length_cons]; omega
  have := key l (fun x hx hh => by
    have := hasM_iff.2 ⟨x, hx, hh⟩
    rw [hn] at this; cases this)
  simp only [List.length_append, List.length_singleton]
  omega
theorem readyM_some {l : List Em} {h : List Vec.En} {i : Nat} (hi : readyM l h = some i) : ∃ hlt : i < l.length, readyE l[i] h = true := by
  induction l generalizing i with
  | nil => cases hi
  | cons x l ih =>
    rw [readyM] at hi
    by_cases hx : readyE x h = true
    · rw [if_pos hx] at hi
      cases hi
      exact ⟨by simp, hx⟩
    · rw [if_neg hx] at hi
      cases hr : readyM l h with
      | none => rw [hr] at hi; cases hi
      | some k =>
        rw [hr] at hi
        cases hi
        obtain ⟨h1, h2⟩ := ih hr
        exact ⟨by simpa using h1, by simpa using h2⟩
theorem readyM_none {l : List Em} {h : List Vec.En} (hi : readyM l h = none) : ∀ x ∈ l, readyE x h = false := by
  induction l with
  | nil => intro x hx; cases hx
  | cons y l ih =>
    intro x hx
    rw [readyM] at hi
    by_cases hy : readyE y h = true
    · rw [if_pos hy] at hi; cases hi
    · rw [if_neg hy] at hi
      rcases List.mem_cons.1 hx with rfl | hx
      · simpa using hy
      · exact ih (by cases hr : readyM l h with
          | none => rfl
          | some k => rw [hr] at hi; cases hi) x hx
/-- No two of one name. -/
def OnceM (l : List Em) : Prop := l.Pairwise fun a b => nameM a b = false
theorem nameM_comm (a b : Em) : nameM a b = nameM b a := by
  unfold nameM
  apply decide_eq_decide.2
  omega
theorem OnceM.perm {l m : List Em} (h : OnceM l) (hp : m.Perm l) : OnceM m := (hp.pairwise_iff (fun {a b} hab => by rw [nameM_comm]; exact hab)).2 h
theorem putM_perm {l : List Em} {e : Em} (hn : hasM l e = false) : (putM l e).Perm (e :: l) := by
  have key : ∀ m : List Em, (∀ x ∈ m, ¬ (x.txn.r = e.txn.r ∧ x.txn.seq = e.txn.seq)) → (m.filter (fun x => aheadM x e) ++ m.filter (fun x => aheadM e x)).Perm m := by
    intro m
    induction m with
    | nil => intro _; exact List.Perm.refl _
    | cons y m ih =>
      intro h
      have hy := h y (by simp)
      have i := ih (fun x hx => h x (by simp [hx]))
      simp only [List.filter_cons]
      by_cases h1 : aheadM y e = true
      · have h2 : ¬ aheadM e y = true := by unfold aheadM at h1 ⊢; simp only [decide_eq_true_eq] at h1 ⊢; omega
        rw [if_pos h1, if_neg h2]
        exact i.cons y
      · have h2 : aheadM e y = true := by unfold aheadM at h1 ⊢; simp only [decide_eq_true_eq] at h1 ⊢; omega
        rw [if_neg h1, if_pos h2]
        exact List.perm_middle.trans (i.cons y)
  have hk := key l (fun x hx hh => by
    have := hasM_iff.2 ⟨x, hx, hh⟩
    rw [hn] at this; cases this)
  unfold putM
  rw [List.append_assoc]
  exact List.perm_middle.trans (hk.cons e)
theorem OnceM.put {l : List Em} {e : Em} (h : OnceM l) (hn : hasM l e = false) : OnceM (putM l e) := by
  refine OnceM.perm ?_ (putM_perm hn)
  refine List.pairwise_cons.2 ⟨fun x hx => ?_, h⟩
  cases hc : nameM e x with
  | false => rfl
  | true =>
    have := nameM_iff.1 hc
    have := hasM_iff.2 ⟨x, hx, this.1.symm, this.2.symm⟩
    rw [hn] at this; cases this

/-- What is known, as numbers: joined, one more, the gaps. -/
theorem sp_srt {xs : List Vec.En} : Vec.SP xs ↔ Vec.Srt xs := ⟨Vec.srt_of_sp, Vec.sp_of_srt⟩
theorem getL_pos_mem {xs : List Vec.En} {r : Int} (h : Vec.getL xs r ≠ 0) : (r, Vec.getL xs r) ∈ xs := by
  induction xs with
  | nil => exact absurd rfl h
  | cons x xs ih =>
    unfold Vec.getL at h ⊢
    by_cases e : x.1 = r
    · rw [if_pos e]; subst e; simp
    · rw [if_neg e] at h ⊢; exact List.mem_cons_of_mem _ (ih h)
theorem isJoin_get {l z : List Vec.En} (h : Vec.IsJoin l z) {x : Vec.En} (hx : x ∈ l) : x.2 ≤ Vec.getL z x.1 := by
  obtain ⟨y, hy, e, le⟩ := h.dom x hx
  have := Vec.getL_mem h.sp hy
  rw [e] at this; omega
theorem coversL_iff {xs ys : List Vec.En} : Vec.coversL xs ys = true ↔ ∀ y ∈ ys, y.2 ≤ Vec.getL xs y.1 := by
  unfold Vec.coversL
  rw [decide_eq_true_eq]
  exact ⟨fun h y hy => by have := h y hy; omega, fun h y hy => by have := h y hy; omega⟩
theorem lacksL_nil {xs ys : List Vec.En} : Vec.lacksL xs ys = [] ↔ ∀ y ∈ ys, y.2 ≤ Vec.getL xs y.1 := by
  unfold Vec.lacksL
  rw [List.flatMap_eq_nil_iff]
  constructor
  · intro h y hy
    have := h y hy
    unfold Vec.lackAt at this
    by_cases hl : Vec.getL xs y.1 < y.2
    · rw [if_pos hl] at this; cases this
    · omega
  · intro h y hy
    have := h y hy
    unfold Vec.lackAt
    rw [if_neg (by omega)]
theorem mem_lacksL {xs ys : List Vec.En} {g : Vec.Gp} (h : g ∈ Vec.lacksL xs ys) : (g.1, g.2.2) ∈ ys ∧ g.2.1 = Vec.getL xs g.1 + 1 ∧ Vec.getL xs g.1 < g.2.2 := by
  unfold Vec.lacksL at h
  obtain ⟨y, hy, hg⟩ := List.mem_flatMap.1 h
  unfold Vec.lackAt at hg
  split at hg
  · rename_i hlt
    rw [List.mem_singleton.1 hg]
    exact ⟨hy, rfl, hlt⟩
  · cases hg
theorem getL_with {xs : List Vec.En} {r s q : Int} (hs : 0 < s) : Vec.getL (Vec.withL xs r s) q = if q = r then s else Vec.getL xs q := by
  have hm : Vec.mid r s = [(r, s)] := by unfold Vec.mid; rw [if_pos hs]
  have app : ∀ (a b : List Vec.En), (∀ x ∈ a, x.1 ≠ q) → Vec.getL (a ++ b) q = Vec.getL b q := by
    intro a
    induction a with
    | nil => intro b _; rfl
    | cons x a ih =>
      intro b h
      rw [List.cons_append, Vec.getL, if_neg (h x (by simp))]
      exact ih b (fun y hy => h y (by simp [hy]))
  have cut : ∀ (a b : List Vec.En), Vec.getL a q ≠ 0 → True := fun _ _ _ => trivial
  have flt : ∀ (a : List Vec.En) (f : Vec.En → Bool), (∀ x : Vec.En, x.1 = q → f x = true) → ∀ b, Vec.getL (a.filter f ++ b) q = if (∃ x ∈ a, x.1 = q) then Vec.getL a q else Vec.getL b q := by
    intro a f hf b
    induction a with
    | nil => simp
    | cons x a ih =>
      by_cases e : x.1 = q
      · rw [List.filter_cons, if_pos (hf x e), List.cons_append, Vec.getL, if_pos e, if_pos ⟨x, by simp, e⟩, Vec.getL, if_pos e]
      · have e1 : (∃ y ∈ x :: a, y.1 = q) ↔ ∃ y ∈ a, y.1 = q := ⟨fun ⟨y, hy, h⟩ => by
          rcases List.mem_cons.1 hy with rfl | hy
          · exact absurd h e
          · exact ⟨y, hy, h⟩, fun ⟨y, hy, h⟩ => ⟨y, by simp [hy], h⟩⟩
        have hg : Vec.getL (x :: a) q = Vec.getL a q := by rw [Vec.getL, if_neg e]
        rw [List.filter_cons]
        split
        · rw [List.cons_append, Vec.getL, if_neg e, ih, hg]
          by_cases hex : ∃ y ∈ a, y.1 = q
          · rw [if_pos hex, if_pos (e1.2 hex)]
          · rw [if_neg hex, if_neg (fun h => hex (e1.1 h))]
        · rw [ih, hg]
          by_cases hex : ∃ y ∈ a, y.1 = q
          · rw [if_pos hex, if_pos (e1.2 hex)]
          · rw [if_neg hex, if_neg (fun h => hex (e1.1 h))]
  have zero : ∀ (a : List Vec.En), (¬ ∃ x ∈ a, x.1 = q) → Vec.getL a q = 0 := fun a h => Vec.getL_zero fun x hx e => h ⟨x, hx, e⟩
  unfold Vec.withL
  rw [hm, List.append_assoc]
  by_cases hq : q = r
  · subst hq
    rw [if_pos rfl, app _ _ (fun x hx => by
      have := (List.mem_filter.1 hx).2
      simp only [decide_eq_true_eq] at this
      omega)]
    rw [List.singleton_append, Vec.getL, if_pos rfl]
  · rw [if_neg hq]
    by_cases hlt : q < r
    · unfold Vec.lo
      rw [flt xs _ (fun x e => by simp [e, hlt])]
      by_cases hex : ∃ x ∈ xs, x.1 = q
      · rw [if_pos hex]
      · rw [if_neg hex, List.singleton_append, Vec.getL, if_neg (fun h => hq h.symm), zero xs hex]
        exact Vec.getL_zero fun x hx e => by
          have := (List.mem_filter.1 hx).2
          simp only [decide_eq_true_eq] at this
          omega
    · rw [app _ _ (fun x hx => by
        have := (List.mem_filter.1 hx).2
        simp only [decide_eq_true_eq] at this
        omega)]
      rw [List.singleton_append, Vec.getL, if_neg (fun h => hq h.symm)]
      have := flt xs (fun x => decide (r < x.1)) (fun x e => by simp; omega) []
      rw [List.append_nil] at this
      unfold Vec.hi
      rw [this]
      by_cases hex : ∃ x ∈ xs, x.1 = q
      · rw [if_pos hex]
      · rw [if_neg hex, zero xs hex]; rfl
end Go.Proofs.YtjkdcpalgfakhaaGreat
/-
  What the laws' own copyistmade.Spans hands back. No conditions beyond what each theorem states.
-/
namespace Go.Proofs.YtjkdcpalgfakhaaGreat
open Go.ChangeShapes Go.WideShapes Go.ChangeAt Go.RowKit Go.Lib
set_option linter.unusedVariables false
set_option linter.unusedSimpArgs false

set_option maxHeartbeats 1600000 in
theorem mspans_any (l : List Sp) (p : Option Addr) (c : Nat) (w : World) (hR : GRow layS w p l) (hl : l.length ≤ 8796093021952) :
    Calls Tryz.prog 71 #[.slice p l.length c] w (Made layS 136 w l) := by
  obtain ⟨i0, hi, hz0, hz1, hz2⟩ := info_parts infoRS
  have HR := Lib.hid hR
  clear hR
  go_enter Tryz.func71, Tryz.ntmps71
  go_wp2
  go_loopg [3, 8] l.length (fun g v i wr => ∃ k : Nat, k ≤ l.length ∧ l.length - k ≤ g ∧ i = .int .i64 (k : Int) ∧ Hold layS w 136 v (l.take k) wr)
  case atStart => exact ⟨0, Nat.zero_le _, by omega, rfl, Hold.nil _ _ _⟩
  case round =>
    obtain ⟨k, hk, hg, rfl, hO⟩ := hrel
    have HO := Lib.hid hO
    clear hO
    by_cases hlt : k < l.length
    · obtain ⟨b, o, rfl, c0', c1', c2'⟩ := srow_at HR.out hlt
      have c0 := cellU c0' HO.out.2
      have c1 := cellU c1' HO.out.2
      have c2 := cellU c2' HO.out.2
      clear c0' c1' c2'
      have HNX := Lib.hid (take_getD s0 hlt)
      generalize l.getD k s0 = s at c0 c1 c2 HNX
      obtain ⟨r, n, m⟩ := s
      simp only at c0 c1 c2
      have hkl : (l.take k).length = k := by rw [List.length_take]; omega
      have HW : Hid (∀ o o', ((wr.alloc o).alloc o').ownsRow w.heap.size 136 3 u3 k (layS.flat (l.take k))) := fun o o' => by
        have := ((HO.out.alloc o).alloc o').1
        rw [hkl] at this; exact this
      go_wp2_with (first
        | (at_builtin; refine wpList_append_own _ rfl (.tmp 12) (.tmp 18) 106 rfl w.heap.size 136 i0 (.agg #[.int .u16 0, .int .u32 0, .int .i64 0]) 3 16 Tryz.underlying106 hi hz0 hz1 hz2 rfl (by decide) _ k (layS.flat (l.take k)) rfl (HW.out _ _) ⟨wr.heap.size + 1, 0, none⟩ 1 1 [.int .u16 r, .int .u32 n, .int .i64 m] rfl rfl (by have := cells_new (W := wr.alloc (.cells #[.int .u16 r, .int .u32 n, .int .i64 m] 119)) (cs := [.int .u16 r, .int .u32 n, .int .i64 m]) (t := 136); simpa using this) (layS.one (r, n, m)) (by unfold maxLen; omega) (by omega) (by have := HO.out.2.size; simp; omega) ?_))
      intro v' w1 hown' hgrow _
      have HO2 : Hid (Hold layS w 136 v' (l.take (k + 1)) w1) := by
        rw [HNX.out]
        exact ((HO.out.alloc _).alloc _).onto rfl (by rw [hkl]; rfl) hown' hgrow
      clear hown' hgrow hkl
      go_wp2
      go_roundg (l.length - (k + 1))
      case measure => omega
      case rel => exact ⟨k + 1, by omega, Nat.le_refl _, by go_num, HO2.out⟩
    · have : k = l.length := by omega
      subst this
      rw [List.take_length] at HO
      go_wp2
      go_ret
      exact ⟨_, rfl, HO.out⟩


end Go.Proofs.YtjkdcpalgfakhaaGreat
