/-
  What Join hands back, for every list of entries and every list of such lists that lie in memory. No conditions beyond what each theorem states.
-/
import Derived.Test.YthihfigphedomaaDoorCompacts
import Derived.Laws.AppendOwnNone
namespace Go.Proofs.YthihfigphedomaaDoor
open Go.ChangeShapes Go.WideShapes Go.ChangeAt Go.RowKit Go.Lib
open Go.Sort
set_option linter.unusedVariables false
set_option linter.unusedSimpArgs false

theorem row_none {w : World} {xs : List En} (h : Row w none xs) : xs = [] := by
  cases xs with
  | nil => rfl
  | cons x xs => obtain ⟨b, o, e, -⟩ := h 0 (by simp); cases e

theorem cells_of_row {w : World} {a : Addr} {xs : List En} (h : Row w (some a) xs) : ∀ j u, (cellsL xs)[j]? = some u → w.cell? (a.add j) = some u := by
  intro j u hj
  have hlt : j < xs.length * 2 := by rw [← cellsL_length]; exact (List.getElem?_eq_some_iff.1 hj).1
  obtain ⟨b, o, e, h1, h2⟩ := h (j / 2) (by omega)
  cases e
  have hc := cellsL_at xs (j / 2) (by omega)
  rcases Nat.mod_two_eq_zero_or_one j with e | e
  · have ej : j = j / 2 * 2 := by omega
    rw [ej, hc.1] at hj
    cases hj
    rw [Lib.add_plain, show o + j = o + j / 2 * 2 by omega]; exact h1
  · have ej : j = j / 2 * 2 + 1 := by omega
    rw [ej, hc.2] at hj
    cases hj
    rw [Lib.add_plain, show o + j = o + j / 2 * 2 + 1 by omega]; exact h2

set_option maxHeartbeats 800000 in
theorem clone_any (xs : List En) (p : Option Addr) (c : Nat) (w : World) (hR : Row w p xs) (hl : xs.length ≤ 4000) :
    Calls Tryd.prog 28 #[.slice p xs.length c] w fun e w' => ∃ v', e = .returned v' ∧ Holding w 55 v' xs w' := by
  have q23 : ∀ (w : World) (a : Option Addr) (n c n' c' : Nat), (binOp .eql 23 (.slice a n c) (.slice none n' c')).run Tryd.prog w = .ok (.bool a.isNone) w := fun w a n c n' c' => Lib.run_eql_slice_nil w _ _ a n c n' c' Tryd.underlying23
  cases p with
  | none =>
    have e := row_none hR
    subst e
    clear hR
    go_enter Tryd.func28, Tryd.ntmps28
    go_wp2
    go_ret
    exact ⟨_, rfl, Holding.nil w 55⟩
  | some a =>
    obtain ⟨i0, hi, hz0, hz1, hz2⟩ := info_parts info55
    have HC : Hid (∀ j u, (cellsL xs)[j]? = some u → w.cell? (a.add j) = some u) := cells_of_row hR
    clear hR
    go_enter Tryd.func28, Tryd.ntmps28
    go_wp2_with (first
      | (at_builtin; refine wpList_append_own _ rfl (.tmp 5) (.tmp 6) 23 rfl w.heap.size 55 i0 (.agg #[.int .u16 0, .int .u32 0]) 2 8 Tryd.underlying23 hi hz0 hz1 hz2 rfl (by decide) _ _ _ rfl (World.ownsRow_made w #[] 0 (Nat.le_refl _) (Nat.zero_le _) (by simp)) a xs.length c (cellsL xs) rfl (cellsL_length xs) (fun j u hj => cellA (HC.out j u hj) _) (cellsL_one xs) (by unfold maxLen; omega) (by omega) (by simp) ?_))
    intro v' w1 hown hgrow _
    have HO : Hid (Holding w 55 v' xs w1) := ⟨by simpa using hown, (below_alloc (Below.refl _ _) _).grown hgrow (by simp) (by intro k hk; simp [Value.ownBlock] at hk; omega)⟩
    clear hown hgrow
    go_wp2
    go_ret
    exact ⟨_, rfl, HO.out⟩

/-- The vectors behind a slice of vectors: each one's address, capacity and entries. -/
abbrev Mo := Option Addr × Nat × List En
def atM (ms : List Mo) (i : Nat) : Mo := ms.getD i (none, 0, [])
def flatM (ms : List Mo) : List En := ms.flatMap fun m => m.2.2
def MoreRow (w : World) (q : Option Addr) (ms : List Mo) : Prop :=
  ∀ i, i < ms.length → (∃ b o, q = some ⟨b, o, none⟩ ∧ w.cell? ⟨b, o + i, none⟩ = some (.slice (atM ms i).1 (atM ms i).2.2.length (atM ms i).2.1)) ∧ Row w (atM ms i).1 (atM ms i).2.2 ∧ ((atM ms i).1 = none → (atM ms i).2.1 = 0)
theorem flatM_step (ms : List Mo) (k : Nat) (h : k < ms.length) : flatM (ms.take (k + 1)) = flatM (ms.take k) ++ (atM ms k).2.2 := by
  have e : ms.take (k + 1) = ms.take k ++ [atM ms k] := by rw [List.take_add_one]; simp [atM, h]
  rw [e, flatM, List.flatMap_append]; simp [flatM]
theorem flatM_take_le (ms : List Mo) (k : Nat) : (flatM (ms.take k)).length ≤ (flatM ms).length := by
  have : flatM ms = flatM (ms.take k) ++ flatM (ms.drop k) := by rw [flatM, flatM, flatM, ← List.flatMap_append, List.take_append_drop]
  rw [this, List.length_append]; omega
theorem Holding.cat {w wr w1 : World} {e : TypeId} {v v' : Value} {xs ys : List En} (h : Holding w e v xs wr) (hown : w1.ownsRow w.heap.size e 2 v' (xs.length + ys.length) (cellsL xs ++ cellsL ys)) (hg : wr.grownBy w1 v.ownBlock) : Holding w e v' (xs ++ ys) w1 :=
  ⟨by rw [cellsL_append, List.length_append]; exact hown, h.2.grown hg h.2.size (fun j hj => (h.1.lt j hj).1)⟩

/-- A slice of the call's own that holds these entries; nil of no room. -/
def GaveV (w : World) (xs : List En) (e : Ending) (w' : World) : Prop := ∃ p c, e = .returned (.slice p xs.length c) ∧ (p = none → c = 0) ∧ Row w' p xs ∧ Below w.heap.size w w'
/-- The entries of all, in order, of one replica the greatest. -/
def Joined (w : World) (l : List En) (e : Ending) (w' : World) : Prop := ∃ ys, ys.Perm l ∧ (∀ i j, i < j → j < ys.length → ltOf most (atL ys j) (atL ys i) = false) ∧ GaveV w (compL ys) e w'

theorem free_of_owns {w : World} {base e g cap : Nat} {xs : List En} (h : w.ownsRow base e 2 (.slice (some ⟨g, 0, none⟩) xs.length cap) xs.length (cellsL xs)) : Free w g 0 xs := fun i hi =>
  ⟨⟨by rw [h.cellAt (0 + i * 2) (by omega), Nat.zero_add]; exact (cellsL_at xs i hi).1, by rw [h.cellAt (0 + i * 2 + 1) (by omega), Nat.zero_add]; exact (cellsL_at xs i hi).2⟩, h.frozenAt _, h.frozenAt _⟩

set_option maxHeartbeats 3200000 in
set_option maxRecDepth 100000 in
theorem join_any (xs : List En) (ms : List Mo) (p q : Option Addr) (c d : Nat) (w : World) (hR : Row w p xs) (hM : MoreRow w q ms) (hl : xs.length + (flatM ms).length ≤ 4000) (hml : ms.length ≤ 4000) :
    Calls Tryd.prog 17 #[.slice p xs.length c, .slice q ms.length d] w (Joined w (xs ++ flatM ms)) := by
  have HR : Hid (Row w p xs) := hR
  have HM : Hid (MoreRow w q ms) := hM
  have HL : Hid (xs.length + (flatM ms).length ≤ 4000) := hl
  have hl0 : xs.length ≤ 4000 := by omega
  obtain ⟨i0, hi, hz0, hz1, hz2⟩ := info_parts info55
  clear hR hM hl
  go_enter Tryd.func17, Tryd.ntmps17
  go_wp2_with (first | (go_at_call 28; refine (clone_any xs p c _ HR.out hl0).mono ?_; rintro e w1 ⟨v1, rfl, ho1⟩))
  have HO1 : Hid (Holding w 55 v1 xs w1) := ho1
  clear ho1
  go_loopg [5, 12] ms.length (fun n s t wr => ∃ k : Nat, k ≤ ms.length ∧ ms.length - k ≤ n ∧ t = .int .i64 k ∧ Holding w 55 s (xs ++ flatM (ms.take k)) wr)
  case atStart => exact ⟨0, Nat.zero_le _, by omega, rfl, by simpa [flatM] using HO1.out⟩
  case round =>
    clear HO1
    obtain ⟨k, hk, hg, rfl, hO⟩ := hrel
    have HO : Hid (Holding w 55 u5 (xs ++ flatM (ms.take k)) wr) := hO
    clear hO
    by_cases hlt : k < ms.length
    · obtain ⟨⟨b, o, rfl, c0'⟩, hrow, hnil⟩ := HM.out k hlt
      have c0 := cellU c0' HO.out.2
      have hle : (xs ++ flatM (ms.take k)).length + (atM ms k).2.2.length ≤ 4000 := by
        have h1 := flatM_take_le ms (k + 1)
        rw [flatM_step ms k hlt, List.length_append] at h1
        have := HL.out
        rw [List.length_append]; omega
      have HST : Hid (flatM (ms.take (k + 1)) = flatM (ms.take k) ++ (atM ms k).2.2) := flatM_step ms k hlt
      have HRW : Hid (Row wr (atM ms k).1 (atM ms k).2.2) := hrow.below HO.out.2
      clear c0' hrow
      obtain ⟨⟨pk, ck, yk⟩, hE⟩ : ∃ m, m = atM ms k := ⟨_, rfl⟩
      rw [← hE] at c0 hnil hle HST HRW
      clear hE
      simp only at c0 hnil hle HST HRW
      cases pk with
      | none =>
        have e := row_none HRW.out
        have e2 := hnil rfl
        subst e e2
        clear hnil HRW
        go_wp2_with (first
          | (at_builtin; refine wpList_append_own_none (.tmp 0) rfl (.tmp 16) (.tmp 17) 23 rfl w.heap.size 55 i0 2 Tryd.underlying23 hi _ _ _ rfl HO.out.1 rfl ?_)
          | (at_builtin; refine wpList_append_own_none rfl (.tmp 16) (.tmp 17) 23 rfl w.heap.size 55 i0 2 Tryd.underlying23 hi _ _ _ rfl HO.out.1 rfl ?_))
        go_roundg (ms.length - (k + 1))
        case measure => omega
        case rel => exact ⟨k + 1, by omega, Nat.le_refl _, by go_num, by rw [HST.out, List.append_nil]; exact HO.out⟩
      | some a =>
        clear hnil
        have hle2 := hle
        rw [List.length_append] at hle2
        go_wp2_with (first
          | (at_builtin; refine wpList_append_own _ rfl (.tmp 16) (.tmp 17) 23 rfl w.heap.size 55 i0 (.agg #[.int .u16 0, .int .u32 0]) 2 8 Tryd.underlying23 hi hz0 hz1 hz2 rfl (by decide) _ _ _ rfl HO.out.1 a yk.length ck (cellsL yk) rfl (cellsL_length yk) (cells_of_row HRW.out) (cellsL_one yk) (by unfold maxLen; omega) (by omega) (by exact HO.out.2.size) ?_))
        intro v' w2 hown hgrow _
        have HO2 : Hid (Holding w 55 v' (xs ++ flatM (ms.take (k + 1))) w2) := by
          rw [HST.out, ← List.append_assoc]
          exact HO.out.cat (by first | exact hown | (rw [List.length_append]; exact hown)) hgrow
        clear hown hgrow
        go_wp2
        go_roundg (ms.length - (k + 1))
        case measure => omega
        case rel => exact ⟨k + 1, by omega, Nat.le_refl _, by go_num, HO2.out⟩
    · have : k = ms.length := by omega
      subst this
      rw [List.take_length] at HO
      obtain ⟨l, hE⟩ : ∃ l, l = xs ++ flatM ms := ⟨_, rfl⟩
      rw [← hE] at HO
      have HE : Hid (l = xs ++ flatM ms) := hE
      have hll : l.length ≤ 4000 := by rw [hE, List.length_append]; exact HL.out
      clear hE HL HM
      obtain ⟨ho, hbe⟩ := HO.out
      rcases ho.2 with ⟨hv, h0⟩ | ⟨g, cap, cur, hv, hbase, hh, h1, h2, h3, h4⟩
      · have e : l = [] := List.eq_nil_of_length_eq_zero h0
        subst e
        subst hv
        have HB : Hid (Below w.heap.size w wr) := hbe
        clear ho hbe h0 HO
        go_wp2_with (first | (go_at_call 29; refine (sort_none _ _ _ _).mono ?_; rintro e w2 ⟨rfl, he⟩; obtain rfl := Eq.symm he) | (go_at_call 31; refine (compact_none 0 none _ _).mono ?_; rintro e w3 ⟨rfl, he⟩; obtain rfl := Eq.symm he))
        go_ret
        rw [← HE.out]
        exact ⟨[], List.Perm.refl _, fun i j _ hj => by simp at hj, none, 0, rfl, fun _ => rfl, fun i hi => by simp [compL, compTo] at hi, HB.out⟩
      · subst hv
        have HFr : Hid (Free wr g 0 l) := free_of_owns ho
        have HB : Hid (Below w.heap.size w wr ∧ w.heap.size ≤ g ∧ g < wr.heap.size) := ⟨hbe, hbase, (Array.getElem?_eq_some_iff.1 hh).1⟩
        have hcap : l.length ≤ cap := h1
        clear ho hbe hh h2 h3 h4 HO hbase h1
        go_wp2_with (first | (go_at_call 29; refine (sort_any w.heap.size g 0 cap l _ HFr.out HB.out.2.2 HB.out.2.1 hll).mono ?_; rintro e w2 ⟨rfl, ys, hperm, hsort, hfree, hbel⟩))
        have hyl := hperm.length_eq
        have HP : Hid (ys.Perm l ∧ (∀ i j, i < j → j < ys.length → ltOf most (atL ys j) (atL ys i) = false)) := ⟨hperm, hsort⟩
        have hgl : g < w2.heap.size := by have := hbel.size; have := HB.out.2.2; omega
        rw [← hyl] at hcap hll ⊢
        refine (compact_any w.heap.size g 0 cap ys w2 hfree hgl HB.out.2.1 hcap hll).mono ?_
        rintro e w3 ⟨p3, c3, rfl, hp3, hr3, hb3⟩
        have HB3 : Hid (Below w.heap.size w w3) := (HB.out.1.trans hbel).trans hb3
        have HR3 : Hid (Row w3 p3 (compL ys) ∧ p3 ≠ none) := ⟨hr3, hp3⟩
        clear hperm hsort hfree hbel hb3 hr3 hp3 hgl hyl HFr
        go_wp2
        go_ret
        rw [← HE.out]
        exact ⟨ys, HP.out.1, HP.out.2, p3, c3, rfl, fun h => absurd h HR3.out.2, HR3.out.1, HB3.out⟩

end Go.Proofs.YthihfigphedomaaDoor
