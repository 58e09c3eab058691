
/-
  CheckSums' function hands back true, for all bytes that lie in memory and any place. No conditions beyond what each theorem states.
-/
import Derived.Test.YthohdnijngckiaaLawBursts
import Derived.Deep.RegionWith
namespace Go.Proofs.Ythohdnijngckiaa
open Go.ChangeShapes Go.WideShapes Go.ChangeAt Go.RowKit Go.Lib
set_option linter.unusedVariables false
set_option linter.unusedSimpArgs false

/-- The bytes are where they were, and so is all that was there. -/
def GoodW (w : World) (p : Option Addr) (bs : List UInt8) (W : World) : Prop := BRow W p bs ∧ Below w.heap.size w W
theorem GoodW.alloc {w W : World} {p : Option Addr} {bs : List UInt8} (h : GoodW w p bs W) (o : Obj) : GoodW w p bs (W.alloc o) := ⟨brow_alloc h.1 o, below_alloc h.2 o⟩
theorem GoodW.drew {w W : World} {p : Option Addr} {bs : List UInt8} (h : GoodW w p bs W) : GoodW w p bs W.drew := ⟨h.1, h.2.drew⟩
/-- Lists that make these bytes. -/
def Lists (bs : List UInt8) (W : World) (pp : Option Addr) (m : Nat) : Prop := ∃ ls : List (List UInt8), ls.length = m ∧ ls.flatten = bs ∧ LRow W pp ls ∧ ls.length ≤ 1000000
theorem Lists.drew {bs : List UInt8} {W : World} {pp : Option Addr} {m : Nat} (h : Lists bs W pp m) : Lists bs W.drew pp m := h
theorem lists_one {w W : World} {p : Option Addr} {c : Nat} {bs : List UInt8} (h : GoodW w p bs W) (hc : bs.length ≤ c) (hp : p = none → c = 0) (t : TypeId) : Lists bs (W.alloc (.cells #[.slice p bs.length c] t)) (some ⟨W.heap.size, 0, none⟩) 1 :=
  ⟨[bs], rfl, by simp, lrow_one h.1 hc hp t, by simp⟩
theorem lists_nil {w W : World} {p : Option Addr} {c : Nat} {bs : List UInt8} (h : GoodW w p bs W) (hc : bs.length ≤ c) (hp : p = none → c = 0) (t : TypeId) : Lists bs (W.alloc (.cells #[.slice p bs.length c, .slice none 0 0] t)) (some ⟨W.heap.size, 0, none⟩) 2 :=
  ⟨[bs, []], rfl, by simp, lrow_two (bs := []) h.1 hc hp (BRow.nil _ _) (by simp) (fun _ => rfl) t, by simp⟩
theorem brow_take {W : World} {p : Option Addr} {bs : List UInt8} (h : BRow W p bs) (A : Nat) : BRow W p (bs.take A) := fun i hi => by
  rw [List.length_take] at hi
  obtain ⟨b, o, e, hc⟩ := h i (by omega)
  exact ⟨b, o, e, by rw [atB_take (by omega)]; exact hc⟩
theorem brow_drop {W : World} {a : Addr} {bs : List UInt8} (h : BRow W (some a) bs) (A : Nat) : BRow W (some (a.add A)) (bs.drop A) := fun i hi => by
  rw [List.length_drop] at hi
  obtain ⟨b, o, e, hc⟩ := h (A + i) (by omega)
  cases e
  exact ⟨b, o + A, by rw [Addr.add_lit], by rw [atB_drop, Nat.add_assoc]; exact hc⟩
theorem lists_cut {w W : World} {a : Addr} {c A : Nat} {bs : List UInt8} (h : GoodW w (some a) bs W) (hA : A ≤ bs.length) (hc : bs.length ≤ c) (t : TypeId) :
    Lists bs (W.alloc (.cells #[.slice (some a) A c, .slice (some (a.add A)) (bs.length - A) (c - A)] t)) (some ⟨W.heap.size, 0, none⟩) 2 := by
  have e1 : (bs.take A).length = A := by rw [List.length_take]; omega
  have e2 : (bs.drop A).length = bs.length - A := List.length_drop
  have := lrow_two (w := W) (c := c) (d := c - A) (brow_take h.1 A) (by omega) (by intro h; cases h) (brow_drop h.1 A) (by omega) (by intro h; cases h) t
  rw [e1, e2] at this
  exact ⟨[bs.take A, bs.drop A], rfl, by simp, this, by simp⟩
theorem lists_end {w W : World} {p : Option Addr} {A : Nat} {bs : List UInt8} (h : GoodW w p bs W) (hA : bs.length = A) (hp : p = none → A = 0) (t : TypeId) :
    Lists bs (W.alloc (.cells #[.slice p A A, .slice p 0 0] t)) (some ⟨W.heap.size, 0, none⟩) 2 := by
  subst hA
  exact ⟨[bs, []], rfl, by simp, lrow_two (bs := []) h.1 (Nat.le_refl _) hp (BRow.nil _ _) (by simp) (fun _ => rfl) t, by simp⟩

set_option maxHeartbeats 6000000 in
set_option maxRecDepth 20000 in
theorem sums_any (bs : List UInt8) (a : Int) (p : Option Addr) (c : Nat) (w : World) (hB : BRow w p bs) (hc : bs.length ≤ c) (hp : p = none → c = 0) (hl : bs.length ≤ 9223372036854775807) (ha0 : -9223372036854775808 ≤ a) (ha1 : a < 9223372036854775808) :
    Calls Try.prog 3 #[.slice p bs.length c, .int .i64 a] w fun e w' => e = .returned (.bool true) ∧ Below w.heap.size w w' := by
  have HB := Lib.hid hB
  clear hB
  go_enter Try.func3, Try.ntmps3
  go_wp2_with fail
  refine (anchor_any w).mono ?_
  rintro e w1 ⟨rfl, hb1⟩
  have HG1 : Hid (GoodW w p bs w1) := ⟨HB.out.below hb1, hb1⟩
  clear hb1
  by_cases h1 : 3000 < bs.length
  · have h1' : (3000 : Int) < (bs.length : Int) := by omega
    clear ha0 ha1 hl hc hp
    go_wp2
    go_ret
    exact ⟨rfl, HG1.out.2⟩
  · have h1' : ¬ (3000 : Int) < (bs.length : Int) := by omega
    by_cases h2 : a < 0
    · clear ha0 ha1 hl hc hp
      go_wp2
      go_ret
      exact ⟨rfl, HG1.out.2⟩
    · by_cases h3 : (bs.length : Int) < a
      · clear ha0 ha1 hl hc hp
        go_wp2
        go_ret
        exact ⟨rfl, HG1.out.2⟩
      · obtain ⟨A, rfl⟩ : ∃ A : Nat, a = (A : Int) := ⟨a.toNat, by omega⟩
        have hA : A ≤ bs.length := by omega
        have HR := Lib.hid (refsum_any bs p c w1 HG1.out.1 (by omega))
        have HSUM0 : ∀ W pp m cc, GoodW w p bs W → Lists bs W pp m → Calls Try.prog 8 #[.slice pp m cc] W fun e w' => e = .returned (.int .u32 ((sumL bs).toNat : Int)) ∧ GoodW w p bs w' := by
          rintro W pp m cc hg ⟨ls, rfl, hf, hL, hk⟩
          refine (sum_any ls pp cc W hL (by rw [hf]; omega) hk).mono ?_
          rw [hf]
          rintro e w' ⟨rfl, hb⟩
          exact ⟨rfl, hg.1.below hb, below_step hg.2 hb⟩
        generalize (sumL bs).toNat = X at HR HSUM0
        have HSUM := Lib.hid HSUM0
        have hA' : (A : Int) ≤ (bs.length : Int) := by omega
        have HC := Lib.hid hc
        have HP := Lib.hid hp
        have HA := Lib.hid hA
        clear HSUM0 ha0 ha1 hl h3 hA
        by_cases hcA : c = A
        · have hlen : bs.length = A := by have := HC.out; have := HA.out; omega
          subst hcA
          have HLEN := Lib.hid hlen
          have hcc : (c : Int) ≤ (bs.length : Int) := by omega
          clear hlen hA'
          go_wp2_with fail
          refine HR.out.mono ?_
          rintro e w2 ⟨rfl, he⟩
          obtain rfl := Eq.symm he
          clear he
          go_wp2_with fail
          refine wp_region_any (by kernel_rfl) ?_
          change wpAny _ _ _ _ _ _ _ (World.drew _)
          refine wpAny_take (i := 0) (v := .slice p bs.length c) rfl (by kernel_rfl) (by kernel_rfl) (by kernel_rfl) (fun _ _ _ h => h) (Or.inl ⟨by kernel_rfl, fun w => by go_simp⟩) ?_
          simp only [Act.put, List.setIfInBounds_toArray, List.set_cons_succ, List.set_cons_zero]
          refine wpAny_take (i := 3) (v := .int .u32 (X : Int)) rfl (by kernel_rfl) (by kernel_rfl) (by kernel_rfl) (fun _ _ _ h => h) (Or.inl ⟨by kernel_rfl, fun w => by go_simp⟩) ?_
          simp only [Act.put, List.setIfInBounds_toArray, List.set_cons_succ, List.set_cons_zero]
          refine wpAny_ready (rs := [1]) (by kernel_rfl) (by simp) (AllReady.cons rfl (fun K hK => ?_) AllReady.nil)
          go_simp
          refine hK _ _ ?_
          clear hK K
          refine wpAny_ready (rs := [2]) (by kernel_rfl) (by simp) (AllReady.cons rfl (fun K hK => ?_) AllReady.nil)
          go_simp
          refine (HSUM.out _ _ _ _ ?_ ?_).mono ?_
          · exact (HG1.out.alloc _).drew
          · exact (lists_one HG1.out HC.out HP.out _).drew
          rintro e w5 ⟨rfl, hg5⟩
          refine hK _ _ ?_
          clear hK K
          refine wpAny_take (i := 4) (v := .bool true) rfl (by kernel_rfl) (by kernel_rfl) (by kernel_rfl) (fun _ _ _ h => h) (Or.inl ⟨by kernel_rfl, fun w => by go_simp⟩) ?_
          simp only [Act.put, List.setIfInBounds_toArray, List.set_cons_succ, List.set_cons_zero]
          refine wpAny_take (i := 5) (v := .bool true) rfl (by kernel_rfl) (by kernel_rfl) (by kernel_rfl) (fun _ _ _ h => h) (Or.inl ⟨by kernel_rfl, fun w => by go_simp⟩) ?_
          simp only [Act.put, List.setIfInBounds_toArray, List.set_cons_succ, List.set_cons_zero]
          refine wpAny_take (i := 6) (v := .slice p bs.length c) rfl (by kernel_rfl) (by kernel_rfl) (by kernel_rfl) (fun _ _ _ h => h) (Or.inl ⟨by kernel_rfl, fun w => by go_simp⟩) ?_
          simp only [Act.put, List.setIfInBounds_toArray, List.set_cons_succ, List.set_cons_zero]
          refine wpAny_take (i := 7) (v := .int .i64 (c : Int)) rfl (by kernel_rfl) (by kernel_rfl) (by kernel_rfl) (fun _ _ _ h => h) (Or.inl ⟨by kernel_rfl, fun w => by go_simp⟩) ?_
          simp only [Act.put, List.setIfInBounds_toArray, List.set_cons_succ, List.set_cons_zero]
          refine wpAny_take (i := 8) (v := .slice p c c) rfl (by kernel_rfl) (by kernel_rfl) (by kernel_rfl) (fun _ _ _ h => h) (Or.inl ⟨by kernel_rfl, fun w => by go_simp⟩) ?_
          simp only [Act.put, List.setIfInBounds_toArray, List.set_cons_succ, List.set_cons_zero]
          refine wpAny_take (i := 9) (v := .slice p bs.length c) rfl (by kernel_rfl) (by kernel_rfl) (by kernel_rfl) (fun _ _ _ h => h) (Or.inl ⟨by kernel_rfl, fun w => by go_simp⟩) ?_
          simp only [Act.put, List.setIfInBounds_toArray, List.set_cons_succ, List.set_cons_zero]
          refine wpAny_take (i := 10) (v := .int .i64 (c : Int)) rfl (by kernel_rfl) (by kernel_rfl) (by kernel_rfl) (fun _ _ _ h => h) (Or.inl ⟨by kernel_rfl, fun w => by go_simp⟩) ?_
          simp only [Act.put, List.setIfInBounds_toArray, List.set_cons_succ, List.set_cons_zero]
          refine wpAny_take (i := 11) (v := .slice p 0 0) rfl (by kernel_rfl) (by kernel_rfl) (by kernel_rfl) (fun _ _ _ h => h) (Or.inl ⟨by kernel_rfl, fun w => by go_simp⟩) ?_
          simp only [Act.put, List.setIfInBounds_toArray, List.set_cons_succ, List.set_cons_zero]
          refine wpAny_take (i := 14) (v := .int .u32 (X : Int)) rfl (by kernel_rfl) (by kernel_rfl) (by kernel_rfl) (fun _ _ _ h => h) (Or.inl ⟨by kernel_rfl, fun w => by go_simp⟩) ?_
          simp only [Act.put, List.setIfInBounds_toArray, List.set_cons_succ, List.set_cons_zero]
          refine wpAny_ready (rs := [12]) (by kernel_rfl) (by simp) (AllReady.cons rfl (fun K hK => ?_) AllReady.nil)
          go_simp
          refine hK _ _ ?_
          clear hK K
          refine wpAny_ready (rs := [13]) (by kernel_rfl) (by simp) (AllReady.cons rfl (fun K hK => ?_) AllReady.nil)
          go_simp
          refine (HSUM.out _ _ _ _ ?_ ?_).mono ?_
          · exact hg5.alloc _
          · exact lists_end hg5 HLEN.out HP.out _
          rintro e w5 ⟨rfl, hg5⟩
          refine hK _ _ ?_
          clear hK K
          refine wpAny_take (i := 15) (v := .bool true) rfl (by kernel_rfl) (by kernel_rfl) (by kernel_rfl) (fun _ _ _ h => h) (Or.inl ⟨by kernel_rfl, fun w => by go_simp⟩) ?_
          simp only [Act.put, List.setIfInBounds_toArray, List.set_cons_succ, List.set_cons_zero]
          refine wpAny_take (i := 16) (v := .bool true) rfl (by kernel_rfl) (by kernel_rfl) (by kernel_rfl) (fun _ _ _ h => h) (Or.inl ⟨by kernel_rfl, fun w => by go_simp⟩) ?_
          simp only [Act.put, List.setIfInBounds_toArray, List.set_cons_succ, List.set_cons_zero]
          refine wpAny_take (i := 17) (v := .bool true) rfl (by kernel_rfl) (by kernel_rfl) (by kernel_rfl) (fun _ _ _ h => h) (Or.inl ⟨by kernel_rfl, fun w => by go_simp⟩) ?_
          simp only [Act.put, List.setIfInBounds_toArray, List.set_cons_succ, List.set_cons_zero]
          refine wpAny_take (i := 18) (v := .slice p bs.length c) rfl (by kernel_rfl) (by kernel_rfl) (by kernel_rfl) (fun _ _ _ h => h) (Or.inl ⟨by kernel_rfl, fun w => by go_simp⟩) ?_
          simp only [Act.put, List.setIfInBounds_toArray, List.set_cons_succ, List.set_cons_zero]
          refine wpAny_take (i := 21) (v := .int .u32 (X : Int)) rfl (by kernel_rfl) (by kernel_rfl) (by kernel_rfl) (fun _ _ _ h => h) (Or.inl ⟨by kernel_rfl, fun w => by go_simp⟩) ?_
          simp only [Act.put, List.setIfInBounds_toArray, List.set_cons_succ, List.set_cons_zero]
          refine wpAny_ready (rs := [19]) (by kernel_rfl) (by simp) (AllReady.cons rfl (fun K hK => ?_) AllReady.nil)
          go_simp
          refine hK _ _ ?_
          clear hK K
          refine wpAny_ready (rs := [20]) (by kernel_rfl) (by simp) (AllReady.cons rfl (fun K hK => ?_) AllReady.nil)
          go_simp
          refine (HSUM.out _ _ _ _ ?_ ?_).mono ?_
          · exact hg5.alloc _
          · exact lists_nil hg5 HC.out HP.out _
          rintro e w5 ⟨rfl, hg5⟩
          refine hK _ _ ?_
          clear hK K
          refine wpAny_take (i := 22) (v := .bool true) rfl (by kernel_rfl) (by kernel_rfl) (by kernel_rfl) (fun _ _ _ h => h) (Or.inl ⟨by kernel_rfl, fun w => by go_simp⟩) ?_
          simp only [Act.put, List.setIfInBounds_toArray, List.set_cons_succ, List.set_cons_zero]
          refine wpAny_take (i := 23) (v := .bool true) rfl (by kernel_rfl) (by kernel_rfl) (by kernel_rfl) (fun _ _ _ h => h) (Or.inl ⟨by kernel_rfl, fun w => by go_simp⟩) ?_
          simp only [Act.put, List.setIfInBounds_toArray, List.set_cons_succ, List.set_cons_zero]
          refine wpAny_take (i := 24) (v := .bool true) rfl (by kernel_rfl) (by kernel_rfl) (by kernel_rfl) (fun _ _ _ h => h) (Or.inl ⟨by kernel_rfl, fun w => by go_simp⟩) ?_
          simp only [Act.put, List.setIfInBounds_toArray, List.set_cons_succ, List.set_cons_zero]
          refine wpAny_done (by kernel_rfl) ?_ _
          clear HSUM HR
          simp only [Act.put, List.getElem_toArray, List.getElem_cons_succ, List.getElem_cons_zero, List.setIfInBounds_toArray, List.set_cons_succ, List.set_cons_zero]
          go_wp2
          go_ret
          exact ⟨rfl, hg5.2⟩
        · cases p with
          | none => exact absurd (HP.out rfl) (by have := HC.out; have := HA.out; omega)
          | some ad =>
            have hcc : (A : Int) ≤ (c : Int) := by omega
            go_wp2_with fail
            refine HR.out.mono ?_
            rintro e w2 ⟨rfl, he⟩
            obtain rfl := Eq.symm he
            clear he
            go_wp2_with fail
            refine wp_region_any (by kernel_rfl) ?_
            change wpAny _ _ _ _ _ _ _ (World.drew _)
            refine wpAny_take (i := 0) (v := .slice (some ad) bs.length c) rfl (by kernel_rfl) (by kernel_rfl) (by kernel_rfl) (fun _ _ _ h => h) (Or.inl ⟨by kernel_rfl, fun w => by go_simp⟩) ?_
            simp only [Act.put, List.setIfInBounds_toArray, List.set_cons_succ, List.set_cons_zero]
            refine wpAny_take (i := 3) (v := .int .u32 (X : Int)) rfl (by kernel_rfl) (by kernel_rfl) (by kernel_rfl) (fun _ _ _ h => h) (Or.inl ⟨by kernel_rfl, fun w => by go_simp⟩) ?_
            simp only [Act.put, List.setIfInBounds_toArray, List.set_cons_succ, List.set_cons_zero]
            refine wpAny_ready (rs := [1]) (by kernel_rfl) (by simp) (AllReady.cons rfl (fun K hK => ?_) AllReady.nil)
            go_simp
            refine hK _ _ ?_
            clear hK K
            refine wpAny_ready (rs := [2]) (by kernel_rfl) (by simp) (AllReady.cons rfl (fun K hK => ?_) AllReady.nil)
            go_simp
            refine (HSUM.out _ _ _ _ ?_ ?_).mono ?_
            · exact (HG1.out.alloc _).drew
            · exact (lists_one HG1.out HC.out HP.out _).drew
            rintro e w5 ⟨rfl, hg5⟩
            refine hK _ _ ?_
            clear hK K
            refine wpAny_take (i := 4) (v := .bool true) rfl (by kernel_rfl) (by kernel_rfl) (by kernel_rfl) (fun _ _ _ h => h) (Or.inl ⟨by kernel_rfl, fun w => by go_simp⟩) ?_
            simp only [Act.put, List.setIfInBounds_toArray, List.set_cons_succ, List.set_cons_zero]
            refine wpAny_take (i := 5) (v := .bool true) rfl (by kernel_rfl) (by kernel_rfl) (by kernel_rfl) (fun _ _ _ h => h) (Or.inl ⟨by kernel_rfl, fun w => by go_simp⟩) ?_
            simp only [Act.put, List.setIfInBounds_toArray, List.set_cons_succ, List.set_cons_zero]
            refine wpAny_take (i := 6) (v := .slice (some ad) bs.length c) rfl (by kernel_rfl) (by kernel_rfl) (by kernel_rfl) (fun _ _ _ h => h) (Or.inl ⟨by kernel_rfl, fun w => by go_simp⟩) ?_
            simp only [Act.put, List.setIfInBounds_toArray, List.set_cons_succ, List.set_cons_zero]
            refine wpAny_take (i := 7) (v := .int .i64 (A : Int)) rfl (by kernel_rfl) (by kernel_rfl) (by kernel_rfl) (fun _ _ _ h => h) (Or.inl ⟨by kernel_rfl, fun w => by go_simp⟩) ?_
            simp only [Act.put, List.setIfInBounds_toArray, List.set_cons_succ, List.set_cons_zero]
            refine wpAny_take (i := 8) (v := .slice (some ad) A c) rfl (by kernel_rfl) (by kernel_rfl) (by kernel_rfl) (fun _ _ _ h => h) (Or.inl ⟨by kernel_rfl, fun w => by go_simp⟩) ?_
            simp only [Act.put, List.setIfInBounds_toArray, List.set_cons_succ, List.set_cons_zero]
            refine wpAny_take (i := 9) (v := .slice (some ad) bs.length c) rfl (by kernel_rfl) (by kernel_rfl) (by kernel_rfl) (fun _ _ _ h => h) (Or.inl ⟨by kernel_rfl, fun w => by go_simp⟩) ?_
            simp only [Act.put, List.setIfInBounds_toArray, List.set_cons_succ, List.set_cons_zero]
            refine wpAny_take (i := 10) (v := .int .i64 (A : Int)) rfl (by kernel_rfl) (by kernel_rfl) (by kernel_rfl) (fun _ _ _ h => h) (Or.inl ⟨by kernel_rfl, fun w => by go_simp⟩) ?_
            simp only [Act.put, List.setIfInBounds_toArray, List.set_cons_succ, List.set_cons_zero]
            refine wpAny_take (i := 11) (v := .slice (some (ad.add A)) (bs.length - A) (c - A)) rfl (by kernel_rfl) (by kernel_rfl) (by kernel_rfl) (fun _ _ _ h => h) (Or.inl ⟨by kernel_rfl, fun w => by go_simp⟩) ?_
            simp only [Act.put, List.setIfInBounds_toArray, List.set_cons_succ, List.set_cons_zero]
            refine wpAny_take (i := 14) (v := .int .u32 (X : Int)) rfl (by kernel_rfl) (by kernel_rfl) (by kernel_rfl) (fun _ _ _ h => h) (Or.inl ⟨by kernel_rfl, fun w => by go_simp⟩) ?_
            simp only [Act.put, List.setIfInBounds_toArray, List.set_cons_succ, List.set_cons_zero]
            refine wpAny_ready (rs := [12]) (by kernel_rfl) (by simp) (AllReady.cons rfl (fun K hK => ?_) AllReady.nil)
            go_simp
            refine hK _ _ ?_
            clear hK K
            refine wpAny_ready (rs := [13]) (by kernel_rfl) (by simp) (AllReady.cons rfl (fun K hK => ?_) AllReady.nil)
            go_simp
            refine (HSUM.out _ _ _ _ ?_ ?_).mono ?_
            · exact hg5.alloc _
            · exact lists_cut hg5 HA.out HC.out _
            rintro e w5 ⟨rfl, hg5⟩
            refine hK _ _ ?_
            clear hK K
            refine wpAny_take (i := 15) (v := .bool true) rfl (by kernel_rfl) (by kernel_rfl) (by kernel_rfl) (fun _ _ _ h => h) (Or.inl ⟨by kernel_rfl, fun w => by go_simp⟩) ?_
            simp only [Act.put, List.setIfInBounds_toArray, List.set_cons_succ, List.set_cons_zero]
            refine wpAny_take (i := 16) (v := .bool true) rfl (by kernel_rfl) (by kernel_rfl) (by kernel_rfl) (fun _ _ _ h => h) (Or.inl ⟨by kernel_rfl, fun w => by go_simp⟩) ?_
            simp only [Act.put, List.setIfInBounds_toArray, List.set_cons_succ, List.set_cons_zero]
            refine wpAny_take (i := 17) (v := .bool true) rfl (by kernel_rfl) (by kernel_rfl) (by kernel_rfl) (fun _ _ _ h => h) (Or.inl ⟨by kernel_rfl, fun w => by go_simp⟩) ?_
            simp only [Act.put, List.setIfInBounds_toArray, List.set_cons_succ, List.set_cons_zero]
            refine wpAny_take (i := 18) (v := .slice (some ad) bs.length c) rfl (by kernel_rfl) (by kernel_rfl) (by kernel_rfl) (fun _ _ _ h => h) (Or.inl ⟨by kernel_rfl, fun w => by go_simp⟩) ?_
            simp only [Act.put, List.setIfInBounds_toArray, List.set_cons_succ, List.set_cons_zero]
            refine wpAny_take (i := 21) (v := .int .u32 (X : Int)) rfl (by kernel_rfl) (by kernel_rfl) (by kernel_rfl) (fun _ _ _ h => h) (Or.inl ⟨by kernel_rfl, fun w => by go_simp⟩) ?_
            simp only [Act.put, List.setIfInBounds_toArray, List.set_cons_succ, List.set_cons_zero]
            refine wpAny_ready (rs := [19]) (by kernel_rfl) (by simp) (AllReady.cons rfl (fun K hK => ?_) AllReady.nil)
            go_simp
            refine hK _ _ ?_
            clear hK K
            refine wpAny_ready (rs := [20]) (by kernel_rfl) (by simp) (AllReady.cons rfl (fun K hK => ?_) AllReady.nil)
            go_simp
            refine (HSUM.out _ _ _ _ ?_ ?_).mono ?_
            · exact hg5.alloc _
            · exact lists_nil hg5 HC.out HP.out _
            rintro e w5 ⟨rfl, hg5⟩
            refine hK _ _ ?_
            clear hK K
            refine wpAny_take (i := 22) (v := .bool true) rfl (by kernel_rfl) (by kernel_rfl) (by kernel_rfl) (fun _ _ _ h => h) (Or.inl ⟨by kernel_rfl, fun w => by go_simp⟩) ?_
            simp only [Act.put, List.setIfInBounds_toArray, List.set_cons_succ, List.set_cons_zero]
            refine wpAny_take (i := 23) (v := .bool true) rfl (by kernel_rfl) (by kernel_rfl) (by kernel_rfl) (fun _ _ _ h => h) (Or.inl ⟨by kernel_rfl, fun w => by go_simp⟩) ?_
            simp only [Act.put, List.setIfInBounds_toArray, List.set_cons_succ, List.set_cons_zero]
            refine wpAny_take (i := 24) (v := .bool true) rfl (by kernel_rfl) (by kernel_rfl) (by kernel_rfl) (fun _ _ _ h => h) (Or.inl ⟨by kernel_rfl, fun w => by go_simp⟩) ?_
            simp only [Act.put, List.setIfInBounds_toArray, List.set_cons_succ, List.set_cons_zero]
            refine wpAny_done (by kernel_rfl) ?_ _
            clear HSUM HR
            simp only [Act.put, List.getElem_toArray, List.getElem_cons_succ, List.getElem_cons_zero, List.setIfInBounds_toArray, List.set_cons_succ, List.set_cons_zero]
            go_wp2
            go_ret
            exact ⟨rfl, hg5.2⟩

end Go.Proofs.Ythohdnijngckiaa
