/-
  What Show hands back, for every list of entries that lies in memory. The condition: the library's table of powers of ten holds what it was laid with.
-/
import Derived.Test.YthihfigphedomaaDoorCovers
import Derived.Lib.SmallJoins
namespace Go.Proofs.YthihfigphedomaaDoor
open Go.ChangeShapes Go.WideShapes Go.ChangeAt Go.RowKit Go.Lib
open Go.Sort
set_option linter.unusedVariables false
set_option linter.unusedSimpArgs false

/-- What the calls ask of the library's own table. -/
def Fit (w : World) : Prop := Lib.TabIs Tryd.prog w "internal/strconv.uint64pow10" .u64 Lib.pow10Tab
theorem gPow : Tryd.prog.globalNamed "internal/strconv.uint64pow10" = some 0 := by kernel_rfl
theorem Fit.below {w w' : World} (h : Fit w) (hb : Below w.heap.size w w') : Fit w' := Go.Joins.tab_stays gPow h hb (Nat.le_refl _)

/-- Bytes that the call holds in a row of its own. -/
def HoldB (w : World) (v : Value) (bs : List UInt8) (wr : World) : Prop := wr.ownsRow w.heap.size 5 1 v bs.length (byteCells bs) ∧ Below w.heap.size w wr
theorem HoldB.nil (w : World) : HoldB w (.slice none 0 0) [] w := ⟨World.ownsRow_nil w w.heap.size 5 1, Below.refl _ _⟩
theorem HoldB.alloc {w wr : World} {v : Value} {bs : List UInt8} (h : HoldB w v bs wr) (o : Obj) : HoldB w v bs (wr.alloc o) := ⟨h.1.alloc o, below_alloc h.2 o⟩
theorem byteCells_append (a b : List UInt8) : byteCells (a ++ b) = byteCells a ++ byteCells b := by simp [byteCells]
theorem HoldB.onto {w wr w1 : World} {v v' : Value} {bs cs : List UInt8} (h : HoldB w v bs wr) (hown : w1.ownsRow w.heap.size 5 1 v' (bs.length + cs.length) (byteCells bs ++ byteCells cs)) (hb : Below w.heap.size wr w1) : HoldB w v' (bs ++ cs) w1 :=
  ⟨by rw [byteCells_append, List.length_append]; exact hown, h.2.trans hb⟩

/-- A box of an entry that stays. -/
def Box (K : Nat) (x y : Int) (w : World) : Prop := w.heap[K]? = some (.cells #[.int .u16 x, .int .u32 y] 55 (0, 0))
theorem Box.cell0 {K : Nat} {x y : Int} {w : World} (h : Box K x y w) : w.cell? ⟨K, 0, none⟩ = some (.int .u16 x) := by unfold Box at h; simp [World.cell?, h]
theorem Box.cell1 {K : Nat} {x y : Int} {w : World} (h : Box K x y w) : w.cell? ⟨K, 1, none⟩ = some (.int .u32 y) := by unfold Box at h; simp [World.cell?, h]
theorem Box.others {K : Nat} {x y : Int} {w w' : World} (h : Box K x y w) (ho : Lib.OthersKept 5 none w w') : Box K x y w' := ho K _ h (by simp) (by intro c fz e; cases e)
theorem Box.alloc {K : Nat} {x y : Int} {w : World} (h : Box K x y w) (o : Obj) : Box K x y (w.alloc o) := by
  have hlt := (Array.getElem?_eq_some_iff.1 h).1
  unfold Box
  rw [Below.heap_alloc _ _ _ hlt]; exact h
theorem Box.grown {K : Nat} {x y : Int} {w w' : World} {B n : Nat} {v : Value} {xs : List Value} (h : Box K x y w) (hown : w.ownsRow B 5 1 v n xs) (hg : w.grownBy w' v.ownBlock) : Box K x y w' := by
  have hlt := (Array.getElem?_eq_some_iff.1 h).1
  unfold Box
  rw [hg.block K hlt ?_]; exact h
  intro e
  rcases hown.2 with ⟨hv, -⟩ | ⟨g, cap, cur, hv, -, hh, -⟩
  · rw [hv] at e; simp [Value.ownBlock] at e
  · rw [hv] at e; simp [Value.ownBlock] at e
    subst e
    unfold Box at h
    rw [h] at hh
    cases hh

theorem au_any (B n u : Nat) (hu64 : u < 18446744073709551616) (sv : Value) (xs : List Value) (w : World) (hown : w.ownsRow B 5 1 sv n xs) (hBw : B ≤ w.heap.size) (hlim : n + 20 ≤ 140737488355328) (htab : Fit w) :
    Calls Tryd.prog 41 #[sv, .int .u64 u, .int .i64 10] w fun e w' => ∃ v', e = .returned v' ∧ w'.ownsRow B 5 1 v' (n + (Lib.decDigits u).length) (xs ++ Lib.byteCells (Lib.decDigits u)) ∧ Below B w w' ∧ Lib.OthersKept 5 none w w' := by
  by_cases h : u < 100
  · exact Any.internal_strconv_AppendUint_10_small Tryd.laysM288 B n u h sv xs w hown hBw hlim
  · exact Any.internal_strconv_AppendUint_10_big Tryd.laysM288 B n u (by omega) hu64 sv xs w hown hBw hlim htab

set_option maxHeartbeats 400000 in
theorem aus_any (B n u : Nat) (hu64 : u < 18446744073709551616) (sv : Value) (xs : List Value) (w : World) (hown : w.ownsRow B 5 1 sv n xs) (hBw : B ≤ w.heap.size) (hlim : n + 20 ≤ 140737488355328) (htab : Fit w) :
    Calls Tryd.prog 33 #[sv, .int .u64 u, .int .i64 10] w fun e w' => ∃ v', e = .returned v' ∧ w'.ownsRow B 5 1 v' (n + (Lib.decDigits u).length) (xs ++ Lib.byteCells (Lib.decDigits u)) ∧ Below B w w' ∧ Lib.OthersKept 5 none w w' := by
  have H := Lib.hid (au_any B n u hu64 sv xs w hown hBw hlim htab)
  clear hown htab
  go_enter Tryd.func33, Tryd.ntmps33
  go_wp2_with (go_at_call 41; refine H.out.mono ?_; rintro e w' ⟨v', rfl, h1, h2, h3⟩)
  go_ret
  exact ⟨_, rfl, h1, h2, h3⟩

/-- An entry as a text. -/
def showE (x : En) : List UInt8 := Lib.decDigits x.1.toNat ++ 58 :: Lib.decDigits x.2.toNat
def showTo (xs : List En) : Nat → List UInt8
  | 0 => []
  | k + 1 => showTo xs k ++ ((if 0 < k then [32] else []) ++ showE (atL xs k))
/-- A vector as a text. -/
def showL (xs : List En) : List UInt8 := showTo xs xs.length
theorem nd_le (u : Nat) (h : u < 18446744073709551616) : (Lib.decDigits u).length ≤ 20 := by
  rw [Lib.decDigits_length]
  by_cases h0 : u = 0
  · subst h0; rw [Lib.nDigits_small (by omega)]; omega
  · have := Lib.numDigits_eq u (by omega) h; split at this <;> omega
theorem showE_le (x : En) (h1 : x.1 ≤ 65535) (h2 : x.2 ≤ 4294967295) : (showE x).length ≤ 41 := by
  have a := nd_le x.1.toNat (by omega)
  have b := nd_le x.2.toNat (by omega)
  simp only [showE, List.length_append, List.length_cons]; omega
theorem showTo_le (xs : List En) (hf : Fits xs) : ∀ k, k ≤ xs.length → (showTo xs k).length ≤ 42 * k
  | 0, _ => by simp [showTo]
  | k + 1, h => by
    have ih := showTo_le xs hf k (by omega)
    have hx := hf.at (show k < xs.length by omega)
    have := showE_le (atL xs k) hx.2.1 hx.2.2.2
    simp only [showTo, List.length_append]
    split <;> simp <;> omega

theorem one_cell (b : UInt8) {W : World} {a : Nat} (h : W.cell? ⟨a, 0, none⟩ = some (.int .u8 (b.toNat : Int))) : ∀ j u, (byteCells [b])[j]? = some u → W.cell? ((⟨a, 0, none⟩ : Addr).add j) = some u := by
  intro j u hj
  match j, hj with
  | 0, hj => simp [byteCells] at hj; subst hj; simpa [Addr.add] using h
theorem bytes_one (l : List UInt8) : ∀ u ∈ byteCells l, u.oneCell' = true := by intro u hu; simp only [byteCells, List.mem_map] at hu; obtain ⟨b, _, rfl⟩ := hu; rfl
theorem info5 : (Tryd.prog.info? 5).map (fun i => (i.zero, i.size, i.bytes)) = some (some (.int .u8 0), 1, 1) := by kernel_rfl
theorem grown_below {w wr w1 : World} {v : Value} {bs : List UInt8} (h : HoldB w v bs wr) (hg : wr.grownBy w1 v.ownBlock) : Below w.heap.size wr w1 := (Below.refl _ _).grown hg h.2.size (fun j hj => (h.1.lt j hj).1)

theorem conv_bytes {w wr : World} {v : Value} {bs : List UInt8} (h : HoldB w v bs wr) : (convert 64 9 v).run Tryd.prog wr = .ok (.string ⟨bs.toArray⟩) wr := by
  rcases h.1.2 with ⟨hv, h0⟩ | ⟨g, cap, cur, hv, -, hh, -⟩
  · have e : bs = [] := List.eq_nil_of_length_eq_zero h0
    subst e; subst hv
    rw [run_convert_bytes_string wr 64 9 5 none 0 0 Tryd.underlying64 Tryd.underlying5 Tryd.underlying9]
    rfl
  · subst hv
    have ho := h.1
    exact run_convert_bytes_back wr 64 9 5 ⟨g, 0, none⟩ cap bs Tryd.underlying64 Tryd.underlying5 Tryd.underlying9 (fun j hj => by
      rw [Lib.add_plain, Nat.zero_add, ho.cellAt j (by omega)]
      simp [byteCells, hj])

set_option maxHeartbeats 3200000 in
set_option maxRecDepth 100000 in
theorem show_any (xs : List En) (p : Option Addr) (c : Nat) (w : World) (hR : Row w p xs) (hf : Fits xs) (hl : xs.length ≤ 4000) (hfit : Fit w) :
    Calls Tryd.prog 20 #[.slice p xs.length c] w fun e w' => e = .returned (.string ⟨(showL xs).toArray⟩) ∧ Below w.heap.size w w' := by
  have HR : Hid (Row w p xs) := hR
  have HFit : Hid (Fit w) := hfit
  have HF : Hid (Fits xs) := hf
  clear hR hfit hf
  obtain ⟨i0, hi, hz0, hz1, hz2⟩ := info_parts info5
  go_enter Tryd.func20, Tryd.ntmps20
  go_wp2
  go_loopg [3, 8] xs.length (fun n s i wr => ∃ k : Nat, k ≤ xs.length ∧ xs.length - k ≤ n ∧ i = .int .i64 k ∧ HoldB w s (showTo xs k) wr)
  case atStart => exact ⟨0, Nat.zero_le _, by omega, rfl, HoldB.nil w⟩
  case round =>
    obtain ⟨k, hk, hg, rfl, hO⟩ := hrel
    have HO : Hid (HoldB w u3 (showTo xs k) wr) := hO
    clear hO
    by_cases hlt : k < xs.length
    · obtain ⟨b, o, rfl, c0', c1'⟩ := HR.out k hlt
      have c0 := cellU c0' HO.out.2
      have c1 := cellU c1' HO.out.2
      have hle := showTo_le xs HF.out k hk
      obtain ⟨x0, x1, y0, y1⟩ := HF.out.at hlt
      clear c0' c1'
      have HT : Hid (showTo xs (k + 1) = showTo xs k ++ ((if 0 < k then [32] else []) ++ showE (atL xs k))) := rfl
      have HE : Hid (showE (atL xs k) = Lib.decDigits (atL xs k).1.toNat ++ 58 :: Lib.decDigits (atL xs k).2.toNat) := rfl
      obtain ⟨r, hr⟩ : ∃ r : Nat, (atL xs k).1 = (r : Int) := ⟨(atL xs k).1.toNat, by omega⟩
      obtain ⟨s, hs⟩ : ∃ s : Nat, (atL xs k).2 = (s : Int) := ⟨(atL xs k).2.toNat, by omega⟩
      rw [hr] at c0 x0 x1 HE
      rw [hs] at c1 y0 y1 HE
      rw [HE.out, Int.toNat_natCast, Int.toNat_natCast] at HT
      clear HE hr hs
      have hr6 : r ≤ 65535 := by omega
      have hs6 : s ≤ 4294967295 := by omega
      have w1 : IntKind.u64.wrap (r : Int) = r := by rw [IntKind.wrap_u64]; omega
      have w2 : IntKind.u64.wrap (s : Int) = s := by rw [IntKind.wrap_u64]; omega
      have n1 := nd_le r (by omega)
      have n2 := nd_le s (by omega)
      have HBx : Hid (Box wr.heap.size r s (wr.alloc (.cells #[.int .u16 r, .int .u32 s] 55))) := heap_alloc_new wr _
      obtain ⟨T, hTe⟩ : ∃ T, T = showTo xs k ++ (if 0 < k then [32] else []) := ⟨_, rfl⟩
      have hTl : T.length ≤ 168001 := by rw [hTe, List.length_append]; split <;> simp <;> omega
      rw [← List.append_assoc, ← hTe] at HT
      have HTe : Hid (T = showTo xs k ++ (if 0 < k then [32] else [])) := hTe
      clear hTe
      by_cases h0 : 0 < k
      case' pos =>
        have h0' : (0 : Int) < (k : Int) := by omega
        go_wp2_with (first
          | (at_builtin; refine wpList_append_own _ rfl (.tmp 15) (.tmp 16) 64 rfl w.heap.size 5 i0 (.int .u8 0) 1 1 Tryd.underlying64 hi hz0 hz1 hz2 rfl (by decide) _ _ _ rfl ((HO.out.alloc _).alloc _).1 ⟨wr.heap.size + 1, 0, none⟩ 1 1 (byteCells [32]) rfl rfl (one_cell 32 (by simp)) (bytes_one _) (by unfold maxLen; omega) (by omega) (by have := HO.out.2.size; simp; omega) ?_))
        intro v' wa hown' hgrow _
        have HOa : Hid (HoldB w v' T wa) := by
          rw [HTe.out, if_pos h0]
          exact ((HO.out.alloc _).alloc _).onto hown' (grown_below ((HO.out.alloc _).alloc _) hgrow)
        have HBa : Hid (Box wr.heap.size r s wa) := (HBx.out.alloc _).grown ((HO.out.alloc _).alloc _).1 hgrow
        clear hown' hgrow
      case' neg =>
        have hk0 : k = 0 := by omega
        subst hk0
        simp only [Nat.zero_mul, Nat.add_zero] at c0 c1
        have HOa : Hid (HoldB w u3 T (wr.alloc (.cells #[.int .u16 r, .int .u32 s] 55))) := by
          rw [HTe.out, if_neg h0, List.append_nil]; exact HO.out.alloc _
        have HBa : Hid (Box wr.heap.size r s (wr.alloc (.cells #[.int .u16 r, .int .u32 s] 55))) := HBx.out
      all_goals
        clear HTe HBx
        have cb0 := HBa.out.cell0
        go_wp2_with fail
        refine (aus_any w.heap.size T.length r (by omega) _ (byteCells T) _ HOa.out.1 HOa.out.2.size (by omega) (HFit.out.below HOa.out.2)).mono ?_
        rintro e wb ⟨vb, rfl, hb1, hb2, hb3⟩
        have HOb : Hid (HoldB w vb (T ++ Lib.decDigits r) wb) := HOa.out.onto hb1 hb2
        have HBb : Hid (Box wr.heap.size r s wb) := HBa.out.others hb3
        have hTb : (T ++ Lib.decDigits r).length ≤ 168021 := by rw [List.length_append]; omega
        clear hb1 hb2 hb3 HOa HBa cb0
        generalize hTB : T ++ Lib.decDigits r = TB at HOb hTb
        have HTB : Hid (T ++ Lib.decDigits r = TB) := hTB
        clear hTB
        go_wp2_with (first
          | (at_builtin; refine wpList_append_own _ rfl (.tmp 23) (.tmp 24) 64 rfl w.heap.size 5 i0 (.int .u8 0) 1 1 Tryd.underlying64 hi hz0 hz1 hz2 rfl (by decide) _ _ _ rfl (HOb.out.alloc _).1 ⟨wb.heap.size, 0, none⟩ 1 1 (byteCells [58]) rfl rfl (one_cell 58 (by simp)) (bytes_one _) (by unfold maxLen; omega) (by omega) (by have := HOb.out.2.size; simp; omega) ?_))
        intro vc wc hown' hgrow _
        have HOc : Hid (HoldB w vc (TB ++ [58]) wc) := (HOb.out.alloc _).onto hown' (grown_below (HOb.out.alloc _) hgrow)
        have HBc : Hid (Box wr.heap.size r s wc) := (HBb.out.alloc _).grown (HOb.out.alloc _).1 hgrow
        clear hown' hgrow HOb HBb
        have hTc : (TB ++ [58]).length ≤ 168022 := by rw [List.length_append]; simp; omega
        generalize hTC : TB ++ [58] = TC at HOc hTc
        have HTC : Hid (TB ++ [58] = TC) := hTC
        clear hTC
        have cb1 := HBc.out.cell1
        go_wp2_with fail
        refine (aus_any w.heap.size TC.length s (by omega) _ (byteCells TC) _ HOc.out.1 HOc.out.2.size (by omega) (HFit.out.below HOc.out.2)).mono ?_
        rintro e wd ⟨vd, rfl, hd1, hd2, hd3⟩
        have HOd : Hid (HoldB w vd (TC ++ Lib.decDigits s) wd) := HOc.out.onto hd1 hd2
        clear hd1 hd2 hd3 HOc HBc cb1
        go_wp2
      · go_roundg (xs.length - (0 + 1))
        case measure => omega
        case rel => exact ⟨1, by omega, Nat.le_refl _, by go_num, by rw [show showTo xs 1 = TC ++ Lib.decDigits s by rw [← HTC.out, ← HTB.out]; simpa using HT.out]; exact HOd.out⟩
      · go_roundg (xs.length - (k + 1))
        case measure => omega
        case rel => exact ⟨k + 1, by omega, Nat.le_refl _, by go_num, by rw [show showTo xs (k + 1) = TC ++ Lib.decDigits s by rw [← HTC.out, ← HTB.out, HT.out]; simp]; exact HOd.out⟩
    · have : k = xs.length := by omega
      subst this
      have hcv := conv_bytes HO.out
      go_wp2
      go_ret
      exact ⟨rfl, HO.out.2⟩

end Go.Proofs.YthihfigphedomaaDoor
