
/-
  What gauss's Show hands back, for every complex number, and the document's own Digits, Int and Show of layer 3. The condition: the library's table of powers of ten holds what it was laid with.
-/
import Derived.Test.YtglcihfcnbifcaaDoorTurned
import Derived.Test.YtglcihfcnbifcaaDoorLaid
import Derived.Lib.ItoaMem
import Derived.Deep.RegionHeld3
import Derived.Deep.DrawnRows
import Derived.Deep.DeepCutAuto
import Derived.Lib.SmallJoins
namespace Go.Proofs.YtglcihfcnbifcaaDoor
open Go.ChangeShapes Go.WideShapes Go.ChangeAt Go.RowKit Go.Lib
open Go.Sort
set_option linter.unusedVariables false
set_option linter.unusedSimpArgs false

/-- What the calls ask of the library's own table. -/
def Fit (w : World) : Prop := Lib.TabIs Tryd.prog w "internal/strconv.uint64pow10" .u64 Lib.pow10Tab
theorem Fit.below {w w' : World} (h : Fit w) (hb : Below w.heap.size w w') : Fit w' := Lib.tabBelow_of_tabIs h w' hb

/-- Bytes that the call holds in a row of its own. -/
def HoldB (w : World) (v : Value) (bs : List UInt8) (wr : World) : Prop := wr.ownsRow w.heap.size 5 1 v bs.length (byteCells bs) ∧ Below w.heap.size w wr
theorem HoldB.nil (w : World) : HoldB w (.slice none 0 0) [] w := ⟨World.ownsRow_nil w w.heap.size 5 1, Below.refl _ _⟩
theorem HoldB.alloc {w wr : World} {v : Value} {bs : List UInt8} (h : HoldB w v bs wr) (o : Obj) : HoldB w v bs (wr.alloc o) := ⟨h.1.alloc o, below_alloc h.2 o⟩
theorem byteCells_append (a b : List UInt8) : byteCells (a ++ b) = byteCells a ++ byteCells b := by simp [byteCells]
theorem HoldB.onto {w wr w1 : World} {v v' : Value} {bs cs : List UInt8} (h : HoldB w v bs wr) (hown : w1.ownsRow w.heap.size 5 1 v' (bs.length + cs.length) (byteCells bs ++ byteCells cs)) (hb : Below w.heap.size wr w1) : HoldB w v' (bs ++ cs) w1 :=
  ⟨by rw [byteCells_append, List.length_append]; exact hown, h.2.trans hb⟩
theorem one_cell (b : UInt8) {W : World} {a : Nat} (h : W.cell? ⟨a, 0, none⟩ = some (.int .u8 (b.toNat : Int))) : ∀ j u, (byteCells [b])[j]? = some u → W.cell? ((⟨a, 0, none⟩ : Addr).add j) = some u := by
  intro j u hj
  match j, hj with
  | 0, hj => simp [byteCells] at hj; subst hj; simpa [Addr.add] using h
theorem bytes_one (l : List UInt8) : ∀ u ∈ byteCells l, u.oneCell' = true := by intro u hu; simp only [byteCells, List.mem_map] at hu; obtain ⟨b, _, rfl⟩ := hu; rfl
theorem info5 : (Tryd.prog.info? 5).map (fun i => (i.zero, i.size, i.bytes)) = some (some (.int .u8 0), 1, 1) := by kernel_rfl
theorem grown_below {w wr w1 : World} {v : Value} {bs : List UInt8} (h : HoldB w v bs wr) (hg : wr.grownBy w1 v.ownBlock) : Below w.heap.size wr w1 := (Below.refl _ _).grown hg h.2.size (fun j hj => (h.1.lt j hj).1)
theorem conv_bytes {w wr : World} {v : Value} {bs : List UInt8} (h : HoldB w v bs wr) : (convert 60 9 v).run Tryd.prog wr = .ok (.string ⟨bs.toArray⟩) wr := by
  rcases h.1.2 with ⟨hv, h0⟩ | ⟨g, cap, cur, hv, -, hh, -⟩
  · have e : bs = [] := List.eq_nil_of_length_eq_zero h0
    subst e; subst hv
    rw [run_convert_bytes_string wr 60 9 5 none 0 0 Tryd.underlying60 Tryd.underlying5 Tryd.underlying9]
    rfl
  · subst hv
    have ho := h.1
    exact run_convert_bytes_back wr 60 9 5 ⟨g, 0, none⟩ cap bs Tryd.underlying60 Tryd.underlying5 Tryd.underlying9 (fun j hj => by
      rw [Lib.add_plain, Nat.zero_add, ho.cellAt j (by omega)]
      simp [byteCells, hj])

theorem nd_le (u : Nat) (h : u < 18446744073709551616) : (Lib.decDigits u).length ≤ 20 := by
  rw [Lib.decDigits_length]
  by_cases h0 : u = 0
  · subst h0; rw [Lib.nDigits_small (by omega)]; omega
  · have := Lib.numDigits_eq u (by omega) h; split at this <;> omega
theorem itoa_le {i : Int} (h0 : -9223372036854775808 ≤ i) (h1 : i ≤ 9223372036854775807) : (Lib.itoa i).length ≤ 21 := by
  unfold Lib.itoa
  split
  · have := nd_le i.natAbs (by omega); simp; omega
  · have := nd_le i.toNat (by omega); omega

/-- The library's theorem, in this program's words. -/
theorem ai_any (B n : Nat) (i : Int) (h0 : -9223372036854775808 ≤ i) (h1 : i ≤ 9223372036854775807) (sv : Value) (xs : List Value) (w : World) (hown : w.ownsRow B 5 1 sv n xs) (hBw : B ≤ w.heap.size) (hlim : n + 21 ≤ 140737488355328) (htab : Lib.TabBelow Tryd.prog B w "internal/strconv.uint64pow10" .u64 Lib.pow10Tab) :
    Calls Tryd.prog 30 #[sv, .int .i64 i, .int .i64 10] w fun e w' => ∃ v', e = .returned v' ∧ w'.ownsRow B 5 1 v' (n + (Lib.itoa i).length) (xs ++ Lib.byteCells (Lib.itoa i)) ∧ Below B w w' ∧ Lib.OthersKept 5 none w w' :=
  Any.strconv_AppendInt_10 Tryd.laysM176 B n i h0 h1 sv xs w hown hBw hlim htab

/-- A whole number as a text. -/
def showG (a b : Int) : List UInt8 := Lib.itoa a ++ ((if 0 ≤ b then [43] else []) ++ (Lib.itoa b ++ [105]))

set_option maxHeartbeats 3200000 in
set_option maxRecDepth 100000 in
theorem show_yes {x y : Nat} {a b : Int} (hx : IsW x a) (hy : IsW y b) (w : World) (hfit : Fit w) :
    Calls Tryd.prog 24 #[.complex .f64 x y] w fun e w' => e = .returned (.string ⟨(showG a b).toArray⟩) ∧ Below w.heap.size w w' := by
  have H := Lib.hid (fun W => parts_yes hx hy W)
  have ha := hx.2
  have hb := hy.2
  have HT : Hid (Lib.TabBelow Tryd.prog w.heap.size w "internal/strconv.uint64pow10" .u64 Lib.pow10Tab) := Lib.tabBelow_of_tabIs hfit
  clear hx hy hfit
  have la := itoa_le (i := a) (by omega) (by omega)
  have lb := itoa_le (i := b) (by omega) (by omega)
  have HG : Hid (showG a b = Lib.itoa a ++ ((if 0 ≤ b then [43] else []) ++ (Lib.itoa b ++ [105]))) := rfl
  obtain ⟨i0, hi, hz0, hz1, hz2⟩ := info_parts info5
  go_enter Tryd.func24, Tryd.ntmps24
  go_wp2_with fail
  refine (H.out _).mono ?_
  rintro e w' ⟨rfl, he⟩
  obtain rfl := Eq.symm he
  clear he
  go_wp2_with fail
  refine (ai_any w.heap.size 0 a (by omega) (by omega) _ [] _ (HoldB.nil w).1 (Nat.le_refl _) (by omega) HT.out).mono ?_
  rintro e wa ⟨va, rfl, ha1, ha2, -⟩
  have HA : Hid (HoldB w va (Lib.itoa a) wa) := ⟨by simpa using ha1, ha2⟩
  clear ha1 ha2
  obtain ⟨T, hT⟩ : ∃ T, T = Lib.itoa a ++ (if 0 ≤ b then [43] else []) := ⟨_, rfl⟩
  have hTl : T.length ≤ 22 := by rw [hT, List.length_append]; split <;> simp <;> omega
  rw [← List.append_assoc, ← hT] at HG
  have HTe : Hid (T = Lib.itoa a ++ (if 0 ≤ b then [43] else [])) := hT
  clear hT
  by_cases h0 : 0 ≤ b
  case' pos =>
    go_wp2_with (first
      | (at_builtin; refine wpList_append_own _ rfl (.tmp 19) (.tmp 20) 60 rfl w.heap.size 5 i0 (.int .u8 0) 1 1 Tryd.underlying60 hi hz0 hz1 hz2 rfl (by decide) _ _ _ rfl (HA.out.alloc _).1 ⟨wa.heap.size, 0, none⟩ 1 1 (byteCells [43]) rfl rfl (one_cell 43 (by simp)) (bytes_one _) (by unfold maxLen; omega) (by omega) (by have := HA.out.2.size; simp; omega) ?_))
    intro v' wb hown' hgrow _
    have HB : Hid (HoldB w v' T wb) := by
      rw [HTe.out, if_pos h0]
      exact (HA.out.alloc _).onto hown' (grown_below (HA.out.alloc _) hgrow)
    clear hown' hgrow
  case' neg =>
    have HB : Hid (HoldB w va T wa) := by rw [HTe.out, if_neg h0, List.append_nil]; exact HA.out
  all_goals
    clear HA HTe
    go_wp2_with fail
    refine (ai_any w.heap.size T.length b (by omega) (by omega) _ (byteCells T) _ HB.out.1 HB.out.2.size (by omega) (HT.out.on HB.out.2)).mono ?_
    rintro e wc ⟨vc, rfl, hc1, hc2, -⟩
    have HC : Hid (HoldB w vc (T ++ Lib.itoa b) wc) := HB.out.onto hc1 hc2
    clear hc1 hc2 HB
    have hTc : (T ++ Lib.itoa b).length ≤ 43 := by rw [List.length_append]; omega
    generalize hTC : T ++ Lib.itoa b = TC at HC hTc
    have HTC : Hid (T ++ Lib.itoa b = TC) := hTC
    clear hTC
    go_wp2_with (first
      | (at_builtin; refine wpList_append_own _ rfl (.tmp 25) (.tmp 26) 60 rfl w.heap.size 5 i0 (.int .u8 0) 1 1 Tryd.underlying60 hi hz0 hz1 hz2 rfl (by decide) _ _ _ rfl (HC.out.alloc _).1 ⟨wc.heap.size, 0, none⟩ 1 1 (byteCells [105]) rfl rfl (one_cell 105 (by simp)) (bytes_one _) (by unfold maxLen; omega) (by omega) (by have := HC.out.2.size; simp; omega) ?_))
    intro vd wd hown' hgrow _
    have HD : Hid (HoldB w vd (TC ++ [105]) wd) := (HC.out.alloc _).onto hown' (grown_below (HC.out.alloc _) hgrow)
    clear hown' hgrow HC
    have hcv := conv_bytes HD.out
    go_wp2
    go_ret
    exact ⟨ret_str (by rw [HG.out, ← HTC.out]; simp), HD.out.2⟩

theorem show_no {x y : Nat} (h : NoW x ∨ NoW y) (w : World) :
    Calls Tryd.prog 24 #[.complex .f64 x y] w fun e w' => e = .returned (.string ⟨#[]⟩) ∧ w' = w := by
  have H := Lib.hid (fun W => parts_no h W)
  clear h
  go_enter Tryd.func24, Tryd.ntmps24
  go_wp2_with fail
  refine (H.out _).mono ?_
  rintro e w' ⟨rfl, rfl⟩
  go_wp2
  go_ret
  exact ⟨rfl, rfl⟩

theorem dig_small {u : Nat} (h : u < 10) : (⟨(Lib.decDigits u).toArray⟩ : ByteArray) = ⟨#[48 + UInt8.ofNat u]⟩ := by rw [Lib.decDigits_one h]; simp
theorem dig_big {u : Nat} (h : ¬ u < 10) : (⟨(Lib.decDigits u).toArray⟩ : ByteArray) = ⟨(Lib.decDigits (u / 10)).toArray⟩ ++ ⟨#[48 + UInt8.ofNat (u % 10)]⟩ := by
  rw [Lib.decDigits, dif_neg h]
  apply ByteArray.ext
  simp
theorem bcell {W w1 : World} (hb : Below W.heap.size W w1) : (∀ b o, b < W.heap.size → w1.cell? ⟨b, o, none⟩ = W.cell? ⟨b, o, none⟩) ∧ (∀ b o, b < W.heap.size → w1.frozen? ⟨b, o, none⟩ = W.frozen? ⟨b, o, none⟩) :=
  ⟨fun b o h => hb.cell (p := ⟨b, o, none⟩) h, fun b o h => hb.frozen (p := ⟨b, o, none⟩) h⟩

/-- A slice of one byte as a text. -/
theorem conv_one (n : Nat) (b : Nat) (hn : n < 256) (W : World) (hc : W.cell? ⟨b, 0, none⟩ = some (.int .u8 (n : Int))) :
    (convert 60 9 (.slice (some ⟨b, 0, none⟩) 1 1)).run Tryd.prog W = .ok (.string ⟨#[UInt8.ofNat n]⟩) W := by
  have h := run_convert_bytes_back (P := Tryd.prog) W 60 9 5 ⟨b, 0, none⟩ 1 [UInt8.ofNat n] Tryd.underlying60 Tryd.underlying5 Tryd.underlying9 (fun j hj => by
    have : j = 0 := by simp at hj; omega
    subst this
    rw [Lib.add_plain]
    simpa [Nat.mod_eq_of_lt hn] using hc)
  exact h

set_option maxHeartbeats 1600000 in
set_option maxRecDepth 100000 in
theorem digits_any (u : Nat) : u < 18446744073709551616 → ∀ (w : World), Calls Tryd.prog 34 #[.int .u64 u] w fun e w' => e = .returned (.string ⟨(Lib.decDigits u).toArray⟩) ∧ Below w.heap.size w w' := by
  induction u using Nat.strongRecOn with
  | ind u ih =>
    intro h64 w
    by_cases hs : u < 10
    · have hs' : (u : Int) < 10 := by omega
      clear ih
      have hcv : (convert 60 9 (.slice (some ⟨w.heap.size, 0, none⟩) 1 1)).run Tryd.prog (w.alloc (.cells #[.int .u8 (48 + (u : Int))] 5)) = .ok (.string ⟨#[UInt8.ofNat (48 + u)]⟩) (w.alloc (.cells #[.int .u8 (48 + (u : Int))] 5)) :=
        conv_one (48 + u) _ (by omega) _ (by simp)
      go_enter Tryd.func34, Tryd.ntmps34
      go_wp2
      go_ret
      exact ⟨ret_str (dig_small hs).symm, (Below.refl _ _).alloc (Nat.le_refl _) _⟩
    · have hs' : ¬ (u : Int) < 10 := by omega
      have hi : Hid (∀ W, Calls Tryd.prog 34 #[.int .u64 ((u : Int) / 10)] W fun e w' => e = .returned (.string ⟨(Lib.decDigits (u / 10)).toArray⟩) ∧ Below W.heap.size W w') := by
        have := ih (u / 10) (by omega) (by omega)
        rw [show ((u / 10 : Nat) : Int) = (u : Int) / 10 from rfl] at this
        exact this
      clear ih
      have hq : IntKind.u64.wrap ((u : Int) / 10) = (u : Int) / 10 := by rw [IntKind.wrap_u64]; omega
      have hr : (u : Int).tmod 10 = (u : Int) % 10 := Int.tmod_eq_emod_of_nonneg (by omega)
      have ha : IntKind.u64.wrap (48 + (u : Int) % 10) = 48 + (u : Int) % 10 := by rw [IntKind.wrap_u64]; omega
      have hb : IntKind.u8.wrap (48 + (u : Int) % 10) = 48 + (u : Int) % 10 := by rw [IntKind.wrap_u8]; omega
      have hcv : ∀ (b : Nat) (W : World), W.cell? ⟨b, 0, none⟩ = some (.int .u8 (48 + (u : Int) % 10)) → (convert 60 9 (.slice (some ⟨b, 0, none⟩) 1 1)).run Tryd.prog W = .ok (.string ⟨#[UInt8.ofNat (48 + u % 10)]⟩) W :=
        fun b W h => conv_one (48 + u % 10) b (by omega) W (by rw [h]; rfl)
      have hl0 := nd_le (u / 10) (by omega)
      have hl1 : ¬ 9223372036854775807 < (Lib.decDigits (u / 10)).length + 1 := by omega
      go_enter Tryd.func34, Tryd.ntmps34
      go_wp2_with fail
      go_region_with (first | (go_at_call 34; refine (hi.out _).mono ?_; rintro e w4 ⟨rfl, hb4⟩; obtain ⟨hc4, hf4⟩ := bcell hb4))
      all_goals
        clear hc4 hf4 hcv
        go_wp2
        go_ret
        exact ⟨ret_str (dig_big hs).symm, by first | exact below_alloc (below_step (Below.drew (Below.refl _ _)) hb4) _ | exact below_step (Below.drew (below_alloc (Below.refl _ _) _)) hb4⟩

set_option maxHeartbeats 1600000 in
theorem int_any (n : Int) (h0 : -9223372036854775807 ≤ n) (h1 : n ≤ 9223372036854775807) (w : World) :
    Calls Tryd.prog 31 #[.int .i64 n] w fun e w' => e = .returned (.string ⟨(Lib.itoa n).toArray⟩) ∧ Below w.heap.size w w' := by
  by_cases hn : n < 0
  · have w1 : IntKind.i64.wrap (-n) = -n := wrap_id (by omega) (by omega)
    have w1' : IntKind.i64.wrap (0 - n) = -n := by rw [wrap_id (by omega) (by omega)]; omega
    have w2 : IntKind.u64.wrap (-n) = -n := by rw [IntKind.wrap_u64]; omega
    have H : Hid (∀ W, Calls Tryd.prog 34 #[.int .u64 (-n)] W fun e w' => e = .returned (.string ⟨(Lib.decDigits n.natAbs).toArray⟩) ∧ Below W.heap.size W w') := fun W => by
      have := digits_any n.natAbs (by omega) W
      rwa [show ((n.natAbs : Nat) : Int) = -n by omega] at this
    have hl := nd_le n.natAbs (by omega)
    have hl1 : ¬ 9223372036854775807 < 1 + (Lib.decDigits n.natAbs).length := by omega
    have HI : Hid ((⟨(Lib.itoa n).toArray⟩ : ByteArray) = ⟨#[45]⟩ ++ ⟨(Lib.decDigits n.natAbs).toArray⟩) := by
      show (⟨(Lib.itoa n).toArray⟩ : ByteArray) = ⟨#[45]⟩ ++ ⟨(Lib.decDigits n.natAbs).toArray⟩
      unfold Lib.itoa
      rw [if_pos hn]
      apply ByteArray.ext
      simp
    go_enter Tryd.func31, Tryd.ntmps31
    go_wp2_with fail
    refine (H.out _).mono ?_
    rintro e w' ⟨rfl, hb'⟩
    go_wp2
    go_ret
    exact ⟨ret_str HI.out.symm, hb'⟩
  · have w2 : IntKind.u64.wrap n = n := by rw [IntKind.wrap_u64]; omega
    have H : Hid (∀ W, Calls Tryd.prog 34 #[.int .u64 n] W fun e w' => e = .returned (.string ⟨(Lib.decDigits n.toNat).toArray⟩) ∧ Below W.heap.size W w') := fun W => by
      have := digits_any n.toNat (by omega) W
      rwa [show ((n.toNat : Nat) : Int) = n by omega] at this
    have HI : Hid (Lib.itoa n = Lib.decDigits n.toNat) := by show Lib.itoa n = _; unfold Lib.itoa; rw [if_neg hn]
    go_enter Tryd.func31, Tryd.ntmps31
    go_wp2_with fail
    refine (H.out _).mono ?_
    rintro e w' ⟨rfl, hb'⟩
    go_wp2
    go_ret
    exact ⟨by rw [HI.out]; rfl, hb'⟩

theorem showG_pos {a b : Int} (h : 0 ≤ b) : (⟨(showG a b).toArray⟩ : ByteArray) = ⟨(Lib.itoa a).toArray⟩ ++ ⟨#[43]⟩ ++ ⟨(Lib.itoa b).toArray⟩ ++ ⟨#[105]⟩ := by
  unfold showG
  rw [if_pos h]
  apply ByteArray.ext
  simp
theorem showG_neg {a b : Int} (h : ¬ 0 ≤ b) : (⟨(showG a b).toArray⟩ : ByteArray) = ⟨(Lib.itoa a).toArray⟩ ++ ⟨(Lib.itoa b).toArray⟩ ++ ⟨#[105]⟩ := by
  unfold showG
  rw [if_neg h]
  apply ByteArray.ext
  simp
theorem bsize (l : List UInt8) : (⟨l.toArray⟩ : ByteArray).size = l.length := by show l.toArray.size = _; simp

set_option maxHeartbeats 1600000 in
theorem refshow_any {a b : Int} (ha : Sm a) (hb : Sm b) (w : World) :
    Calls Tryd.prog 25 #[.agg #[.int .i64 a, .int .i64 b]] w fun e w' => e = .returned (.string ⟨(showG a b).toArray⟩) ∧ Below w.heap.size w w' := by
  unfold Sm at ha hb
  have H1 := Lib.hid (fun W => int_any a (by omega) (by omega) W)
  have H2 := Lib.hid (fun W => int_any b (by omega) (by omega) W)
  have la := itoa_le (i := a) (by omega) (by omega)
  have lb := itoa_le (i := b) (by omega) (by omega)
  have HP : Hid (0 ≤ b → (⟨(showG a b).toArray⟩ : ByteArray) = ⟨(Lib.itoa a).toArray⟩ ++ ⟨#[43]⟩ ++ ⟨(Lib.itoa b).toArray⟩ ++ ⟨#[105]⟩) := showG_pos
  have HN : Hid (¬ 0 ≤ b → (⟨(showG a b).toArray⟩ : ByteArray) = ⟨(Lib.itoa a).toArray⟩ ++ ⟨(Lib.itoa b).toArray⟩ ++ ⟨#[105]⟩) := showG_neg
  clear ha hb
  have sa := bsize (Lib.itoa a)
  have sb := bsize (Lib.itoa b)
  generalize hA : (⟨(Lib.itoa a).toArray⟩ : ByteArray) = A at H1 HP HN sa
  generalize hB : (⟨(Lib.itoa b).toArray⟩ : ByteArray) = B at H2 HP HN sb
  generalize (⟨(showG a b).toArray⟩ : ByteArray) = S at HP HN ⊢
  have hsa : A.size ≤ 21 := by omega
  have hsb : B.size ≤ 21 := by omega
  clear sa sb la lb hA hB
  have hs1 : (⟨#[43]⟩ : ByteArray).size = 1 := rfl
  have hs2 : (⟨#[105]⟩ : ByteArray).size = 1 := rfl
  have q1 : ¬ 9223372036854775807 < A.size + 1 := by omega
  have q2 : ¬ 9223372036854775807 < (A ++ ⟨#[43]⟩).size + B.size := by rw [ByteArray.size_append]; omega
  have q3 : ¬ 9223372036854775807 < (A ++ ⟨#[43]⟩ ++ B).size + 1 := by rw [ByteArray.size_append, ByteArray.size_append]; omega
  have q4 : ¬ 9223372036854775807 < A.size + B.size := by omega
  have q5 : ¬ 9223372036854775807 < (A ++ B).size + 1 := by rw [ByteArray.size_append]; omega
  go_enter Tryd.func25, Tryd.ntmps25
  go_wp2_with fail
  refine (H1.out _).mono ?_
  rintro e wa ⟨rfl, hb1⟩
  have hG := (GBox.new w a b).below hb1
  have c0 := hG.cell1
  have HG : Hid (GBox w.heap.size a b wa) := hG
  have HB1 : Hid (Below w.heap.size w wa) := below_step (below_alloc (Below.refl _ _) _) hb1
  clear hb1 hG
  by_cases h0 : 0 ≤ b
  all_goals
    go_wp2_with fail
    refine (H2.out _).mono ?_
    rintro e wb ⟨rfl, hb2⟩
    have HB2 : Hid (Below w.heap.size w wb) := below_step HB1.out hb2
    clear hb2
    go_wp2
    go_ret
    exact ⟨ret_str (by first | exact (HP.out h0).symm | exact (HN.out (by omega)).symm), HB2.out⟩

end Go.Proofs.YtglcihfcnbifcaaDoor
