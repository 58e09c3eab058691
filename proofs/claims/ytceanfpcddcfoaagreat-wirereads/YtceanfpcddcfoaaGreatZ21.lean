/-
  Several texts of one proof, joined: each part says at its head what it proves. No conditions beyond what each theorem states.
-/
import Derived.Test.YtceanfpcddcfoaaGreatZ14
import Derived.Test.YtceanfpcddcfoaaGreatZ20
import Derived.Test.YtceanfpcddcfoaaGreatZ16
import Derived.Test.YtceanfpcddcfoaaGreatZ19
/-
  What the program's head, fitFrame, framed and putDeps of layer 10 leave, and bytes.HasPrefix. No conditions beyond what each theorem states.
-/
namespace Go.Proofs.YtceanfpcddcfoaaGreat
open Go.ChangeShapes Go.WideShapes Go.ChangeAt Go.RowKit Go.Lib
set_option linter.unusedVariables false
set_option linter.unusedSimpArgs false

theorem u8_mod (n : Nat) : ((UInt8.ofNat n).toNat : Int) = (n : Int) % 256 := by
  have : (UInt8.ofNat n).toNat = n % 256 := by simp
  rw [this]; omega
theorem head_cells (n : Nat) : byteCells (headE n) = [.int .u8 67, .int .u8 80, .int .u8 1, .int .u8 ((n : Int) / 16777216 % 256), .int .u8 ((n : Int) / 65536 % 256), .int .u8 ((n : Int) / 256 % 256), .int .u8 ((n : Int) % 256)] := by
  have h0 : (67 : UInt8).toNat = 67 := rfl
  have h1 : (80 : UInt8).toNat = 80 := rfl
  have h2 : (1 : UInt8).toNat = 1 := rfl
  simp only [headE, be4n, byteCells, List.map_cons, List.map_nil, u8_mod, h0, h1, h2]
  simp only [List.cons.injEq, Value.int.injEq, true_and, and_true]
  omega
set_option maxHeartbeats 1600000 in
set_option maxRecDepth 20000 in
theorem head_any (n : Nat) (hn : n < 2147483648) (w : World) :
    Calls Tryz.prog 65 #[.int .i64 (n : Int)] w fun e w' => e = .returned (.slice (some ⟨w.heap.size, 0, none⟩) 7 7) ∧ w' = w.alloc (.cells (byteCells (headE n)).toArray 5) := by
  have HC : Hid (byteCells (headE n) = [.int .u8 67, .int .u8 80, .int .u8 1, .int .u8 ((n : Int) / 16777216), .int .u8 ((n : Int) / 65536 % 256), .int .u8 ((n : Int) / 256 % 256), .int .u8 ((n : Int) % 256)]) := by
    show _ = _
    rw [head_cells n, show (n : Int) / 16777216 % 256 = (n : Int) / 16777216 by omega]
  go_enter Tryz.func65, Tryz.ntmps65
  go_wp2
  go_ret
  refine ⟨rfl, ?_⟩
  rw [HC.out]
  first | rfl | (trace_state; done)
theorem take_head {bs : List UInt8} (h : 7 ≤ bs.length) (hl : bs.length < 4294967296) : bs.take 7 = headE bs.length ↔ ((bs.getD 0 0).toNat = 67 ∧ (bs.getD 1 0).toNat = 80 ∧ (bs.getD 2 0).toNat = 1 ∧ num4 bs = bs.length) := by
  constructor
  · intro e
    have hb : bs = headE bs.length ++ bs.drop 7 := by rw [← e, List.take_append_drop]
    have h3 := head_three bs.length (bs.drop 7)
    have h4 := be4n_num hl (bs.drop 7)
    rw [← hb] at h3 h4
    exact ⟨h3.1, h3.2.1, h3.2.2, h4⟩
  · rintro ⟨h3, h4, h5, h6⟩
    rw [← h6, five_take h]
    have b3 := (bs.getD 3 0).toNat_lt
    have b4 := (bs.getD 4 0).toNat_lt
    have b5 := (bs.getD 5 0).toNat_lt
    have b6 := (bs.getD 6 0).toNat_lt
    unfold headE be4n
    rw [u8_ext h3, u8_ext h4, u8_ext h5]
    have e3 : num4 bs / 16777216 = (bs.getD 3 0).toNat := by unfold num4; omega
    have e4 : num4 bs / 65536 % 256 = (bs.getD 4 0).toNat := by unfold num4; omega
    have e5 : num4 bs / 256 % 256 = (bs.getD 5 0).toNat := by unfold num4; omega
    have e6 : num4 bs % 256 = (bs.getD 6 0).toNat := by unfold num4; omega
    rw [e3, e4, e5, e6, ← u8_ext rfl, ← u8_ext rfl, ← u8_ext rfl, ← u8_ext rfl]
    rfl
set_option maxHeartbeats 1600000 in
set_option maxRecDepth 20000 in
theorem prefix_any (xs ys : List UInt8) (a : Addr) (q : Option Addr) (c d : Nat) (w : World) (hx : BRow w (some a) xs) (hy : BRow w q ys) (hl : ys.length ≤ xs.length) (hc : xs.length ≤ c) :
    Calls Tryz.prog 70 #[.slice (some a) xs.length c, .slice q ys.length d] w fun e w' => e = .returned (.bool (decide (xs.take ys.length = ys))) ∧ w' = w := by
  have ht : (xs.take ys.length).length = ys.length := by rw [List.length_take]; omega
  have hrx : BRow w (some a) (xs.take ys.length) := fun i hi => by
    rw [ht] at hi
    obtain ⟨b, o, e, h⟩ := hx i (by omega)
    exact ⟨b, o, e, by rw [h, atB_take (by omega)]⟩
  have HE := equal_any (xs.take ys.length) ys (some a) q c d w hrx hy
  rw [ht] at HE
  have HE := Lib.hid HE
  have h1 : (ys.length : Int) ≤ (xs.length : Int) := by omega
  have h2 : ys.length ≤ c := by omega
  generalize decide (xs.take ys.length = ys) = D at HE ⊢
  clear hx hy hrx ht
  go_enter Tryz.func70, Tryz.ntmps70
  go_wp2_with fail
  refine HE.out.mono ?_
  rintro e w2 ⟨rfl, hw⟩
  obtain rfl := Eq.symm hw
  clear hw HE
  go_wp2
  go_ret
  exact ⟨rfl, rfl⟩
/-- What is wrong of bytes by how many they are and how they begin. -/
def frameF (bs : List UInt8) : Int := if bs.length < 11 then 14 else if 1048576 < bs.length then 15 else if bs.take 7 = headE bs.length then 0 else 30
set_option maxHeartbeats 1600000 in
set_option maxRecDepth 20000 in
theorem fitFrame_any (bs : List UInt8) (p : Option Addr) (c : Nat) (w : World) (hR : BRow w p bs) (hl : bs.length ≤ 1000000) (hc : bs.length ≤ c) :
    Calls Tryz.prog 38 #[.slice p bs.length c] w fun e w' => e = .returned (.int .i64 (frameF bs)) ∧ Below w.heap.size w w' := by
  have HF : Hid (frameF bs = if bs.length < 11 then 14 else if 1048576 < bs.length then 15 else if bs.take 7 = headE bs.length then 0 else 30) := rfl
  generalize frameF bs = F at HF ⊢
  by_cases h11 : bs.length < 11
  · have h11' : (bs.length : Int) < 11 := by omega
    have HF2 : Hid (F = 14) := by show _ = _; rw [HF.out, if_pos h11]
    go_enter Tryz.func38, Tryz.ntmps38
    go_wp2
    go_ret
    exact ⟨by rw [HF2.out]; rfl, Below.refl _ _⟩
  have h11' : ¬ (bs.length : Int) < 11 := by omega
  have hmx : ¬ (1048576 : Int) < (bs.length : Int) := by omega
  obtain ⟨b, o, rfl, -⟩ := hR 0 (by omega)
  have HP := prefix_any bs (headE bs.length) ⟨b, o, none⟩ (some ⟨w.heap.size, 0, none⟩) c 7 (w.alloc (.cells (byteCells (headE bs.length)).toArray 5)) (hR.below (below_alloc (Below.refl _ _) _)) (brow_block (heap_alloc_new w _)) (by rw [headE_len]; omega) hc
  rw [headE_len] at HP
  have HP := Lib.hid HP
  have HH := Lib.hid (head_any bs.length (by omega) w)
  have HB : Hid (Below w.heap.size w (w.alloc (.cells (byteCells (headE bs.length)).toArray 5))) := below_alloc (Below.refl _ _) _
  have HF2 : Hid (F = if bs.take 7 = headE bs.length then 0 else 30) := by show _ = _; rw [HF.out, if_neg h11, if_neg (by omega)]
  clear HF hR
  generalize w.alloc (.cells (byteCells (headE bs.length)).toArray 5) = w1 at HP HH HB
  go_enter Tryz.func38, Tryz.ntmps38
  go_wp2_with fail
  refine HH.out.mono ?_
  rintro e w2 ⟨rfl, hw⟩
  obtain rfl := Eq.symm hw
  clear hw HH
  go_wp2_with fail
  refine HP.out.mono ?_
  rintro e w3 ⟨rfl, hw⟩
  obtain rfl := Eq.symm hw
  clear hw HP
  by_cases hT : bs.take 7 = headE bs.length
  · have HF3 : Hid (F = 0) := by show _ = _; rw [HF2.out, if_pos hT]
    rw [decide_eq_true hT]
    clear hT HF2
    go_wp2
    go_ret
    exact ⟨by rw [HF3.out]; rfl, HB.out⟩
  · have HF3 : Hid (F = 30) := by show _ = _; rw [HF2.out, if_neg hT]
    rw [decide_eq_false hT]
    clear hT HF2
    go_wp2
    go_ret
    exact ⟨by rw [HF3.out]; rfl, HB.out⟩
/-- Bytes that are told, and that all went well. -/
def ToldOK (bs : List UInt8) (w : World) (r : Ending) (w' : World) : Prop := ∃ g k, r = .returned (.tuple #[.slice g bs.length k, .int .i64 0]) ∧ BRow w' g bs ∧ bs.length ≤ k ∧ (g = none → k = 0) ∧ Below w.heap.size w w'
theorem owns_block {w : World} {g : Nat} {cs : List Value} (h : w.heap[g]? = some (.cells cs.toArray 5 (0, 0))) (h1 : ∀ u ∈ cs, u.oneCell' = true) (hl : cs.length ≤ 1000) : w.ownsRow g 5 1 (.slice (some ⟨g, 0, none⟩) cs.length cs.length) cs.length cs :=
  ⟨Nat.mul_one _ ▸ rfl, .inr ⟨g, cs.length, cs.toArray, rfl, Nat.le_refl _, h, Nat.le_refl _, by first | simp; done | (unfold maxLen; omega), by first | simp; done | (unfold maxLen; omega), by first | simp; done | (unfold maxLen; omega)⟩⟩
set_option maxHeartbeats 3200000 in
set_option maxRecDepth 200000 in
theorem framed_any (bs : List UInt8) (a : Addr) (c : Nat) (w : World) (hR : BRow w (some a) bs) (hl : bs.length ≤ 60000) (hc : bs.length ≤ c) :
    Calls Tryz.prog 33 #[.slice (some a) bs.length c] w (ToldOK (sealL (headE (bs.length + 11) ++ bs)) w) := by
  obtain ⟨i0, hi, hz0, hz1, hz2⟩ := info_parts infoB
  have hh := head_any (bs.length + 11) (by omega) w
  rw [show ((bs.length + 11 : Nat) : Int) = 7 + (bs.length : Int) + 4 by omega] at hh
  have HH := Lib.hid hh
  clear hh
  have HO : Hid ((w.alloc (.cells (byteCells (headE (bs.length + 11))).toArray 5)).ownsRow w.heap.size 5 1 (.slice (some ⟨w.heap.size, 0, none⟩) 7 7) 7 (byteCells (headE (bs.length + 11)))) := owns_block (heap_alloc_new w _) (byteCells_one _) (by rw [byteCells_length, headE_len]; omega)
  have HB : Hid (Below w.heap.size w (w.alloc (.cells (byteCells (headE (bs.length + 11))).toArray 5))) := below_alloc (Below.refl _ _) _
  have HR1 := Lib.hid (hR.below HB.out)
  have HSEAL := Lib.hid (fun W p k => seal_any (headE (bs.length + 11) ++ bs) p k W)
  have hl7 : (headE (bs.length + 11) ++ bs).length = 7 + bs.length := by rw [List.length_append, headE_len]
  have HS7 : Hid (1 ≤ (sealL (headE (bs.length + 11) ++ bs)).length) := by show 1 ≤ _; unfold sealL; rw [List.length_append, hl7]; omega
  have HBC : Hid (byteCells (headE (bs.length + 11)) ++ byteCells bs = byteCells (headE (bs.length + 11) ++ bs)) := by show _ = _; unfold byteCells; rw [List.map_append]
  rw [hl7] at HSEAL
  unfold ToldOK
  generalize sealL (headE (bs.length + 11) ++ bs) = S at HSEAL HS7 ⊢
  generalize headE (bs.length + 11) ++ bs = X at HSEAL hl7 HBC
  generalize byteCells (headE (bs.length + 11)) = hc8 at HH HO HB HR1 HBC
  have hw7 : IntKind.i64.wrap (7 + (bs.length : Int)) = 7 + (bs.length : Int) := by rw [IntKind.wrap_i64]; omega
  have hw8 : IntKind.i64.wrap (7 + (bs.length : Int) + 4) = 7 + (bs.length : Int) + 4 := by rw [IntKind.wrap_i64]; omega
  have hmx : ¬ (1048576 : Int) < 7 + (bs.length : Int) + 4 := by omega
  clear hR
  generalize hw1 : w.alloc (.cells hc8.toArray 5) = w1 at HH HO HB HR1
  clear hw1
  go_enter Tryz.func33, Tryz.ntmps33
  go_wp2_with fail
  refine HH.out.mono ?_
  rintro e w2 ⟨rfl, hw⟩
  obtain rfl := Eq.symm hw
  clear hw HH
  go_wp2_with (first
    | (at_builtin; refine wpList_append_own _ rfl (.tmp 12) (.tmp 13) 42 rfl w.heap.size 5 i0 (.int .u8 0) 1 1 Tryz.underlying42 hi hz0 hz1 hz2 rfl (by decide) _ 7 hc8 rfl HO.out a bs.length c (byteCells bs) rfl (by rw [byteCells_length, Nat.mul_one]) (brow_news HR1.out) (byteCells_one _) (by unfold maxLen; omega) (by omega) (by have := HB.out.size; exact this) ?_))
  intro v3 w3 hown hgrow _
  rw [HBC.out] at hown
  have HB3 : Hid (Below w.heap.size w w3) := HB.out.grown hgrow HB.out.size (fun k e => by cases e; exact Nat.le_refl _)
  obtain ⟨g3, c3, rfl, -, hc3, hr3⟩ := owns_at hown (by rw [hl7]; omega)
  rw [hl7] at hc3
  have HS := Lib.hid (HSEAL.out w3 (some ⟨g3, 0, none⟩) c3 hr3 hc3 (by intro h; cases h) (by omega))
  unfold Told at HS
  rw [hl7]
  clear hown hgrow hr3 HO HR1 HSEAL HB
  go_wp2_with fail
  refine HS.out.mono ?_
  rintro e w4 ⟨p4, c4, rfl, hr4, hl4, hp4, hb4⟩
  have HB4 : Hid (Below w.heap.size w w4) := below_step HB3.out hb4
  have HR4 := Lib.hid hr4
  have HL4 := Lib.hid hl4
  have HP4 := Lib.hid hp4
  clear hr4 hl4 hp4 hb4 HS
  go_wp2
  go_ret2
  exact ⟨p4, c4, rfl, HR4.out, HL4.out, HP4.out, HB4.out⟩
set_option maxHeartbeats 3200000 in
set_option maxRecDepth 20000 in
theorem putD_any (B K : Nat) (v : Value) (bs : List UInt8) (l : List Vec.En) (p : Option Addr) (c : Nat) (w : World) (hW : Wr B K v bs w) (hR : Vec.Row w p l) (hf : Vec.Fits l) (hq : 0 < l.length → ∀ q, p = some q → q.block < B) (hl : l.length ≤ 1000) (hb : bs.length ≤ 50000) :
    Calls Tryz.prog 31 #[.pointer (some ⟨K, 0, none⟩), .slice p l.length c] w fun e w' => e = .returned (.tuple #[]) ∧ Wrote B K v bs (encN l.length ++ bytesD l) w w' := by
  have HW := Lib.hid hW
  have HF := Lib.hid hf
  have H0 := Lib.hid (wnum_any B K v bs l.length (by omega) w hW (by omega))
  have hm : l.length % 9223372036854775808 = l.length := by omega
  rw [hm] at H0
  have HG : Hid (∀ w', Kept (fun k => k = K ∨ v.ownBlock = some k) w w' → 0 < l.length → Vec.Row w' p l) := fun w' hk h0 => vrow_kept hR hk (fun q e => by
    have hqB := hq h0 q e
    have hbK := hW.base
    rintro (e' | e')
    · omega
    · have := (hW.row.lt _ e').1; omega)
  have HLN : Hid (∀ k, k ≤ l.length → (encN l.length ++ bytesD (l.take k)).length ≤ 20000) := fun k hk => by
    have h1 := bytesD_len (l := l.take k) (fun x hx => hf x (List.mem_of_mem_take hx))
    have h2 := encN_len (n := l.length) (by omega)
    rw [List.length_append]
    rw [List.length_take] at h1
    omega
  have hw64 : IntKind.u64.wrap (l.length : Int) = (l.length : Int) := by rw [IntKind.wrap_u64]; omega
  clear hW hR hq hf hm
  go_enter Tryz.func31, Tryz.ntmps31
  go_wp2_with fail
  refine H0.out.mono ?_
  rintro e w1 ⟨rfl, hw1⟩
  have HW1 := Lib.hid hw1
  clear hw1 H0
  go_wp2
  go_loopg [13] l.length (fun g i wr => ∃ k : Nat, k ≤ l.length ∧ l.length - k ≤ g ∧ i = .int .i64 (k : Int) ∧ Wrote B K v bs (encN l.length ++ bytesD (l.take k)) w wr)
  case atStart => exact ⟨0, Nat.zero_le _, by omega, rfl, by show Wrote B K v bs (encN l.length ++ []) w w1; rw [List.append_nil]; exact HW1.out⟩
  case round =>
    clear HW1
    obtain ⟨k, hk, hg, rfl, v1, hW1, hv1, hk1⟩ := hrel
    by_cases hlt : k < l.length
    · have hln := HLN.out k hk
      obtain ⟨b, o, rfl, c0, c1⟩ := HG.out wr hk1 (by omega) k hlt
      have hfs := HF.out.at hlt
      have HNX : Hid (encN l.length ++ bytesD (l.take (k + 1)) = (encN l.length ++ bytesD (l.take k)) ++ (encN (Vec.atL l k).1.toNat ++ encN (Vec.atL l k).2.toNat)) := by show _ = _; rw [bytesD_take hlt, List.append_assoc]
      generalize encN l.length ++ bytesD (l.take k) = cs at hW1 HNX hln
      generalize Vec.atL l k = s at c0 c1 hfs HNX
      obtain ⟨rr, ss⟩ := s
      simp only at c0 c1 hfs HNX
      obtain ⟨R, rfl⟩ : ∃ R : Nat, rr = (R : Int) := ⟨rr.toNat, by omega⟩
      obtain ⟨S, rfl⟩ : ∃ S : Nat, ss = (S : Int) := ⟨ss.toNat, by omega⟩
      simp only [Int.toNat_natCast] at HNX
      have eR := encN_len (n := R) (by omega)
      have zR : IntKind.u64.wrap (R : Int) = (R : Int) := by rw [IntKind.wrap_u64]; omega
      have zS : IntKind.u64.wrap (S : Int) = (S : Int) := by rw [IntKind.wrap_u64]; omega
      have HV1 := Lib.hid hv1
      have HK1 := Lib.hid hk1
      have hbl : (bs ++ cs).length ≤ 100000 := by rw [List.length_append]; omega
      have HC1 := Lib.hid (fun (A : Obj) => wnum_box R (by omega) (WBx.start hW1 A) hbl (by simp))
      clear hW1 hv1 hk1
      simp only [List.nil_append] at HC1
      go_wp2_with fail
      refine (HC1.out _).mono ?_
      rintro e w2 ⟨rfl, hs2⟩
      have S2 := Lib.hid hs2
      obtain ⟨d0, d1⟩ := two_cells hs2.2.1
      have HC2 := Lib.hid (wnum_box S (by omega) S2.out hbl (by omega))
      clear hs2 HC1
      go_wp2_with fail
      refine HC2.out.mono ?_
      rintro e w3 ⟨rfl, hs3⟩
      have HW3 : Hid (Wrote B K v bs (encN l.length ++ bytesD (l.take (k + 1))) w w3) := by
        show Wrote _ _ _ _ _ _ _
        rw [HNX.out]
        exact Wr.step HK1.out HV1.out hs3.wrote
      clear hs3 HC2 S2 d0 d1
      go_wp2
      go_roundg (l.length - (k + 1))
      case measure => omega
      case rel => exact ⟨k + 1, by omega, Nat.le_refl _, by go_num, HW3.out⟩
    · have : k = l.length := by omega
      subst this
      have HWL : Hid (Wrote B K v bs (encN l.length ++ bytesD l) w wr) := by
        have : Wrote B K v bs (encN l.length ++ bytesD (l.take l.length)) w wr := ⟨v1, hW1, hv1, hk1⟩
        rwa [List.take_length] at this
      clear hW1 hv1 hk1
      go_wp2
      go_end0
      exact ⟨rfl, HWL.out⟩
end Go.Proofs.YtceanfpcddcfoaaGreat
/-
  How long a transaction's bytes are, and where what comes in lies. No conditions beyond what each theorem states.
-/
namespace Go.Proofs.YtceanfpcddcfoaaGreat
open Go.ChangeShapes Go.WideShapes Go.ChangeAt Go.RowKit Go.Lib
set_option linter.unusedVariables false
set_option linter.unusedSimpArgs false

theorem bytesT_range {t : Tm} {xs : List OV} {p : Option Addr} {c : Nat} {w : World} (H : InT t xs p c w) (hs : SmallP xs) (h0 : fitT t = 0) : 1 ≤ (bytesT t).length ∧ (bytesT t).length ≤ 40000 := by
  obtain ⟨g1, g2, g3, g4, g5, g6, g7, g8, g9⟩ := fitT_ok h0
  have HOK := fitOs_ok t.ops (-1) g9
  have hfi := H.fit
  unfold FitTm at hfi
  obtain ⟨f1, f2, f3, f4, f5, f6, f7, f8, -⟩ := hfi
  have hle := flatO_len (l := t.ops) (fun o ho => by
    have ho' := ho
    rw [H.ops] at ho'
    obtain ⟨x, hx, rfl⟩ := List.mem_map.1 ho'
    exact (bytesO_small (H.row.each x hx).fit (HOK _ ho).1 (hs x hx).2).2) t.ops.length
  rw [List.take_length] at hle
  have e1 := encN_len (n := t.r.toNat) (by omega)
  have e2 := encN_len (n := t.seq.toNat) (by omega)
  have e3 := encN_len (n := t.clock.toNat) (by omega)
  have e4 := encN_len (n := t.user.toNat) (by omega)
  have e5 := encN_len (n := t.ops.length) (by omega)
  have e6 := encN_pos t.r.toNat
  unfold bytesT
  simp only [List.length_append]
  omega
theorem InT.belowB {t : Tm} {xs : List OV} {p : Option Addr} {c : Nat} {w : World} (H : InT t xs p c w) : BelowB w.heap.size xs p := by
  refine ⟨fun h0 q e => ?_, fun x hx h0 q e => ?_⟩
  · obtain ⟨b, o, e2, c0, _⟩ := orow_at H.row.row h0
    rw [e] at e2
    cases e2
    exact block_lt_of_cell c0
  · obtain ⟨b, o, e2, c0, _⟩ := srow_at (H.row.each x hx).row h0
    rw [e] at e2
    cases e2
    exact block_lt_of_cell c0
theorem BelowB.mono {B B' : Nat} {xs : List OV} {p : Option Addr} (h : BelowB B xs p) (hB : B ≤ B') : BelowB B' xs p := ⟨fun h0 q e => Nat.lt_of_lt_of_le (h.1 h0 q e) hB, fun x hx h0 q e => Nat.lt_of_lt_of_le (h.2 x hx h0 q e) hB⟩
end Go.Proofs.YtceanfpcddcfoaaGreat
/-
  What the program's Encode of layer 10 tells. No conditions beyond what each theorem states.
-/
namespace Go.Proofs.YtceanfpcddcfoaaGreat
open Go.ChangeShapes Go.WideShapes Go.ChangeAt Go.RowKit Go.Lib
set_option linter.unusedVariables false
set_option linter.unusedSimpArgs false

theorem vrow_lt {w : World} {p : Option Addr} {l : List Vec.En} (h : Vec.Row w p l) : 0 < l.length → ∀ q, p = some q → q.block < w.heap.size := fun h0 q e => by
  obtain ⟨b, o, e2, c0, _⟩ := h 0 h0
  rw [e] at e2
  cases e2
  exact block_lt_of_cell c0
theorem Wr.fresh (w : World) : Wr w.heap.size w.heap.size (.slice none 0 0) [] (w.alloc (.cells #[.slice none 0 0] 85)) :=
  ⟨Nat.le_refl _, by simp, heap_alloc_new w _, World.ownsRow_nil _ w.heap.size 5 1⟩
set_option maxHeartbeats 6400000 in
set_option maxRecDepth 20000 in
theorem encodeE_spec : EncodeSpec := by
  intro e xs p q c d w H hs hl hxl
  have HFIT : Hid (∀ W, Below w.heap.size w W → Calls Tryz.prog 12 #[ev e p c q d] W fun r w' => r = .returned (.int .i64 (fitE e)) ∧ Below W.heap.size W w') := fun W hb => fitE_spec e xs p q c d W ⟨H.row.below hb, H.fits, H.cap, H.nil, H.txn.below hb⟩ hs.wide (by omega) hxl
  have HEN : Hid (encE e = if fitE e = 0 then bytesE e else []) := rfl
  have HPD : Hid (∀ W, Below w.heap.size w W → Calls Tryz.prog 31 #[.pointer (some ⟨W.heap.size, 0, none⟩), .slice p e.deps.length c] (W.alloc (.cells #[.slice none 0 0] 85)) fun r w' => r = .returned (.tuple #[]) ∧ Wrote W.heap.size W.heap.size (.slice none 0 0) [] (encN e.deps.length ++ bytesD e.deps) (W.alloc (.cells #[.slice none 0 0] 85)) w') := fun W hb => by
    have hr := H.row.below hb
    have hlt := vrow_lt hr
    exact putD_any _ _ _ [] e.deps p c _ (Wr.fresh W) (hr.below (below_alloc (Below.refl _ _) _)) H.fits hlt (by omega) (by simp)
  have HPT : Hid (fitE e = 0 → ∀ B K v bs W, Below w.heap.size w W → w.heap.size ≤ B → bs.length ≤ 50000 → Wr B K v bs W → Calls Tryz.prog 32 #[.agg #[.int .u16 e.txn.r, .int .u32 e.txn.seq, .int .u64 e.txn.clock, .int .i64 e.txn.user, .slice q e.txn.ops.length d], .pointer (some ⟨K, 0, none⟩)] W fun r w' => r = .returned (.tuple #[]) ∧ Wrote B K v bs (bytesT e.txn) W w') := fun h0 B K v bs W hb hB hbs hW => putT_spec B K v bs e.txn xs q d W hW (H.txn.below hb) (H.txn.belowB.mono hB) hs (fitE_ok h0).2.2 hbs
  have HBT : Hid (fitE e = 0 → (bytesT e.txn).length ≤ 40000) := fun h0 => (bytesT_range H.txn hs (fitE_ok h0).2.2).2
  have hbd := bytesD_len H.fits
  have hbn := encN_len (n := e.deps.length) (by omega)
  have HBE : Hid (bytesE e = sealL (headE ((encN e.deps.length ++ (bytesD e.deps ++ bytesT e.txn)).length + 11) ++ (encN e.deps.length ++ (bytesD e.deps ++ bytesT e.txn)))) := rfl
  clear H hs
  obtain ⟨deps, ⟨r, seq, clock, user, ops⟩⟩ := e
  unfold ev at HFIT ⊢
  simp only at *
  generalize bytesE (⟨deps, ⟨r, seq, clock, user, ops⟩⟩ : Em) = BE at HBE HEN
  generalize encE (⟨deps, ⟨r, seq, clock, user, ops⟩⟩ : Em) = EN at HEN ⊢
  generalize fitE (⟨deps, ⟨r, seq, clock, user, ops⟩⟩ : Em) = F at HFIT HEN HPT HBT ⊢
  generalize bytesT (⟨r, seq, clock, user, ops⟩ : Tm) = BT at HPT HBT HBE
  have HD : Hid ((encN deps.length ++ bytesD deps).length ≤ 2000) := by show _ ≤ _; rw [List.length_append]; omega
  have HBE2 : Hid (BE = sealL (headE (((encN deps.length ++ bytesD deps) ++ BT).length + 11) ++ ((encN deps.length ++ bytesD deps) ++ BT))) := by show _ = _; rw [HBE.out, List.append_assoc]
  clear HBE hbd hbn
  generalize encN deps.length ++ bytesD deps = DS at HPD HD HBE2
  generalize ops.length = TL at *
  generalize deps.length = L at *
  have HX := Lib.hid (heap_alloc_new w (.cells #[.slice p L c, .int .u16 r, .int .u32 seq, .int .u64 clock, .int .i64 user, .slice q TL d] 31))
  have HB0 : Hid (Below w.heap.size w (w.alloc (.cells #[.slice p L c, .int .u16 r, .int .u32 seq, .int .u64 clock, .int .i64 user, .slice q TL d] 31))) := below_alloc (Below.refl _ _) _
  obtain ⟨x0, x1, x2, x3, x4, x5⟩ := six_cells HX.out
  go_enter Tryz.func11, Tryz.ntmps11
  go_wp2_with fail
  generalize (w.alloc (.cells #[.slice p L c, .int .u16 r, .int .u32 seq, .int .u64 clock, .int .i64 user, .slice q TL d] 31)) = w0 at HX HB0 x0 x1 x2 x3 x4 x5 ⊢
  clear x0 x1 x2 x3 x4 x5
  refine (HFIT.out _ HB0.out).mono ?_
  rintro e1 w1 ⟨rfl, hb1⟩
  have HB1 : Hid (Below w.heap.size w w1) := below_step HB0.out hb1
  have HX1 := Lib.hid (kept_box HX.out hb1)
  clear hb1 HFIT HX HB0
  by_cases h0 : F = 0
  case neg =>
    have q1 : (F == 0) = false := beq_no h0
    have q2 : (F != 0) = true := bne_int h0
    have HEN2 : Hid (EN = []) := by show _ = _; rw [HEN.out, if_neg h0]
    go_wp2
    go_ret2
    rw [HEN2.out]
    exact ⟨none, 0, rfl, BRow.nil _ _, by simp, fun _ => rfl, HB1.out⟩
  subst h0
  have HEN2 : Hid (EN = BE) := by show _ = _; rw [HEN.out, if_pos rfl]
  have HPT1 := Lib.hid (HPT.out rfl)
  have hbt := HBT.out rfl
  clear HEN HPT HBT
  have hXlt : w.heap.size < w1.heap.size := lt_of_block HX1.out
  have HX2 := Lib.hid (kept_box HX1.out (below_alloc (Below.refl _ _) (.cells #[.slice none 0 0] 85)))
  obtain ⟨x0, x1, x2, x3, x4, x5⟩ := six_cells HX2.out
  have HP1 := Lib.hid (HPD.out w1 HB1.out)
  have HBL : Hid (∀ W, Below w1.heap.size (w1.alloc (.cells #[.slice none 0 0] 85)) W → Below w1.heap.size w1 W) := fun W hb => (below_alloc (Below.refl w1.heap.size w1) _).trans hb
  have hKs : Hid (w1.heap.size ≤ (w1.alloc (.cells #[.slice none 0 0] 85)).heap.size) := by show _ ≤ _; simp
  go_wp2_with fail
  generalize hK : w1.heap.size = K at HP1 HBL hKs
  generalize (w1.alloc (.cells #[.slice none 0 0] 85)) = w2 at HP1 HBL HX2 hKs x0 x1 x2 x3 x4 x5 ⊢
  refine HP1.out.mono ?_
  rintro e3 w3 ⟨rfl, v3, hW3, hv3, hk3⟩
  have hb3 : Below K w2 w3 := hk3.below hKs.out (by rintro k (rfl | e); exact Nat.le_refl _; cases e)
  have HB3 : Hid (Below K w1 w3) := HBL.out _ hb3
  have HW3 := Lib.hid hW3
  clear hk3 hv3 hb3 HP1 x0 x1 x2 x3 x4 x5 HPD
  have HX3 : Hid (w3.heap[w.heap.size]? = some (.cells #[.slice p L c, .int .u16 r, .int .u32 seq, .int .u64 clock, .int .i64 user, .slice q TL d] 31 (0, 0))) := by
    show _ = _
    rw [HB3.out.block _ (by omega)]; exact HX1.out
  obtain ⟨x0, x1, x2, x3, x4, x5⟩ := six_cells HX3.out
  have HBW3 : Hid (Below w.heap.size w w3) := HB1.out.trans (HB3.out.mono (by have := HB1.out.size; omega))
  have HP3 := Lib.hid (HPT1.out K K v3 ([] ++ DS) w3 HBW3.out (by have := HB1.out.size; omega) (by have := HD.out; simp; omega) HW3.out)
  clear HPT1 hW3
  go_wp2_with fail
  refine HP3.out.mono ?_
  rintro e4 w4 ⟨rfl, v4, hW4, hv4, hk4⟩
  have hb4 : Below K w3 w4 := HW3.out.bound hk4
  have HBW4 : Hid (Below w.heap.size w w4) := HBW3.out.trans (hb4.mono (by have := HB1.out.size; omega))
  have hW4' : Wr K K v4 (DS ++ BT) w4 := by simpa using hW4
  have hlen : (DS ++ BT).length ≤ 42000 := by have := HD.out; rw [List.length_append]; omega
  have HBY := Lib.hid (wbytes_any K K v4 (DS ++ BT) w4 hW4' (by omega))
  clear hk4 hv4 hb4 hW4 hW4' HP3 x0 x1 x2 x3 x4 x5
  unfold Copied at HBY
  generalize DS ++ BT = BD at HBY HBE2 hlen
  go_wp2_with fail
  refine HBY.out.mono ?_
  rintro e5 w5 ⟨rfl, hx5, hb5⟩
  have HBW5 : Hid (Below w.heap.size w w5) := below_step HBW4.out hb5
  have HFR := Lib.hid (framed_any BD ⟨w4.heap.size, 0, none⟩ BD.length w5 (brow_block hx5) (by omega) (Nat.le_refl _))
  clear hx5 hb5 HBY
  unfold ToldOK at HFR
  rw [← HBE2.out] at HFR
  go_wp2_with fail
  refine HFR.out.mono ?_
  rintro e6 w6 ⟨g6, k6, rfl, hr6, hl6, hp6, hb6⟩
  have HBW6 : Hid (Below w.heap.size w w6) := below_step HBW5.out hb6
  have HR6 := Lib.hid hr6
  have HL6 := Lib.hid hl6
  have HP6 := Lib.hid hp6
  clear hr6 hl6 hp6 hb6 HFR
  go_wp2
  go_ret2
  rw [HEN2.out]
  exact ⟨g6, k6, rfl, HR6.out, HL6.out, HP6.out, HBW6.out⟩
end Go.Proofs.YtceanfpcddcfoaaGreat
