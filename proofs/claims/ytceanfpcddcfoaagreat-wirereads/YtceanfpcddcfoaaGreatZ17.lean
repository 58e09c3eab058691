/-
  Several texts of one proof, joined: each part says at its head what it proves. No conditions beyond what each theorem states.
-/
import Derived.Deep.RegionLaw
import Derived.Test.YtceanfpcddcfoaaGreatZ14
import Derived.Test.YtceanfpcddcfoaaGreatZ16
import Derived.Test.YtceanfpcddcfoaaGreatZ07
/-
  What the program's Put of layer 9 leaves. No conditions beyond what each theorem states.
-/
namespace Go.Proofs.YtceanfpcddcfoaaGreat
open Go.ChangeShapes Go.WideShapes Go.ChangeAt Go.RowKit Go.Lib
set_option linter.unusedVariables false
set_option linter.unusedSimpArgs false

theorem WBx.below {B K : Nat} {v : Value} {bs : List UInt8} {X : Nat} {o : Obj} {cs : List UInt8} {w wr W : World} (h : WBx B K v bs X o cs w wr) (hb : Below wr.heap.size wr W) : WBx B K v bs X o cs w W := by
  obtain ⟨hXK, hX, v', hXv, hW, hv, hk⟩ := h
  refine ⟨hXK, by rw [hb.block _ (lt_of_block hX)]; exact hX, v', hXv, hW.below hb, hv, hk.trans (T := fun _ => False) (Kept.ofBelow hb) (fun _ _ f => f.elim)⟩
/-- A row below the writer's memory stays. -/
theorem WBx.row {α : Type} {L : Lay α} {B K : Nat} {v : Value} {bs : List UInt8} {X : Nat} {o : Obj} {cs : List UInt8} {w wr : World} {p : Option Addr} {l : List α} (h : WBx B K v bs X o cs w wr) (hW : Wr B K v bs w) (hR : GRow L w p l) (hq : 0 < l.length → ∀ q, p = some q → q.block < B) : GRow L wr p l := by
  rcases Nat.eq_zero_or_pos l.length with e | e
  · rw [List.eq_nil_of_length_eq_zero e]; exact GRow.nil _ _ _
  · obtain ⟨_, _, v', _, _, _, hk⟩ := h
    exact hR.kept hk (fun q eq => by
      have hqB := hq e q eq
      have hbK := hW.base
      rintro (e' | e')
      · omega
      · have := (hW.row.lt _ e').1; omega)
set_option maxHeartbeats 6400000 in
set_option maxRecDepth 20000 in
theorem putT_spec : PutTSpec := by
  intro B K v bs t xs p c w hW H hB hs h0 hbs
  have hlen : t.ops.length = xs.length := by rw [H.ops, List.length_map]
  obtain ⟨g1, g2, g3, g4, g5, g6, g7, g8, g9⟩ := fitT_ok h0
  have HOK := fitOs_ok t.ops (-1) g9
  have HFO : ∀ k, k < xs.length → fitO (xs.getD k ov0).1 = 0 := fun k hk => (HOK _ (by rw [H.ops]; exact List.mem_map.2 ⟨_, getD_mem ov0 hk, rfl⟩)).1
  have HW := Lib.hid hW
  have HPO : Hid (∀ k, k < xs.length → ∀ (X : Nat) (o : Obj) (cs : List UInt8) (W : World), cs.length ≤ 40000 → WBx B K v bs X o cs w W → Calls Tryz.prog 63 #[ov (xs.getD k ov0).1 (xs.getD k ov0).2.1 (xs.getD k ov0).2.2, .pointer (some ⟨K, 0, none⟩)] W fun e w' => e = .returned (.tuple #[]) ∧ WBx B K v bs X o (cs ++ bytesO (xs.getD k ov0).1) w w') := fun k hk X o cs W hcs h => h.step fun v' hW' => by
    have hI := H.row.at hk
    have hqx := hB.2 _ (getD_mem ov0 hk)
    exact putO_spec B K v' (bs ++ cs) _ _ _ W hW' ⟨hI.fit, h.row HW.out hI.row hqx, hI.cap, hI.nil⟩ hqx (hs.at hk).1 (hs.at hk).2 (HFO k hk) (by rw [List.length_append]; omega)
  have HRO : Hid (∀ (X : Nat) (o : Obj) (cs : List UInt8) (W : World), WBx B K v bs X o cs w W → GRow layO W p xs) := fun X o cs W h => h.row HW.out H.row.row hB.1
  have HTK : Hid (∀ k, k < xs.length → (t.ops.take (k + 1)).flatMap bytesO = (t.ops.take k).flatMap bytesO ++ bytesO (xs.getD k ov0).1) := fun k hk => by
    rw [flatO_take (by omega), H.ops, getD_map1 xs hk]
  have HLE : Hid (∀ k, ((t.ops.take k).flatMap bytesO).length ≤ k * 2000) := flatO_len fun o ho => by
    rw [H.ops] at ho
    obtain ⟨x, hx, rfl⟩ := List.mem_map.1 ho
    exact (bytesO_small (H.row.each x hx).fit (HOK _ (by rw [H.ops]; exact List.mem_map.2 ⟨x, hx, rfl⟩)).1 (hs x hx).2).2
  have hfi := H.fit
  clear H HOK HFO hs h0 g9 hW hB
  unfold FitTm at hfi
  obtain ⟨f1, f2, f3, f4, f5, f6, f7, f8, -⟩ := hfi
  unfold tv bytesT
  obtain ⟨r, seq, clock, user, ops⟩ := t
  simp only at *
  obtain ⟨R, rfl⟩ : ∃ N : Nat, r = (N : Int) := ⟨r.toNat, by omega⟩
  obtain ⟨S, rfl⟩ : ∃ N : Nat, seq = (N : Int) := ⟨seq.toNat, by omega⟩
  obtain ⟨C, rfl⟩ : ∃ N : Nat, clock = (N : Int) := ⟨clock.toNat, by omega⟩
  obtain ⟨U, rfl⟩ : ∃ N : Nat, user = (N : Int) := ⟨user.toNat, by omega⟩
  simp only [Int.toNat_natCast]
  rw [hlen]
  generalize hXL : xs.length = L at *
  have hLL := hlen
  have eR := encN_len (n := R) (by omega)
  have eS := encN_len (n := S) (by omega)
  have eC := encN_len (n := C) (by omega)
  have eU := encN_len (n := U) (by omega)
  have eL := encN_len (n := L) (by omega)
  have kR : IntKind.u64.wrap (R : Int) = (R : Int) := by rw [IntKind.wrap_u64]; omega
  have kS : IntKind.u64.wrap (S : Int) = (S : Int) := by rw [IntKind.wrap_u64]; omega
  have kU : IntKind.u64.wrap (U : Int) = (U : Int) := by rw [IntKind.wrap_u64]; omega
  have kL : IntKind.u64.wrap (L : Int) = (L : Int) := by rw [IntKind.wrap_u64]; omega
  have H0 := Lib.hid (fun (o : Obj) => wnum_box R (by omega) (WBx.start HW.out o) (by omega) (by simp))
  simp only [List.nil_append] at H0
  go_enter Tryz.func32, Tryz.ntmps32
  go_wp2_with fail
  refine (H0.out _).mono ?_
  rintro e w1 ⟨rfl, hs1⟩
  have S1 := Lib.hid hs1
  obtain ⟨d0, d1, d2, d3, d4⟩ := five_cells hs1.2.1
  clear hs1
  have C2 := Lib.hid (wnum_box S (by omega) S1.out (by omega) (by first | omega | (simp only [List.length_append]; omega)))
  go_wp2_with fail
  refine C2.out.mono ?_
  rintro e w2 ⟨rfl, hs2⟩
  have S2 := Lib.hid hs2
  obtain ⟨d0, d1, d2, d3, d4⟩ := five_cells hs2.2.1
  clear hs2
  have C3 := Lib.hid (wnum_box C (by omega) S2.out (by omega) (by first | omega | (simp only [List.length_append]; omega)))
  go_wp2_with fail
  refine C3.out.mono ?_
  rintro e w3 ⟨rfl, hs3⟩
  have S3 := Lib.hid hs3
  obtain ⟨d0, d1, d2, d3, d4⟩ := five_cells hs3.2.1
  clear hs3
  have C4 := Lib.hid (wnum_box U (by omega) S3.out (by omega) (by first | omega | (simp only [List.length_append]; omega)))
  go_wp2_with fail
  refine C4.out.mono ?_
  rintro e w4 ⟨rfl, hs4⟩
  have S4 := Lib.hid hs4
  obtain ⟨d0, d1, d2, d3, d4⟩ := five_cells hs4.2.1
  clear hs4
  have C5 := Lib.hid (wnum_box L (by omega) S4.out (by omega) (by first | omega | (simp only [List.length_append]; omega)))
  go_wp2_with fail
  refine C5.out.mono ?_
  rintro e w5 ⟨rfl, hs5⟩
  have S5 := Lib.hid hs5
  obtain ⟨d0, d1, d2, d3, d4⟩ := five_cells hs5.2.1
  clear hs5
  have hO5 : (encN R ++ encN S ++ encN C ++ encN U ++ encN L).length ≤ 45 := by simp only [List.length_append]; omega
  generalize hO : encN R ++ encN S ++ encN C ++ encN U ++ encN L = O5 at S5 hO5
  go_wp2
  go_loopg [34] L (fun g i wr => ∃ k : Nat, k ≤ L ∧ L - k ≤ g ∧ i = .int .i64 (k : Int) ∧ WBx B K v bs w.heap.size (.cells #[.int .u16 (R : Int), .int .u32 (S : Int), .int .u64 (C : Int), .int .i64 (U : Int), .slice p L c] 29 (0, 0)) (O5 ++ (ops.take k).flatMap bytesO) w wr)
  case atStart => exact ⟨0, Nat.zero_le _, by omega, rfl, by simpa using S5.out⟩
  case round =>
    clear S1 S2 S3 S4 S5 C2 C3 C4 C5 H0
    obtain ⟨k, hk, hg, rfl, hS⟩ := hrel
    have HS := Lib.hid hS
    clear hS d0 d1 d2 d3 d4
    have hlk := HLE.out k
    by_cases hlt : k < L
    · have hkl : (k : Int) < (L : Int) := by omega
      have HPK := Lib.hid (fun (A : Obj) => HPO.out k hlt _ _ _ (wr.alloc A) (by rw [List.length_append]; omega) (HS.out.below (below_alloc (Below.refl _ _) A)))
      have HTKk := Lib.hid (HTK.out k hlt)
      obtain ⟨b, o, rfl, c0, c1, c2, c3, c4, c5, c6⟩ := orow_at (HRO.out _ _ _ _ HS.out) (by omega : k < xs.length)
      generalize xs.getD k ov0 = x at c0 c1 c2 c3 c4 c5 c6 HPK HTKk
      obtain ⟨om, px, cx⟩ := x
      simp only at c0 c1 c2 c3 c4 c5 c6 HPK HTKk
      unfold ov at HPK
      generalize (⟨om.text.toArray⟩ : ByteArray) = bt at c4 HPK
      go_wp2_with fail
      refine (HPK.out _).mono ?_
      rintro e w6 ⟨rfl, hs6⟩
      have HS6 : Hid (WBx B K v bs w.heap.size (.cells #[.int .u16 (R : Int), .int .u32 (S : Int), .int .u64 (C : Int), .int .i64 (U : Int), .slice (some ⟨b, o, none⟩) L c] 29 (0, 0)) (O5 ++ (ops.take (k + 1)).flatMap bytesO) w w6) := by
        have := hs6
        rwa [List.append_assoc, ← HTKk.out] at this
      clear hs6 c0 c1 c2 c3 c4 c5 c6
      go_wp2
      go_roundg (L - (k + 1))
      case measure => omega
      case rel => exact ⟨k + 1, by omega, Nat.le_refl _, by go_num, HS6.out⟩
    · have : k = L := by omega
      subst this
      have hkl : ¬ (k : Int) < (k : Int) := by omega
      have HF : Hid (WBx B K v bs w.heap.size (.cells #[.int .u16 (R : Int), .int .u32 (S : Int), .int .u64 (C : Int), .int .i64 (U : Int), .slice p k c] 29 (0, 0)) (O5 ++ ops.flatMap bytesO) w wr) := by have := HS.out; rwa [← hLL, List.take_length, hLL] at this
      clear HS
      go_wp2
      go_end0
      subst hO
      refine ⟨rfl, ?_⟩
      have := HF.out.wrote
      simpa [List.append_assoc] using this
end Go.Proofs.YtceanfpcddcfoaaGreat
/-
  What the program's Fit of layer 9 hands back, and what it leans on. No conditions beyond what each theorem states.
-/
namespace Go.Proofs.YtceanfpcddcfoaaGreat
open Go.ChangeShapes Go.WideShapes Go.ChangeAt Go.RowKit Go.Lib
set_option linter.unusedVariables false
set_option linter.unusedSimpArgs false

set_option maxHeartbeats 800000 in
theorem tturns_yes (k a b n q : Int) (s : ByteArray) (p : Option Addr) (l c : Nat) (h : k = 4 ∨ k = 5) (w : World) : Calls Tryz.prog 98 #[.agg #[.int .i64 k, .int .u16 a, .int .u32 b, .int .u32 n, .string s, .slice p l c, .int .u32 q]] w fun e w' => e = .returned (.bool true) ∧ Below w.heap.size w w' := by
  have HX := Lib.hid (heap_alloc_new w (.cells #[.int .i64 k, .int .u16 a, .int .u32 b, .int .u32 n, .string s, .slice p l c, .int .u32 q] 79))
  rcases h with rfl | rfl
  all_goals
    go_enter Tryz.func98, Tryz.ntmps98
    go_wp2
    go_ret
    exact ⟨rfl, below_alloc (Below.refl _ _) _⟩
set_option maxHeartbeats 800000 in
theorem tturns_no (k a b n q : Int) (s : ByteArray) (p : Option Addr) (l c : Nat) (h4 : ¬ k = 4) (h5 : ¬ k = 5) (w : World) : Calls Tryz.prog 98 #[.agg #[.int .i64 k, .int .u16 a, .int .u32 b, .int .u32 n, .string s, .slice p l c, .int .u32 q]] w fun e w' => e = .returned (.bool false) ∧ Below w.heap.size w w' := by
  have HX := Lib.hid (heap_alloc_new w (.cells #[.int .i64 k, .int .u16 a, .int .u32 b, .int .u32 n, .string s, .slice p l c, .int .u32 q] 79))
  have h4' : (k == 4) = false := beq_no h4
  have h5' : (k == 5) = false := beq_no h5
  go_enter Tryz.func98, Tryz.ntmps98
  go_wp2
  go_ret
  exact ⟨rfl, below_alloc (Below.refl _ _) _⟩
set_option maxHeartbeats 1600000 in
theorem head_yes (r seq clock user : Int) (p : Option Addr) (l c : Nat) (h0 : 1 ≤ seq) (h1 : seq ≤ 268435456) (h2 : 1 ≤ clock) (h3 : clock ≤ 1099511627776) (h4 : 0 ≤ user) (h5 : user ≤ 7) (w : World) : Calls Tryz.prog 68 #[.agg #[.int .u16 r, .int .u32 seq, .int .u64 clock, .int .i64 user, .slice p l c]] w fun e w' => e = .returned (.bool true) ∧ Below w.heap.size w w' := by
  have HX := Lib.hid (heap_alloc_new w (.cells #[.int .u16 r, .int .u32 seq, .int .u64 clock, .int .i64 user, .slice p l c] 29))
  go_enter Tryz.func68, Tryz.ntmps68
  go_wp2
  go_ret
  exact ⟨rfl, below_alloc (Below.refl _ _) _⟩
set_option maxHeartbeats 3200000 in
theorem head_no (r seq clock user : Int) (p : Option Addr) (l c : Nat) (h : seq < 1 ∨ 268435456 < seq ∨ clock < 1 ∨ 1099511627776 < clock ∨ user < 0 ∨ 7 < user) (w : World) : Calls Tryz.prog 68 #[.agg #[.int .u16 r, .int .u32 seq, .int .u64 clock, .int .i64 user, .slice p l c]] w fun e w' => e = .returned (.bool false) ∧ Below w.heap.size w w' := by
  have HX := Lib.hid (heap_alloc_new w (.cells #[.int .u16 r, .int .u32 seq, .int .u64 clock, .int .i64 user, .slice p l c] 29))
  by_cases g0 : 1 ≤ seq
  case neg =>
    clear h
    go_enter Tryz.func68, Tryz.ntmps68
    go_wp2
    go_ret
    exact ⟨rfl, below_alloc (Below.refl _ _) _⟩
  by_cases g1 : seq ≤ 268435456
  case neg =>
    clear h
    go_enter Tryz.func68, Tryz.ntmps68
    go_wp2
    go_ret
    exact ⟨rfl, below_alloc (Below.refl _ _) _⟩
  by_cases g2 : 1 ≤ clock
  case neg =>
    clear h
    go_enter Tryz.func68, Tryz.ntmps68
    go_wp2
    go_ret
    exact ⟨rfl, below_alloc (Below.refl _ _) _⟩
  by_cases g3 : clock ≤ 1099511627776
  case neg =>
    clear h
    go_enter Tryz.func68, Tryz.ntmps68
    go_wp2
    go_ret
    exact ⟨rfl, below_alloc (Below.refl _ _) _⟩
  by_cases g4 : 0 ≤ user
  case neg =>
    clear h
    go_enter Tryz.func68, Tryz.ntmps68
    go_wp2
    go_ret
    exact ⟨rfl, below_alloc (Below.refl _ _) _⟩
  have g5 : ¬ user ≤ 7 := by omega
  clear h
  go_enter Tryz.func68, Tryz.ntmps68
  go_wp2
  go_ret
  exact ⟨rfl, below_alloc (Below.refl _ _) _⟩
set_option maxHeartbeats 12800000 in
set_option maxRecDepth 20000 in
theorem fitOps_any (HFO0 : FitOSpec) (t : Tm) (xs : List OV) (p : Option Addr) (c : Nat) (w : World) (H : InT t xs p c w) (hs : SmallX xs) (hl16 : xs.length ≤ 16) :
    Calls Tryz.prog 69 #[tv t p c] w fun e w' => e = .returned (.int .i64 (fitOs xs.length t.seq (-1) t.ops)) ∧ Below w.heap.size w w' := by
  have hlen : t.ops.length = xs.length := by rw [H.ops, List.length_map]
  have HR := Lib.hid H.row.row
  have HDR : Hid (∀ k, k < xs.length → t.ops.drop k = (xs.getD k ov0).1 :: t.ops.drop (k + 1)) := fun k hk => drop_ops H.ops hk
  have HFI : Hid (∀ k, k < xs.length → FitOm (xs.getD k ov0).1) := fun k hk => (H.row.at hk).fit
  have HTV : Hid (∀ p c, tv t p c = .agg #[.int .u16 t.r, .int .u32 t.seq, .int .u64 t.clock, .int .i64 t.user, .slice p xs.length c]) := fun p c => by unfold tv; rw [hlen]
  have hfi := H.fit
  have HFO : Hid (∀ k, k < xs.length → ∀ W, Below w.heap.size w W → Calls Tryz.prog 97 #[ov (xs.getD k ov0).1 (xs.getD k ov0).2.1 (xs.getD k ov0).2.2] W fun e w' => e = .returned (.int .i64 (fitO (xs.getD k ov0).1)) ∧ Below W.heap.size W w') := fun k hk W hb => HFO0 _ _ _ W ((H.row.at hk).below hb) (hs.at hk).1 (hs.at hk).2
  have HAT : Hid (∀ k, k < xs.length → fitO (xs.getD k ov0).1 = 0 → ∀ W, Below w.heap.size w W → Calls Tryz.prog 82 #[ov (xs.getD k ov0).1 (xs.getD k ov0).2.1 (xs.getD k ov0).2.2] W fun e w' => e = .returned (.int .i64 (atomsO (xs.getD k ov0).1)) ∧ Below W.heap.size W w') := fun k hk h0 W hb => atoms_spec _ _ _ W ((H.row.at hk).below hb) (hs.at hk).1 (hs.at hk).2 h0
  clear H
  unfold FitTm at hfi
  obtain ⟨f1, f2, f3, f4, f5, f6, f7, f8, -⟩ := hfi
  rw [HTV.out]
  generalize hFT : fitOs xs.length t.seq (-1) t.ops = FT
  have HFT0 : Hid (FT = fitOs xs.length t.seq (0 - 1) (t.ops.drop 0)) := by show _ = _; rw [List.drop_zero, ← hFT]; rfl
  clear hFT
  have HX := Lib.hid (heap_alloc_new w (.cells #[.int .u16 t.r, .int .u32 t.seq, .int .u64 t.clock, .int .i64 t.user, .slice p xs.length c] 29))
  go_enter Tryz.func69, Tryz.ntmps69
  go_wp2_with fail
  refine wp_scope_loop 0 (fun a' w' => ∃ (k : Nat) (next : Int) (c5 c6 c7 c8 c9 c10 c11 c12 c13 c14 c15 c16 c17 c18 c19 c20 c21 c22 c23 c24 c25 c26 c27 c28 c29 c30 c31 c32 c33 c34 c35 c36 c37 c38 c39 c40 c41 c42 c43 c44 c45 c46 c47 c48 c49 c50 c51 c52 c53 c54 c55 c56 : Value), a' = { tmps := #[.agg #[.int .u16 t.r, .int .u32 t.seq, .int .u64 t.clock, .int .i64 t.user, .slice p xs.length c], .pointer (some ⟨w.heap.size, 0, none⟩), .int .i64 0, .int .i64 (k : Int), .int .u32 next, c5, c6, c7, c8, c9, c10, c11, c12, c13, c14, c15, c16, c17, c18, c19, c20, c21, c22, c23, c24, c25, c26, c27, c28, c29, c30, c31, c32, c33, c34, c35, c36, c37, c38, c39, c40, c41, c42, c43, c44, c45, c46, c47, c48, c49, c50, c51, c52, c53, c54, c55, c56], defers := [] } ∧ k ≤ xs.length ∧ 0 ≤ next ∧ next ≤ 268435457 ∧ FT = fitOs xs.length t.seq (next - 1) (t.ops.drop k) ∧ Below (w.alloc (.cells #[.int .u16 t.r, .int .u32 t.seq, .int .u64 t.clock, .int .i64 t.user, .slice p xs.length c] 29)).heap.size (w.alloc (.cells #[.int .u16 t.r, .int .u32 t.seq, .int .u64 t.clock, .int .i64 t.user, .slice p xs.length c] 29)) w') (fun a' _ => xs.length - natOf (a'.tmps.getD 3 undef)) rfl ?_ ?_
  · intro hpass
    have HP := Lib.hid hpass
    clear hpass
    go_wp2_with fail
    go_step3
    rename_i KK hKK
    exact hKK _ _ (HP.out _ _ ⟨0, 0, _, _, _, _, _, _, _, _, _, _, _, _, _, _, _, _, _, _, _, _, _, _, _, _, _, _, _, _, _, _, _, _, _, _, _, _, _, _, _, _, _, _, _, _, _, _, _, _, _, _, _, _, rfl, Nat.zero_le _, by omega, by omega, HFT0.out, Below.refl _ _⟩)
  · clear HFT0
    rintro a' wr ⟨k, next, c5, c6, c7, c8, c9, c10, c11, c12, c13, c14, c15, c16, c17, c18, c19, c20, c21, c22, c23, c24, c25, c26, c27, c28, c29, c30, c31, c32, c33, c34, c35, c36, c37, c38, c39, c40, c41, c42, c43, c44, c45, c46, c47, c48, c49, c50, c51, c52, c53, c54, c55, c56, rfl, hk, hn0, hn1, hFT, hB⟩
    have HB := Lib.hid hB
    have HFT := Lib.hid hFT
    have HBW : Hid (Below w.heap.size w wr) := below_step (below_alloc (Below.refl _ _) _) HB.out
    have HXK := Lib.hid (kept_box HX.out HB.out)
    obtain ⟨z0, z1, z2, z3, z4⟩ := five_cells HXK.out
    clear hB hFT
    by_cases hlt : k < xs.length
    · have hkl : (k : Int) < (xs.length : Int) := by omega
      have hke : ((k : Int) == (xs.length : Int)) = false := beq_no (by omega)
      have HFOk := Lib.hid (HFO.out k hlt)
      have HATk := Lib.hid (HAT.out k hlt)
      have hfk := HFI.out k hlt
      rw [HDR.out k hlt, fitOs] at HFT
      obtain ⟨b, o, rfl, d0, d1, d2, d3, d4, d5, d6⟩ := orow_at (HR.out.below HBW.out) hlt
      generalize xs.getD k ov0 = x at d0 d1 d2 d3 d4 d5 d6 HFOk HATk HFT hfk
      obtain ⟨om, px, cx⟩ := x
      simp only at d0 d1 d2 d3 d4 d5 d6 HFOk HATk HFT hfk
      have hrg := fun h => atoms_range (o := om) h hfk
      have hks : fitO om = 0 → 1 ≤ om.kind ∧ om.kind ≤ 5 := fun h => by rcases fitO_cases h with c | c | c | c <;> omega
      have HOM : Hid (∀ p c, ov om p c = .agg #[.int .i64 om.kind, .int .u16 om.r, .int .u32 om.n, .int .u32 om.num, .string ⟨om.text.toArray⟩, .slice p om.spans.length c, .int .u32 om.seq]) := fun p c => rfl
      rw [HOM.out] at HFOk HATk
      generalize (⟨om.text.toArray⟩ : ByteArray) = bt at d4 HFOk HATk HOM
      unfold FitOm at hfk
      obtain ⟨q1, q2, q3, q4, q5, q6, q7, q8, -, q10, q11⟩ := hfk
      generalize fitO om = FO at HFOk HATk HFT hrg hks
      generalize atomsO om = AO at HATk HFT hrg
      go_wp2_with fail
      refine (HFOk.out _ (below_alloc HBW.out _)).mono ?_
      rintro e w1 ⟨rfl, hb1⟩
      have HB1 := Lib.hid (below_step (below_alloc HB.out (.cells #[.int .i64 om.kind, .int .u16 om.r, .int .u32 om.n, .int .u32 om.num, .string bt, .slice px om.spans.length cx, .int .u32 om.seq] 79)) hb1)
      have HBW1 := Lib.hid (below_step (below_alloc HBW.out (.cells #[.int .i64 om.kind, .int .u16 om.r, .int .u32 om.n, .int .u32 om.num, .string bt, .slice px om.spans.length cx, .int .u32 om.seq] 79)) hb1)
      have HY1 := Lib.hid (kept_box (heap_alloc_new wr (.cells #[.int .i64 om.kind, .int .u16 om.r, .int .u32 om.n, .int .u32 om.num, .string bt, .slice px om.spans.length cx, .int .u32 om.seq] 79)) hb1)
      have HX1 := Lib.hid (kept_box HX.out HB1.out)
      clear hb1 z0 z1 z2 z3 z4 d0 d1 d2 d3 d4 d5 d6 HXK
      obtain ⟨z0, z1, z2, z3, z4⟩ := five_cells HX1.out
      obtain ⟨y0, y1, y2, y3, y4, y5, y6⟩ := seven_cells HY1.out
      by_cases e0 : FO = 0
      · subst e0
        rw [if_neg (show ¬ (0 : Int) ≠ 0 by simp)] at HFT
        obtain ⟨r1, r2, r3, r4, r5⟩ := hrg rfl
        have hk5 := hks rfl
        have HAT1 := Lib.hid (HATk.out rfl)
        clear HFOk HATk hrg hks
        by_cases k3 : 3 < om.kind
        · have HTY := Lib.hid (tturns_yes om.kind om.r om.n om.num om.seq bt px om.spans.length cx (by omega))
          have a0 : AO = 0 := r3 k3
          subst a0
          go_wp2_with fail
          refine (HTY.out w1).mono ?_
          rintro e w2 ⟨rfl, hb2⟩
          have HB2 := Lib.hid (below_step HB1.out hb2)
          have HBW2 := Lib.hid (below_step HBW1.out hb2)
          have HY2 := Lib.hid (kept_box HY1.out hb2)
          have HX2 := Lib.hid (kept_box HX1.out hb2)
          clear hb2 z0 z1 z2 z3 z4 y0 y1 y2 y3 y4 y5 y6
          obtain ⟨z0, z1, z2, z3, z4⟩ := five_cells HX2.out
          obtain ⟨y0, y1, y2, y3, y4, y5, y6⟩ := seven_cells HY2.out
          by_cases n1 : xs.length = 1
          · have n1' : ¬ (1 : Int) < (xs.length : Int) := by omega
            have N1 := Lib.hid n1
            clear n1
            by_cases s1 : t.seq ≤ om.seq
            · rw [if_pos ⟨k3, Or.inr s1⟩] at HFT
              go_wp2_with fail
              simp only [Exit.jump]
              go_ret
              exact ⟨by rw [HFT.out]; rfl, HBW2.out⟩
            · rw [if_neg (by rintro ⟨_, a | a⟩; exact a N1.out; exact s1 a), if_neg (by omega), if_neg (by omega)] at HFT
              go_wp2_with fail
              refine (HAT1.out w2 HBW2.out).mono ?_
              rintro e w3 ⟨rfl, hb3⟩
              have HB3 := Lib.hid (below_step HB2.out hb3)
              have HBW3 := Lib.hid (below_step HBW2.out hb3)
              have HY3 := Lib.hid (kept_box HY2.out hb3)
              clear hb3 y0 y1 y2 y3 y4 y5 y6
              obtain ⟨y0, y1, y2, y3, y4, y5, y6⟩ := seven_cells HY3.out
              go_wp2_with fail
              go_step3
              exact ⟨rfl, ⟨k + 1, next, _, _, _, _, _, _, _, _, _, _, _, _, _, _, _, _, _, _, _, _, _, _, _, _, _, _, _, _, _, _, _, _, _, _, _, _, _, _, _, _, _, _, _, _, _, _, _, _, _, _, _, _, by first | rfl | go_num | (simp only [Act.put, List.setIfInBounds_toArray, List.set_cons_succ, List.set_cons_zero]; go_num), by omega, hn0, hn1, HFT.out, HB3.out⟩, by show xs.length - (((k + 1 : Nat) : Int)).toNat < xs.length - ((k : Nat) : Int).toNat; omega⟩
          · have n1' : (1 : Int) < (xs.length : Int) := by omega
            rw [if_pos ⟨k3, Or.inl n1⟩] at HFT
            go_wp2_with fail
            simp only [Exit.jump]
            go_ret
            exact ⟨by rw [HFT.out]; rfl, HBW2.out⟩
        · rw [if_neg (fun h => k3 h.1)] at HFT
          have HTN := Lib.hid (tturns_no om.kind om.r om.n om.num om.seq bt px om.spans.length cx (by omega) (by omega))
          go_wp2_with fail
          refine (HTN.out w1).mono ?_
          rintro e w2 ⟨rfl, hb2⟩
          have HB2 := Lib.hid (below_step HB1.out hb2)
          have HBW2 := Lib.hid (below_step HBW1.out hb2)
          have HY2 := Lib.hid (kept_box HY1.out hb2)
          have HX2 := Lib.hid (kept_box HX1.out hb2)
          clear hb2 z0 z1 z2 z3 z4 y0 y1 y2 y3 y4 y5 y6
          obtain ⟨z0, z1, z2, z3, z4⟩ := five_cells HX2.out
          obtain ⟨y0, y1, y2, y3, y4, y5, y6⟩ := seven_cells HY2.out
          by_cases a0 : 0 < AO
          · have hkk : om.kind = 1 ∨ om.kind = 3 := r4 a0
            obtain ⟨v1, v2, v3⟩ := r5 hkk
            have hwA : IntKind.u32.wrap AO = AO := by rw [IntKind.wrap_u32]; omega
            have hwS : IntKind.u32.wrap (om.num + AO) = om.num + AO := by rw [IntKind.wrap_u32]; omega
            by_cases l0 : next = 0
            · subst l0
              rw [if_neg (fun h => by have := h.2.1; omega), if_pos a0] at HFT
              go_wp2_with fail
              refine (HAT1.out w2 HBW2.out).mono ?_
              rintro e w3 ⟨rfl, hb3⟩
              have HB3 := Lib.hid (below_step HB2.out hb3)
              have HBW3 := Lib.hid (below_step HBW2.out hb3)
              have HY3 := Lib.hid (kept_box HY2.out hb3)
              clear hb3 y0 y1 y2 y3 y4 y5 y6
              obtain ⟨y0, y1, y2, y3, y4, y5, y6⟩ := seven_cells HY3.out
              go_wp2_with fail
              go_step3
              exact ⟨rfl, ⟨k + 1, om.num + AO, _, _, _, _, _, _, _, _, _, _, _, _, _, _, _, _, _, _, _, _, _, _, _, _, _, _, _, _, _, _, _, _, _, _, _, _, _, _, _, _, _, _, _, _, _, _, _, _, _, _, _, _, by first | rfl | go_num | (simp only [Act.put, List.setIfInBounds_toArray, List.set_cons_succ, List.set_cons_zero]; go_num), by omega, by omega, by omega, HFT.out, HB3.out⟩, by show xs.length - (((k + 1 : Nat) : Int)).toNat < xs.length - ((k : Nat) : Int).toNat; omega⟩
            · have l0' : (next != 0) = true := bne_int l0
              by_cases m0 : om.num = next
              · rw [if_neg (fun h => h.2.2 (by omega)), if_pos a0] at HFT
                have hm : (om.num != next) = false := by rw [m0]; simp
                clear m0
                go_wp2_with fail
                refine (HAT1.out w2 HBW2.out).mono ?_
                rintro e w3 ⟨rfl, hb3⟩
                have HB3 := Lib.hid (below_step HB2.out hb3)
                have HBW3 := Lib.hid (below_step HBW2.out hb3)
                have HY3 := Lib.hid (kept_box HY2.out hb3)
                clear hb3 y0 y1 y2 y3 y4 y5 y6
                obtain ⟨y0, y1, y2, y3, y4, y5, y6⟩ := seven_cells HY3.out
                go_wp2_with fail
                go_step3
                exact ⟨rfl, ⟨k + 1, om.num + AO, _, _, _, _, _, _, _, _, _, _, _, _, _, _, _, _, _, _, _, _, _, _, _, _, _, _, _, _, _, _, _, _, _, _, _, _, _, _, _, _, _, _, _, _, _, _, _, _, _, _, _, _, by first | rfl | go_num | (simp only [Act.put, List.setIfInBounds_toArray, List.set_cons_succ, List.set_cons_zero]; go_num), by omega, by omega, by omega, HFT.out, HB3.out⟩, by show xs.length - (((k + 1 : Nat) : Int)).toNat < xs.length - ((k : Nat) : Int).toNat; omega⟩
              · rw [if_pos ⟨a0, by omega, by omega⟩] at HFT
                have hm : (om.num != next) = true := bne_int m0
                go_wp2_with fail
                refine (HAT1.out w2 HBW2.out).mono ?_
                rintro e w3 ⟨rfl, hb3⟩
                have HB3 := Lib.hid (below_step HB2.out hb3)
                have HBW3 := Lib.hid (below_step HBW2.out hb3)
                have HY3 := Lib.hid (kept_box HY2.out hb3)
                clear hb3 y0 y1 y2 y3 y4 y5 y6
                obtain ⟨y0, y1, y2, y3, y4, y5, y6⟩ := seven_cells HY3.out
                go_wp2_with fail
                simp only [Exit.jump]
                go_ret
                exact ⟨by rw [HFT.out]; rfl, HBW3.out⟩
          · rw [if_neg (fun h => a0 h.1), if_neg a0] at HFT
            go_wp2_with fail
            refine (HAT1.out w2 HBW2.out).mono ?_
            rintro e w3 ⟨rfl, hb3⟩
            have HB3 := Lib.hid (below_step HB2.out hb3)
            have HBW3 := Lib.hid (below_step HBW2.out hb3)
            have HY3 := Lib.hid (kept_box HY2.out hb3)
            clear hb3 y0 y1 y2 y3 y4 y5 y6
            obtain ⟨y0, y1, y2, y3, y4, y5, y6⟩ := seven_cells HY3.out
            go_wp2_with fail
            go_step3
            exact ⟨rfl, ⟨k + 1, next, _, _, _, _, _, _, _, _, _, _, _, _, _, _, _, _, _, _, _, _, _, _, _, _, _, _, _, _, _, _, _, _, _, _, _, _, _, _, _, _, _, _, _, _, _, _, _, _, _, _, _, _, by first | rfl | go_num | (simp only [Act.put, List.setIfInBounds_toArray, List.set_cons_succ, List.set_cons_zero]; go_num), by omega, hn0, hn1, HFT.out, HB3.out⟩, by show xs.length - (((k + 1 : Nat) : Int)).toNat < xs.length - ((k : Nat) : Int).toNat; omega⟩
      · rw [if_pos e0] at HFT
        have e0' := beq_no e0
        have e0'' := bne_int e0
        go_wp2_with fail
        simp only [Exit.jump]
        go_ret
        exact ⟨by rw [HFT.out]; rfl, HBW1.out⟩
    · have : k = xs.length := by omega
      subst this
      have HE : Hid (FT = 0) := by show _ = _; rw [HFT.out, ← hlen, List.drop_length]; rfl
      go_wp2_with fail
      simp only [Exit.jump]
      go_ret
      exact ⟨by rw [HE.out]; rfl, HBW.out⟩
set_option maxHeartbeats 3200000 in
set_option maxRecDepth 20000 in
theorem fitT_of (HFO0 : FitOSpec) (t : Tm) (xs : List OV) (p : Option Addr) (c : Nat) (w : World) (H : InT t xs p c w) (hs : SmallX xs) :
    Calls Tryz.prog 37 #[tv t p c] w fun e w' => e = .returned (.int .i64 (fitT t)) ∧ Below w.heap.size w w' := by
  have HFT := Lib.hid (fun (W : World) (hb : Below w.heap.size w W) (h16 : xs.length ≤ 16) => fitOps_any HFO0 t xs p c W (H.below hb) hs h16)
  have hfi := H.fit
  have hlen : t.ops.length = xs.length := by rw [H.ops, List.length_map]
  have HTV : Hid (∀ p c, tv t p c = .agg #[.int .u16 t.r, .int .u32 t.seq, .int .u64 t.clock, .int .i64 t.user, .slice p xs.length c]) := fun p c => by unfold tv; rw [hlen]
  have HT : Hid (fitT t = if t.seq < 1 ∨ 268435456 < t.seq ∨ t.clock < 1 ∨ 1099511627776 < t.clock ∨ t.user < 0 ∨ 7 < t.user ∨ xs.length = 0 then 11 else if 16 < xs.length then 13 else fitOs xs.length t.seq (-1) t.ops) := by show _ = _; rw [← hlen]; rfl
  clear H hs
  rw [HTV.out] at HFT ⊢
  generalize fitT t = FT at HT ⊢
  generalize fitOs xs.length t.seq (-1) t.ops = FS at HT HFT
  have HX := Lib.hid (heap_alloc_new w (.cells #[.int .u16 t.r, .int .u32 t.seq, .int .u64 t.clock, .int .i64 t.user, .slice p xs.length c] 29))
  have HBA := Lib.hid (below_alloc (Below.refl w.heap.size w) (.cells #[.int .u16 t.r, .int .u32 t.seq, .int .u64 t.clock, .int .i64 t.user, .slice p xs.length c] 29))
  obtain ⟨z0, z1, z2, z3, z4⟩ := five_cells HX.out
  by_cases hd : t.seq < 1 ∨ 268435456 < t.seq ∨ t.clock < 1 ∨ 1099511627776 < t.clock ∨ t.user < 0 ∨ 7 < t.user
  · have HE : Hid (FT = 11) := by show _ = _; rw [HT.out, if_pos (by omega)]
    have HH := Lib.hid (head_no t.r t.seq t.clock t.user p xs.length c hd)
    clear hd HT HFT
    go_enter Tryz.func37, Tryz.ntmps37
    go_wp2_with fail
    refine (HH.out _).mono ?_
    rintro e w1 ⟨rfl, hb1⟩
    have HB1 := Lib.hid (below_step HBA.out hb1)
    have HX1 := Lib.hid (kept_box HX.out hb1)
    clear hb1 z0 z1 z2 z3 z4 HH
    obtain ⟨z0, z1, z2, z3, z4⟩ := five_cells HX1.out
    go_wp2
    go_ret
    exact ⟨by rw [HE.out]; rfl, HB1.out⟩
  have HH := Lib.hid (head_yes t.r t.seq t.clock t.user p xs.length c (by omega) (by omega) (by omega) (by omega) (by omega) (by omega))
  by_cases g6 : xs.length = 0
  · have HE : Hid (FT = 11) := by show _ = _; rw [HT.out, if_pos (by omega)]
    have g6' : ((xs.length : Int) == 0) = true := by rw [g6]; rfl
    clear hd HT HFT g6
    go_enter Tryz.func37, Tryz.ntmps37
    go_wp2_with fail
    refine (HH.out _).mono ?_
    rintro e w1 ⟨rfl, hb1⟩
    have HB1 := Lib.hid (below_step HBA.out hb1)
    have HX1 := Lib.hid (kept_box HX.out hb1)
    clear hb1 z0 z1 z2 z3 z4 HH
    obtain ⟨z0, z1, z2, z3, z4⟩ := five_cells HX1.out
    go_wp2
    go_ret
    exact ⟨by rw [HE.out]; rfl, HB1.out⟩
  have g6' : ((xs.length : Int) == 0) = false := beq_no (by omega)
  have HT2 : Hid (FT = if 16 < xs.length then 13 else FS) := by show _ = _; rw [HT.out, if_neg (by omega)]
  clear HT hd
  by_cases g7 : 16 < xs.length
  · have HE : Hid (FT = 13) := by show _ = _; rw [HT2.out, if_pos g7]
    have g7' : (16 : Int) < (xs.length : Int) := by omega
    clear HT2 HFT
    go_enter Tryz.func37, Tryz.ntmps37
    go_wp2_with fail
    refine (HH.out _).mono ?_
    rintro e w1 ⟨rfl, hb1⟩
    have HB1 := Lib.hid (below_step HBA.out hb1)
    have HX1 := Lib.hid (kept_box HX.out hb1)
    clear hb1 z0 z1 z2 z3 z4 HH
    obtain ⟨z0, z1, z2, z3, z4⟩ := five_cells HX1.out
    go_wp2
    go_ret
    exact ⟨by rw [HE.out]; rfl, HB1.out⟩
  have g7' : ¬ (16 : Int) < (xs.length : Int) := by omega
  have HE : Hid (FT = FS) := by show _ = _; rw [HT2.out, if_neg g7]
  have HF1 := Lib.hid (fun W hb => HFT.out W hb (by omega))
  clear HT2 HFT
  go_enter Tryz.func37, Tryz.ntmps37
  go_wp2_with fail
  refine (HH.out _).mono ?_
  rintro e w1 ⟨rfl, hb1⟩
  have HB1 := Lib.hid (below_step HBA.out hb1)
  have HX1 := Lib.hid (kept_box HX.out hb1)
  clear hb1 z0 z1 z2 z3 z4 HH
  obtain ⟨z0, z1, z2, z3, z4⟩ := five_cells HX1.out
  go_wp2_with fail
  refine (HF1.out _ HB1.out).mono ?_
  rintro e w2 ⟨rfl, hb2⟩
  have HB2 := Lib.hid (below_step HB1.out hb2)
  clear hb2
  go_wp2
  go_ret
  exact ⟨by rw [HE.out]; rfl, HB2.out⟩
end Go.Proofs.YtceanfpcddcfoaaGreat
/-
  What the program's Undoes of layer 9 hands back. No conditions beyond what each theorem states.
-/
namespace Go.Proofs.YtceanfpcddcfoaaGreat
open Go.ChangeShapes Go.WideShapes Go.ChangeAt Go.RowKit Go.Lib
set_option linter.unusedVariables false
set_option linter.unusedSimpArgs false

theorem results_ct9 {P : Program} {fn : Func} {p t : Tmp} {ty : TypeId} (h : fn.results = #[.cell p ty, .tmp t]) (tmps : Array Value) (w : World) (a : Addr) (va : Value)
    (hp : tmps.getD p undef = .pointer (some a)) (la : (loadVar ty a).run P w = .ok va w) :
    (results fn tmps).run P w = .ok (.tuple #[va, tmps.getD t undef]) w := by
  have hp' : tmps[p]?.getD undef = .pointer (some a) := by simpa using hp
  simp [results, h, hp', asAddr, la]
end Go.Proofs.YtceanfpcddcfoaaGreat
/-
  What the program's Get of layer 7 leaves. No conditions beyond what each theorem states.
-/
namespace Go.Proofs.YtceanfpcddcfoaaGreat
open Go.ChangeShapes Go.WideShapes Go.ChangeAt Go.RowKit Go.Lib
set_option linter.unusedVariables false
set_option linter.unusedSimpArgs false

/-- So many spans, read on behind an error too. -/
def rdA (bs : List UInt8) : Nat → Nat → Nat → List Sp × Nat × Nat
  | 0, q, e => ([], q, e)
  | n + 1, q, e => ((rdA bs n q e).1 ++ [(rd3 bs (rdA bs n q e).2.1 (rdA bs n q e).2.2).1], (rd3 bs (rdA bs n q e).2.1 (rdA bs n q e).2.2).2)
theorem rdA_cons (bs : List UInt8) : ∀ n q e, rdA bs (n + 1) q e = ((rd3 bs q e).1 :: (rdA bs n (rd3 bs q e).2.1 (rd3 bs q e).2.2).1, (rdA bs n (rd3 bs q e).2.1 (rd3 bs q e).2.2).2) := by
  intro n
  induction n with
  | zero => intro q e; rfl
  | succ n ih =>
    intro q e
    rw [rdA, ih q e]
    simp only
    conv => rhs; rw [rdA]
    simp
theorem rd3_err {bs : List UInt8} {q e : Nat} (h : e ≠ 0) : rd3 bs q e = ((0, 0, 0), q, e) := by
  unfold rd3
  simp only [rdN_err h]
  rfl
theorem rdA_rdL (bs : List UInt8) : ∀ n q e, (rdL bs n q e).2.2 = (rdA bs n q e).2.2 ∧ ((rdA bs n q e).2.2 = 0 → rdL bs n q e = rdA bs n q e) := by
  intro n
  induction n with
  | zero => intro q e; exact ⟨rfl, fun _ => rfl⟩
  | succ n ih =>
    intro q e
    rw [rdA_cons]
    by_cases h : e = 0
    · subst h
      obtain ⟨h1, h2⟩ := ih (rd3 bs q 0).2.1 (rd3 bs q 0).2.2
      rw [rdL, if_pos rfl]
      refine ⟨h1, fun h0 => ?_⟩
      rw [h2 h0]
    · obtain ⟨h1, h2⟩ := ih q e
      rw [rdL, if_neg h, rd3_err h]
      rw [rdL_err bs n q e h] at h1
      simp only at h1 ⊢
      exact ⟨h1, fun h0 => absurd (h1.trans h0) h⟩
theorem rdA_len (bs : List UInt8) : ∀ n q e, (rdA bs n q e).1.length = n := by
  intro n
  induction n with
  | zero => intro q e; rfl
  | succ n ih => intro q e; rw [rdA]; simp [ih]

/-- A row of the call's own, and all else but one block as it was. -/
structure HoldK (w : World) (K : Nat) (v : Value) (xs : List Sp) (wr : World) : Prop where
  row : wr.ownsRow w.heap.size 160 3 v xs.length (layS.flat xs)
  only : Only K w wr
  lt : K < w.heap.size
theorem HoldK.on {w wr w1 : World} {K : Nat} {v : Value} {xs : List Sp} (h : HoldK w K v xs wr) (ho : Only K wr w1) : HoldK w K v xs w1 :=
  ⟨h.row.kept (row := some K) ⟨ho.os, ho.tape, ho.output, ho.size, fun k hk hn => ho.block k hk (fun e => hn (by rw [e]))⟩ (Or.inr fun e => by have := (h.row.lt _ e).1; have := h.lt; omega), Kept.trans h.only ho (fun _ _ e => e), h.lt⟩
theorem HoldK.below {w wr w1 : World} {K : Nat} {v : Value} {xs : List Sp} (h : HoldK w K v xs wr) (hb : Below wr.heap.size wr w1) : HoldK w K v xs w1 := h.on (Kept.ofBelow hb)
theorem HoldK.onto {w wr w1 : World} {K : Nat} {v v' : Value} {xs : List Sp} {x : Sp} (h : HoldK w K v xs wr) (hown : w1.ownsRow w.heap.size 160 3 v' (xs.length + 1) (layS.flat xs ++ layS.enc x)) (hg : wr.grownBy w1 v.ownBlock) : HoldK w K v' (xs ++ [x]) w1 :=
  ⟨by rw [layS.flat_append, layS.flat_one, List.length_append]; exact hown, Kept.trans h.only (T := fun i => v.ownBlock = some i) ⟨hg.os, hg.tape, hg.output, hg.size, fun k hk hn => hg.block k hk (fun e => hn e.symm)⟩ (fun i hi e => by have := (h.row.lt _ e).1; omega), h.lt⟩
theorem HoldK.rd {w wr w1 : World} {K D q e : Nat} {v : Value} {xs : List Sp} {bs : List UInt8} (h : HoldK w K v xs wr) (hD : D < w.heap.size) (hg : wr.grownBy w1 v.ownBlock) (hr : Rd K D bs q e wr) : Rd K D bs q e w1 :=
  hr.kept (S := fun i => v.ownBlock = some i) ⟨hg.os, hg.tape, hg.output, hg.size, fun k hk hn => hg.block k hk (fun e => hn e.symm)⟩ (fun e => by have := (h.row.lt _ e).1; have := h.lt; omega) (fun e => by have := (h.row.lt _ e).1; omega)
theorem only_box {K X : Nat} {w w' : World} {o : Obj} (h : w.heap[X]? = some o) (hK : X ≠ K) (hk : Only K w w') : w'.heap[X]? = some o := hk.stays h hK

/-- What Get leaves, and in blocks of which kind. -/
def GotK (bs : List UInt8) (q e K D : Nat) (w : World) (r : Ending) (w' : World) : Prop := ∃ p c q', r = .returned (.slice p (readS bs q e).1.length c) ∧ GRow layS w' p (readS bs q e).1 ∧ (readS bs q e).1.length ≤ c ∧ (p = none → c = 0) ∧ Rd K D bs q' (readS bs q e).2.2 w' ∧ ((readS bs q e).2.2 = 0 → q' = (readS bs q e).2.1) ∧ Only K w w' ∧ KindAt 160 w' p
set_option maxHeartbeats 3200000 in
set_option maxRecDepth 20000 in
theorem get_kind (bs : List UInt8) (q e K D : Nat) (w : World) (hR : Rd K D bs q e w) (hb : bs.length ≤ 100000) (he : e < 16) : Calls Tryz.prog 103 #[.pointer (some ⟨K, 0, none⟩)] w (GotK bs q e K D w) := by
  obtain ⟨i0, hi, hz0, hz1, hz2⟩ := info_parts infoSp
  have hK := lt_of_block hR.box
  have hD := lt_of_block hR.row
  have hcf := rdN_fits (e := e) (limit := 1024) hR.fits
  have H0 := Lib.hid (rnum_any 1024 (by decide) w hR)
  have HRS : Hid (readS bs q e = (if (rdL bs (rdN bs q e 1024).1 (rdN bs q e 1024).2.1 (rdN bs q e 1024).2.2).2.2 = 0 then (rdL bs (rdN bs q e 1024).1 (rdN bs q e 1024).2.1 (rdN bs q e 1024).2.2).1 else [], (rdL bs (rdN bs q e 1024).1 (rdN bs q e 1024).2.1 (rdN bs q e 1024).2.2).2.1, (rdL bs (rdN bs q e 1024).1 (rdN bs q e 1024).2.1 (rdN bs q e 1024).2.2).2.2)) := rfl
  generalize rdN bs q e 1024 = c0 at hcf H0 HRS
  obtain ⟨n, q0, e0⟩ := c0
  simp only at hcf H0 HRS
  obtain ⟨hq0, hn, he0⟩ := hcf
  clear hR
  go_enter Tryz.func103, Tryz.ntmps103
  go_wp2_with fail
  refine H0.out.mono ?_
  rintro r w1 ⟨rfl, hrd1, ho1⟩
  have HR1 := Lib.hid hrd1
  have HO1 := Lib.hid ho1
  clear hrd1 ho1 H0
  go_wp2
  go_loopg [3, 7] n (fun g v i wr => ∃ k : Nat, k ≤ n ∧ n - k ≤ g ∧ i = .int .u64 (k : Int) ∧ HoldK w K v (rdA bs k q0 e0).1 wr ∧ Rd K D bs (rdA bs k q0 e0).2.1 (rdA bs k q0 e0).2.2 wr)
  case atStart => exact ⟨0, Nat.zero_le _, by omega, rfl, ⟨World.ownsRow_nil w1 w.heap.size 160 3, HO1.out, hK⟩, HR1.out⟩
  case round =>
    clear HR1 HO1
    obtain ⟨k, hk, hg, rfl, hH, hRd⟩ := hrel
    by_cases hlt : k < n
    · have HH := Lib.hid hH
      have HRD := Lib.hid hRd
      have hll := rdA_len bs k q0 e0
      have HNX : Hid (rdA bs (k + 1) q0 e0 = ((rdA bs k q0 e0).1 ++ [(rd3 bs (rdA bs k q0 e0).2.1 (rdA bs k q0 e0).2.2).1], (rd3 bs (rdA bs k q0 e0).2.1 (rdA bs k q0 e0).2.2).2)) := rfl
      generalize rdA bs k q0 e0 = st at HH HRD HNX hll
      obtain ⟨L, q1, e1⟩ := st
      simp only at HH HRD HNX hll
      have HR3 : Hid (rd3 bs q1 e1 = ((((rdN bs q1 e1 65535).1 : Int), ((rdN bs (rdN bs q1 e1 65535).2.1 (rdN bs q1 e1 65535).2.2 268435456).1 : Int), ((rdN bs (rdN bs (rdN bs q1 e1 65535).2.1 (rdN bs q1 e1 65535).2.2 268435456).2.1 (rdN bs (rdN bs q1 e1 65535).2.1 (rdN bs q1 e1 65535).2.2 268435456).2.2 1024).1 : Int)), (rdN bs (rdN bs (rdN bs q1 e1 65535).2.1 (rdN bs q1 e1 65535).2.2 268435456).2.1 (rdN bs (rdN bs q1 e1 65535).2.1 (rdN bs q1 e1 65535).2.2 268435456).2.2 1024).2)) := rfl
      have HA := Lib.hid (rnum_any 65535 (by decide) wr HRD.out)
      have ha := rdN_fits (e := e1) (limit := 65535) HRD.out.fits
      clear hH hRd
      generalize rdN bs q1 e1 65535 = a at HR3 HA ha
      obtain ⟨a, q2, e2⟩ := a
      simp only at HR3 HA ha
      have HBC := Lib.hid (fun (W : World) (h : Rd K D bs q2 e2 W) => rnum_any 268435456 (by decide) W h)
      have hbf := rdN_fits (e := e2) (limit := 268435456) ha.1
      generalize rdN bs q2 e2 268435456 = b at HR3 HBC hbf
      obtain ⟨b, q3, e3⟩ := b
      simp only at HR3 HBC hbf
      have HC := Lib.hid (fun (W : World) (h : Rd K D bs q3 e3 W) => rnum_any 1024 (by decide) W h)
      have hcf := rdN_fits (e := e3) (limit := 1024) hbf.1
      generalize rdN bs q3 e3 1024 = c at HR3 HC hcf
      obtain ⟨c, q4, e4⟩ := c
      simp only at HR3 HC hcf
      rw [HR3.out] at HNX
      simp only at HNX
      obtain ⟨_, ha1, _⟩ := ha
      obtain ⟨_, hb1, _⟩ := hbf
      obtain ⟨_, hc1, _⟩ := hcf
      have z1 : IntKind.u16.wrap (a : Int) = (a : Int) := by rw [IntKind.wrap_u16]; omega
      have z2 : IntKind.u32.wrap (b : Int) = (b : Int) := by rw [IntKind.wrap_u32]; omega
      have z3 : IntKind.i64.wrap (c : Int) = (c : Int) := by rw [IntKind.wrap_i64]; omega
      have hkn : (k : Int) < (n : Int) := by omega
      go_wp2_with fail
      refine HA.out.mono ?_
      rintro r w2 ⟨rfl, hrd2, ho2⟩
      have HR2 := Lib.hid hrd2
      have HH2 : Hid (HoldK w K u3 L w2) := HH.out.on ho2
      clear hrd2 ho2 HA HH HRD
      go_wp2_with fail
      refine (HBC.out _ HR2.out).mono ?_
      rintro r w3 ⟨rfl, hrd3, ho3⟩
      have HR3' := Lib.hid hrd3
      have HH3 : Hid (HoldK w K u3 L w3) := HH2.out.on ho3
      have hXK : w3.heap.size ≠ K := by have := lt_of_block hrd3.box; omega
      clear hrd3 ho3 HBC HR2 HH2
      go_wp2_with fail
      have HX : Hid (∀ W, Only K ((w3.alloc (.cells #[.int .u16 (a : Int), .int .u32 (b : Int)] 73)).drew) W → W.cell? ⟨w3.heap.size, 0, none⟩ = some (.int .u16 (a : Int)) ∧ W.cell? ⟨w3.heap.size, 1, none⟩ = some (.int .u32 (b : Int))) := fun W hk => two_cells (only_box (w := (w3.alloc _).drew) (heap_alloc_new w3 _) hXK hk)
      have HC4 : Hid (Calls Tryz.prog 73 #[.pointer (some ⟨K, 0, none⟩), .int .u64 1024] ((w3.alloc (.cells #[.int .u16 (a : Int), .int .u32 (b : Int)] 73)).drew) fun r w' => r = .returned (.int .u64 (c : Int)) ∧ Rd K D bs q4 e4 w' ∧ Only K ((w3.alloc (.cells #[.int .u16 (a : Int), .int .u32 (b : Int)] 73)).drew) w') := HC.out _ (HR3'.out.below (below_drewN (below_alloc (Below.refl _ _) _) 1))
      have HH4 : Hid (∀ W, Only K ((w3.alloc (.cells #[.int .u16 (a : Int), .int .u32 (b : Int)] 73)).drew) W → HoldK w K u3 L W) := fun W hk => (HH3.out.below (below_drewN (below_alloc (Below.refl _ _) _) 1)).on hk
      clear HC HR3' HH3
      go_region_law (first
        | (refine step_append_own rfl (.tmp 16) (.tmp 22) 77 rfl w.heap.size 160 i0 (.agg #[.int .u16 0, .int .u32 0, .int .i64 0]) 3 16 Tryz.underlying77 hi hz0 hz1 hz2 rfl (by decide) u3 L.length (layS.flat L) (by simp [Act.eval, Act.put]) (HH5.out.below (below_alloc (Below.refl _ _) _)).row ⟨w4.heap.size, 0, none⟩ 1 1 [.int .u16 (a : Int), .int .u32 (b : Int), .int .i64 (c : Int)] (by simp [Act.eval, Act.put]) rfl (cells_new (cs := [.int .u16 (a : Int), .int .u32 (b : Int), .int .i64 (c : Int)])) (layS.one ((a : Int), (b : Int), (c : Int))) (by unfold maxLen; omega) (by omega) (by have := HH5.out.only.size; simp; omega) ?_; intro v' w5 hown' hgrow)
        | (go_simp; go_wp2_with (go_at_call 73; refine HC4.out.mono ?_; rintro r w4 ⟨rfl, hrd4, ho4⟩; obtain ⟨k0, k1⟩ := HX.out _ ho4; have HR4 := Lib.hid hrd4; have HH5 := Lib.hid (HH4.out _ ho4); clear hrd4 ho4)))
      all_goals
        have HH6 : Hid (HoldK w K v' (rdA bs (k + 1) q0 e0).1 w5) := by
          rw [HNX.out]
          exact (HH5.out.below (below_alloc (Below.refl _ _) _)).onto (x := ((a : Int), (b : Int), (c : Int))) hown' hgrow
        have HR6 : Hid (Rd K D bs (rdA bs (k + 1) q0 e0).2.1 (rdA bs (k + 1) q0 e0).2.2 w5) := by
          rw [HNX.out]
          exact (HH5.out.below (below_alloc (Below.refl _ _) _)).rd hD hgrow (HR4.out.below (below_alloc (Below.refl _ _) _))
        clear hown' hgrow
        go_wp2
        go_roundg (n - (k + 1))
        case measure => omega
        case rel => exact ⟨k + 1, by omega, Nat.le_refl _, by go_num, HH6.out, HR6.out⟩
    · have : k = n := by omega
      subst this
      have HH := Lib.hid hH
      have HRD := Lib.hid hRd
      have HAL := Lib.hid (rdA_rdL bs k q0 e0)
      have hll := rdA_len bs k q0 e0
      have HE := Lib.hid (error_any wr hRd)
      clear hH hRd
      generalize rdA bs k q0 e0 = st at HH HRD HAL hll HE
      obtain ⟨L, q1, e1⟩ := st
      simp only at HH HRD HAL hll HE
      have hkk : ¬ (k : Int) < (k : Int) := by omega
      by_cases h0 : e1 = 0
      · subst h0
        have HR : Hid (readS bs q e = (L, q1, 0)) := by
          show _ = _
          rw [HRS.out, HAL.out.2 rfl]; rfl
        go_wp2_with fail
        refine HE.out.mono ?_
        rintro r w2 ⟨rfl, he2⟩
        obtain rfl := Eq.symm he2
        clear he2 HE
        go_wp2
        go_ret
        have hrw := HH.out.row
        obtain ⟨p1, c1, rfl, -, h1, h2, h3⟩ := grow_owns layS_pos HH.out.row
        refine ⟨p1, c1, q1, ?_, ?_⟩
        · rw [HR.out]; rfl
        · rw [HR.out]; exact ⟨h1, h2, h3, HRD.out, fun _ => rfl, HH.out.only, kind_owns hrw⟩
      · have h0' : ((e1 : Int) == 0) = false := by simp; omega
        have HR : Hid (readS bs q e = ([], (rdL bs k q0 e0).2.1, e1)) := by
          show _ = _
          rw [HRS.out, HAL.out.1, if_neg h0]
        go_wp2_with fail
        refine HE.out.mono ?_
        rintro r w2 ⟨rfl, he2⟩
        obtain rfl := Eq.symm he2
        clear he2 HE
        go_wp2
        go_ret
        refine ⟨none, 0, q1, ?_, ?_⟩
        · rw [HR.out]; rfl
        · rw [HR.out]; exact ⟨GRow.nil _ _ _, Nat.le_refl _, fun _ => rfl, HRD.out, fun h => absurd h h0, HH.out.only, KindAt.nil _ _⟩
theorem get_spec : GetSpec := fun bs q e K D w hR hb he => (get_kind bs q e K D w hR hb he).mono (by rintro r w' ⟨p, c, q', h1, h2, h3, h4, h5, h6, h7, -⟩; exact ⟨p, c, q', h1, h2, h3, h4, h5, h6, h7⟩)
end Go.Proofs.YtceanfpcddcfoaaGreat
