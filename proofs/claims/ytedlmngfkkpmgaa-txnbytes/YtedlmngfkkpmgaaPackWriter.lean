
/-
  What the writer's Byte, Num, Text, Raw, Len and Bytes do, for every writer that lies in memory and all that is written. No conditions beyond what each theorem states (what is written stays below a million bytes).
-/
import Derived.Test.YtedlmngfkkpmgaaPackBase
namespace Go.Proofs.Ytedlmngfkkpmgaa
open Go.ChangeShapes Go.WideShapes Go.ChangeAt Go.RowKit Go.Lib
set_option linter.unusedVariables false
set_option linter.unusedSimpArgs false

/-- Where a string is appended to a row of the call's own, the new row is the old one or new. -/
theorem app_str_at {P : Program} (w : World) (B : Nat) (t u ty e : TypeId) (i : TypeInfo) (ht : P.underlying t = some (.slice e)) (hu : P.underlying u = some .string) (hi : P.info? e = some i) (hz : i.zero = some (.int .u8 0))
    (hsize : i.size = 1) (hby : i.bytes = 1) (v : Value) (n : Nat) (xs : List Value) (hown : w.ownsRow B e 1 v n xs) (s : ByteArray) (hn : n + s.size ≤ 140737488355328) {v' : Value} {w' : World}
    (hr : (Builtin.append_ #[t, u] ty #[v, .string s]).run P w = .ok v' w') : v'.ownBlock = v.ownBlock ∨ v'.ownBlock = some w.heap.size := by
  have hxl : xs.length = n := by simpa using hown.1
  rcases hown.2 with ⟨rfl, rfl⟩ | ⟨g, cap, cur, rfl, hbg, hg, hnc, hcm, hcs, htake⟩
  · by_cases hm : s.size = 0
    · have hf := run_firstCells_string (P := P) w 1 s
      rw [hm] at hf
      simp [Builtin.append_, run_underlying ht, run_underlying hu, sizeOf, typeInfo, hi, hsize, Builtin.lenOf, hm, hf] at hr
      left; rw [← hr.1]
    · have h2 := run_append_nil_string (P := P) w t u ty e i (.int .u8 0) ht hu hi hz s (by omega) (by omega) (by rw [hby]; omega)
      rw [h2] at hr
      cases hr
      right; rfl
  · by_cases hroom : n + s.size ≤ cap
    · have hcs' : cur.size = cap := by simpa using hcs
      have h2 := run_append_room_string (P := P) w t u ty e i ht hu hi hsize g n cap cur hg s hroom (by omega)
      rw [h2] at hr
      cases hr
      left; rfl
    · have h2 := run_append_grow_string (P := P) w t u ty e i (.int .u8 0) ht hu hi hz ⟨g, 0, none⟩ n cap xs (by rw [hsize]; simpa using hxl) (hown.cells (g := g) rfl) s (by omega) (by omega) (by rw [hby]; exact growslice_fits (by omega) (by omega))
      rw [h2] at hr
      cases hr
      right; rfl
theorem wpList_app_str {P : Program} (w : World) {ops : Array Oper} {rest : List Oper} {o : Oper} {a : Act} {Q : Exit → Act → World → Prop} (hgd : o.guard = none) (sl x : Operand) (t u : TypeId)
    (ho : o.op = .call { callee := .builtin .append, args := #[sl, x], argTypes := #[t, u] })
    (B : Nat) (e : TypeId) (i : TypeInfo) (ht : P.underlying t = some (.slice e)) (hu : P.underlying u = some .string) (hi : P.info? e = some i) (hz : i.zero = some (.int .u8 0))
    (hsize : i.size = 1) (hby : i.bytes = 1) (v : Value) (n : Nat) (xs : List Value) (hs : a.eval sl = v) (hown : w.ownsRow B e 1 v n xs) (s : ByteArray) (hx : a.eval x = .string s)
    (hn : n + s.size ≤ 140737488355328) (hB : B ≤ w.heap.size)
    (h : ∀ v' w', w'.ownsRow B e 1 v' (n + s.size) (xs ++ strCells s) → w.grownBy w' v.ownBlock → (v'.ownBlock = v.ownBlock ∨ v'.ownBlock = some w.heap.size) → wpList P ops Q rest (a.put o.dst v') w') : wpList P ops Q (o :: rest) a w := by
  refine wpList_plain hgd fun K hK => ?_
  obtain ⟨v', w', hr, h2, h3, h4⟩ := run_append_own_string (P := P) w B t u o.type e i ht hu hi hz hsize hby v n xs hown s (by unfold maxLen; omega) hn hB
  have h5 := app_str_at (P := P) w B t u o.type e i ht hu hi hz hsize hby v n xs hown s hn hr
  unfold Oper.wp execOp
  simp only [ho, resolve, invoke, builtin, Sem.run_bind, Sem.run_pure, Result.andThen_ok, List.map_toArray, List.map_cons, List.map_nil, hs, hx, hr]
  exact hK _ _ (h v' w' h2 h3 h5)

/-- A writer at block K that holds the slice v, which owns the bytes. -/
structure Wr (B K : Nat) (v : Value) (bs : List UInt8) (w : World) : Prop where
  base : B ≤ K
  room : B ≤ w.heap.size
  box : w.heap[K]? = some (.cells #[v] 54 (0, 0))
  row : w.ownsRow B 5 1 v bs.length (byteCells bs)
theorem Wr.apart {B K : Nat} {v : Value} {bs : List UInt8} {w : World} (h : Wr B K v bs w) : v.ownBlock ≠ some K := by
  intro e
  rcases h.row.2 with ⟨rfl, _⟩ | ⟨g, cap, cur, rfl, hb, hg, _⟩
  · cases e
  · simp [Value.ownBlock] at e
    subst e
    rw [h.box] at hg
    cases hg
/-- What a writer's call leaves. -/
def Wrote (B K : Nat) (v : Value) (bs cs : List UInt8) (w w' : World) : Prop :=
  ∃ v', Wr B K v' (bs ++ cs) w' ∧ (v'.ownBlock = v.ownBlock ∨ ∃ g, v'.ownBlock = some g ∧ w.heap.size ≤ g) ∧ Kept (fun k => k = K ∨ v.ownBlock = some k) w w'
theorem Wrote.refl {B K : Nat} {v : Value} {bs : List UInt8} {w : World} (h : Wr B K v bs w) : Wrote B K v bs [] w w := ⟨v, by rw [List.append_nil]; exact h, Or.inl rfl, Kept.refl _ _⟩
theorem Wr.step {B K : Nat} {v v' : Value} {bs cs ds : List UInt8} {w w1 w2 : World} (h1 : Kept (fun k => k = K ∨ v.ownBlock = some k) w w1) (hv : v'.ownBlock = v.ownBlock ∨ ∃ g, v'.ownBlock = some g ∧ w.heap.size ≤ g) (h : Wrote B K v' (bs ++ cs) ds w1 w2) : Wrote B K v bs (cs ++ ds) w w2 := by
  obtain ⟨v2, k1, k2, k3⟩ := h
  refine ⟨v2, by rw [← List.append_assoc]; exact k1, ?_, h1.trans k3 ?_⟩
  · rcases k2 with e | ⟨g, e, hg⟩
    · rcases hv with e2 | ⟨g, e2, hg⟩
      · exact Or.inl (e.trans e2)
      · exact Or.inr ⟨g, e.trans e2, hg⟩
    · exact Or.inr ⟨g, e, Nat.le_trans h1.size hg⟩
  · rintro i hi (rfl | e)
    · exact Or.inl rfl
    · rcases hv with e2 | ⟨g, e2, hg⟩
      · exact Or.inr (e2 ▸ e)
      · rw [e2] at e; cases e; omega
theorem Wrote.trans {B K : Nat} {v : Value} {bs cs ds : List UInt8} {w w1 w2 : World} (h : Wrote B K v bs cs w w1) (hk : ∀ v', Wr B K v' (bs ++ cs) w1 → Wrote B K v' (bs ++ cs) ds w1 w2) : Wrote B K v bs (cs ++ ds) w w2 := by
  obtain ⟨v', k1, k2, k3⟩ := h
  exact Wr.step k3 k2 (hk v' k1)
/-- Behind an append to the writer's row, and the store of what it told. -/
theorem Wr.wrote {B K : Nat} {v v' : Value} {bs cs : List UInt8} {w W w1 : World} (h : Wr B K v bs w) (hb : Below w.heap.size w W) (hown : w1.ownsRow B 5 1 v' (bs.length + cs.length) (byteCells bs ++ byteCells cs)) (hg : W.grownBy w1 v.ownBlock) (hat : v'.ownBlock = v.ownBlock ∨ v'.ownBlock = some W.heap.size) :
    w1.heap[K]? = some (.cells #[v] 54 (0, 0)) ∧ Wrote B K v bs cs w (w1.setCell ⟨K, 0, none⟩ v') := by
  have hK := lt_of_block h.box
  have hne : some K ≠ v.ownBlock := fun e => h.apart e.symm
  have hbox : w1.heap[K]? = some (.cells #[v] 54 (0, 0)) := by
    rw [hg.block K (Nat.lt_of_lt_of_le hK hb.size) hne, hb.block K hK]; exact h.box
  have hk : Kept (fun k => k = K ∨ v.ownBlock = some k) w w1 := (Kept.ofBelow hb).trans (T := fun k => v.ownBlock = some k) (Kept.ofGrown hg (fun k e => e)) (fun i _ e => Or.inr e)
  have hv' : v'.ownBlock ≠ some K := by
    rcases hat with e | e
    · rw [e]; exact fun e => h.apart e
    · rw [e]; intro e; cases e; have := hb.size; omega
  refine ⟨hbox, v', ⟨h.base, ?_, ?_, ?_⟩, ?_, hk.set (Or.inl rfl) _⟩
  · have := h.room; have := hk.size; simp [World.setCell]; omega
  · simp [World.setCell, Array.getElem?_modify, hbox]
  · rw [byteCells_append, List.length_append]
    exact Kept.row (S := fun k => k = K) (Kept.set (S := fun k => k = K) (Kept.refl _ _) rfl _) hown (fun k e1 e2 => hv' (by rw [e1, e2]))
  · rcases hat with e | e
    · exact Or.inl e
    · exact Or.inr ⟨_, e, hb.size⟩
theorem Wr.bound {B K : Nat} {v : Value} {bs : List UInt8} {w w' : World} (h : Wr B K v bs w) (hk : Kept (fun k => k = K ∨ v.ownBlock = some k) w w') : Below B w w' :=
  hk.below h.room (by rintro k (rfl | e); exact h.base; exact (h.row.lt k e).1)

theorem one_byte (x : UInt8) : ∀ u ∈ [Value.int .u8 (x.toNat : Int)], u.oneCell' = true := by intro u hu; simp at hu; subst hu; rfl
theorem bytes_one (x : UInt8) : byteCells [x] = [Value.int .u8 (x.toNat : Int)] := rfl

set_option maxHeartbeats 800000 in
theorem wbyte_any (B K : Nat) (v : Value) (bs : List UInt8) (x : UInt8) (w : World) (hW : Wr B K v bs w) (hl : bs.length ≤ 1000000) :
    Calls Try.prog 52 #[.pointer (some ⟨K, 0, none⟩), .int .u8 (x.toNat : Int)] w fun e w' => e = .returned (.tuple #[]) ∧ Wrote B K v bs [x] w w' := by
  obtain ⟨i0, hi, hz0, hz1, hz2⟩ := info_parts infoB
  have hc : w.cell? ⟨K, 0, none⟩ = some v := by rw [cell_of_block hW.box]; rfl
  have HW := Lib.hid hW
  clear hW
  go_enter Try.func52, Try.ntmps52
  go_wp2_with (first
    | (at_builtin; refine wpList_append_own_at _ rfl (.tmp 8) (.tmp 10) 52 rfl B 5 i0 (.int .u8 0) 1 1 Try.underlying52 hi hz0 hz1 hz2 rfl (by decide) _ _ _ rfl (HW.out.row.alloc _) ⟨w.heap.size, 0, none⟩ 1 1 [.int .u8 (x.toNat : Int)] rfl rfl (cell_one_new _ _ _) (one_byte x) (by unfold maxLen; omega) (by omega) (by have := HW.out.room; simp; omega) ?_))
  intro v' w1 hown hgrow _ hat
  obtain ⟨p', c', rfl⟩ := owns_slice hown
  obtain ⟨hbox, hw⟩ := HW.out.wrote (cs := [x]) (below_alloc (Below.refl _ _) _) (by rw [bytes_one]; exact hown) hgrow (by simpa using hat)
  have HWR := Lib.hid hw
  have c1 : w1.cell? ⟨K, 0, none⟩ = some v := by rw [cell_of_block hbox]; rfl
  have f1 : w1.frozen? ⟨K, 0, none⟩ = false := frozen_of_block hbox
  clear hown hgrow hat hbox hw hc
  go_wp2
  go_end0
  exact ⟨rfl, HWR.out⟩
theorem wbyte_nat (B K : Nat) (v : Value) (bs : List UInt8) (m : Nat) (hm : m < 256) (w : World) (hW : Wr B K v bs w) (hl : bs.length ≤ 1000000) :
    Calls Try.prog 52 #[.pointer (some ⟨K, 0, none⟩), .int .u8 (m : Int)] w fun e w' => e = .returned (.tuple #[]) ∧ Wrote B K v bs [UInt8.ofNat m] w w' := by
  have := wbyte_any B K v bs (UInt8.ofNat m) w hW hl
  rwa [u8_nat hm] at this

theorem and63 (n : Nat) (h : n < 18446744073709551616) : bits .and .u64 (n : Int) 9223372036854775807 = ((n % 9223372036854775808 : Nat) : Int) := by
  have e : (BitVec.ofInt 64 (n : Int) &&& BitVec.ofInt 64 9223372036854775807).toNat = n % 9223372036854775808 := by
    rw [BitVec.toNat_and, show (BitVec.ofInt 64 9223372036854775807).toNat = 2 ^ 63 - 1 from rfl, Nat.and_two_pow_sub_one_eq_mod, BitVec.toNat_ofInt]
    omega
  show IntKind.u64.wrap ((BitVec.ofInt 64 (n : Int) &&& BitVec.ofInt 64 9223372036854775807).toNat : Int) = _
  rw [e, IntKind.wrap_u64]
  omega

set_option maxHeartbeats 1600000 in
theorem wnum_any (B K : Nat) (v : Value) (bs : List UInt8) (n : Nat) (hn : n < 18446744073709551616) (w : World) (hW : Wr B K v bs w) (hl : bs.length ≤ 900000) :
    Calls Try.prog 33 #[.pointer (some ⟨K, 0, none⟩), .int .u64 (n : Int)] w fun e w' => e = .returned (.tuple #[]) ∧ Wrote B K v bs (encN (n % 9223372036854775808)) w w' := by
  have ha := and63 n hn
  have HN : Hid (n % 9223372036854775808 < 9223372036854775808) := Nat.mod_lt _ (by decide)
  generalize n % 9223372036854775808 = N at ha HN ⊢
  have HL : Hid ((encN N).length ≤ 9) := encN_len HN.out
  have HW := Lib.hid hW
  clear hW
  go_enter Try.func33, Try.ntmps33
  go_wp2_with fail
  refine wp_scope_loop 0 (fun a' w' => ∃ (m : Nat) (cs : List UInt8) (c4 c5 c6 c7 c8 c9 c10 c11 c12 c13 c14 c15 : Value), a' = { tmps := #[.pointer (some ⟨K, 0, none⟩), .int .u64 (m : Int), undef, undef, c4, c5, c6, c7, c8, c9, c10, c11, c12, c13, c14, c15, undef, undef, undef, undef], defers := [] } ∧ m < 9223372036854775808 ∧ encN N = cs ++ encN m ∧ Wrote B K v bs cs w w') (fun a' _ => natOf (a'.tmps.getD 1 undef)) rfl ?_ ?_
  · intro hpass
    have HP := Lib.hid hpass
    clear hpass
    go_wp2_with fail
    go_step3
    rename_i KK hKK
    exact hKK _ _ (HP.out _ _ ⟨N, [], _, _, _, _, _, _, _, _, _, _, _, _, rfl, HN.out, rfl, Wrote.refl HW.out⟩)
  · rintro a' w' ⟨m, cs, c4, c5, c6, c7, c8, c9, c10, c11, c12, c13, c14, c15, rfl, hm, he, hw⟩
    obtain ⟨v', k1, k2, k3⟩ := hw
    have hcl : cs.length ≤ 9 := by have := HL.out; rw [he, List.length_append] at this; omega
    have HE := Lib.hid he
    have K1 := Lib.hid k1
    have K2 := Lib.hid k2
    have K3 := Lib.hid k3
    clear he k1 k2 k3 ha
    by_cases hs : m < 128
    · have hs' : ¬ (128 : Int) ≤ (m : Int) := by omega
      have hb : IntKind.u8.wrap (m : Int) = m := by rw [IntKind.wrap_u8]; omega
      have H := Lib.hid (wbyte_nat B K v' (bs ++ cs) m (by omega) w' K1.out (by simp; omega))
      have HX : Hid (encN N = cs ++ [UInt8.ofNat m]) := by rw [HE.out, encN_small hs]; rfl
      go_wp2_with fail
      refine H.out.mono ?_
      rintro e w1 ⟨rfl, hw1⟩
      have HW1 := Lib.hid hw1
      clear hw1
      go_wp2_with fail
      simp only [Exit.jump]
      go_end0
      exact ⟨rfl, by rw [HX.out]; exact Wr.step K3.out K2.out HW1.out⟩
    · have hs' : (128 : Int) ≤ (m : Int) := by omega
      have H := wbyte_nat B K v' (bs ++ cs) (m % 128 + 128) (by omega) w' K1.out (by simp; omega)
      rw [show ((m % 128 + 128 : Nat) : Int) = (m : Int) % 128 + 128 by omega] at H
      have H := Lib.hid H
      have HX : Hid (encN N = (cs ++ [UInt8.ofNat (m % 128 + 128)]) ++ encN (m / 128)) := by rw [HE.out, encN_big hs, List.append_assoc]; rfl
      have HM : Hid (m / 128 < m) := by show m / 128 < m; omega
      go_wp2_with fail
      refine H.out.mono ?_
      rintro e w1 ⟨rfl, hw1⟩
      have HW1 : Hid (Wrote B K v bs (cs ++ [UInt8.ofNat (m % 128 + 128)]) w w1) := Wr.step K3.out K2.out hw1
      clear hw1
      go_wp2_with fail
      go_step3
      exact ⟨rfl, ⟨m / 128, _, _, _, _, _, _, _, _, _, _, _, _, _, rfl, by omega, HX.out, HW1.out⟩, HM.out⟩

end Go.Proofs.Ytedlmngfkkpmgaa
