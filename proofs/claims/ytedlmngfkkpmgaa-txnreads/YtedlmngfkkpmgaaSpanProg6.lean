
/-
  What the program's Put of layer 7 leaves. No conditions beyond what each theorem states.
-/
import Derived.Test.YtedlmngfkkpmgaaSpanProg1
import Derived.Test.YtedlmngfkkpmgaaLawSBytes
namespace Go.Proofs.Ytedlmngfkkpmgaa
open Go.ChangeShapes Go.WideShapes Go.ChangeAt Go.RowKit Go.Lib
set_option linter.unusedVariables false
set_option linter.unusedSimpArgs false

theorem Wr.below {B K : Nat} {v : Value} {bs : List UInt8} {w w' : World} (h : Wr B K v bs w) (hb : Below w.heap.size w w') : Wr B K v bs w' :=
  ⟨h.base, Nat.le_trans h.room hb.size, by rw [hb.block K (lt_of_block h.box)]; exact h.box, h.row.kept (row := none) ⟨hb.os, hb.tape, hb.output, hb.size, fun k hk _ => hb.block k hk⟩ (by cases v.ownBlock <;> simp)⟩
/-- A step of a writer that leaves a variable as it was. -/
theorem box_wrote {K X : Nat} {v : Value} {w w' : World} {o : Obj} (h : w.heap[X]? = some o) (hK : X ≠ K) (hv : v.ownBlock ≠ some X) (hk : Kept (fun k => k = K ∨ v.ownBlock = some k) w w') : w'.heap[X]? = some o := hk.stays h (by rintro (e | e); exact hK e; exact hv e)
theorem own_wrote {X : Nat} {v v' : Value} {w : World} {o : Obj} (h : w.heap[X]? = some o) (hv : v.ownBlock ≠ some X) (hv' : v'.ownBlock = v.ownBlock ∨ ∃ g, v'.ownBlock = some g ∧ w.heap.size ≤ g) : v'.ownBlock ≠ some X := by
  rcases hv' with e | ⟨g, e, hg⟩
  · rw [e]; exact hv
  · rw [e]
    intro ee
    injection ee with ee
    have := lt_of_block h
    omega
/-- Put, for a writer that has up to 200,000 bytes already. -/
def PutWide : Prop := ∀ (B K : Nat) (v : Value) (bs : List UInt8) (l : List Sp) (p : Option Addr) (c : Nat) (w : World), Wr B K v bs w → GRow layS w p l → (0 < l.length → ∀ q, p = some q → q.block < B) → RightS l → FitSs l → l.length ≤ 1024 → bs.length ≤ 200000 → Calls Try.prog 56 #[.pointer (some ⟨K, 0, none⟩), .slice p l.length c] w fun e w' => e = .returned (.tuple #[]) ∧ Wrote B K v bs (bytesL l) w w'
set_option maxHeartbeats 3200000 in
set_option maxRecDepth 20000 in
theorem put_wide : PutWide := by
  intro B K v bs l p c w hW hR hq hr hf hl hb
  have HW := Lib.hid hW
  have HR := Lib.hid hR
  have HQ := Lib.hid hq
  have HRT := Lib.hid hr
  have HF := Lib.hid hf
  have hll : l.length < 18446744073709551616 := by omega
  have H0 := Lib.hid (wnum_any B K v bs l.length hll w hW (by omega))
  have hm : l.length % 9223372036854775808 = l.length := by omega
  rw [hm] at H0
  have HG : Hid (∀ w', Kept (fun k => k = K ∨ v.ownBlock = some k) w w' → 0 < l.length → GRow layS w' p l) := fun w' hk h0 => hR.kept hk (fun q e => by
    have hqB := hq h0 q e
    have hbK := hW.base
    rintro (e' | e')
    · omega
    · have := (hW.row.lt _ e').1; omega)
  have HLN : Hid (∀ k, k ≤ l.length → (encN l.length ++ (l.take k).flatMap bytesS).length ≤ 40000) := fun k hk => by
    have h1 := bytesL_len (l := l.take k) (fun x hx => hf x (List.mem_of_mem_take hx)) (by rw [List.length_take]; omega)
    have h2 := encN_len (n := l.length) (by omega)
    unfold bytesL at h1
    rw [List.length_append] at h1 ⊢
    rw [List.length_take] at h1
    omega
  have hw64 : IntKind.u64.wrap (l.length : Int) = (l.length : Int) := by rw [IntKind.wrap_u64]; omega
  clear hW hR hq hr hf hm
  go_enter Try.func56, Try.ntmps56
  go_wp2_with fail
  refine H0.out.mono ?_
  rintro e w1 ⟨rfl, hw1⟩
  have HW1 := Lib.hid hw1
  clear hw1 H0
  go_wp2
  go_loopg [13] l.length (fun g i wr => ∃ k : Nat, k ≤ l.length ∧ l.length - k ≤ g ∧ i = .int .i64 (k : Int) ∧ Wrote B K v bs (encN l.length ++ (l.take k).flatMap bytesS) w wr)
  case atStart => exact ⟨0, Nat.zero_le _, by omega, rfl, by simpa using HW1.out⟩
  case round =>
    clear HW1
    obtain ⟨k, hk, hg, rfl, v1, hW1, hv1, hk1⟩ := hrel
    by_cases hlt : k < l.length
    · have hln := HLN.out k hk
      obtain ⟨b, o, rfl, c0, c1, c2⟩ := srow_at (HG.out wr hk1 (by omega)) hlt
      have hfs := HF.out.at hlt
      have hrs := rightS_iff.1 (HRT.out.at hlt)
      have HNX : Hid ((l.take (k + 1)).flatMap bytesS = (l.take k).flatMap bytesS ++ bytesS (l.getD k s0)) := by show _ = _; rw [take_getD s0 hlt]; simp
      unfold FitS at hfs
      generalize (l.getD k s0) = s at c0 c1 c2 hfs hrs HNX
      obtain ⟨r, n, m⟩ := s
      simp only at c0 c1 c2 hfs hrs
      obtain ⟨R, rfl⟩ : ∃ R : Nat, r = (R : Int) := ⟨r.toNat, by omega⟩
      obtain ⟨N, rfl⟩ : ∃ N : Nat, n = (N : Int) := ⟨n.toNat, by omega⟩
      obtain ⟨M, rfl⟩ : ∃ M : Nat, m = (M : Int) := ⟨m.toNat, by omega⟩
      have HNX : Hid ((l.take (k + 1)).flatMap bytesS = (l.take k).flatMap bytesS ++ (encN R ++ encN N ++ encN M)) := by show _ = _; rw [HNX.out]; unfold bytesS; simp
      generalize (l.take k).flatMap bytesS = cs at hW1 HNX hln
      have e1 : (encN R).length ≤ 9 := encN_len (n := R) (by omega)
      have e2 : (encN N).length ≤ 9 := encN_len (n := N) (by omega)
      have HW1 := Lib.hid hW1
      have HV1 := Lib.hid hv1
      have HK1 := Lib.hid hk1
      have hXK : wr.heap.size ≠ K := by have := lt_of_block hW1.box; omega
      have hXv : v1.ownBlock ≠ some wr.heap.size := fun e => by have := (hW1.row.lt _ e).2; omega
      clear hW1 hv1 hk1
      have HA := Lib.hid (fun (o : Obj) => wnum_any B K v1 (bs ++ (encN l.length ++ cs)) R (by omega) (wr.alloc o) (HW1.out.below (below_alloc (Below.refl _ _) o)) (by rw [List.length_append]; omega))
      have hm1 : R % 9223372036854775808 = R := by omega
      have hm2 : N % 9223372036854775808 = N := by omega
      have hm3 : M % 9223372036854775808 = M := by omega
      rw [hm1] at HA
      have z1 : IntKind.u64.wrap (R : Int) = (R : Int) := by rw [IntKind.wrap_u64]; omega
      have z2 : IntKind.u64.wrap (N : Int) = (N : Int) := by rw [IntKind.wrap_u64]; omega
      have z3 : IntKind.u64.wrap (M : Int) = (M : Int) := by rw [IntKind.wrap_u64]; omega
      go_wp2_with fail
      refine (HA.out _).mono ?_
      rintro e w2 ⟨rfl, v2, hW2, hv2, hk2⟩
      have hX2 := box_wrote (heap_alloc_new wr _) hXK hXv hk2
      have hXv2 := own_wrote (heap_alloc_new wr _) hXv hv2
      obtain ⟨d0, d1, d2⟩ := three_cells hX2
      have HX2 := Lib.hid hX2
      have HW2 := Lib.hid hW2
      have HV2 := Lib.hid hv2
      have HK2 := Lib.hid hk2
      have HB2 := Lib.hid (wnum_any B K v2 _ N (by omega) w2 hW2 (by simp only [List.length_append] at hln ⊢; omega))
      rw [hm2] at HB2
      clear hX2 hW2 hv2 hk2 HA c0 c1 c2
      go_wp2_with fail
      refine HB2.out.mono ?_
      rintro e w3 ⟨rfl, v3, hW3, hv3, hk3⟩
      have hX3 := box_wrote HX2.out hXK hXv2 hk3
      have hXv3 := own_wrote HX2.out hXv2 hv3
      obtain ⟨f0, f1, f2⟩ := three_cells hX3
      have HV3 := Lib.hid hv3
      have HK3 := Lib.hid hk3
      have HB3 := Lib.hid (wnum_any B K v3 _ M (by omega) w3 hW3 (by simp only [List.length_append] at hln ⊢; omega))
      rw [hm3] at HB3
      clear hX3 hW3 hv3 hk3 HB2 d0 d1 d2
      go_wp2_with fail
      refine HB3.out.mono ?_
      rintro e w4 ⟨rfl, hw4⟩
      have HW4 : Hid (Wrote B K v bs (encN l.length ++ (l.take (k + 1)).flatMap bytesS) w w4) := by
        show Wrote _ _ _ _ _ _ _
        have s3 := Wr.step HK3.out HV3.out hw4
        have s2 := Wr.step (w := wr) ((Kept.ofBelow (below_alloc (Below.refl _ _) _)).trans HK2.out (fun _ _ h => h)) (HV2.out.imp id fun ⟨g, a, b⟩ => ⟨g, a, by simp at b; omega⟩) s3
        have s1 := Wr.step HK1.out HV1.out s2
        rw [HNX.out]
        simpa [List.append_assoc] using s1
      clear hw4 HB3
      go_wp2
      go_roundg (l.length - (k + 1))
      case measure => omega
      case rel => exact ⟨k + 1, by omega, Nat.le_refl _, by go_num, HW4.out⟩
    · have : k = l.length := by omega
      subst this
      have HWE : Hid (Wrote B K v bs (bytesL l) w wr) := ⟨v1, by rw [List.take_length] at hW1; exact hW1, hv1, hk1⟩
      clear hW1 hv1 hk1
      go_wp2
      go_end0
      exact ⟨rfl, HWE.out⟩
theorem put_spec : PutSpec := fun B K v bs l p c w h1 h2 h3 h4 h5 h6 h7 => put_wide B K v bs l p c w h1 h2 h3 h4 h5 h6 (by omega)
end Go.Proofs.Ytedlmngfkkpmgaa
