/-
  Several texts of one proof, joined: each part says at its head what it proves. No conditions beyond what each theorem states.
-/
import Derived.Test.YtjkdcpalgfakhaaZ13
/-
  HoldDrains, over a buffer's calls as premises. No conditions beyond what each theorem states.
-/
namespace Go.Proofs.Ytjkdcpalgfakhaa
open Go.ChangeShapes Go.WideShapes Go.ChangeAt Go.RowKit Go.Lib
set_option linter.unusedVariables false
set_option linter.unusedSimpArgs false

/-- .. and the same vector as the document's list, at t. -/
def Hd2 (Buf : (Nat → Prop) → Nat → List Em → World → Prop) (w0 : World) (K : Nat) (l : List Em) (h : List Vec.En) (s t : Option Addr) (w : World) : Prop := ∃ S, Buf S K l w ∧ Firm S w (fun W => Below w0.heap.size w0 W) ∧ Firm S w (fun W => Vec.Row W s h) ∧ Firm S w (fun W => Vec.Row W t h)
section
variable {Buf : (Nat → Prop) → Nat → List Em → World → Prop} {w0 w w' : World} {K f : Nat} {l : List Em} {h : List Vec.En} {s t : Option Addr}
theorem Hd.two (HS : BufSpec Buf) (H : Hd Buf w0 K l h s w) (hr : Vec.Row w t h) (hk : KindAt 79 w t) : Hd2 Buf w0 K l h s t w := by
  obtain ⟨S, h1, h2, h3⟩ := H
  exact ⟨S, h1, h2, h3, Firm.vrow (HS.others _ _ _ _ h1) (Or.inl rfl) hr hk⟩
theorem Hd2.one (H : Hd2 Buf w0 K l h s t w) : Hd Buf w0 K l h s w := by
  obtain ⟨S, h1, h2, h3, h4⟩ := H
  exact ⟨S, h1, h2, h3⟩
theorem Hd2.row2 (H : Hd2 Buf w0 K l h s t w) : Vec.Row w t h := by
  obtain ⟨S, h1, h2, h3, h4⟩ := H
  exact h4.now
theorem Hd2.below (HS : BufSpec Buf) (H : Hd2 Buf w0 K l h s t w) (hb : Below w.heap.size w w') : Hd2 Buf w0 K l h s t w' := by
  obtain ⟨S, h1, h2, h3, h4⟩ := H
  exact ⟨S, HS.below _ _ _ _ _ h1 hb, h2.below hb, h3.below hb, h4.below hb⟩
theorem Hd2.take (HS : BufSpec Buf) (H : Hd2 Buf w0 K l h s t w) (hk : Known h s f) : Calls Try.prog 10 #[.pointer (some ⟨K, 0, none⟩), .slice s h.length f] w fun r w' => (∃ i, readyM l h = some i ∧ Taken l i r w' ∧ Hd2 Buf w0 K (withoutM l i) h s t w') ∨ (readyM l h = none ∧ TookNone r ∧ Hd2 Buf w0 K l h s t w') := by
  obtain ⟨S, h1, h2, h3, h4⟩ := H
  refine (HS.take S K l w h s f h1 h3 hk).mono ?_
  rintro r w' ⟨S', hst, hh⟩
  rcases hh with ⟨i, h5, h6, h7⟩ | ⟨h5, h6, h7⟩
  · exact Or.inl ⟨i, h5, h6, S', h7, h2.step hst, h3.step hst, h4.step hst⟩
  · exact Or.inr ⟨h5, h6, S', h7, h2.step hst, h3.step hst, h4.step hst⟩
end
theorem no_first {L B0 : List Em} (hok : PutsOK L B0) {x y : Em} {h : List Vec.En} (hy : y ∈ B0) (h1 : y.txn.r = x.txn.r) (h2 : y.txn.seq = x.txn.seq) (hn : readyE y h = false) (hr : readyE x h = true) : ¬ L.find? (fun z => nameM z x) = some x := fun hf => by
  have he : (fun z => nameM z y) = (fun z => nameM z x) := by
    funext z
    unfold nameM
    rw [h1, h2]
  have := hok.first y hy x (by rw [he]; exact hf)
  rw [this, hn] at hr; cases hr
theorem names_in (l : List Em) {i : Nat} (h : i < (namesM l).length) : ∃ y ∈ l, Vec.atL (namesM l) i = (y.txn.r, y.txn.seq) := by
  have hl : i < l.length := by unfold namesM at h; simpa using h
  exact ⟨l[i], List.getElem_mem hl, by unfold namesM Vec.atL; simp [List.getD_eq_getElem?_getD, hl]⟩
set_option maxHeartbeats 12800000 in
set_option maxRecDepth 20000 in
theorem hdrains_any {Buf : (Nat → Prop) → Nat → List Em → World → Prop} (HS : BufSpec Buf) (HID : IDTSpec) (xs : List EV) (p : Option Addr) (c : Nat) (h : List Vec.En) (s : Option Addr) (f : Nat) (w : World) (hA : ArgL w p xs) (hH : Vec.Row w s h) (hc : h.length ≤ f) (hn : s = none → f = 0) (hf : Vec.Fits h) (hhl : h.length ≤ 17592186043904) (hxl : xs.length ≤ 17592186043904) :
    Calls Try.prog 3 #[.slice p xs.length c, .slice s h.length f] w fun r w' => r = .returned (.bool true) ∧ Below w.heap.size w w' := by
  have HAN := Lib.hid (anchor11_any HS w)
  have HRI : Hid (∀ W, Below w.heap.size w W → Calls Try.prog 6 #[.slice s h.length f] W fun r w' => r = .returned (.bool (Vec.rightH h)) ∧ Below W.heap.size W w') := fun W hb => sright_any h s f W (hH.below hb) hhl
  have HKN : Hid (Vec.rightH h = true → Known h s f ∧ h.length ≤ 100) := right_known hc hn hf
  have HAR := Lib.hid hA
  have HHR := Lib.hid hH
  clear hA hH hc hn hf
  generalize Vec.rightH h = RHV at HRI HKN
  go_enter Try.func3, Try.ntmps3
  go_wp2_with fail
  refine HAN.out.mono ?_
  rintro r w1 ⟨rfl, hb1⟩
  have HB1 := Lib.hid hb1
  clear hb1 HAN
  by_cases hx60 : 60 < xs.length
  · have hd : decide ((60 : Int) < (xs.length : Int)) = true := by simp; omega
    have hxi : (60 : Int) < (xs.length : Int) := by omega
    go_wp2
    go_ret
    exact ⟨rfl, HB1.out⟩
  · have hd : decide ((60 : Int) < (xs.length : Int)) = false := by simp; omega
    have hxi : ¬ (60 : Int) < (xs.length : Int) := by omega
    have HR1 := Lib.hid (HRI.out w1 HB1.out)
    go_wp2_with fail
    refine HR1.out.mono ?_
    rintro r w2 ⟨rfl, hb2⟩
    have HB2 := Lib.hid (below_step HB1.out hb2)
    clear hb2 HR1 HRI HB1
    cases RHV with
    | false =>
      go_wp2
      go_ret
      exact ⟨rfl, HB2.out⟩
    | true =>
      obtain ⟨hkn, hh100⟩ := HKN.out rfl
      have HK := Lib.hid hkn
      have HZ : Hid (Hd Buf w w2.heap.size [] h s (w2.alloc (.cells #[.slice none 0 0] 28))) := Hd.zero HS HB2.out HHR.out
      clear hkn HKN
      go_wp2_with fail
      generalize (w2.alloc (.cells #[.slice none 0 0] 28)) = w3 at HZ ⊢
      generalize w2.heap.size = K at HZ ⊢
      go_loopg [30] xs.length (fun g i wr => ∃ k : Nat, k ≤ xs.length ∧ xs.length - k ≤ g ∧ i = .int .i64 (k : Int) ∧ (∀ j, j < k → ArgE w (xs.getD j x0E)) ∧ Hd Buf w K (putsM ((xs.take k).map (·.e))) h s wr)
      case atStart => exact ⟨0, Nat.zero_le _, by omega, rfl, fun j hj => by omega, HZ.out⟩
      case round =>
        clear HZ HB2
        obtain ⟨k, hk, hg, rfl, hargs, hhd⟩ := hrel
        have HAG := Lib.hid hargs
        have HHD := Lib.hid hhd
        clear hargs hhd
        by_cases hlt : k < xs.length
        · have hkl : (k : Int) < (xs.length : Int) := by omega
          have HBW := Lib.hid (HHD.out.base)
          have HNX := Lib.hid (puts_next xs hlt (by omega))
          have hin := HAR.out.each _ (getD_mem x0E hlt)
          have HIN := Lib.hid hin
          have HGD : Hid (goodE (xs.getD k x0E).e = true → ArgE w (xs.getD k x0E)) := arg_good hin
          have HSM : Hid (∀ W, Below w.heap.size w W → Calls Try.prog 7 #[ev (xs.getD k x0E).e (xs.getD k x0E).p (xs.getD k x0E).c (xs.getD k x0E).q (xs.getD k x0E).d] W fun r w' => r = .returned (.bool (goodE (xs.getD k x0E).e)) ∧ Below W.heap.size W w') := fun W hb => ssmall_any _ (xs.getD k x0E).ys _ _ _ _ W (hin.row.below hb) (hin.txn.below hb) (HAR.out.ops _ (getD_mem x0E hlt)) (HAR.out.size _ (getD_mem x0E hlt))
          have HPT : Hid (goodE (xs.getD k x0E).e = true → ∀ W, Hd Buf w K (putsM ((xs.take k).map (·.e))) h s W → Calls Try.prog 8 #[.pointer (some ⟨K, 0, none⟩), ev (xs.getD k x0E).e (xs.getD k x0E).p (xs.getD k x0E).c (xs.getD k x0E).q (xs.getD k x0E).d] W fun r w' => r = .returned (.tuple #[.bool (putOK (putsM ((xs.take k).map (·.e))) (xs.getD k x0E).e), .int .i64 (putErr (putsM ((xs.take k).map (·.e))) (xs.getD k x0E).e)]) ∧ Hd Buf w K (putsM ((xs.take (k + 1)).map (·.e))) h s w') := fun hg W hW => by
            have := hW.put HS (arg_good hin hg)
            rw [HNX.out] at this
            exact this
          have HAN : Hid (goodE (xs.getD k x0E).e = true → ∀ j, j < k + 1 → ArgE w (xs.getD j x0E)) := fun hg j hj => by
            by_cases e : j = k
            · subst e; exact HGD.out hg
            · exact HAG.out j (by omega)
          obtain ⟨b, o, rfl, c0, c1, c2, c3, c4, c5⟩ := erow_at (HAR.out.row.below HBW.out) hlt
          clear hin HIN HGD HNX
          generalize putOK (putsM ((xs.take k).map (·.e))) (xs.getD k x0E).e = PO at HPT
          generalize putErr (putsM ((xs.take k).map (·.e))) (xs.getD k x0E).e = PE at HPT
          unfold ev at HSM HPT
          generalize goodE (xs.getD k x0E).e = GV at HSM HPT HAN
          generalize xs.getD k x0E = X1 at c0 c1 c2 c3 c4 c5 HSM HPT
          obtain ⟨⟨xd, ⟨xr, xq, xc, xu, xo⟩⟩, xys, xp, xcc, xqq, xdd⟩ := X1
          simp only at c0 c1 c2 c3 c4 c5 HSM HPT
          have HBX : Hid (Below wr.heap.size wr (wr.alloc (.cells #[.slice xp xd.length xcc, .int .u16 xr, .int .u32 xq, .int .u64 xc, .int .i64 xu, .slice xqq xo.length xdd] 36))) := below_alloc (Below.refl _ _) _
          have HZX := Lib.hid (heap_alloc_new wr (.cells #[.slice xp xd.length xcc, .int .u16 xr, .int .u32 xq, .int .u64 xc, .int .i64 xu, .slice xqq xo.length xdd] 36))
          have HSW := Lib.hid (HSM.out _ (below_step HBW.out HBX.out))
          have HH2 := Lib.hid (HHD.out.below HS HBX.out)
          clear HSM HHD HBW HAG
          go_wp2_with fail
          refine HSW.out.mono ?_
          rintro r w4 ⟨rfl, hb4⟩
          obtain ⟨y0, y1, y2, y3, y4, y5⟩ := six_cells (kept_box HZX.out hb4)
          have HH4 := Lib.hid (HH2.out.below HS hb4)
          clear hb4 HSW HH2 HZX HBX c0 c1 c2 c3 c4 c5
          cases GV with
          | false =>
            have HB4 := Lib.hid HH4.out.base
            go_wp2
            go_ret
            exact ⟨rfl, HB4.out⟩
          | true =>
            have HP4 := Lib.hid (HPT.out rfl w4 HH4.out)
            have HA4 := Lib.hid (HAN.out rfl)
            clear HPT HAN HH4
            go_wp2_with fail
            refine HP4.out.mono ?_
            rintro r w5 ⟨rfl, hh5⟩
            have HH5 := Lib.hid hh5
            clear hh5 HP4
            go_wp2
            go_roundg (xs.length - (k + 1))
            case measure => omega
            case rel => exact ⟨k + 1, by omega, Nat.le_refl _, by go_num, HA4.out, HH5.out⟩
        · have : k = xs.length := by omega
          subst this
          have hkl : ¬ (xs.length : Int) < (xs.length : Int) := by omega
          rw [List.take_length] at HHD
          have hfair : ∀ y ∈ putsM (xs.map (·.e)), FairE y ∧ y.deps.length ≤ 100 := fun y hy => by
            have h1 := (puts_ok (xs.map (·.e)) xs.length (by rw [List.length_map]; omega))
            rw [show (xs.map (·.e)).take xs.length = xs.map (·.e) from List.take_of_length_le (by rw [List.length_map]; omega)] at h1
            obtain ⟨x, hx, rfl⟩ := List.mem_map.1 (h1.sub y hy)
            obtain ⟨i, hi, rfl⟩ := mem_getD x0E hx
            have := HAG.out i hi
            exact ⟨this.fair, this.deps⟩
          have hblen : (putsM (xs.map (·.e))).length ≤ xs.length := by
            have h1 := (puts_ok (xs.map (·.e)) xs.length (by rw [List.length_map]; omega)).len
            rw [show (xs.map (·.e)).take xs.length = xs.map (·.e) from List.take_of_length_le (by rw [List.length_map]; omega), List.length_map] at h1
            exact h1
          have hok : PutsOK (xs.map (·.e)) (putsM (xs.map (·.e))) := by
            have h1 := (puts_ok (xs.map (·.e)) xs.length (by rw [List.length_map]; omega))
            rw [show (xs.map (·.e)).take xs.length = xs.map (·.e) from List.take_of_length_le (by rw [List.length_map]; omega)] at h1
            exact h1
          generalize putsM (xs.map (·.e)) = B0 at HHD hfair hblen hok
          have HFA := Lib.hid hfair
          have HBW := Lib.hid HHD.out.base
          have HV := Lib.hid (svec_any h s f wr HHD.out.row hhl)
          have HOK : Hid (PutsOK (xs.map (·.e)) B0) := hok
          clear hfair hok
          unfold MadeD at HV
          go_wp2_with fail
          refine HV.out.mono ?_
          rintro r w4 ⟨p4, c4, rfl, hr4, hk4, hb4⟩
          have HH4 := Lib.hid ((HHD.out.below HS hb4).two HS hr4 hk4)
          clear hr4 hk4 hb4 HV HHD
          go_wp2_with fail
          have hh100' : h.length ≤ 100 := hh100
          go_loopg [8, 9, 46] (xs.length + 1) (fun g u v i wr => ∃ (k : Nat) (l : List Em) (hn : List Vec.En) (t' : Option Addr) (c' : Nat) (s' : Option Addr) (f' : Nat), k ≤ xs.length ∧ xs.length + 1 - k ≤ g ∧ i = .int .i64 (k : Int) ∧ u = .slice t' hn.length c' ∧ v = .slice s' hn.length f' ∧ (∀ x ∈ l, x ∈ B0) ∧ l.length + k ≤ xs.length ∧ hn.length ≤ 100 + k ∧ Known hn s' f' ∧ Hd2 Buf w K l hn s' t' wr)
          case atStart => exact ⟨0, B0, h, p4, c4, s, f, Nat.zero_le _, by omega, rfl, rfl, rfl, fun x hx => hx, by omega, by omega, HK.out, HH4.out⟩
          case round =>
            clear HH4 HK hh100 hh100' hlt hg hk
            obtain ⟨k, l, hn, t', c', s', f', hk3, hg3, rfl, rfl, rfl, hsub, hll, hhn, hkn, hhd⟩ := hrel
            have HSB := Lib.hid hsub
            have HKN := Lib.hid hkn
            have HHD := Lib.hid hhd
            clear hsub hkn hhd
            have hkl3 : (k : Int) < (xs.length : Int) + 1 := by omega
            have HT := Lib.hid (HHD.out.take HS HKN.out)
            clear HHD
            go_wp2_with fail
            refine HT.out.mono ?_
            rintro r w7 (⟨i, hi, ⟨e, ys, p7, c7, q7, d7, he, rfl, hin, hsm, hys⟩, hh7⟩ | ⟨hn0, ⟨e, p7, c7, q7, d7, he1, he2, rfl⟩, hh7⟩)
            · obtain ⟨hil, hir⟩ := readyM_some hi
              have hle : l[i] = e := by rw [List.getElem?_eq_getElem hil] at he; exact Option.some.inj he
              rw [hle] at hir
              have hfe2 := HFA.out e (HSB.out e (by rw [← hle]; exact List.getElem_mem hil))
              have hfe := hfe2.1
              have HSB2 : Hid (∀ x ∈ withoutM l i, x ∈ B0) := fun x hx => HSB.out x (withoutM_mem hx)
              have hwl := withoutM_len hil
              have hsq := hfe.seq
              have hol : e.txn.ops.length ≤ 40 := by rw [hin.txn.ops, List.length_map]; exact hys
              have HEN : Hid (∀ W, Below w7.heap.size w7 W → Calls Try.prog 11 #[ev e p7 c7 q7 d7] W (MadeEK e W)) := fun W hb => senv_any e ys p7 q7 c7 d7 W (hin.row.below hb) (by omega) (hin.txn.rows.below hb) (by omega) (fun y hy => by have := (hsm y hy).2; omega)
              have HRE : Hid (∀ W p2 c2 q2 d2, Below w7.heap.size w7 W → Vec.Row W p2 e.deps → Calls Try.prog 12 #[ev e p2 c2 q2 d2, .slice t' hn.length c'] W fun r w' => r = .returned (.bool true) ∧ Below W.heap.size W w') := fun W p2 c2 q2 d2 hb h2 => by
                have := refreadyE_any e hn p2 q2 t' c2 d2 c' W h2 (hh7.row2.below hb) (by omega) (by omega) HKN.out.fits hfe.deps HKN.out.right
                rw [hir] at this
                exact this
              have HRW : Hid (∀ W, Below w7.heap.size w7 W → Calls Try.prog 13 #[.slice t' hn.length c', .int .u16 e.txn.r, .int .u32 e.txn.seq] W (Vec.GaveK 79 W (Vec.withL hn e.txn.r e.txn.seq))) := fun W hb => Vec.refwith_kind hn _ _ t' c' W (hh7.row2.below hb) (by omega)
              have HWI : Hid (∀ W, Below w7.heap.size w7 W → Calls Try.prog 14 #[.slice s' hn.length f', .int .u16 e.txn.r, .int .u32 e.txn.seq] W (Vec.GaveK 78 W (Vec.withL hn e.txn.r e.txn.seq))) := fun W hb => Vec.with_kind hn _ _ s' f' W (hh7.one.row.below hb) (Vec.srt_of_right HKN.out.right) (by omega) HKN.out.cap HKN.out.nil
              have hw2 := Vec.withL_le hn e.txn.r e.txn.seq
              have HKW : Hid (∀ s2 f2, (Vec.withL hn e.txn.r e.txn.seq).length ≤ f2 → (s2 = none → f2 = 0) → Known (Vec.withL hn e.txn.r e.txn.seq) s2 f2) := fun s2 f2 h1 h2 => HKN.out.with ⟨hfe.r0, hfe.r1⟩ hsq.2 (by omega) h1 h2
              have HH7 := Lib.hid hh7.one
              generalize Vec.withL hn e.txn.r e.txn.seq = HN at HWI HRW HKW hw2
              generalize withoutM l i = L2 at HSB2 hwl HH7
              clear hi he hle hir hfe hfe2 hsq hh7 HT HKN HSB hin hsm hys hol
              unfold MadeEK at HEN
              unfold ev at HEN HRE ⊢
              obtain ⟨ed, ⟨er, es, ec, eu, eo⟩⟩ := e
              simp only at HWI HRW HEN HRE
              have HBX : Hid (Below w7.heap.size w7 (w7.alloc (.cells #[.slice p7 ed.length c7, .int .u16 er, .int .u32 es, .int .u64 ec, .int .i64 eu, .slice q7 eo.length d7] 36))) := below_alloc (Below.refl _ _) _
              have HZX := Lib.hid (heap_alloc_new w7 (.cells #[.slice p7 ed.length c7, .int .u16 er, .int .u32 es, .int .u64 ec, .int .i64 eu, .slice q7 eo.length d7] 36))
              obtain ⟨y0, y1, y2, y3, y4, y5⟩ := six_cells HZX.out
              go_wp2_with fail
              refine (HEN.out _ HBX.out).mono ?_
              rintro r w8 ⟨us, p8, c8, q8, d8, rfl, hr8, -, -, hb8, -, -⟩
              have HR8 := Lib.hid hr8
              have HB8 := Lib.hid (below_step HBX.out hb8)
              have HZ8 := Lib.hid (kept_box HZX.out hb8)
              have HBY : Hid (Below w8.heap.size w8 (w8.alloc (.cells #[.slice p8 ed.length c8, .int .u16 er, .int .u32 es, .int .u64 ec, .int .i64 eu, .slice q8 eo.length d8] 49))) := below_alloc (Below.refl _ _) _
              have HZY := Lib.hid (heap_alloc_new w8 (.cells #[.slice p8 ed.length c8, .int .u16 er, .int .u32 es, .int .u64 ec, .int .i64 eu, .slice q8 eo.length d8] 49))
              clear hr8 hb8 HEN HZX HBX y0 y1 y2 y3 y4 y5
              obtain ⟨y0, y1, y2, y3, y4, y5⟩ := six_cells HZY.out
              go_wp2_with fail
              refine (HRE.out _ p8 c8 q8 d8 (below_step HB8.out HBY.out) (HR8.out.below HBY.out)).mono ?_
              rintro r w9 ⟨rfl, hb9⟩
              have HB9 := Lib.hid (below_step (below_step HB8.out HBY.out) hb9)
              have HZ9 := Lib.hid (kept_box (kept_box HZ8.out HBY.out) hb9)
              have HZZ := Lib.hid (kept_box HZY.out hb9)
              clear hb9 HRE HR8 HBY HZY HZ8 HB8 y0 y1 y2 y3 y4 y5
              obtain ⟨y0, y1, y2, y3, y4, y5⟩ := six_cells HZZ.out
              go_wp2_with fail
              refine (HRW.out _ HB9.out).mono ?_
              rintro r w10 ⟨t2, g2, rfl, hr10, -, -, hk10, hb10⟩
              have HR10 := Lib.hid hr10
              have HK10 := Lib.hid hk10
              have HB10 := Lib.hid (below_step HB9.out hb10)
              have HZ10 := Lib.hid (kept_box HZ9.out hb10)
              clear hr10 hk10 hb10 HRW HZ9 HZZ HB9 y0 y1 y2 y3 y4 y5
              obtain ⟨y0, y1, y2, y3, y4, y5⟩ := six_cells HZ10.out
              go_wp2_with fail
              refine (HWI.out _ HB10.out).mono ?_
              rintro r w11 ⟨s2, f2, rfl, hr11, hc11, hn11, hk11, hb11⟩
              have HB11 := Lib.hid (below_step HB10.out hb11)
              have HH11 := Lib.hid (((HH7.out.below HS HB11.out).swap HS hr11 hk11).two HS (HR10.out.below hb11) (HK10.out.below hb11))
              have HK11 := Lib.hid (HKW.out s2 f2 hc11 hn11)
              clear hr11 hc11 hn11 hk11 hb11 HWI HKW HH7 HB11 HR10 HK10 HZ10 y0 y1 y2 y3 y4 y5
              go_wp2
              go_roundg (xs.length + 1 - (k + 1))
              case measure => omega
              case rel => exact ⟨k + 1, L2, HN, t2, g2, s2, f2, by omega, by omega, by go_num, rfl, rfl, HSB2.out, by omega, by omega, HK11.out, HH11.out⟩
            · unfold ev
              obtain ⟨ed, ⟨er, es, ec, eu, eo⟩⟩ := e
              have HHX := Lib.hid (hh7.below HS (below_alloc (Below.refl _ _) (.cells #[.slice p7 ed.length c7, .int .u16 er, .int .u32 es, .int .u64 ec, .int .i64 eu, .slice q7 eo.length d7] 36)))
              have HNO : Hid (∀ y ∈ l, readyE y hn = false) := readyM_none hn0
              clear hn0 he1 he2 hh7 HT
              have HNM := Lib.hid (HHX.out.one.names HS)
              go_wp2_with fail
              refine HNM.out.mono ?_
              rintro r w8 ⟨p8, c8, rfl, hr8, hb8⟩
              have HN8 := Lib.hid hr8
              have HH8 := Lib.hid (HHX.out.below HS hb8)
              have HB8 := Lib.hid HH8.out.one.base
              clear hr8 hb8 HHX HNM
              have HEN : Hid (∀ k, k < xs.length → ∀ W, Below w.heap.size w W → Calls Try.prog 11 #[ev (xs.getD k x0E).e (xs.getD k x0E).p (xs.getD k x0E).c (xs.getD k x0E).q (xs.getD k x0E).d] W (MadeEK (xs.getD k x0E).e W)) := fun k hk W hb => by
                have ha := HAG.out k hk
                exact senv_any _ (xs.getD k x0E).ys _ _ _ _ W (ha.into.row.below hb) (by have := ha.deps; omega) (ha.into.txn.rows.below hb) (by have := ha.len; omega) (fun y hy => by have := (ha.small y hy).2; omega)
              have HRE : Hid (∀ k, k < xs.length → ∀ W p2 c2 q2 d2, Below w8.heap.size w8 W → Vec.Row W p2 (xs.getD k x0E).e.deps → Calls Try.prog 12 #[ev (xs.getD k x0E).e p2 c2 q2 d2, .slice t' hn.length c'] W fun r w' => r = .returned (.bool (readyE (xs.getD k x0E).e hn)) ∧ Below W.heap.size W w') := fun k hk W p2 c2 q2 d2 hb h2 => refreadyE_any _ hn p2 q2 t' c2 d2 c' W h2 (HH8.out.row2.below hb) (by omega) (by have := (HAG.out k hk).deps; omega) HKN.out.fits (HAG.out k hk).into.fits HKN.out.right
              have HFI : Hid (∀ k, k < xs.length → readyE (xs.getD k x0E).e hn = true → ∀ y ∈ l, y.txn.r = (xs.getD k x0E).e.txn.r → y.txn.seq = (xs.getD k x0E).e.txn.seq → ∀ W, Below w.heap.size w W → Calls Try.prog 17 #[.slice p xs.length c, ev (xs.getD k x0E).e (xs.getD k x0E).p (xs.getD k x0E).c (xs.getD k x0E).q (xs.getD k x0E).d] W fun r w' => r = .returned (.bool false) ∧ Below W.heap.size W w') := fun k hk hr y hy h1 h2 W hb => by
                have hax : ∀ z ∈ xs, ArgE W z := fun z hz => by
                  obtain ⟨i, hi, rfl⟩ := mem_getD x0E hz
                  exact (HAG.out i hi).below hb
                refine (first_any HID xs (xs.getD k x0E) p c W (HAR.out.row.below hb) (by omega) hax ((HAG.out k hk).below hb)).mono ?_
                rintro r w' ⟨v, rfl, hv, hb'⟩
                cases v with
                | false => exact ⟨rfl, hb'⟩
                | true => exact absurd (hv.1 rfl) (no_first HOK.out (HSB.out y hy) h1 h2 (HNO.out y hy) hr)
              have HIDA : Hid (∀ a b c d p l n W, Calls Try.prog 16 #[.agg #[.int .u16 a, .int .u32 b, .int .u64 c, .int .i64 d, .slice p l n]] W fun r w' => r = .returned (.agg #[.int .u16 a, .int .u32 b]) ∧ Below W.heap.size W w') := fun a b c d p l n W => by
                have := HID ⟨a, b, c, d, List.replicate l ⟨0, 0, 0, 0, [], [], 0⟩⟩ p n W
                unfold tv at this
                simp only [List.length_replicate] at this
                exact this
              have HSV : Hid (∀ W, Below w8.heap.size w8 W → Calls Try.prog 18 #[.slice s' hn.length f', .slice t' hn.length c'] W fun r w' => r = .returned (.bool true) ∧ Below W.heap.size W w') := fun W hb => by
                have := Vec.svsame_any hn hn s' t' f' c' W (HH8.out.one.row.below hb) (HH8.out.row2.below hb) (by omega)
                rw [decide_eq_true (rfl : hn = hn)] at this
                exact this
              clear HKN HH8 HFA HOK HSB HNO HAG
              go_wp2_with fail
              go_loopg [81] xs.length (fun g i wr => ∃ k : Nat, k ≤ xs.length ∧ xs.length - k ≤ g ∧ i = .int .i64 (k : Int) ∧ Below w8.heap.size w8 wr)
              case atStart => exact ⟨0, Nat.zero_le _, by omega, rfl, Below.refl _ _⟩
              case round =>
                have hnl : (namesM l).length ≤ 60 := by unfold namesM; rw [List.length_map]; omega
                clear hk3 hg3 hkl3 hll
                obtain ⟨k, hk, hg, rfl, hb⟩ := hrel
                have HB := Lib.hid hb
                clear hb
                by_cases hlt : k < xs.length
                · have hkl : (k : Int) < (xs.length : Int) := by omega
                  have HBW := Lib.hid (below_step HB8.out HB.out)
                  obtain ⟨b, o, rfl, c0, c1, c2, c3, c4', c5⟩ := erow_at (HAR.out.row.below HBW.out) hlt
                  have HE1 := Lib.hid (HEN.out k hlt)
                  have HR1 := Lib.hid (HRE.out k hlt)
                  have HF1 := Lib.hid (HFI.out k hlt)
                  generalize readyE (xs.getD k x0E).e hn = RV at HR1 HF1
                  generalize xs.getD k x0E = X1 at c0 c1 c2 c3 c4' c5 HE1 HR1 HF1
                  unfold MadeEK at HE1
                  unfold ev at HE1 HR1 HF1
                  obtain ⟨⟨xd, ⟨xr, xq, xc, xu, xo⟩⟩, xys, xp, xcc, xqq, xdd⟩ := X1
                  simp only at c0 c1 c2 c3 c4' c5 HE1 HR1 HF1
                  have HBX : Hid (Below wr.heap.size wr (wr.alloc (.cells #[.slice xp xd.length xcc, .int .u16 xr, .int .u32 xq, .int .u64 xc, .int .i64 xu, .slice xqq xo.length xdd] 36))) := below_alloc (Below.refl _ _) _
                  have HZX := Lib.hid (heap_alloc_new wr (.cells #[.slice xp xd.length xcc, .int .u16 xr, .int .u32 xq, .int .u64 xc, .int .i64 xu, .slice xqq xo.length xdd] 36))
                  obtain ⟨y0, y1, y2, y3, y4, y5⟩ := six_cells HZX.out
                  go_wp2_with fail
                  refine (HE1.out _ (below_step HBW.out HBX.out)).mono ?_
                  rintro r w9 ⟨us, p9, c9, q9, d9, rfl, hr9, -, -, hb9, -, -⟩
                  have HR9 := Lib.hid hr9
                  have HB9 := Lib.hid (below_step HB.out (below_step HBX.out hb9))
                  have HZ9 := Lib.hid (kept_box HZX.out hb9)
                  clear hr9 hb9 HE1 HZX HBX y0 y1 y2 y3 y4 y5 c0 c1 c2 c3 c4' c5
                  go_wp2_with fail
                  refine (HR1.out _ p9 c9 q9 d9 HB9.out HR9.out).mono ?_
                  rintro r w10 ⟨rfl, hb10⟩
                  have HB10 := Lib.hid (below_step HB9.out hb10)
                  have HZ10 := Lib.hid (kept_box HZ9.out hb10)
                  clear hb10 HR1 HR9 HZ9 HB9
                  cases RV with
                  | false =>
                    go_wp2
                    go_roundg (xs.length - (k + 1))
                    case measure => omega
                    case rel => exact ⟨k + 1, by omega, Nat.le_refl _, by go_num, HB10.out⟩
                  | true =>
                    go_wp2_with fail
                    generalize wr.heap.size = ZB at HZ10 ⊢
                    go_loopg [91] (namesM l).length (fun g i wr => ∃ k2 : Nat, k2 ≤ (namesM l).length ∧ (namesM l).length - k2 ≤ g ∧ i = .int .i64 (k2 : Int) ∧ Below w10.heap.size w10 wr)
                    case atStart => exact ⟨0, Nat.zero_le _, by omega, rfl, Below.refl _ _⟩
                    case round =>
                      obtain ⟨k2, hk2, hg2, rfl, hb⟩ := hrel
                      have HB2 := Lib.hid hb
                      clear hb
                      by_cases hlt2 : k2 < (namesM l).length
                      · have hkl2 : (k2 : Int) < ((namesM l).length : Int) := by omega
                        obtain ⟨y, hy, hye⟩ := names_in l hlt2
                        obtain ⟨bn, on, rfl, n0, n1⟩ := (HN8.out.below (below_step HB10.out HB2.out)) k2 hlt2
                        rw [hye] at n0 n1
                        simp only at n0 n1
                        have HFY := Lib.hid (HF1.out trivial y hy)
                        generalize y.txn.r = yr at n0 HFY
                        generalize y.txn.seq = yq at n1 HFY
                        clear hye hy
                        have HBX : Hid (Below wr.heap.size wr (wr.alloc (.cells #[.int .u16 yr, .int .u32 yq] 57))) := below_alloc (Below.refl _ _) _
                        have HUX := Lib.hid (heap_alloc_new wr (.cells #[.int .u16 yr, .int .u32 yq] 57))
                        have HZ11 := Lib.hid (kept_box (kept_box HZ10.out HB2.out) HBX.out)
                        go_wp2_with fail
                        generalize (wr.alloc (.cells #[.int .u16 yr, .int .u32 yq] 57)) = w11 at HBX HUX HZ11 ⊢
                        have HB11 := Lib.hid (below_step HB2.out HBX.out)
                        have HBW11 := Lib.hid (below_step HB8.out (below_step HB10.out HB11.out))
                        obtain ⟨z0', z1', z2', z3', z4', z5'⟩ := six_cells HZ11.out
                        obtain ⟨u0', u1'⟩ := two_cells HUX.out
                        have z0 := cell_regrown z0'
                        have z1 := cell_regrown z1'
                        have z2 := cell_regrown z2'
                        have z3 := cell_regrown z3'
                        have z4 := cell_regrown z4'
                        have z5 := cell_regrown z5'
                        have u0 := cell_regrown u0'
                        have u1 := cell_regrown u1'
                        clear z0' z1' z2' z3' z4' z5' u0' u1' n0 n1 HZ11 HUX HBX
                        by_cases h1 : yr = xr
                        · subst h1
                          by_cases h2 : yq = xq
                          · subst h2
                            have HFR : Hid (∀ dd os, Calls Try.prog 17 #[.slice (some ⟨b, o, none⟩) xs.length c, .agg #[.slice xp xd.length xcc, .int .u16 yr, .int .u32 yq, .int .u64 xc, .int .i64 xu, .slice xqq xo.length xdd]] (Go.Sort.grow (redrawn w11 dd) os) fun r w' => r = .returned (.bool false) ∧ Below (Go.Sort.grow (redrawn w11 dd) os).heap.size (Go.Sort.grow (redrawn w11 dd) os) w') := fun dd os => HFY.out (by first | rfl | trivial) (by first | rfl | trivial) _ (below_step HBW11.out (below_regrown _ _ _))
                            clear HFY
                            refine wp_region_quiet_below (by kernel_rfl) (by kernel_rfl) ?_
                            repeat (first | go_big_quiet_step (first | (go_at_call 16; exact Calls.regrown_of (HIDA.out _ _ _ _ _ _ _ _)) | (go_at_call 17; exact Calls.regrown_of (HFR.out _ _))) | quiet_step (first | (go_at_call 16; exact Calls.regrown_of (HIDA.out _ _ _ _ _ _ _ _)) | (go_at_call 17; exact Calls.regrown_of (HFR.out _ _))))
                            refine wpQuiet_nil ?_
                            intro w12 hw'
                            have hb13 : Below w11.heap.size w11 w12 := by obtain ⟨⟨dq, osq⟩, rfl⟩ := hw'; exact below_regrown _ _ _
                            have HB12 := Lib.hid (below_step HB11.out hb13)
                            clear hw' hb13 z0 z1 z2 z3 z4 z5 u0 u1
                            go_wp2
                            go_roundg ((namesM l).length - (k2 + 1))
                            case measure => omega
                            case rel => exact ⟨k2 + 1, by omega, Nat.le_refl _, by go_num, HB12.out⟩
                          · have t2 : (yq == xq) = false := beq_no h2
                            clear HFY
                            refine wp_region_quiet_below (by kernel_rfl) (by kernel_rfl) ?_
                            repeat (first | go_big_quiet_step ((go_at_call 16; exact Calls.regrown_of (HIDA.out _ _ _ _ _ _ _ _))) | quiet_step ((go_at_call 16; exact Calls.regrown_of (HIDA.out _ _ _ _ _ _ _ _))))
                            refine wpQuiet_nil ?_
                            intro w12 hw'
                            have hb13 : Below w11.heap.size w11 w12 := by obtain ⟨⟨dq, osq⟩, rfl⟩ := hw'; exact below_regrown _ _ _
                            have HB12 := Lib.hid (below_step HB11.out hb13)
                            clear hw' hb13 z0 z1 z2 z3 z4 z5 u0 u1
                            go_wp2
                            go_roundg ((namesM l).length - (k2 + 1))
                            case measure => omega
                            case rel => exact ⟨k2 + 1, by omega, Nat.le_refl _, by go_num, HB12.out⟩
                        · have t1 : (yr == xr) = false := beq_no h1
                          clear HFY
                          refine wp_region_quiet_below (by kernel_rfl) (by kernel_rfl) ?_
                          repeat (first | go_big_quiet_step ((go_at_call 16; exact Calls.regrown_of (HIDA.out _ _ _ _ _ _ _ _))) | quiet_step ((go_at_call 16; exact Calls.regrown_of (HIDA.out _ _ _ _ _ _ _ _))))
                          refine wpQuiet_nil ?_
                          intro w12 hw'
                          have hb13 : Below w11.heap.size w11 w12 := by obtain ⟨⟨dq, osq⟩, rfl⟩ := hw'; exact below_regrown _ _ _
                          have HB12 := Lib.hid (below_step HB11.out hb13)
                          clear hw' hb13 z0 z1 z2 z3 z4 z5 u0 u1
                          go_wp2
                          go_roundg ((namesM l).length - (k2 + 1))
                          case measure => omega
                          case rel => exact ⟨k2 + 1, by omega, Nat.le_refl _, by go_num, HB12.out⟩
                      · have : k2 = (namesM l).length := by omega
                        subst this
                        have hkl2 : ¬ ((namesM l).length : Int) < ((namesM l).length : Int) := by omega
                        go_wp2
                        go_roundg (xs.length - (k + 1))
                        case measure => omega
                        case rel => exact ⟨k + 1, by omega, Nat.le_refl _, by go_num, below_step HB10.out HB2.out⟩
                · have : k = xs.length := by omega
                  subst this
                  have hkl : ¬ (xs.length : Int) < (xs.length : Int) := by omega
                  have HS1 := Lib.hid (HSV.out wr HB.out)
                  go_wp2_with fail
                  refine HS1.out.mono ?_
                  rintro r w9 ⟨rfl, hb9⟩
                  have HB9 := Lib.hid (below_step (below_step HB8.out HB.out) hb9)
                  clear hb9 HS1
                  go_wp2
                  go_ret
                  exact ⟨rfl, HB9.out⟩
end Go.Proofs.Ytjkdcpalgfakhaa
