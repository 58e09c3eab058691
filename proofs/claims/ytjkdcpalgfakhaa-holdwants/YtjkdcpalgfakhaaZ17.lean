/-
  Several texts of one proof, joined: each part says at its head what it proves. No conditions beyond what each theorem states.
-/
import Derived.Deep.RegionLaw
import Derived.Shelf.SlSortCmp.WholeK
import Derived.Lib.QuietBelow
import Derived.Test.YtjkdcpalgfakhaaZ16
import Derived.Test.YtjkdcpalgfakhaaZ07
import Derived.Test.YtjkdcpalgfakhaaZ13
import Derived.Test.YtjkdcpalgfakhaaZ12
import Derived.Test.YtjkdcpalgfakhaaZ09
import Derived.Test.YtjkdcpalgfakhaaZ04
import Derived.Test.YtjkdcpalgfakhaaZ02
import Derived.Test.YtjkdcpalgfakhaaZ03
import Derived.Test.YtjkdcpalgfakhaaZ15
import Derived.Test.YtjkdcpalgfakhaaZ11
import Derived.Test.YtjkdcpalgfakhaaProg
/-
  A buffer's memory; what Len, Names and Wants hand back. No conditions beyond what each theorem states.
-/
namespace Go.Proofs.Ytjkdcpalgfakhaa
open Go.ChangeShapes Go.WideShapes Go.ChangeAt Go.RowKit Go.Lib
set_option linter.unusedVariables false
set_option linter.unusedSimpArgs false

/-- A buffer at block K, which writes the blocks of S alone, and holds es behind p. -/
structure BufJ (S : Nat → Prop) (K : Nat) (es : List EV) (p : Option Addr) (c : Nat) (w : World) : Prop where
  head : w.heap[K]? = some (.cells #[.slice p es.length c] 28 (0, 0))
  room : RoomE layE w p c es
  own : ∀ k, S k ↔ (k = K ∨ ∃ a, p = some a ∧ k = a.block)
  srt : SrtE es
  len : es.length ≤ 64
  each : ∀ x ∈ es, ArgE w x ∧ KindX w x.ys x.p x.q
/-- .. and these are the envelopes. -/
def Bufr (S : Nat → Prop) (K : Nat) (l : List Em) (w : World) : Prop := ∃ es p c, l = es.map (·.e) ∧ BufJ S K es p c w
section
variable {S : Nat → Prop} {K : Nat} {es : List EV} {p : Option Addr} {c : Nat} {w w' : World}
theorem BufJ.below (h : BufJ S K es p c w) (hb : Below w.heap.size w w') : BufJ S K es p c w' :=
  ⟨kept_box h.head hb, h.room.below hb, h.own, h.srt, h.len, fun x hx => ⟨(h.each x hx).1.below hb, (h.each x hx).2.below hb⟩⟩
/-- The kinds of a buffer's blocks. -/
theorem BufJ.kinds (h : BufJ S K es p c w) : ∀ k, S k → ∃ cs t f, w.heap[k]? = some (.cells cs t f) ∧ (t = 28 ∨ t = 36) := fun k hk => by
  rcases (h.own k).1 hk with rfl | ⟨a, e, rfl⟩
  · exact ⟨_, _, _, h.head, Or.inl rfl⟩
  · rcases h.room.block with ⟨e2, -⟩ | ⟨B, rest, e2, h3, -⟩
    · rw [e] at e2; cases e2
    · rw [e] at e2
      cases e2
      exact ⟨_, _, _, h3, Or.inr rfl⟩
theorem BufJ.others (h : BufJ S K es p c w) : Others S w := fun k hk cs t f hh => by
  obtain ⟨cs', t', f', h1, h2⟩ := h.kinds k hk
  rw [h1] at hh
  simp only [Option.some.injEq, Obj.cells.injEq] at hh
  rw [← hh.2.1]
  rcases h2 with rfl | rfl
  · exact ⟨by decide, by decide, by decide, by decide, by decide⟩
  · exact ⟨by decide, by decide, by decide, by decide, by decide⟩
theorem BufJ.othersX (h : BufJ S K es p c w) : OthersX S w := fun k hk cs t f hh => by
  obtain ⟨cs', t', f', h1, h2⟩ := h.kinds k hk
  rw [h1] at hh
  simp only [Option.some.injEq, Obj.cells.injEq] at hh
  rw [← hh.2.1]
  rcases h2 with rfl | rfl
  · exact ⟨by decide, by decide, by decide⟩
  · exact ⟨by decide, by decide, by decide⟩
theorem BufJ.gap (h : BufJ S K es p c w) {q : Option Addr} (hk : KindAt 65 w q) : ∀ r, q = some r → ¬ S r.block := fun r e hs => by
  obtain ⟨cs, f, hq⟩ := hk r e
  obtain ⟨cs', t', f', h1, h2⟩ := h.kinds _ hs
  rw [hq] at h1
  simp only [Option.some.injEq, Obj.cells.injEq] at h1
  rcases h2 with rfl | rfl
  · exact absurd h1.2.1 (by decide)
  · exact absurd h1.2.1 (by decide)
theorem BufJ.lt (h : BufJ S K es p c w) : ∀ k, S k → k < w.heap.size := fun k hk => by
  obtain ⟨cs, t, f, h1, -⟩ := h.kinds k hk
  exact lt_of_block h1
theorem BufJ.apart (h : BufJ S K es p c w) : ∀ a, p = some a → a.block ≠ K := fun a e he => by
  rcases h.room.block with ⟨e2, -⟩ | ⟨B, rest, e2, h3, -⟩
  · rw [e] at e2; cases e2
  · rw [e] at e2
    cases e2
    simp only at he
    subst he
    have h9 := h.head.symm.trans h3
    simp only [Option.some.injEq, Obj.cells.injEq] at h9
    exact absurd h9.2.1 (by decide)
theorem BufJ.row (h : BufJ S K es p c w) : GRow layE w p es := h.room.row layE_pos
theorem BufJ.cell (h : BufJ S K es p c w) : w.cell? ⟨K, 0, none⟩ = some (.slice p es.length c) := by rw [cell_of_block h.head]; rfl
end
theorem kept_row3 {S : Nat → Prop} {a b : World} {p : Option Addr} {xs : List Vec.Gp} (h : Vec.Row3 a p xs) (hk : Kept S a b) (hn : ∀ q, p = some q → ¬ S q.block) : Vec.Row3 b p xs := fun i hi => by
  obtain ⟨b', o, e, c0, c1, c2⟩ := h i hi
  have hS := hn _ e
  exact ⟨b', o, e, by rw [World.cell?_of_block (w := a) (hk.block _ (block_lt_of_cell c0) hS)]; exact c0, by rw [World.cell?_of_block (w := a) (hk.block _ (block_lt_of_cell c1) hS)]; exact c1, by rw [World.cell?_of_block (w := a) (hk.block _ (block_lt_of_cell c2) hS)]; exact c2⟩
set_option maxHeartbeats 800000 in
theorem len_any {S : Nat → Prop} {K : Nat} {l : List Em} {w : World} (h : Bufr S K l w) : Calls Try.prog 22 #[.pointer (some ⟨K, 0, none⟩)] w fun r w' => r = .returned (.int .i64 (l.length : Int)) ∧ Below w.heap.size w w' := by
  obtain ⟨es, p, c, rfl, hJ⟩ := h
  have c0 := hJ.cell
  rw [List.length_map]
  clear hJ
  go_enter Try.func22, Try.ntmps22
  go_wp2
  go_ret
  exact ⟨rfl, Below.refl _ _⟩
theorem infoID11 : (Try.prog.info? 57).map (fun i => (i.zero, i.size, i.bytes)) = some (some (.agg #[.int .u16 0, .int .u32 0]), 2, 8) := by kernel_rfl
theorem infoV11 : (Try.prog.info? 24).map (fun i => (i.zero, i.size, i.bytes)) = some (some (.slice none 0 0), 1, 24) := by kernel_rfl
theorem names_step (es : List EV) {k : Nat} (h : k < es.length) : namesM ((es.take (k + 1)).map (·.e)) = namesM ((es.take k).map (·.e)) ++ [((es.getD k x0E).e.txn.r, (es.getD k x0E).e.txn.seq)] := by
  unfold namesM
  rw [take_getD x0E h, List.map_append, List.map_append]
  rfl
theorem names_take_len (es : List EV) {k : Nat} (h : k ≤ es.length) : (namesM ((es.take k).map (·.e))).length = k := by
  unfold namesM
  rw [List.length_map, List.length_map, List.length_take]; omega
set_option maxHeartbeats 3200000 in
set_option maxRecDepth 20000 in
theorem bnames_any {S : Nat → Prop} {K : Nat} {l : List Em} {w : World} (h : Bufr S K l w) : Calls Try.prog 15 #[.pointer (some ⟨K, 0, none⟩)] w (Vec.Gave w (namesM l)) := by
  obtain ⟨es, p, c, rfl, hJ⟩ := h
  have c0 := hJ.cell
  have hl := hJ.len
  have HR := Lib.hid hJ.row
  have HIDA : Hid (∀ a b c d p l n W, Calls Try.prog 16 #[.agg #[.int .u16 a, .int .u32 b, .int .u64 c, .int .i64 d, .slice p l n]] W fun r w' => r = .returned (.agg #[.int .u16 a, .int .u32 b]) ∧ Below W.heap.size W w') := fun a b c d p l n W => by
    have := idT_spec ⟨a, b, c, d, List.replicate l ⟨0, 0, 0, 0, [], [], 0⟩⟩ p n W
    unfold tv at this
    simp only [List.length_replicate] at this
    exact this
  obtain ⟨i0, hi, hz0, hz1, hz2⟩ := info_parts infoID11
  clear hJ
  go_enter Try.func15, Try.ntmps15
  go_wp2_with fail
  go_loopg [3, 11] es.length (fun n v i wr => ∃ k : Nat, k ≤ es.length ∧ es.length - k ≤ n ∧ i = .int .i64 (k : Int) ∧ Vec.Holding w 57 v (namesM ((es.take k).map (·.e))) wr)
  case atStart => exact ⟨0, Nat.zero_le _, by omega, rfl, by simpa [namesM] using Vec.Holding.nil w 57⟩
  case round =>
    clear c0
    obtain ⟨k, hk, hg, rfl, hO⟩ := hrel
    have HO := Lib.hid hO
    clear hO
    by_cases hlt : k < es.length
    · have hkl : (k : Int) < (es.length : Int) := by omega
      obtain ⟨o1, o2, rfl, c0, c1, c2, c3, c4, c5⟩ := erow_at (HR.out.below HO.out.2) hlt
      have HNX := Lib.hid (names_step es hlt)
      have hnl := names_take_len es hk
      generalize namesM ((es.take k).map (·.e)) = nn at HO HNX hnl
      generalize xs_def : es.getD k x0E = X1 at c0 c1 c2 c3 c4 c5 HNX
      clear xs_def
      obtain ⟨⟨xd, ⟨xr, xq, xc, xu, xo⟩⟩, xys, xp, xcc, xqq, xdd⟩ := X1
      simp only at c0 c1 c2 c3 c4 c5 HNX
      have HZX := Lib.hid (heap_alloc_new wr (.cells #[.slice xp xd.length xcc, .int .u16 xr, .int .u32 xq, .int .u64 xc, .int .i64 xu, .slice xqq xo.length xdd] 36))
      have HO1 := Lib.hid (HO.out.alloc (.cells #[.slice xp xd.length xcc, .int .u16 xr, .int .u32 xq, .int .u64 xc, .int .i64 xu, .slice xqq xo.length xdd] 36))
      go_wp2_with fail
      generalize (wr.alloc (.cells #[.slice xp xd.length xcc, .int .u16 xr, .int .u32 xq, .int .u64 xc, .int .i64 xu, .slice xqq xo.length xdd] 36)) = w1 at HZX HO1 ⊢
      refine (HIDA.out _ _ _ _ _ _ _ w1).mono ?_
      rintro r w2 ⟨rfl, hb2⟩
      have HO2 : Hid (Vec.Holding w 57 u3 nn w2) := ⟨HO1.out.1.kept (row := none) ⟨hb2.os, hb2.tape, hb2.output, hb2.size, fun k hk _ => hb2.block k hk⟩ (by cases u3.ownBlock <;> simp), below_step HO1.out.2 hb2⟩
      clear hb2 HO HO1 HZX c0 c1 c2 c3 c4 c5
      subst hnl
      go_wp2_with (first
        | (at_builtin; refine wpList_append_own _ rfl (.tmp 15) (.tmp 19) 54 rfl w.heap.size 57 i0 (.agg #[.int .u16 0, .int .u32 0]) 2 8 Try.underlying54 hi hz0 hz1 hz2 rfl (by decide) _ nn.length (Vec.cellsL nn) rfl (HO2.out.alloc _).1 ⟨w2.heap.size, 0, none⟩ 1 1 [.int .u16 xr, .int .u32 xq] rfl rfl (Vec.cells_pair 57 (by simp) (by simp)) (by intro u hu; simp at hu; rcases hu with rfl | rfl <;> rfl) (by unfold maxLen; omega) (by omega) (by have := HO2.out.2.size; simp; omega) ?_))
      intro v' w7 hown hgrow _
      have HO7 : Hid (Vec.Holding w 57 v' (nn ++ [(xr, xq)]) w7) := (HO2.out.alloc _).onto hown hgrow
      clear hown hgrow HO2
      go_wp2
      go_roundg (es.length - (nn.length + 1))
      case measure => omega
      case rel => exact ⟨nn.length + 1, by omega, Nat.le_refl _, by go_num, by rw [HNX.out]; exact HO7.out⟩
    · have : k = es.length := by omega
      subst this
      have hkl : ¬ (es.length : Int) < (es.length : Int) := by omega
      rw [List.take_length] at HO
      obtain ⟨p', c', rfl, hr⟩ := HO.out.gave
      have HG := Lib.hid hr
      clear hr
      go_wp2
      go_ret
      exact ⟨p', c', rfl, HG.out, HO.out.2⟩

/-- What must be known ahead of one, as the program joins it. -/
def aheadL (x : EV) : List Vec.En := Vec.withL x.e.deps x.e.txn.r (x.e.txn.seq - 1)
theorem mem_aheadL {x : EV} (h : FairE x.e) (y : Vec.En) : y ∈ aheadL x ↔ y ∈ needsOf x.e := by
  have h0 := (fitE_ok h.fit).2.1
  have hno : ∀ z ∈ x.e.deps, z.1 ≠ x.e.txn.r := fun z hz he => by
    have := Vec.getL_mem (right_sp h.right) hz
    rw [he, h0] at this
    have := (right_mem h.right z hz).1
    omega
  unfold aheadL needsOf
  constructor
  · intro hy
    rcases mem_with hy with hy | ⟨rfl, hs⟩
    · exact List.mem_append_left _ hy
    · rw [if_pos (by omega)]; simp
  · intro hy
    unfold Vec.withL Vec.lo Vec.hi Vec.mid
    rcases List.mem_append.1 hy with hy | hy
    · have := hno y hy
      rcases Int.lt_or_gt_of_ne this with hlt | hgt
      · exact List.mem_append_left _ (List.mem_append_left _ (List.mem_filter.2 ⟨hy, by simpa using hlt⟩))
      · exact List.mem_append_right _ (List.mem_filter.2 ⟨hy, by simpa using hgt⟩)
    · by_cases hq : 1 < x.e.txn.seq
      · rw [if_pos hq] at hy
        rw [if_pos (by omega)]
        exact List.mem_append_left _ (List.mem_append_right _ hy)
      · rw [if_neg hq] at hy; cases hy
theorem ahead_join {es : List EV} (h : ∀ x ∈ es, FairE x.e) : Vec.IsJoin (es.flatMap aheadL) (allM (es.map (·.e))) := by
  have h1 := allM_join (l := es.map (·.e)) (fun y hy => by
    obtain ⟨x, hx, rfl⟩ := List.mem_map.1 hy
    exact h x hx)
  have key : ∀ y, y ∈ (es.map (·.e)).flatMap needsOf ↔ y ∈ es.flatMap aheadL := fun y => by
    rw [List.mem_flatMap, List.mem_flatMap]
    constructor
    · rintro ⟨e, he, hy⟩
      obtain ⟨x, hx, rfl⟩ := List.mem_map.1 he
      exact ⟨x, hx, (mem_aheadL (h x hx) y).2 hy⟩
    · rintro ⟨x, hx, hy⟩
      exact ⟨x.e, List.mem_map.2 ⟨x, hx, rfl⟩, (mem_aheadL (h x hx) y).1 hy⟩
  exact h1.congr (Vec.Dom.of_sub fun y hy => (key y).1 hy) (Vec.Dom.of_sub fun y hy => (key y).2 hy)
theorem ahead_len {es : List EV} (h : ∀ x ∈ es, x.e.deps.length ≤ 100) : (es.flatMap aheadL).length ≤ 101 * es.length := by
  induction es with
  | nil => simp
  | cons x es ih =>
    have h1 := ih (fun y hy => h y (by simp [hy]))
    have h2 := Vec.withL_le x.e.deps x.e.txn.r (x.e.txn.seq - 1)
    have h3 := h x (by simp)
    rw [List.flatMap_cons, List.length_append, List.length_cons]
    unfold aheadL at h1 ⊢
    omega
/-- Vectors, as a slice of them holds them. -/
def layM : Lay Vec.Mo := ⟨1, fun m => [.slice m.1 m.2.2.length m.2.1], fun _ => rfl, fun m u hu => by
  simp at hu
  rw [hu]; rfl⟩
/-- The vectors that have been made so far. -/
structure AheadJ (w : World) (es : List EV) (v : Value) (k : Nat) (ms : List Vec.Mo) (wr : World) : Prop where
  hold : Hold layM w 24 v ms wr
  list : ms.map (·.2.2) = (es.take k).map aheadL
  each : ∀ m ∈ ms, Vec.Row wr m.1 m.2.2 ∧ (m.1 = none → m.2.1 = 0) ∧ KindAt 78 wr m.1
theorem AheadJ.below {w : World} {es : List EV} {v : Value} {k : Nat} {ms : List Vec.Mo} {wr w1 : World} (h : AheadJ w es v k ms wr) (hb : Below wr.heap.size wr w1) : AheadJ w es v k ms w1 :=
  ⟨h.hold.below hb, h.list, fun m hm => ⟨(h.each m hm).1.below hb, (h.each m hm).2.1, (h.each m hm).2.2.below hb⟩⟩
theorem AheadJ.len {w : World} {es : List EV} {v : Value} {k : Nat} {ms : List Vec.Mo} {wr : World} (h : AheadJ w es v k ms wr) (hk : k ≤ es.length) : ms.length = k := by
  have := congrArg List.length h.list
  rw [List.length_map, List.length_map, List.length_take] at this
  omega
theorem AheadJ.onto {w : World} {es : List EV} {v v' : Value} {k : Nat} {ms : List Vec.Mo} {wr w1 : World} (h : AheadJ w es v k ms wr) (hk : k < es.length) {m : Vec.Mo} (hm : m.2.2 = aheadL (es.getD k x0E)) (hr : Vec.Row wr m.1 m.2.2) (hn : m.1 = none → m.2.1 = 0) (hkd : KindAt 78 wr m.1) (hown : w1.ownsRow w.heap.size 24 1 v' (ms.length + 1) (layM.flat ms ++ [.slice m.1 m.2.2.length m.2.1])) (hg : wr.grownBy w1 v.ownBlock) : AheadJ w es v' (k + 1) (ms ++ [m]) w1 := by
  have hK : Kept (fun j => v.ownBlock = some j) wr w1 := Kept.ofGrown hg (fun j hj => hj)
  have hap : ∀ {a : Option Addr}, KindAt 78 wr a → ∀ q, a = some q → ¬ v.ownBlock = some q.block := fun hka q e hv => by
    obtain ⟨p', c', rfl⟩ := owns_slice h.hold.1
    cases p' with
    | none => simp [Value.ownBlock] at hv
    | some b =>
      have := kind_owns h.hold.1 b rfl
      obtain ⟨cs, f, h1⟩ := this
      obtain ⟨cs2, f2, h2⟩ := hka q e
      simp [Value.ownBlock] at hv
      rw [hv, h2] at h1
      simp only [Option.some.injEq, Obj.cells.injEq] at h1
      exact absurd h1.2.1 (by decide)
  refine ⟨h.hold.onto (ys := [m]) (by rw [layM.flat_one]; rfl) (by simp) hown hg, ?_, fun x hx => ?_⟩
  · rw [List.map_append, h.list, take_getD x0E hk, List.map_append]
    simp [hm]
  · rcases List.mem_append.1 hx with hx | hx
    · obtain ⟨h1, h2, h3⟩ := h.each x hx
      exact ⟨vrow_kept h1 hK (hap h3), h2, h3.kept hK (hap h3)⟩
    · rw [List.mem_singleton.1 hx]
      exact ⟨vrow_kept hr hK (hap hkd), hn, hkd.kept hK (hap hkd)⟩
theorem AheadJ.more {w : World} {es : List EV} {v : Value} {ms : List Vec.Mo} {wr : World} (h : AheadJ w es v es.length ms wr) : ∃ q d, v = .slice q ms.length d ∧ Vec.MoreRow wr q ms ∧ Vec.flatM ms = es.flatMap aheadL := by
  obtain ⟨q, d, rfl, hG, -, -⟩ := h.hold.gave (by decide)
  refine ⟨q, d, rfl, fun i hi => ?_, ?_⟩
  · have hm : Vec.atM ms i ∈ ms := getD_mem (none, 0, []) hi
    obtain ⟨h1, h2, -⟩ := h.each _ hm
    obtain ⟨b, o, e, hc⟩ := hG.cell (none, 0, []) (j := 0) hi rfl
    exact ⟨⟨b, o, e, by
      have : layM.k = 1 := rfl
      rw [this, Nat.mul_one, Nat.add_zero] at hc
      exact hc⟩, h1, h2⟩
  · have := h.list
    rw [List.take_length] at this
    unfold Vec.flatM
    rw [List.flatMap_def, List.flatMap_def, this]
set_option maxHeartbeats 3200000 in
set_option maxRecDepth 20000 in
theorem bwants_any {S : Nat → Prop} {K : Nat} {l : List Em} {w : World} (h : List Vec.En) (s : Option Addr) (f : Nat) (hB : Bufr S K l w) (hH : Vec.Row w s h) (hk : Known h s f) : Calls Try.prog 19 #[.pointer (some ⟨K, 0, none⟩), .slice s h.length f] w fun r w' => ∃ p c, r = .returned (.slice p (wantsM l h).length c) ∧ Firm S w' (fun W => Vec.Row3 W p (wantsM l h)) ∧ Below w.heap.size w w' := by
  obtain ⟨es, p, c, rfl, hJ⟩ := hB
  have c0 := hJ.cell
  have hl := hJ.len
  have HR := Lib.hid hJ.row
  have HE : Hid (∀ x ∈ es, ArgE w x) := fun x hx => (hJ.each x hx).1
  have HJ := Lib.hid hJ
  have hfair : ∀ x ∈ es, FairE x.e := fun x hx => (HE.out x hx).fair
  have HJN : Hid (Vec.IsJoin (es.flatMap aheadL) (allM (es.map (·.e)))) := ahead_join hfair
  have HLN : Hid ((es.flatMap aheadL).length ≤ 101 * es.length) := ahead_len (fun x hx => (HE.out x hx).deps)
  have hfm : ∀ x ∈ es.map (·.e), FairE x := fun y hy => by
    obtain ⟨x, hx, rfl⟩ := List.mem_map.1 hy
    exact hfair x hx
  have HAF : Hid (Vec.Fits (allM (es.map (·.e)))) := fun y hy => by
    have := mem_allM hfm hy
    exact ⟨this.1, this.2.1, by omega, by omega⟩
  have HAL : Hid ((allM (es.map (·.e))).length ≤ 101 * 64) := by
    have h1 := allM_len (l := es.map (·.e)) (fun y hy => by
      obtain ⟨x, hx, rfl⟩ := List.mem_map.1 hy
      exact (HE.out x hx).deps)
    rw [List.length_map] at h1
    show _ ≤ _
    omega
  have HWI : Hid (∀ k, k < es.length → ∀ W, Below w.heap.size w W → Calls Try.prog 14 #[.slice (es.getD k x0E).p (es.getD k x0E).e.deps.length (es.getD k x0E).c, .int .u16 (es.getD k x0E).e.txn.r, .int .u32 ((es.getD k x0E).e.txn.seq - 1)] W (Vec.GaveK 78 W (aheadL (es.getD k x0E)))) := fun k hk W hb => by
    have hx := HE.out _ (getD_mem x0E hk)
    exact Vec.with_kind _ _ _ _ _ W (hx.into.row.below hb) (Vec.srt_of_right hx.fair.right) (by have := hx.deps; omega) hx.into.cap hx.into.nil
  have HSQ : Hid (∀ k, k < es.length → 1 ≤ (es.getD k x0E).e.txn.seq ∧ (es.getD k x0E).e.txn.seq ≤ 268435456) := fun k hk => (HE.out _ (getD_mem x0E hk)).fair.seq
  have HH := Lib.hid hH
  have HK := Lib.hid hk
  obtain ⟨i0, hi, hz0, hz1, hz2⟩ := info_parts infoV11
  clear hJ hH hk hfair hfm
  go_enter Try.func19, Try.ntmps19
  go_wp2_with fail
  go_loopg [5, 13] es.length (fun n v i wr => ∃ (k : Nat) (ms : List Vec.Mo), k ≤ es.length ∧ es.length - k ≤ n ∧ i = .int .i64 (k : Int) ∧ AheadJ w es v k ms wr)
  case atStart => exact ⟨0, [], Nat.zero_le _, by omega, rfl, ⟨Hold.nil _ _ _, by simp, fun m hm => (by cases hm)⟩⟩
  case round =>
    clear c0
    obtain ⟨k, ms, hk, hg, rfl, hA⟩ := hrel
    have HA := Lib.hid hA
    clear hA
    by_cases hlt : k < es.length
    · have hkl : (k : Int) < (es.length : Int) := by omega
      obtain ⟨o1, o2, rfl, c0, c1, c2, c3, c4, c5⟩ := erow_at (HR.out.below HA.out.hold.2) hlt
      have hml := HA.out.len hk
      have HW1 := Lib.hid (HWI.out k hlt)
      obtain ⟨s1, s2⟩ := HSQ.out k hlt
      have HAX : Hid (aheadL (es.getD k x0E) = aheadL (es.getD k x0E)) := rfl
      have HON : Hid (∀ (wa wb : World) (m : Vec.Mo) (v' : Value), Below wr.heap.size wr wa → m.2.2 = aheadL (es.getD k x0E) → Vec.Row wa m.1 m.2.2 → (m.1 = none → m.2.1 = 0) → KindAt 78 wa m.1 → wb.ownsRow w.heap.size 24 1 v' (ms.length + 1) (layM.flat ms ++ [.slice m.1 m.2.2.length m.2.1]) → wa.grownBy wb u5.ownBlock → AheadJ w es v' (k + 1) (ms ++ [m]) wb) := fun wa wb m v' hb hm hr hn hkd ho hg => (HA.out.below hb).onto hlt hm hr hn hkd ho hg
      generalize aheadL (es.getD k x0E) = AL at HW1 HON
      clear HAX
      generalize xs_def : es.getD k x0E = X1 at c0 c1 c2 c3 c4 c5 HW1 s1 s2
      clear xs_def
      obtain ⟨⟨xd, ⟨xr, xq, xc, xu, xo⟩⟩, xys, xp, xcc, xqq, xdd⟩ := X1
      simp only at c0 c1 c2 c3 c4 c5 HW1 s1 s2
      have hwq : IntKind.u32.wrap (xq - 1) = xq - 1 := by rw [IntKind.wrap_u32]; omega
      have HBX : Hid (Below wr.heap.size wr (wr.alloc (.cells #[.slice xp xd.length xcc, .int .u16 xr, .int .u32 xq, .int .u64 xc, .int .i64 xu, .slice xqq xo.length xdd] 36))) := below_alloc (Below.refl _ _) _
      go_wp2_with fail
      generalize (wr.alloc (.cells #[.slice xp xd.length xcc, .int .u16 xr, .int .u32 xq, .int .u64 xc, .int .i64 xu, .slice xqq xo.length xdd] 36)) = w1 at HBX ⊢
      refine (HW1.out w1 (below_step HA.out.hold.2 HBX.out)).mono ?_
      rintro r w2 ⟨p2, c2', rfl, hr2, hc2, hn2, hk2, hb2⟩
      have HB2 := Lib.hid (below_step HBX.out hb2)
      have HR2 : Hid (Vec.Row w2 p2 AL ∧ (p2 = none → c2' = 0) ∧ KindAt 78 w2 p2) := ⟨hr2, hn2, hk2⟩
      clear hr2 hn2 hk2 hb2 HW1 HBX c0 c1 c2 c3 c4 c5
      have HH2 := Lib.hid (HA.out.hold.below HB2.out)
      subst hml
      go_wp2_with (first
        | (at_builtin; refine wpList_append_own _ rfl (.tmp 17) (.tmp 28) 85 rfl w.heap.size 24 i0 (.slice none 0 0) 1 24 Try.underlying85 hi hz0 hz1 hz2 rfl (by decide) _ ms.length (layM.flat ms) rfl (HH2.out.alloc _).1 ⟨w2.heap.size, 0, none⟩ 1 1 [.slice p2 AL.length c2'] rfl rfl (cells_new (cs := [.slice p2 AL.length c2'])) (by intro u hu; simp at hu; rw [hu]; rfl) (by unfold maxLen; omega) (by omega) (by have := HH2.out.2.size; simp; omega) ?_))
      intro v' w7 hown hgrow _
      have hba : Below w2.heap.size w2 (w2.alloc (.cells #[.slice p2 AL.length c2'] 24)) := below_alloc (Below.refl _ _) _
      have HN := Lib.hid (HON.out _ w7 (p2, c2', AL) v' (below_step HB2.out hba) rfl (HR2.out.1.below hba) HR2.out.2.1 (HR2.out.2.2.below hba) hown hgrow)
      clear hown hgrow hba HON HR2 HH2 HA HB2
      go_wp2
      go_roundg (es.length - (ms.length + 1))
      case measure => omega
      case rel => exact ⟨ms.length + 1, _, by omega, Nat.le_refl _, by go_num, HN.out⟩
    · have : k = es.length := by omega
      subst this
      have hkl : ¬ (es.length : Int) < (es.length : Int) := by omega
      obtain ⟨q, d, rfl, hmr, hfl⟩ := HA.out.more
      have hml := HA.out.len hk
      have HBR := Lib.hid HA.out.hold.2
      have HJO : Hid (∀ W pe, Below wr.heap.size wr W → Calls Try.prog 37 #[.slice pe 0 0, .slice q ms.length d] W (Vec.GaveV W (allM (es.map (·.e))))) := fun W pe hb => by
        have hmW : Vec.MoreRow W q ms := fun i hi => by
          obtain ⟨⟨b, o, e, h1⟩, h2, h3⟩ := hmr i hi
          exact ⟨⟨b, o, e, cellU h1 hb⟩, h2.below hb, h3⟩
        have hjt := Vec.join_to [] ms (allM (es.map (·.e))) (by rw [List.nil_append, hfl]; exact HJN.out) pe q 0 d W (fun i hi => absurd hi (Nat.not_lt_zero _)) hmW (by rw [hfl]; have := HLN.out; simp only [List.length_nil]; omega) (by omega)
        exact hjt
      have HLK : Hid (∀ W a b, Below w.heap.size w W → Vec.Row W a (allM (es.map (·.e))) → Calls Try.prog 36 #[.slice s h.length f, .slice a (allM (es.map (·.e))).length b] W (Vec.Gave3K 65 W (wantsM (es.map (·.e)) h))) := fun W a b hb hr => Vec.lacks_kind h _ s a f b W (HH.out.below hb) hr (Vec.srt_of_right HK.out.right) HK.out.fits HAF.out (by have := HK.out.len; omega) (by have := HAL.out; omega)
      have HFI : Hid (∀ W a, Below w.heap.size w W → Vec.Row3 W a (wantsM (es.map (·.e)) h) → KindAt 65 W a → Firm S W (fun W2 => Vec.Row3 W2 a (wantsM (es.map (·.e)) h))) := fun W a hb hr hk W2 hk2 => kept_row3 hr hk2 ((HJ.out.below hb).gap hk)
      generalize hWL : wantsM (es.map (·.e)) h = WL at HLK HFI
      have HWL := Lib.hid hWL
      clear hWL
      generalize allM (es.map (·.e)) = AM at HJO HLK HJN HAF HAL
      clear HA hmr hfl hml HJ HE HWI HSQ HH HK HJN HLN HAF HAL HR
      go_wp2_with fail
      refine (HJO.out _ _ (below_alloc (Below.refl _ _) _)).mono ?_
      rintro r w3 ⟨p3, c3, rfl, hn3, hr3, hb3⟩
      have HB3 := Lib.hid (below_step HBR.out (below_step (below_alloc (Below.refl _ _) _) hb3))
      have HL3 := Lib.hid (HLK.out w3 p3 c3 HB3.out hr3)
      clear hn3 hr3 hb3 HJO HLK HBR
      go_wp2_with fail
      refine HL3.out.mono ?_
      rintro r w4 ⟨p4, c4, rfl, hr4, hk4, hb4⟩
      have HB4 := Lib.hid (below_step HB3.out hb4)
      have HF4 := Lib.hid (HFI.out w4 p4 HB4.out hr4 hk4)
      clear hr4 hk4 hb4 HL3 HFI HB3
      go_wp2
      go_ret
      rw [HWL.out]
      exact ⟨p4, c4, rfl, HF4.out, HB4.out⟩
end Go.Proofs.Ytjkdcpalgfakhaa
/-
  What the document's Bytes of layer 9 hands back, of a transaction that fits. No conditions beyond what each theorem states.
-/
namespace Go.Proofs.Ytjkdcpalgfakhaa
open Go.ChangeShapes Go.WideShapes Go.ChangeAt Go.RowKit Go.Lib
set_option linter.unusedVariables false
set_option linter.unusedSimpArgs false

theorem bytesO_range {o : Om} (hf : FitOm o) (h : fitO o = 0) (hl : o.spans.length ≤ 1024) : 1 ≤ (bytesO o).length ∧ (bytesO o).length ≤ 30000 := by
  have hc := fitO_cases h
  unfold FitOm at hf
  obtain ⟨f1, f2, f3, f4, f5, f6, f7, f8, f9, f10, f11⟩ := hf
  have e1 := encN_len (n := o.kind.toNat) (by omega)
  have e2 := encN_len (n := o.r.toNat) (by omega)
  have e3 := encN_len (n := o.n.toNat) (by omega)
  have e4 := encN_len (n := o.num.toNat) (by omega)
  have e5 := encN_len (n := o.seq.toNat) (by omega)
  have e6 := bytesL_len f9 (by omega)
  have e0 := encN_pos o.kind.toNat
  have e7 : o.kind = 1 → (encT o.text).length ≤ 73 := fun hk => by
    have ht : o.text.length ≤ 64 := by
      rcases hc with c | c | c | c
      · exact c.2.2.2.2.2.1
      · have := c.1; omega
      · have := c.1; omega
      · have := c.1; omega
    unfold encT
    rw [List.length_append]
    have := encN_len (n := o.text.length) (by omega)
    omega
  unfold bytesO
  simp only [List.length_append]
  by_cases h1 : o.kind = 1
  · have := e7 h1
    simp only [if_pos h1, if_pos (show o.kind = 1 ∨ o.kind = 3 from Or.inl h1), List.length_append]
    omega
  · simp only [if_neg h1]
    by_cases h3 : o.kind = 1 ∨ o.kind = 3
    · simp only [if_pos h3, List.length_append]
      split <;> omega
    · simp only [if_neg h3, List.length_nil]
      split <;> omega
theorem bytesO_small {o : Om} (hf : FitOm o) (h : fitO o = 0) (hl : o.spans.length ≤ 60) : 1 ≤ (bytesO o).length ∧ (bytesO o).length ≤ 2000 := by
  have hc := fitO_cases h
  unfold FitOm at hf
  obtain ⟨f1, f2, f3, f4, f5, f6, f7, f8, f9, f10, f11⟩ := hf
  have e1 := encN_len (n := o.kind.toNat) (by omega)
  have e2 := encN_len (n := o.r.toNat) (by omega)
  have e3 := encN_len (n := o.n.toNat) (by omega)
  have e4 := encN_len (n := o.num.toNat) (by omega)
  have e5 := encN_len (n := o.seq.toNat) (by omega)
  have e6 := bytesL_len f9 (by omega)
  have e0 := encN_pos o.kind.toNat
  have e7 : o.kind = 1 → (encT o.text).length ≤ 73 := fun hk => by
    have ht : o.text.length ≤ 64 := by
      rcases hc with c | c | c | c
      · exact c.2.2.2.2.2.1
      · have := c.1; omega
      · have := c.1; omega
      · have := c.1; omega
    unfold encT
    rw [List.length_append]
    have := encN_len (n := o.text.length) (by omega)
    omega
  unfold bytesO
  simp only [List.length_append]
  by_cases h1 : o.kind = 1
  · have := e7 h1
    simp only [if_pos h1, if_pos (show o.kind = 1 ∨ o.kind = 3 from Or.inl h1), List.length_append]
    omega
  · simp only [if_neg h1]
    by_cases h3 : o.kind = 1 ∨ o.kind = 3
    · simp only [if_pos h3, List.length_append]
      split <;> omega
    · simp only [if_neg h3, List.length_nil]
      split <;> omega
theorem flatO_take {l : List Om} {k : Nat} (h : k < l.length) : (l.take (k + 1)).flatMap bytesO = (l.take k).flatMap bytesO ++ bytesO (l.getD k o0) := by
  rw [take_getD o0 h]; simp
theorem flatO_len {l : List Om} {M : Nat} (h : ∀ o ∈ l, (bytesO o).length ≤ M) : ∀ k, ((l.take k).flatMap bytesO).length ≤ k * M := by
  intro k
  induction k with
  | zero => simp
  | succ k ih =>
    by_cases hk : k < l.length
    · rw [flatO_take hk, List.length_append]
      have := h _ (getD_mem o0 hk)
      rw [Nat.add_mul, Nat.one_mul]
      omega
    · rw [List.take_of_length_le (by omega)]
      rw [List.take_of_length_le (by omega)] at ih
      exact Nat.le_trans ih (Nat.mul_le_mul_right _ (Nat.le_succ k))
end Go.Proofs.Ytjkdcpalgfakhaa
/-
  What the program's Put of layer 7 leaves. No conditions beyond what each theorem states.
-/
namespace Go.Proofs.Ytjkdcpalgfakhaa
open Go.ChangeShapes Go.WideShapes Go.ChangeAt Go.RowKit Go.Lib
set_option linter.unusedVariables false
set_option linter.unusedSimpArgs false

/-- A step of a writer that leaves a variable as it was. -/
theorem box_wrote {K X : Nat} {v : Value} {w w' : World} {o : Obj} (h : w.heap[X]? = some o) (hK : X ≠ K) (hv : v.ownBlock ≠ some X) (hk : Kept (fun k => k = K ∨ v.ownBlock = some k) w w') : w'.heap[X]? = some o := hk.stays h (by rintro (e | e); exact hK e; exact hv e)
theorem own_wrote {X : Nat} {v v' : Value} {w : World} {o : Obj} (h : w.heap[X]? = some o) (hv : v.ownBlock ≠ some X) (hv' : v'.ownBlock = v.ownBlock ∨ ∃ g, v'.ownBlock = some g ∧ w.heap.size ≤ g) : v'.ownBlock ≠ some X := by
  rcases hv' with e | ⟨g, e, hg⟩
  · rw [e]; exact hv
  · rw [e]
    intro ee
    injection ee with ee
    have := lt_of_block h
    omega
end Go.Proofs.Ytjkdcpalgfakhaa
/-
  What the program's Put of layer 8 leaves. No conditions beyond what each theorem states.
-/
namespace Go.Proofs.Ytjkdcpalgfakhaa
open Go.ChangeShapes Go.WideShapes Go.ChangeAt Go.RowKit Go.Lib
set_option linter.unusedVariables false
set_option linter.unusedSimpArgs false

end Go.Proofs.Ytjkdcpalgfakhaa
/-
  What the program's Put of layer 9 leaves. No conditions beyond what each theorem states.
-/
namespace Go.Proofs.Ytjkdcpalgfakhaa
open Go.ChangeShapes Go.WideShapes Go.ChangeAt Go.RowKit Go.Lib
set_option linter.unusedVariables false
set_option linter.unusedSimpArgs false

end Go.Proofs.Ytjkdcpalgfakhaa
/-
  What the program's Fit of layer 9 hands back, and what it leans on. No conditions beyond what each theorem states.
-/
namespace Go.Proofs.Ytjkdcpalgfakhaa
open Go.ChangeShapes Go.WideShapes Go.ChangeAt Go.RowKit Go.Lib
set_option linter.unusedVariables false
set_option linter.unusedSimpArgs false

end Go.Proofs.Ytjkdcpalgfakhaa
/-
  What the program's Undoes of layer 9 hands back. No conditions beyond what each theorem states.
-/
namespace Go.Proofs.Ytjkdcpalgfakhaa
open Go.ChangeShapes Go.WideShapes Go.ChangeAt Go.RowKit Go.Lib
set_option linter.unusedVariables false
set_option linter.unusedSimpArgs false

theorem results_ct9 {P : Program} {fn : Func} {p t : Tmp} {ty : TypeId} (h : fn.results = #[.cell p ty, .tmp t]) (tmps : Array Value) (w : World) (a : Addr) (va : Value)
    (hp : tmps.getD p undef = .pointer (some a)) (la : (loadVar ty a).run P w = .ok va w) :
    (results fn tmps).run P w = .ok (.tuple #[va, tmps.getD t undef]) w := by
  have hp' : tmps[p]?.getD undef = .pointer (some a) := by simpa using hp
  simp [results, h, hp', asAddr, la]
theorem loadTI {w : World} {B : Nat} {cs : Array Value} {t : TypeId} (h : w.heap[B]? = some (.cells cs t (0, 0))) (hs : cs.size = 2) : (loadVar 57 ⟨B, 0, none⟩).run Try.prog w = .ok (.agg cs) w :=
  run_loadVar_row w B t 57 _ (0, 0) _ h Try.underlying57 rfl (by rw [hs]; exact szTI)
end Go.Proofs.Ytjkdcpalgfakhaa
/-
  What the program's Get of layer 7 leaves. No conditions beyond what each theorem states.
-/
namespace Go.Proofs.Ytjkdcpalgfakhaa
open Go.ChangeShapes Go.WideShapes Go.ChangeAt Go.RowKit Go.Lib
set_option linter.unusedVariables false
set_option linter.unusedSimpArgs false

/-- So many spans, read on behind an error too. -/
def rdA (bs : List UInt8) : Nat → Nat → Nat → List Sp × Nat × Nat
  | 0, q, e => ([], q, e)
  | n + 1, q, e => ((rdA bs n q e).1 ++ [(rd3 bs (rdA bs n q e).2.1 (rdA bs n q e).2.2).1], (rd3 bs (rdA bs n q e).2.1 (rdA bs n q e).2.2).2)
theorem rdA_cons (bs : List UInt8) : ∀ n q e, rdA bs (n + 1) q e = ((rd3 bs q e).1 :: (rdA bs n (rd3 bs q e).2.1 (rd3 bs q e).2.2).1, (rdA bs n (rd3 bs q e).2.1 (rd3 bs q e).2.2).2) := by
  intro n
  induction n with
  | zero => intro q e; rfl
  | succ n ih =>
    intro q e
    rw [rdA, ih q e]
    simp only
    conv => rhs; rw [rdA]
    simp
theorem rd3_err {bs : List UInt8} {q e : Nat} (h : e ≠ 0) : rd3 bs q e = ((0, 0, 0), q, e) := by
  unfold rd3
  simp only [rdN_err h]
  rfl
theorem rdA_rdL (bs : List UInt8) : ∀ n q e, (rdL bs n q e).2.2 = (rdA bs n q e).2.2 ∧ ((rdA bs n q e).2.2 = 0 → rdL bs n q e = rdA bs n q e) := by
  intro n
  induction n with
  | zero => intro q e; exact ⟨rfl, fun _ => rfl⟩
  | succ n ih =>
    intro q e
    rw [rdA_cons]
    by_cases h : e = 0
    · subst h
      obtain ⟨h1, h2⟩ := ih (rd3 bs q 0).2.1 (rd3 bs q 0).2.2
      rw [rdL, if_pos rfl]
      refine ⟨h1, fun h0 => ?_⟩
      rw [h2 h0]
    · obtain ⟨h1, h2⟩ := ih q e
      rw [rdL, if_neg h, rd3_err h]
      rw [rdL_err bs n q e h] at h1
      simp only at h1 ⊢
      exact ⟨h1, fun h0 => absurd (h1.trans h0) h⟩
theorem rdA_len (bs : List UInt8) : ∀ n q e, (rdA bs n q e).1.length = n := by
  intro n
  induction n with
  | zero => intro q e; rfl
  | succ n ih => intro q e; rw [rdA]; simp [ih]

/-- A row of the call's own, and all else but one block as it was. -/
structure HoldK (w : World) (K : Nat) (v : Value) (xs : List Sp) (wr : World) : Prop where
  row : wr.ownsRow w.heap.size 103 3 v xs.length (layS.flat xs)
  only : Only K w wr
  lt : K < w.heap.size
theorem HoldK.on {w wr w1 : World} {K : Nat} {v : Value} {xs : List Sp} (h : HoldK w K v xs wr) (ho : Only K wr w1) : HoldK w K v xs w1 :=
  ⟨h.row.kept (row := some K) ⟨ho.os, ho.tape, ho.output, ho.size, fun k hk hn => ho.block k hk (fun e => hn (by rw [e]))⟩ (Or.inr fun e => by have := (h.row.lt _ e).1; have := h.lt; omega), Kept.trans h.only ho (fun _ _ e => e), h.lt⟩
theorem HoldK.below {w wr w1 : World} {K : Nat} {v : Value} {xs : List Sp} (h : HoldK w K v xs wr) (hb : Below wr.heap.size wr w1) : HoldK w K v xs w1 := h.on (Kept.ofBelow hb)
theorem HoldK.onto {w wr w1 : World} {K : Nat} {v v' : Value} {xs : List Sp} {x : Sp} (h : HoldK w K v xs wr) (hown : w1.ownsRow w.heap.size 103 3 v' (xs.length + 1) (layS.flat xs ++ layS.enc x)) (hg : wr.grownBy w1 v.ownBlock) : HoldK w K v' (xs ++ [x]) w1 :=
  ⟨by rw [layS.flat_append, layS.flat_one, List.length_append]; exact hown, Kept.trans h.only (T := fun i => v.ownBlock = some i) ⟨hg.os, hg.tape, hg.output, hg.size, fun k hk hn => hg.block k hk (fun e => hn e.symm)⟩ (fun i hi e => by have := (h.row.lt _ e).1; omega), h.lt⟩
theorem only_box {K X : Nat} {w w' : World} {o : Obj} (h : w.heap[X]? = some o) (hK : X ≠ K) (hk : Only K w w') : w'.heap[X]? = some o := hk.stays h hK

end Go.Proofs.Ytjkdcpalgfakhaa
/-
  What the program's Get of layer 8 leaves. No conditions beyond what each theorem states.
-/
namespace Go.Proofs.Ytjkdcpalgfakhaa
open Go.ChangeShapes Go.WideShapes Go.ChangeAt Go.RowKit Go.Lib
set_option linter.unusedVariables false
set_option linter.unusedSimpArgs false

theorem szO : (Try.prog.info? 92).map (·.size) = some 7 := by kernel_rfl
theorem only_far {K V o : Nat} {w W : World} (h : Only K w W) (hV : w.heap.size ≤ V) (u : Value) : Only K w (W.setCell ⟨V, o, none⟩ u) :=
  Kept.trans h (only_set W V o u) (fun i hi e => by omega)
/-- A row of spans is no variable of an operation's kind. -/
theorem srow_apart {W : World} {B : Nat} {p : Option Addr} {l : List Sp} {k a b c sq : Int} {s : ByteArray} {v : Value} {t : TypeId} (hG : GRow layS W p l) (h0 : 0 < l.length) (h : W.heap[B]? = some (.cells #[.int .i64 k, .int .u16 a, .int .u32 b, .int .u32 c, .string s, v, .int .u32 sq] t (0, 0))) (hv : ∀ x y, v ≠ .int x y) : ∀ q, p = some q → ¬ q.block = B := by
  intro q e ee
  obtain ⟨b', o, rfl, c0, c1, c2⟩ := srow_at hG h0
  injection e with e
  subst e
  have ee : b' = B := ee
  subst ee
  rw [cell_of_block h] at c0 c1 c2
  simp only [Nat.zero_mul, Nat.add_zero] at c0 c1 c2
  match o, c0, c1, c2 with
  | 0, c0, c1, c2 => simp at c0
  | 1, c0, c1, c2 => simp at c2
  | 2, c0, c1, c2 => simp at c0
  | 3, c0, c1, c2 => simp at c0
  | 4, c0, c1, c2 => simp at c0
  | 5, c0, c1, c2 => simp at c0; exact hv _ _ c0
  | 6, c0, c1, c2 => simp at c0
  | n + 7, c0, c1, c2 => simp at c0
theorem GRow.away {W W' : World} {B : Nat} {p : Option Addr} {l : List Sp} {k a b c sq : Int} {s : ByteArray} {v : Value} {t : TypeId} (hG : GRow layS W p l) (h : W.heap[B]? = some (.cells #[.int .i64 k, .int .u16 a, .int .u32 b, .int .u32 c, .string s, v, .int .u32 sq] t (0, 0))) (hv : ∀ x y, v ≠ .int x y) (ho : Only B W W') : GRow layS W' p l := by
  rcases Nat.eq_zero_or_pos l.length with e | e
  · rw [List.eq_nil_of_length_eq_zero e]; exact GRow.nil _ _ _
  · exact hG.kept ho (srow_apart hG e h hv)

end Go.Proofs.Ytjkdcpalgfakhaa
/-
  What the program's Get of layer 9 leaves. No conditions beyond what each theorem states.
-/
namespace Go.Proofs.Ytjkdcpalgfakhaa
open Go.ChangeShapes Go.WideShapes Go.ChangeAt Go.RowKit Go.Lib
set_option linter.unusedVariables false
set_option linter.unusedSimpArgs false

theorem szT9 : (Try.prog.info? 34).map (·.size) = some 5 := by kernel_rfl
theorem infoO9 : (Try.prog.info? 92).map (fun i => (i.zero, i.size, i.bytes)) = some (some (.agg #[.int .i64 0, .int .u16 0, .int .u32 0, .int .u32 0, .string ⟨#[]⟩, .slice none 0 0, .int .u32 0]), 7, 72) := by kernel_rfl
/-- Behind an error nothing is read. -/
theorem readO_err {bs : List UInt8} {q e : Nat} (h : e ≠ 0) : readO bs q e = (o0, q, e) := by
  unfold readO
  rw [rdN_err h]
  simp only
  rw [if_neg (by decide)]
  unfold readB
  rw [if_neg (by decide), if_neg (by decide), rdN_err h]
  simp only
  rw [if_neg h]
/-- Operations that are read on behind an error too: what is read so far. -/
def Sofar (bs : List UInt8) (n q0 e0 k : Nat) (l : List Om) (q e : Nat) : Prop := (e = 0 ∧ rdOs bs n q0 e0 = (l ++ (rdOs bs (n - k) q 0).1, (rdOs bs (n - k) q 0).2)) ∨ (e ≠ 0 ∧ (rdOs bs n q0 e0).2.2 = e)
theorem Sofar.start (bs : List UInt8) (n q e : Nat) : Sofar bs n q e 0 [] q e := by
  by_cases h : e = 0
  · subst h; exact Or.inl ⟨rfl, rfl⟩
  · exact Or.inr ⟨h, by rw [rdOs_err bs n q e h]⟩
theorem Sofar.next {bs : List UInt8} {n q0 e0 k q e q' : Nat} {l : List Om} (h : Sofar bs n q0 e0 k l q e) (hk : k < n) (hq : (readO bs q e).2.2 = 0 → q' = (readO bs q e).2.1) : Sofar bs n q0 e0 (k + 1) (l ++ [(readO bs q e).1]) q' (readO bs q e).2.2 := by
  rcases h with ⟨rfl, h⟩ | ⟨h1, h⟩
  · rw [rdOs_step hk] at h
    by_cases hz : (readO bs q 0).2.2 = 0
    · refine Or.inl ⟨hz, ?_⟩
      rw [h, hq hz, hz]
      simp
    · refine Or.inr ⟨hz, ?_⟩
      rw [h, rdOs_err _ _ _ _ hz]
  · have he : (readO bs q e).2.2 = e := by rw [readO_err h1]
    exact Or.inr ⟨by rw [he]; exact h1, by rw [he]; exact h⟩
theorem Sofar.done {bs : List UInt8} {n q0 e0 q e : Nat} {l : List Om} (h : Sofar bs n q0 e0 n l q e) : (e = 0 ∧ rdOs bs n q0 e0 = (l, q, 0)) ∨ (e ≠ 0 ∧ (rdOs bs n q0 e0).2.2 = e) := by
  rcases h with ⟨h1, h⟩ | h
  · refine Or.inl ⟨h1, ?_⟩
    rw [h, Nat.sub_self]
    simp [rdOs]
  · exact Or.inr h
end Go.Proofs.Ytjkdcpalgfakhaa
/-
  The library's own theorem of the sort, laid at this program: slices.SortFunc. Its conditions are the library's.
-/
namespace Go.Proofs
open Go.Shelf
end Go.Proofs
/-
  What the program's comparison of names, and its spans by rising first names, hand back. No conditions beyond what each theorem states.
-/
namespace Go.Proofs.Ytjkdcpalgfakhaa
open Go.ChangeShapes Go.WideShapes Go.ChangeAt Go.RowKit Go.Lib
open Go.Sort
set_option linter.unusedVariables false
set_option linter.unusedSimpArgs false

def cmp3 (a b : Int) : Int := if a < b then -1 else if b < a then 1 else 0
theorem cmp3_lt {a b : Int} (h : a < b) : cmp3 a b = -1 := by simp [cmp3, h]
theorem cmp3_gt {a b : Int} (h : b < a) : cmp3 a b = 1 := by unfold cmp3; rw [if_neg (by omega), if_pos h]
theorem cmp3_eq {a b : Int} (h1 : ¬ a < b) (h2 : ¬ b < a) : cmp3 a b = 0 := by simp [cmp3, h1, h2]

set_option maxHeartbeats 400000 in
theorem compare16 (a b : Int) (w : World) :
    Calls Try.prog 68 #[.int .u16 a, .int .u16 b] w fun e w' => e = .returned (.int .i64 (cmp3 a b)) ∧ w' = w := by
  by_cases h1 : a < b
  · rw [cmp3_lt h1]
    go_enter Try.func68, Try.ntmps68
    go_wp2
    go_ret
    exact ⟨rfl, rfl⟩
  · by_cases h2 : b < a
    · rw [cmp3_gt h2]
      go_enter Try.func68, Try.ntmps68
      go_wp2
      go_ret
      exact ⟨rfl, rfl⟩
    · rw [cmp3_eq h1 h2]
      go_enter Try.func68, Try.ntmps68
      go_wp2
      go_ret
      exact ⟨rfl, rfl⟩
set_option maxHeartbeats 400000 in
theorem compare32 (a b : Int) (w : World) :
    Calls Try.prog 69 #[.int .u32 a, .int .u32 b] w fun e w' => e = .returned (.int .i64 (cmp3 a b)) ∧ w' = w := by
  by_cases h1 : a < b
  · rw [cmp3_lt h1]
    go_enter Try.func69, Try.ntmps69
    go_wp2
    go_ret
    exact ⟨rfl, rfl⟩
  · by_cases h2 : b < a
    · rw [cmp3_gt h2]
      go_enter Try.func69, Try.ntmps69
      go_wp2
      go_ret
      exact ⟨rfl, rfl⟩
    · rw [cmp3_eq h1 h2]
      go_enter Try.func69, Try.ntmps69
      go_wp2
      go_ret
      exact ⟨rfl, rfl⟩

/-- The order of names. -/
def cmpN (x y : Nm) : Int := if cmp3 x.1 y.1 = 0 then cmp3 x.2 y.2 else cmp3 x.1 y.1
def firstOf (s : Sp) : Nm := (s.1, s.2.1)
def cmpS (s t : Sp) : Int := cmpN (firstOf s) (firstOf t)
theorem lt_cmpN (x y : Nm) : decide (cmpN x y < 0) = decide (x.1 < y.1 ∨ x.1 = y.1 ∧ x.2 < y.2) := by
  unfold cmpN
  apply decide_eq_decide.2
  by_cases h1 : x.1 < y.1
  · rw [cmp3_lt h1, if_neg (by omega)]; omega
  · by_cases h2 : y.1 < x.1
    · rw [cmp3_gt h2, if_neg (by omega)]; omega
    · rw [cmp3_eq h1 h2, if_pos rfl]
      by_cases h3 : x.2 < y.2
      · rw [cmp3_lt h3]; omega
      · by_cases h4 : y.2 < x.2
        · rw [cmp3_gt h4]; omega
        · rw [cmp3_eq h3 h4]; omega
theorem lt_cmpS (s t : Sp) : ltOf cmpS s t = decide (s.1 < t.1 ∨ s.1 = t.1 ∧ s.2.1 < t.2.1) := lt_cmpN (firstOf s) (firstOf t)
theorem swo_cmpS : SWO (ltOf cmpS) where
  irrefl x := by rw [lt_cmpS]; simp
  trans x y z h1 h2 := by rw [lt_cmpS] at *; simp at *; omega
  ntrans x y z h1 h2 := by rw [lt_cmpS] at *; simp at *; omega

theorem enc_at (x : Sp) {i : Nat} (h : i < 3) : (layS.enc x)[i]? = some (layS.enc x)[i]! := by
  match i, h with
  | 0, _ => rfl
  | 1, _ => rfl
  | 2, _ => rfl
theorem toArray_at (xs : List Sp) (i : Nat) : xs.toArray[i]! = xs.getD i s0 := by
  simp only [List.getD_eq_getElem?_getD, List.getElem!_toArray, List.getElem!_eq_getElem?_getD]
  rfl
theorem flat_get (xs : List Sp) {j : Nat} (h : j < xs.length * 3) : (layS.flat xs)[j]? = some ((layS.enc (xs.getD (j / 3) s0))[j % 3]!) := by
  have := layS.flat_at s0 xs (j / 3) (j % 3) (by omega) (Nat.mod_lt _ (by decide))
  rw [show j / 3 * layS.k + j % 3 = j by show j / 3 * 3 + j % 3 = j; omega] at this
  rw [this]; exact enc_at _ (Nat.mod_lt _ (by decide))
/-- A row of the call's own, as the sort takes it. -/
theorem holdsK_of_own {w : World} {B g cap : Nat} {xs : List Sp} (hx : 0 < xs.length) (h : w.ownsRow B 103 3 (.slice (some ⟨g, 0, none⟩) xs.length cap) xs.length (layS.flat xs)) : HoldsK layS.enc 3 w g 0 xs.toArray := by
  intro j hj
  rw [size_flatK, List.size_toArray] at hj
  obtain ⟨g', cap', e, _, hf⟩ := owns_head h hx
  cases e
  rw [get_flatK _ _ _ _ (by rw [List.size_toArray]; exact hj), toArray_at]
  refine ⟨?_, hf _⟩
  have := h.cells (g := g) rfl j _ (flat_get xs hj)
  rw [Addr.add_lit] at this
  exact this
theorem grow_of_holdsK {w : World} {g : Nat} {d : Array Sp} (h : HoldsK layS.enc 3 w g 0 d) : GRow layS w (some ⟨g, 0, none⟩) d.toList := by
  intro m u hm
  have hlt := (List.getElem?_eq_some_iff.1 hm).1
  rw [layS.flat_length] at hlt
  have hlt' : m < d.toList.length * 3 := hlt
  rw [flat_get _ hlt'] at hm
  have := h m (by rw [size_flatK]; simpa using hlt')
  rw [get_flatK _ _ _ _ (by simpa using hlt')] at this
  refine ⟨g, 0, rfl, ?_⟩
  rw [show d[m / 3]! = d.toList.getD (m / 3) s0 by rw [← toArray_at]] at this
  cases hm
  exact this.1
theorem below_sortWorldK {B g o m : Nat} {w : World} {d : Array Sp} {os : Array Obj} (hB : B ≤ g) (hg : g < w.heap.size) : Below B w (sortWorldK layS.enc 3 w g o m d os) := by
  refine ⟨rfl, rfl, rfl, ?_, fun k hk => ?_⟩
  · simp [sortWorldK, putRowK, putRow, Sort.mapBlock, grow, Sort.ahead]
  · simp only [sortWorldK, putRowK, putRow, Sort.mapBlock, grow, Sort.ahead]
    rw [Array.getElem?_append_left (by simp; omega), Array.getElem?_modify, if_neg (by omega)]

/-- By rising first names. -/
def Rising (ys : List Sp) : Prop := ∀ i j, i < j → j < ys.length → ltOf cmpS (ys.getD j s0) (ys.getD i s0) = false
def Rose (xs : List Sp) (w : World) (e : Ending) (w' : World) : Prop := ∃ ys p c, e = .returned (.slice p ys.length c) ∧ ys.Perm xs ∧ Rising ys ∧ GRow layS w' p ys ∧ Below w.heap.size w w'

set_option maxHeartbeats 800000 in
theorem clone_any (xs : List Sp) (p : Option Addr) (c : Nat) (w : World) (hR : GRow layS w p xs) (hl : xs.length ≤ 3000) :
    Calls Try.prog 49 #[.slice p xs.length c] w (Made layS 103 w xs) := by
  have q23 : ∀ (w : World) (a : Option Addr) (n c n' c' : Nat), (binOp .eql 90 (.slice a n c) (.slice none n' c')).run Try.prog w = .ok (.bool a.isNone) w := fun w a n c n' c' => Lib.run_eql_slice_nil w _ _ a n c n' c' Try.underlying90
  cases p with
  | none =>
    have e := hR.none_nil layS_pos rfl
    subst e
    clear hR
    go_enter Try.func49, Try.ntmps49
    go_wp2
    go_ret
    exact ⟨_, rfl, Hold.nil _ _ _⟩
  | some a =>
    obtain ⟨i0, hi, hz0, hz1, hz2⟩ := info_parts infoSp
    have HC : Hid (∀ j u, (layS.flat xs)[j]? = some u → w.cell? (a.add j) = some u) := hR.news
    clear hR
    go_enter Try.func49, Try.ntmps49
    go_wp2_with (first
      | (at_builtin; refine wpList_append_own _ rfl (.tmp 5) (.tmp 6) 90 rfl w.heap.size 103 i0 (.agg #[.int .u16 0, .int .u32 0, .int .i64 0]) 3 16 Try.underlying90 hi hz0 hz1 hz2 rfl (by decide) _ _ _ rfl (World.ownsRow_made w #[] 0 (Nat.le_refl _) (Nat.zero_le _) (by simp)) a xs.length c (layS.flat xs) rfl (layS.flat_length xs) (fun j u hj => cellU (HC.out j u hj) (below_alloc (Below.refl _ _) _)) (layS.flat_one' xs) (by unfold maxLen; omega) (by omega) (by simp) ?_))
    intro v' w1 hown hgrow _
    have HO : Hid (Hold layS w 103 v' xs w1) := ⟨by show w1.ownsRow _ _ 3 _ _ _; simpa using hown, (below_alloc (Below.refl _ _) _).grown hgrow (by simp) (by intro k hk; simp [Value.ownBlock] at hk; omega)⟩
    clear hown hgrow
    go_wp2
    go_ret
    exact ⟨_, rfl, HO.out⟩
end Go.Proofs.Ytjkdcpalgfakhaa
/-
  What the program's Apart and Fit of layer 7 hand back. No conditions beyond what each theorem states.
-/
namespace Go.Proofs.Ytjkdcpalgfakhaa
open Go.ChangeShapes Go.WideShapes Go.ChangeAt Go.RowKit Go.Lib
open Go.Sort
set_option linter.unusedVariables false
set_option linter.unusedSimpArgs false

/-- All of one's names come ahead of another's first. -/
def Ahead (a b : Sp) : Prop := a.1 < b.1 ∨ a.1 = b.1 ∧ a.2.1 + a.2.2 ≤ b.2.1
theorem Ahead.trans {a b c : Sp} (hb : 1 ≤ b.2.2) (h1 : Ahead a b) (h2 : Ahead b c) : Ahead a c := by unfold Ahead at *; omega
theorem Ahead.meets {a b : Sp} (h : Ahead a b) : meetS b a = false := by
  unfold Ahead at h
  unfold meetS
  exact decide_eq_false (by omega)
theorem ahead_next {a b : Sp} (ha : rightS a = true) (hr : ltOf cmpS b a = false) (hn : firstOf b ∉ idsS a) : Ahead a b := by
  rw [lt_cmpS] at hr
  have hr := of_decide_eq_false hr
  have ha := rightS_iff.1 ha
  rw [mem_idsS] at hn
  unfold firstOf at hn
  simp only at hn
  unfold Ahead
  omega
theorem ahead_all {ys : List Sp} (hr : RightS ys) (hs : Rising ys) (hn : ∀ j, j + 1 < ys.length → firstOf (ys.getD (j + 1) s0) ∉ idsS (ys.getD j s0)) : ∀ d i, i + d + 1 < ys.length → Ahead (ys.getD i s0) (ys.getD (i + d + 1) s0) := by
  intro d
  induction d with
  | zero => intro i hi; exact ahead_next (hr.at (by omega)) (hs i (i + 1) (by omega) hi) (hn i hi)
  | succ d ih =>
    intro i hi
    have h1 := ih i (by omega)
    have h2 := ahead_next (hr.at (i := i + d + 1) (by omega)) (hs (i + d + 1) (i + (d + 1) + 1) (by omega) hi) (hn (i + d + 1) hi)
    have h3 := rightS_iff.1 (hr.at (i := i + d + 1) (by omega))
    exact Ahead.trans h3.2.1 h1 h2
theorem apart_adj {ys : List Sp} (hr : RightS ys) (hs : Rising ys) (hn : ∀ j, j + 1 < ys.length → firstOf (ys.getD (j + 1) s0) ∉ idsS (ys.getD j s0)) : apartB ys = true := by
  apply apartB_iff.2
  intro i hi k hk
  have := ahead_all hr hs hn (i - k - 1) k (by omega)
  rw [show k + (i - k - 1) + 1 = i by omega] at this
  exact this.meets
theorem apart_not {ys : List Sp} (hr : RightS ys) {j : Nat} (hj : j + 1 < ys.length) (h : firstOf (ys.getD (j + 1) s0) ∈ idsS (ys.getD j s0)) : apartB ys = false :=
  apartB_no (i := j + 1) (k := j) hj (by omega) ((meet_iff (hr.at hj) (hr.at (by omega))).2 ⟨_, first_mem (rightS_iff.1 (hr.at hj)).2.1, h⟩)
theorem perm_right {xs ys : List Sp} (hp : ys.Perm xs) (h : RightS xs) : RightS ys := fun x hx => h x (hp.mem_iff.1 hx)
theorem perm_fit {xs ys : List Sp} (hp : ys.Perm xs) (h : FitSs xs) : FitSs ys := fun x hx => h x (hp.mem_iff.1 hx)
theorem perm_ids {xs ys : List Sp} (hp : ys.Perm xs) : (idsL ys).Perm (idsL xs) := hp.flatMap_right idsS
theorem perm_apart {xs ys : List Sp} (hp : ys.Perm xs) (h : RightS xs) : apartB ys = apartB xs := by
  have h1 := apart_nodup (perm_right hp h)
  have h2 := apart_nodup h
  have h3 := (perm_ids hp).nodup_iff
  rw [Bool.eq_iff_iff, h1, h2, h3]

end Go.Proofs.Ytjkdcpalgfakhaa
/-
  What the program's Fit of layer 8 hands back, with layer 7's Fit. No conditions beyond what each theorem states.
-/
namespace Go.Proofs.Ytjkdcpalgfakhaa
end Go.Proofs.Ytjkdcpalgfakhaa
/-
  What txn's functions hand back and leave, each by its contract. No conditions beyond what each theorem states.
-/
namespace Go.Proofs.Ytjkdcpalgfakhaa
open Go.ChangeShapes Go.WideShapes Go.ChangeAt Go.RowKit Go.Lib

end Go.Proofs.Ytjkdcpalgfakhaa
/-
  What the program's Fit, Ready, Past and Needs of layer 10 hand back. No conditions beyond what each theorem states.
-/
namespace Go.Proofs.Ytjkdcpalgfakhaa
open Go.ChangeShapes Go.WideShapes Go.ChangeAt Go.RowKit Go.Lib
set_option linter.unusedVariables false
set_option linter.unusedSimpArgs false

set_option maxHeartbeats 3200000 in
set_option maxRecDepth 20000 in
theorem pastE_spec : PastESpec := by
  intro e xs h p q s c d f w _ _ _ hH _ _ _ hr hl _
  have H2 : Hid (∀ W, Below w.heap.size w W → Calls Try.prog 50 #[.slice s h.length f, .int .u16 e.txn.r] W fun r w' => r = .returned (.int .u32 (Vec.getL h e.txn.r)) ∧ Below W.heap.size W w') := fun W hb => Vec.get_any h e.txn.r s f W (hH.below hb) (right_srt hr) (by omega)
  have HF : Hid (pastE e h = decide (e.txn.seq ≤ Vec.getL h e.txn.r)) := rfl
  clear hH hr
  obtain ⟨deps, ⟨r, seq, clock, user, ops⟩⟩ := e
  unfold ev
  simp only at *
  generalize pastE (⟨deps, ⟨r, seq, clock, user, ops⟩⟩ : Em) h = F at HF ⊢
  generalize Vec.getL h r = G at H2 HF
  generalize ops.length = TL
  generalize deps.length = L
  generalize h.length = HL at H2 hl ⊢
  have HX := Lib.hid (heap_alloc_new w (.cells #[.slice p L c, .int .u16 r, .int .u32 seq, .int .u64 clock, .int .i64 user, .slice q TL d] 36))
  have HB0 : Hid (Below w.heap.size w (w.alloc (.cells #[.slice p L c, .int .u16 r, .int .u32 seq, .int .u64 clock, .int .i64 user, .slice q TL d] 36))) := below_alloc (Below.refl _ _) _
  go_enter Try.func40, Try.ntmps40
  go_wp2_with fail
  generalize hw0 : (w.alloc (.cells #[.slice p L c, .int .u16 r, .int .u32 seq, .int .u64 clock, .int .i64 user, .slice q TL d] 36)) = w0 at HX HB0 ⊢
  clear hw0
  obtain ⟨x0', x1', x2', x3', x4', x5'⟩ := six_cells HX.out
  have x1 := cell_regrown x1'
  have x2 := cell_regrown x2'
  have HG : Hid (∀ dd os, Calls Try.prog 50 #[.slice s HL f, .int .u16 r] (Go.Sort.grow (redrawn w0 dd) os) fun e w' => e = .returned (.int .u32 G) ∧ Below (Go.Sort.grow (redrawn w0 dd) os).heap.size (Go.Sort.grow (redrawn w0 dd) os) w') := fun dd os => H2.out _ (below_step HB0.out (below_regrown _ _ _))
  clear x0' x1' x2' x3' x4' x5'
  refine wp_region_quiet_below (by kernel_rfl) (by kernel_rfl) ?_
  repeat (first | go_big_quiet_step ((go_at_call 50; exact Calls.regrown_of (HG.out _ _))) | quiet_step ((go_at_call 50; exact Calls.regrown_of (HG.out _ _))))
  refine wpQuiet_nil ?_
  intro w3 hw'
  have HB3 : Hid (Below w.heap.size w w3) := by obtain ⟨⟨dq, osq⟩, rfl⟩ := hw'; exact below_step HB0.out (below_regrown _ _ _)
  clear hw' HG
  go_wp2
  go_ret
  exact ⟨by rw [HF.out]; rfl, HB3.out⟩

set_option maxHeartbeats 3200000 in
set_option maxRecDepth 20000 in
theorem readyE_spec : ReadyESpec := by
  intro e xs h p q s c d f w HE hSM hfit hH _ _ hfx hr hl hm
  obtain ⟨hrd, hgd, hft⟩ := fitE_ok hfit
  have hsq := (fitT_ok hft)
  have H2 : Hid (∀ W, Below w.heap.size w W → Calls Try.prog 50 #[.slice s h.length f, .int .u16 e.txn.r] W fun r w' => r = .returned (.int .u32 (Vec.getL h e.txn.r)) ∧ Below W.heap.size W w') := fun W hb => Vec.get_any h e.txn.r s f W (hH.below hb) (right_srt hr) (by omega)
  have H3 : Hid (∀ W, Below w.heap.size w W → Calls Try.prog 51 #[.slice s h.length f, .slice p e.deps.length c] W fun r w' => r = .returned (.bool (Vec.coversL h e.deps)) ∧ Below W.heap.size W w') := fun W hb => Vec.covers_any h e.deps s p f c W (hH.below hb) (HE.row.below hb) (right_srt hr) (by omega) (by omega)
  have HF : Hid (readyE e h = (decide (Vec.getL h e.txn.r + 1 = e.txn.seq) && Vec.coversL h e.deps)) := rfl
  obtain ⟨g1, g2⟩ := getL_right hr e.txn.r
  have hsq1 : 1 ≤ e.txn.seq ∧ e.txn.seq ≤ 268435456 := by omega
  clear hH hfx hr HE hSM hfit hrd hgd hft hsq
  obtain ⟨deps, ⟨r, seq, clock, user, ops⟩⟩ := e
  unfold ev
  simp only at *
  generalize readyE (⟨deps, ⟨r, seq, clock, user, ops⟩⟩ : Em) h = F at HF ⊢
  generalize Vec.getL h r = G at H2 HF g1 g2
  generalize Vec.coversL h deps = C at H3 HF
  generalize ops.length = TL
  generalize deps.length = L at H3 hm ⊢
  generalize h.length = HL at H2 H3 hl ⊢
  have HX := Lib.hid (heap_alloc_new w (.cells #[.slice p L c, .int .u16 r, .int .u32 seq, .int .u64 clock, .int .i64 user, .slice q TL d] 36))
  have HB0 : Hid (Below w.heap.size w (w.alloc (.cells #[.slice p L c, .int .u16 r, .int .u32 seq, .int .u64 clock, .int .i64 user, .slice q TL d] 36))) := below_alloc (Below.refl _ _) _
  have hwr : IntKind.u32.wrap (seq - 1) = seq - 1 := by rw [IntKind.wrap_u32]; omega
  go_enter Try.func30, Try.ntmps30
  go_wp2_with fail
  generalize hw0 : (w.alloc (.cells #[.slice p L c, .int .u16 r, .int .u32 seq, .int .u64 clock, .int .i64 user, .slice q TL d] 36)) = w0 at HX HB0 ⊢
  clear hw0
  obtain ⟨x0', x1', x2', x3', x4', x5'⟩ := six_cells HX.out
  have x0 := cell_regrown x0'
  have x1 := cell_regrown x1'
  have x2 := cell_regrown x2'
  have HG : Hid (∀ dd os, Calls Try.prog 50 #[.slice s HL f, .int .u16 r] (Go.Sort.grow (redrawn w0 dd) os) fun e w' => e = .returned (.int .u32 G) ∧ Below (Go.Sort.grow (redrawn w0 dd) os).heap.size (Go.Sort.grow (redrawn w0 dd) os) w') := fun dd os => H2.out _ (below_step HB0.out (below_regrown _ _ _))
  have HC : Hid (∀ dd os, Calls Try.prog 51 #[.slice s HL f, .slice p L c] (Go.Sort.grow (redrawn w0 dd) os) fun e w' => e = .returned (.bool C) ∧ Below (Go.Sort.grow (redrawn w0 dd) os).heap.size (Go.Sort.grow (redrawn w0 dd) os) w') := fun dd os => H3.out _ (below_step HB0.out (below_regrown _ _ _))
  clear x0' x1' x2' x3' x4' x5'
  by_cases hE : G = seq - 1
  · have hE' : (G == seq - 1) = true := by simp [hE]
    have HF2 : Hid (F = C) := by show _ = _; rw [HF.out, decide_eq_true (by omega), Bool.true_and]
    clear hE g1 g2
    refine wp_region_quiet_below (by kernel_rfl) (by kernel_rfl) ?_
    repeat (first | go_big_quiet_step (first | (go_at_call 50; exact Calls.regrown_of (HG.out _ _)) | (go_at_call 51; exact Calls.regrown_of (HC.out _ _))) | quiet_step (first | (go_at_call 50; exact Calls.regrown_of (HG.out _ _)) | (go_at_call 51; exact Calls.regrown_of (HC.out _ _))))
    refine wpQuiet_nil ?_
    intro w3 hw'
    have HB3 : Hid (Below w.heap.size w w3) := by obtain ⟨⟨dq, osq⟩, rfl⟩ := hw'; exact below_step HB0.out (below_regrown _ _ _)
    clear hw' HG HC
    go_wp2
    go_ret
    exact ⟨by rw [HF2.out]; rfl, HB3.out⟩
  · have hE' : (G == seq - 1) = false := by simp [hE]
    have HF2 : Hid (F = false) := by show _ = _; rw [HF.out, decide_eq_false (by omega), Bool.false_and]
    clear hE g1 g2
    refine wp_region_quiet_below (by kernel_rfl) (by kernel_rfl) ?_
    repeat (first | go_big_quiet_step (first | (go_at_call 50; exact Calls.regrown_of (HG.out _ _)) | (go_at_call 51; exact Calls.regrown_of (HC.out _ _))) | quiet_step (first | (go_at_call 50; exact Calls.regrown_of (HG.out _ _)) | (go_at_call 51; exact Calls.regrown_of (HC.out _ _))))
    refine wpQuiet_nil ?_
    intro w3 hw'
    have HB3 : Hid (Below w.heap.size w w3) := by obtain ⟨⟨dq, osq⟩, rfl⟩ := hw'; exact below_step HB0.out (below_regrown _ _ _)
    clear hw' HG HC
    go_wp2
    go_ret
    exact ⟨by rw [HF2.out]; rfl, HB3.out⟩

end Go.Proofs.Ytjkdcpalgfakhaa
