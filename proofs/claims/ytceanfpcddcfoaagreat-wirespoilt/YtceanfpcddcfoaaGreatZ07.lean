/-
  Several texts of one proof, joined: each part says at its head what it proves. No conditions beyond what each theorem states.
-/
import Derived.Lib.OwnKind
import Derived.Test.YtceanfpcddcfoaaGreatZ06
import Derived.Test.YtceanfpcddcfoaaGreatZ01
import Derived.Test.YtceanfpcddcfoaaGreatZ05
import Derived.Test.YtceanfpcddcfoaaGreatZ03
/-
  A transaction that is written is read again, by the document. Of no program; no conditions beyond what each theorem states.
-/
namespace Go.Proofs.YtceanfpcddcfoaaGreat
open Go.ChangeShapes Go.WideShapes Go.ChangeAt Go.RowKit Go.Lib
set_option linter.unusedVariables false
set_option linter.unusedSimpArgs false

theorem readS_atp {pre post : List UInt8} {l : List Sp} (hr : RightS l) (hf : FitSs l) (hl : l.length ≤ 1024) : readS (pre ++ (bytesL l ++ post)) pre.length 0 = (l, pre.length + (bytesL l).length, 0) := by
  unfold readS bytesL
  have e1 := rdN_at (pre := pre) (post := l.flatMap bytesS ++ post) (n := l.length) (limit := 1024) (by omega) (by omega)
  rw [List.append_assoc, e1]
  have e2 := rdL_at l (pre ++ encN l.length) post hr hf
  rw [List.append_assoc, List.length_append] at e2
  simp only
  rw [e2]
  simp
  omega
theorem readO_at {o : Om} {pre post : List UInt8} (hf : FitOm o) (h0 : fitO o = 0) : readO (pre ++ (bytesO o ++ post)) pre.length 0 = (o, pre.length + (bytesO o).length, 0) := by
  have hc := fitO_cases h0
  unfold FitOm at hf
  obtain ⟨f1, f2, f3, f4, f5, f6, f7, f8, f9, f10, f11⟩ := hf
  obtain ⟨kind, r, n, num, text, spans, seq⟩ := o
  simp only at f1 f2 f3 f4 f5 f6 f7 f8 f9 f10 f11
  rcases hc with h | h | h | h
  · obtain ⟨rfl, rfl, rfl, -, -, ht, hn⟩ := h
    obtain ⟨R, rfl⟩ := nat_of f3
    obtain ⟨N, rfl⟩ := nat_of f5
    obtain ⟨M, rfl⟩ := nat_of f7
    have hn := of_decide_eq_true hn
    simp only at hn ht
    have hk := rdN_at (pre := pre) (post := (encN R ++ (encN N ++ encN M)) ++ (encT text ++ post)) (n := 1) (limit := 5) (by decide) (by decide)
    have hp := rdP_at (pre := pre ++ encN 1) (post := encT text ++ post) (R := R) (N := N) (M := M) (by omega) (by omega) (by omega)
    have hx := rdT_at (pre := pre ++ encN 1 ++ (encN R ++ (encN N ++ encN M))) (post := post) (s := text) (limit := 64) ht (by decide)
    have hb : bytesO ⟨1, (R : Int), (N : Int), (M : Int), text, [], 0⟩ = encN 1 ++ ((encN R ++ (encN N ++ encN M)) ++ encT text) := by unfold bytesO; simp
    rw [hb]
    simp only [List.append_assoc, List.length_append] at hk hp hx ⊢
    unfold readO
    rw [hk]
    simp only [true_or, if_true]
    rw [hp]
    simp only
    unfold readB
    rw [if_pos rfl]
    simp only [Nat.add_assoc] at hx ⊢
    rw [hx]
    simp [Nat.add_assoc]
  · obtain ⟨rfl, rfl, rfl, hp, hfl⟩ := h
    have hp := of_decide_eq_true hp
    simp only at hp
    obtain ⟨rfl, rfl, rfl⟩ := hp
    obtain ⟨a1, a2, a3⟩ := fitL_ok hfl
    simp only at a1 a2 a3
    have hk := rdN_at (pre := pre) (post := bytesL spans ++ post) (n := 2) (limit := 5) (by decide) (by decide)
    have hx := readS_atp (pre := pre ++ encN 2) (post := post) a1 f9 a3
    have hb : bytesO ⟨2, 0, 0, 0, [], spans, 0⟩ = encN 2 ++ bytesL spans := by unfold bytesO; simp
    rw [hb]
    simp only [List.append_assoc, List.length_append] at hk hx ⊢
    unfold readO
    rw [hk]
    rw [if_neg (by simp)]
    unfold readB
    simp only
    rw [if_neg (by decide), if_pos (Or.inl trivial), hx]
    simp
    omega
  · obtain ⟨rfl, rfl, rfl, hfl, hn⟩ := h
    obtain ⟨R, rfl⟩ := nat_of f3
    obtain ⟨N, rfl⟩ := nat_of f5
    obtain ⟨M, rfl⟩ := nat_of f7
    have hn := of_decide_eq_true hn
    simp only at hn
    obtain ⟨a1, a2, a3⟩ := fitL_ok hfl
    simp only at a1 a2 a3
    have hk := rdN_at (pre := pre) (post := (encN R ++ (encN N ++ encN M)) ++ (bytesL spans ++ post)) (n := 3) (limit := 5) (by decide) (by decide)
    have hat : 0 ≤ atomsO ⟨3, (R : Int), (N : Int), (M : Int), [], spans, 0⟩ := by unfold atomsO; simp
    have hp := rdP_at (pre := pre ++ encN 3) (post := bytesL spans ++ post) (R := R) (N := N) (M := M) (by omega) (by omega) (by omega)
    have hx := readS_atp (pre := pre ++ encN 3 ++ (encN R ++ (encN N ++ encN M))) (post := post) a1 f9 a3
    have hb : bytesO ⟨3, (R : Int), (N : Int), (M : Int), [], spans, 0⟩ = encN 3 ++ ((encN R ++ (encN N ++ encN M)) ++ bytesL spans) := by unfold bytesO; simp
    rw [hb]
    simp only [List.append_assoc, List.length_append] at hk hp hx ⊢
    unfold readO
    rw [hk]
    simp only [or_true, if_true]
    rw [hp]
    simp only
    unfold readB
    rw [if_neg (by decide), if_pos (Or.inr rfl)]
    simp only [Nat.add_assoc] at hx ⊢
    rw [hx]
    simp [Nat.add_assoc]
  · obtain ⟨hk, rfl, rfl, hp, hs1, hs2⟩ := h
    have hp := of_decide_eq_true hp
    simp only at hp hk hs1 hs2
    obtain ⟨rfl, rfl, rfl⟩ := hp
    obtain ⟨S, rfl⟩ := nat_of f10
    have hx := fun k => rdN_at (pre := pre ++ encN k) (post := post) (n := S) (limit := 268435456) (by omega) (by omega)
    simp only [List.append_assoc, List.length_append] at hx
    rcases hk with rfl | rfl
    · have hk := rdN_at (pre := pre) (post := encN S ++ post) (n := 4) (limit := 5) (by decide) (by decide)
      have hb : bytesO ⟨4, 0, 0, 0, [], [], (S : Int)⟩ = encN 4 ++ encN S := by unfold bytesO; simp
      rw [hb]
      simp only [List.append_assoc, List.length_append] at hk ⊢
      unfold readO
      rw [hk]
      rw [if_neg (by simp)]
      unfold readB
      simp only
      rw [if_neg (by decide), if_neg (by decide), hx 4]
      simp
      omega
    · have hk := rdN_at (pre := pre) (post := encN S ++ post) (n := 5) (limit := 5) (by decide) (by decide)
      have hb : bytesO ⟨5, 0, 0, 0, [], [], (S : Int)⟩ = encN 5 ++ encN S := by unfold bytesO; simp
      rw [hb]
      simp only [List.append_assoc, List.length_append] at hk ⊢
      unfold readO
      rw [hk]
      rw [if_neg (by simp)]
      unfold readB
      simp only
      rw [if_neg (by decide), if_neg (by decide), hx 5]
      simp
      omega
theorem rdOs_at : ∀ (l : List Om) (pre post : List UInt8), (∀ o ∈ l, FitOm o) → (∀ o ∈ l, fitO o = 0) → rdOs (pre ++ (l.flatMap bytesO ++ post)) l.length pre.length 0 = (l, pre.length + (l.flatMap bytesO).length, 0) := by
  intro l
  induction l with
  | nil => intro pre post _ _; simp [rdOs]
  | cons o l ih =>
    intro pre post hf h0
    have e1 := readO_at (pre := pre) (post := l.flatMap bytesO ++ post) (hf o (by simp)) (h0 o (by simp))
    have e2 := ih (pre ++ bytesO o) post (fun x hx => hf x (by simp [hx])) (fun x hx => h0 x (by simp [hx]))
    rw [List.flatMap_cons, List.length_cons, rdOs, if_pos rfl]
    simp only [List.append_assoc, List.length_append] at e1 e2 ⊢
    rw [e1]
    simp only
    rw [e2]
    simp
    omega
theorem readTx_all {t : Tm} (hf : FitTm t) (h0 : fitT t = 0) : readTx (bytesT t) 0 0 = (t, (bytesT t).length, 0) := by
  obtain ⟨g1, g2, g3, g4, g5, g6, g7, g8, g9⟩ := fitT_ok h0
  have hO := fitOs_ok t.ops (-1) g9
  unfold FitTm at hf
  obtain ⟨f1, f2, f3, f4, f5, f6, f7, f8, f9⟩ := hf
  obtain ⟨r, seq, clock, user, ops⟩ := t
  simp only at f1 f2 f3 f4 f5 f6 f7 f8 f9 g1 g2 g3 g4 g5 g6 g7 g8 g9 hO
  obtain ⟨R, rfl⟩ := nat_of f1
  obtain ⟨S, rfl⟩ := nat_of f3
  obtain ⟨C, rfl⟩ := nat_of f5
  obtain ⟨U, rfl⟩ := nat_of g5
  have e1 := rdN_at (pre := []) (post := encN S ++ (encN C ++ (encN U ++ (encN ops.length ++ ops.flatMap bytesO)))) (n := R) (limit := 65535) (by omega) (by omega)
  have e2 := rdN_at (pre := encN R) (post := encN C ++ (encN U ++ (encN ops.length ++ ops.flatMap bytesO))) (n := S) (limit := 268435456) (by omega) (by omega)
  have e3 := rdN_at (pre := encN R ++ encN S) (post := encN U ++ (encN ops.length ++ ops.flatMap bytesO)) (n := C) (limit := 1099511627776) (by omega) (by omega)
  have e4 := rdN_at (pre := encN R ++ (encN S ++ encN C)) (post := encN ops.length ++ ops.flatMap bytesO) (n := U) (limit := 7) (by omega) (by omega)
  have e5 := rdN_at (pre := encN R ++ (encN S ++ (encN C ++ encN U))) (post := ops.flatMap bytesO) (n := ops.length) (limit := 16) (by omega) (by omega)
  have e6 := rdOs_at ops (encN R ++ (encN S ++ (encN C ++ (encN U ++ encN ops.length)))) [] f9 (fun o ho => (hO o ho).1)
  have hb : bytesT ⟨(R : Int), (S : Int), (C : Int), (U : Int), ops⟩ = encN R ++ (encN S ++ (encN C ++ (encN U ++ (encN ops.length ++ ops.flatMap bytesO)))) := by unfold bytesT; simp
  rw [hb]
  rw [List.append_nil] at e6
  simp only [List.append_assoc, List.length_append, List.nil_append, List.length_nil, Nat.zero_add, Nat.add_assoc] at e1 e2 e3 e4 e5 e6 ⊢
  unfold readTx
  simp only
  rw [e1]
  simp only
  rw [e2]
  simp only
  rw [e3]
  simp only [Nat.add_assoc]
  rw [e4]
  simp only [Nat.add_assoc]
  rw [e5]
  simp only [Nat.add_assoc]
  rw [e6]
  simp [Nat.add_assoc]
end Go.Proofs.YtceanfpcddcfoaaGreat
/-
  In blocks of which kind a row lies. Of no program; no conditions beyond what each theorem states.
-/
namespace Go.Proofs.YtceanfpcddcfoaaGreat
open Go.ChangeShapes Go.WideShapes Go.ChangeAt Go.RowKit Go.Lib
set_option linter.unusedVariables false
set_option linter.unusedSimpArgs false

/-- A row lies in a block of this kind. -/
def KindAt (t : TypeId) (w : World) (p : Option Addr) : Prop := ∀ q, p = some q → ∃ cs f, w.heap[q.block]? = some (.cells cs t f)
theorem KindAt.nil (t : TypeId) (w : World) : KindAt t w none := fun q e => by cases e
theorem KindAt.below {t : TypeId} {w w' : World} {p : Option Addr} (h : KindAt t w p) (hb : Below w.heap.size w w') : KindAt t w' p := fun q e => by
  obtain ⟨cs, f, hq⟩ := h q e
  exact ⟨cs, f, by rw [hb.block _ (lt_of_block hq)]; exact hq⟩
theorem KindAt.apart {s : TypeId} {w : World} {p : Option Addr} (h : KindAt s w p) {X : Nat} {cs : Array Value} {t : TypeId} {f : Nat × Nat} (ht : t ≠ s) (hX : w.heap[X]? = some (.cells cs t f)) : ∀ q, p = some q → q.block ≠ X := fun q e ee => by
  obtain ⟨cs', f', hq⟩ := h q e
  rw [ee, hX] at hq
  injection hq with hq
  injection hq with h1 h2 h3
  exact ht h2
theorem KindAt.kept {s : TypeId} {S : Nat → Prop} {w w' : World} {p : Option Addr} (h : KindAt s w p) (hk : Kept S w w') (hn : ∀ q, p = some q → ¬ S q.block) : KindAt s w' p := fun q e => by
  obtain ⟨cs, f, hq⟩ := h q e
  exact ⟨cs, f, hk.stays hq (hn q e)⟩
theorem kind_owns {w : World} {base size n c m : Nat} {t : TypeId} {p : Option Addr} {xs : List Value} (h : w.ownsRow base t size (.slice p m c) n xs) : KindAt t w p := fun q e => by
  subst e
  exact Lib.ownsRow_kind h q.block rfl
end Go.Proofs.YtceanfpcddcfoaaGreat
/-
  Reading's ground for layer 8: the operation that is read, as a variable of the call, and three numbers behind so many of them. No conditions beyond what each theorem states.
-/
namespace Go.Proofs.YtceanfpcddcfoaaGreat
open Go.ChangeShapes Go.WideShapes Go.ChangeAt Go.RowKit Go.Lib
set_option linter.unusedVariables false
set_option linter.unusedSimpArgs false

/-- What Read holds: its result (still nothing), and what it has read so far. -/
structure RS (w : World) (k a b c : Int) (s : ByteArray) (v : Value) (q : Int) (W : World) : Prop where
  res : W.heap[w.heap.size]? = some (.cells #[.int .i64 0, .int .u16 0, .int .u32 0, .int .u32 0, .string ⟨#[]⟩, .slice none 0 0, .int .u32 0] 71 (0, 0))
  box : W.heap[w.heap.size + 1]? = some (.cells #[.int .i64 k, .int .u16 a, .int .u32 b, .int .u32 c, .string s, v, .int .u32 q] 71 (0, 0))
  bel : Below w.heap.size w W
theorem RS.new (w : World) : RS w 0 0 0 0 ⟨#[]⟩ (.slice none 0 0) 0 ((w.alloc (.cells #[.int .i64 0, .int .u16 0, .int .u32 0, .int .u32 0, .string ⟨#[]⟩, .slice none 0 0, .int .u32 0] 71)).alloc (.cells #[.int .i64 0, .int .u16 0, .int .u32 0, .int .u32 0, .string ⟨#[]⟩, .slice none 0 0, .int .u32 0] 71)) :=
  ⟨heap_alloc2_old w _ _, heap_alloc2_new w _ _, below_alloc (below_alloc (Below.refl _ _) _) _⟩
theorem RS.below {w W W' : World} {k a b c q : Int} {s : ByteArray} {v : Value} (h : RS w k a b c s v q W) (hb : Below W.heap.size W W') : RS w k a b c s v q W' := ⟨kept_box h.res hb, kept_box h.box hb, below_step h.bel hb⟩
theorem RS.set {w W : World} {k a b c q : Int} {s : ByteArray} {v : Value} (h : RS w k a b c s v q W) (i : Nat) (u : Value) {k' a' b' c' q' : Int} {s' : ByteArray} {v' : Value}
    (e : (#[.int .i64 k, .int .u16 a, .int .u32 b, .int .u32 c, .string s, v, .int .u32 q] : Array Value).setIfInBounds i u = #[.int .i64 k', .int .u16 a', .int .u32 b', .int .u32 c', .string s', v', .int .u32 q']) : RS w k' a' b' c' s' v' q' (W.setCell ⟨w.heap.size + 1, i, none⟩ u) :=
  ⟨by rw [heap_setCell_other _ _ _ _ (by simp)]; exact h.res, by rw [heap_setCell_same W _ i _ _ u h.box, e], h.bel.setCell (p := ⟨w.heap.size + 1, i, none⟩) (by simp) _⟩
theorem RS.other {w W : World} {k a b c q : Int} {s : ByteArray} {v : Value} (h : RS w k a b c s v q W) {V o : Nat} (hV : w.heap.size + 1 < V) (u : Value) : RS w k a b c s v q (W.setCell ⟨V, o, none⟩ u) :=
  ⟨by rw [heap_setCell_other _ _ _ _ (by simp; omega)]; exact h.res, by rw [heap_setCell_other _ _ _ _ (by simp; omega)]; exact h.box, h.bel.setCell (p := ⟨V, o, none⟩) (by simp; omega) _⟩
theorem RS.frozen {w W : World} {k a b c q : Int} {s : ByteArray} {v : Value} (h : RS w k a b c s v q W) : (∀ o, W.frozen? ⟨w.heap.size, o, none⟩ = false) ∧ (∀ o, W.frozen? ⟨w.heap.size + 1, o, none⟩ = false) := ⟨fun o => frozen_of_block h.res, fun o => frozen_of_block h.box⟩
theorem results_ctt {P : Program} {fn : Func} {p t u : Tmp} {ty : TypeId} (h : fn.results = #[.cell p ty, .tmp t, .tmp u]) (tmps : Array Value) (w : World) (a : Addr) (va : Value)
    (hp : tmps.getD p undef = .pointer (some a)) (la : (loadVar ty a).run P w = .ok va w) :
    (results fn tmps).run P w = .ok (.tuple #[va, tmps.getD t undef, tmps.getD u undef]) w := by
  have hp' : tmps[p]?.getD undef = .pointer (some a) := by simpa using hp
  simp [results, h, hp', asAddr, la]
theorem load8 {w : World} {B : Nat} {cs : Array Value} {t : TypeId} (h : w.heap[B]? = some (.cells cs t (0, 0))) (hs : cs.size = 7) : (loadVar 71 ⟨B, 0, none⟩).run Tryz.prog w = .ok (.agg cs) w :=
  run_loadVar_row w B t 71 _ (0, 0) _ h Tryz.underlying71 rfl (by rw [hs]; exact sz8)
/-- Three numbers behind so many of them: anchor and number. -/
def St8 (bs : List UInt8) (q0 : Nat) (i : Nat) (a b c q e : Nat) : Prop :=
  match i with
  | 0 => a = 0 ∧ b = 0 ∧ c = 0 ∧ q = q0 ∧ e = 0
  | 1 => (a, q, e) = rdN bs q0 0 65535 ∧ b = 0 ∧ c = 0
  | 2 => ∃ q1 e1, (a, q1, e1) = rdN bs q0 0 65535 ∧ (b, q, e) = rdN bs q1 e1 268435456 ∧ c = 0
  | _ => ∃ q1 e1 q2 e2, (a, q1, e1) = rdN bs q0 0 65535 ∧ (b, q2, e2) = rdN bs q1 e1 268435456 ∧ (c, q, e) = rdN bs q2 e2 268435456
theorem St8.done {bs : List UInt8} {q0 i a b c q e : Nat} (h : St8 bs q0 i a b c q e) (hi : i ≤ 3) (hd : i = 3 ∨ e ≠ 0) : rdP bs q0 0 = ((a, b, c), q, e) := by
  have : i = 0 ∨ i = 1 ∨ i = 2 ∨ i = 3 := by omega
  unfold rdP
  rcases this with rfl | rfl | rfl | rfl
  · obtain ⟨_, _, _, _, rfl⟩ := h
    rcases hd with hd | hd
    · cases hd
    · exact absurd rfl hd
  · obtain ⟨h1, rfl, rfl⟩ := h
    have he : e ≠ 0 := by rcases hd with hd | hd; cases hd; exact hd
    rw [← h1]
    simp only
    rw [rdN_err he]
    simp only
    rw [rdN_err he]
  · obtain ⟨q1, e1, h1, h2, rfl⟩ := h
    have he : e ≠ 0 := by rcases hd with hd | hd; cases hd; exact hd
    rw [← h1]
    simp only
    rw [← h2]
    simp only
    rw [rdN_err he]
  · obtain ⟨q1, e1, q2, e2, h1, h2, h3⟩ := h
    rw [← h1]
    simp only
    rw [← h2]
    simp only
    rw [← h3]
theorem St8.next0 {bs : List UInt8} {q0 a b c q : Nat} (h : St8 bs q0 0 a b c q 0) : St8 bs q0 1 (rdN bs q 0 65535).1 b c (rdN bs q 0 65535).2.1 (rdN bs q 0 65535).2.2 := by
  obtain ⟨rfl, rfl, rfl, rfl, _⟩ := h; exact ⟨rfl, rfl, rfl⟩
theorem St8.next1 {bs : List UInt8} {q0 a b c q : Nat} (h : St8 bs q0 1 a b c q 0) : St8 bs q0 2 a (rdN bs q 0 268435456).1 c (rdN bs q 0 268435456).2.1 (rdN bs q 0 268435456).2.2 := by
  obtain ⟨h1, rfl, rfl⟩ := h; exact ⟨q, 0, h1, rfl, rfl⟩
theorem St8.next2 {bs : List UInt8} {q0 a b c q : Nat} (h : St8 bs q0 2 a b c q 0) : St8 bs q0 3 a b (rdN bs q 0 268435456).1 (rdN bs q 0 268435456).2.1 (rdN bs q 0 268435456).2.2 := by
  obtain ⟨q1, e1, h1, h2, rfl⟩ := h; exact ⟨q1, e1, q, 0, h1, h2, rfl⟩
/-- What the document's Read tells, at a place. -/
def Read8At (bs : List UInt8) (Q : Nat) (w : World) (r : Ending) (w' : World) : Prop := ∃ p c q', r = .returned (.tuple #[ov (readO bs Q 0).1 p c, .int .i64 (q' : Int), .int .i64 ((readO bs Q 0).2.2 : Int)]) ∧ GRow layS w' p (readO bs Q 0).1.spans ∧ ((readO bs Q 0).2.2 = 0 → q' = ((readO bs Q 0).2.1 : Nat)) ∧ Below w.heap.size w w' ∧ KindAt 136 w' p
def Read8 (bs : List UInt8) (w : World) (r : Ending) (w' : World) : Prop := ∃ p c q', r = .returned (.tuple #[ov (readO bs 0 0).1 p c, .int .i64 (q' : Int), .int .i64 ((readO bs 0 0).2.2 : Int)]) ∧ GRow layS w' p (readO bs 0 0).1.spans ∧ ((readO bs 0 0).2.2 = 0 → q' = ((readO bs 0 0).2.1 : Nat)) ∧ Below w.heap.size w w'
/-- Nothing is told behind an error. -/
theorem read8_zero {bs : List UInt8} {Q : Nat} {w W : World} {k a b c q : Int} {s : ByteArray} {v : Value} {qq e pos : Nat} (h : RS w k a b c s v q W) (he : readO bs Q 0 = (o0, qq, e)) (h0 : e ≠ 0) :
    Read8At bs Q w (.returned (.tuple #[.agg #[.int .i64 0, .int .u16 0, .int .u32 0, .int .u32 0, .string ⟨#[]⟩, .slice none 0 0, .int .u32 0], .int .i64 (pos : Int), .int .i64 (e : Int)])) (((((((W.setCell ⟨w.heap.size, 0, none⟩ (.int .i64 0)).setCell ⟨w.heap.size, 1, none⟩ (.int .u16 0)).setCell ⟨w.heap.size, 2, none⟩ (.int .u32 0)).setCell ⟨w.heap.size, 3, none⟩ (.int .u32 0)).setCell ⟨w.heap.size, 4, none⟩ (.string ⟨#[]⟩)).setCell ⟨w.heap.size, 5, none⟩ (.slice none 0 0)).setCell ⟨w.heap.size, 6, none⟩ (.int .u32 0)) := by
  have hS := only_seven W w.heap.size (.int .i64 0) (.int .u16 0) (.int .u32 0) (.int .u32 0) (.string ⟨#[]⟩) (.slice none 0 0) (.int .u32 0)
  refine ⟨none, 0, pos, by rw [he]; rfl, by rw [he]; exact GRow.nil _ _ _, fun h => by rw [he] at h; exact absurd h h0, ?_, KindAt.nil _ _⟩
  exact h.bel.trans (hS.below (Nat.le_trans h.bel.size (Nat.le_refl _)) (by intro k ek; have ek : k = w.heap.size := ek; omega))
/-- What was read is told. -/
theorem read8_some {bs : List UInt8} {Q : Nat} {w W : World} {o : Om} {p : Option Addr} {cc : Nat} {q pos : Nat} (h : RS w o.kind o.r o.n o.num ⟨o.text.toArray⟩ (.slice p o.spans.length cc) o.seq W) (hG : GRow layS W p o.spans) (hp : ∀ a, p = some a → a.block ≠ w.heap.size) (hk : KindAt 136 W p) (he : readO bs Q 0 = (o, pos, 0)) :
    Read8At bs Q w (.returned (.tuple #[.agg #[.int .i64 o.kind, .int .u16 o.r, .int .u32 o.n, .int .u32 o.num, .string ⟨o.text.toArray⟩, .slice p o.spans.length cc, .int .u32 o.seq], .int .i64 (pos : Int), .int .i64 0])) (((((((W.setCell ⟨w.heap.size, 0, none⟩ (.int .i64 o.kind)).setCell ⟨w.heap.size, 1, none⟩ (.int .u16 o.r)).setCell ⟨w.heap.size, 2, none⟩ (.int .u32 o.n)).setCell ⟨w.heap.size, 3, none⟩ (.int .u32 o.num)).setCell ⟨w.heap.size, 4, none⟩ (.string ⟨o.text.toArray⟩)).setCell ⟨w.heap.size, 5, none⟩ (.slice p o.spans.length cc)).setCell ⟨w.heap.size, 6, none⟩ (.int .u32 o.seq)) := by
  have hS := only_seven W w.heap.size (.int .i64 o.kind) (.int .u16 o.r) (.int .u32 o.n) (.int .u32 o.num) (.string ⟨o.text.toArray⟩) (.slice p o.spans.length cc) (.int .u32 o.seq)
  refine ⟨p, cc, pos, by rw [he]; rfl, by rw [he]; exact hG.kept hS (fun a ea => hp a ea), fun _ => by rw [he], ?_, hk.kept hS (fun a ea => hp a ea)⟩
  exact h.bel.trans (hS.below (Nat.le_trans h.bel.size (Nat.le_refl _)) (by intro k ek; have ek : k = w.heap.size := ek; omega))
end Go.Proofs.YtceanfpcddcfoaaGreat
/-
  What the document's Read of layer 8 hands back: where there is no anchor to read. No conditions beyond what each theorem states.
-/
namespace Go.Proofs.YtceanfpcddcfoaaGreat
open Go.ChangeShapes Go.WideShapes Go.ChangeAt Go.RowKit Go.Lib
set_option linter.unusedVariables false
set_option linter.unusedSimpArgs false

theorem rdN_zero {bs : List UInt8} {q limit : Nat} (h : (rdN bs q 0 limit).2.2 ≠ 0) : (rdN bs q 0 limit).1 = 0 := by
  rw [rdN_read] at h ⊢
  have := read_fair (bs.drop q) limit
  unfold Fair at this
  simp only at h ⊢
  omega
set_option maxHeartbeats 6400000 in
set_option maxRecDepth 20000 in
/-- The kind could not be read. -/
theorem read8_k (bs : List UInt8) (Q : Nat) (hQ : Q ≤ bs.length) (p : Option Addr) (c : Nat) (w : World) (hR : BRow w p bs) (hl : bs.length ≤ 1000000) (he0 : (rdN bs Q 0 5).2.2 ≠ 0) :
    Calls Tryz.prog 106 #[.slice p bs.length c, .int .i64 (Q : Int)] w (Read8At bs Q w) := by
  have H0 := Lib.hid (fun W (hb : Below w.heap.size w W) => readnum_any bs Q 5 p c (by omega) hQ hl W (hR.below hb))
  have hz := rdN_zero he0
  have HO : Hid (readO bs Q 0 = (o0, (rdN bs Q 0 5).2.1, (rdN bs Q 0 5).2.2)) := by
    show _ = _
    unfold readO
    rw [hz, if_neg (by decide)]
    unfold readB
    rw [if_neg (by decide), if_neg (by decide), rdN_err he0]
    simp only
    rw [if_neg he0]
  generalize rdN bs Q 0 5 = kk at H0 he0 hz HO
  obtain ⟨k, q0, e0⟩ := kk
  simp only at H0 he0 hz HO
  subst hz
  have hee : ((e0 : Int) == 0) = false := beq_no (by omega)
  have hee' : ((e0 : Int) != 0) = true := by simp; omega
  have HRS := Lib.hid (RS.new w)
  clear hR
  go_enter Tryz.func106, Tryz.ntmps106
  go_wp2_with fail
  generalize (w.alloc (.cells #[.int .i64 0, .int .u16 0, .int .u32 0, .int .u32 0, .string ⟨#[]⟩, .slice none 0 0, .int .u32 0] 71)).alloc (.cells #[.int .i64 0, .int .u16 0, .int .u32 0, .int .u32 0, .string ⟨#[]⟩, .slice none 0 0, .int .u32 0] 71) = W0 at HRS ⊢
  refine (H0.out _ HRS.out.bel).mono ?_
  rintro r w1 ⟨rfl, hw1⟩
  obtain rfl := Eq.symm hw1
  have HRS1 := Lib.hid (HRS.out.set 0 (.int .i64 0) (k' := 0) (a' := 0) (b' := 0) (c' := 0) (s' := ⟨#[]⟩) (v' := .slice none 0 0) (q' := 0) rfl)
  obtain ⟨x0, x1, x2, x3, x4, x5, x6⟩ := seven_cells HRS.out.box
  obtain ⟨y0, y1, y2, y3, y4, y5, y6⟩ := seven_cells HRS.out.res
  obtain ⟨fr, fb⟩ := HRS.out.frozen
  have hne : ¬ w.heap.size + 1 = w.heap.size := by omega
  have hne' : ¬ w.heap.size = w.heap.size + 1 := by omega
  clear hw1 H0
  go_wp2
  (try simp only [Exit.inBlock, Exit.then])
  refine bodyPost_ret (results_ctt (p := 4) (t := 5) (u := 6) (ty := 71) rfl _ _ ⟨w.heap.size, 0, none⟩ _ rfl (load8 (box_seven HRS1.out.res) rfl)) rfl ?_
  exact read8_zero (pos := q0) HRS1.out HO.out he0
set_option maxHeartbeats 6400000 in
set_option maxRecDepth 20000 in
/-- A kind that has a number behind it. -/
theorem read8_s (bs : List UInt8) (Q : Nat) (hQ : Q ≤ bs.length) (p : Option Addr) (c : Nat) (w : World) (hR : BRow w p bs) (hl : bs.length ≤ 1000000) (he0 : (rdN bs Q 0 5).2.2 = 0) (h1 : (rdN bs Q 0 5).1 ≠ 1) (h2 : (rdN bs Q 0 5).1 ≠ 2) (h3 : (rdN bs Q 0 5).1 ≠ 3) :
    Calls Tryz.prog 106 #[.slice p bs.length c, .int .i64 (Q : Int)] w (Read8At bs Q w) := by
  have H0 := Lib.hid (fun W (hb : Below w.heap.size w W) => readnum_any bs Q 5 p c (by omega) hQ hl W (hR.below hb))
  have hf0 := rdN_fits (bs := bs) (q := Q) (e := 0) (limit := 5) hQ
  have HO : Hid (readO bs Q 0 = readB bs (rdN bs Q 0 5).1 (0, 0, 0) (rdN bs Q 0 5).2.1 0) := by
    show _ = _
    unfold readO
    rw [if_neg (by omega), he0]
  generalize rdN bs Q 0 5 = kk at H0 he0 h1 h2 h3 hf0 HO
  obtain ⟨k, q0, e0⟩ := kk
  simp only at H0 he0 h1 h2 h3 hf0 HO
  subst he0
  have HO : Hid (readO bs Q 0 = if (rdN bs q0 0 268435456).2.2 = 0 then (⟨(k : Int), 0, 0, 0, [], [], ((rdN bs q0 0 268435456).1 : Int)⟩, (rdN bs q0 0 268435456).2) else (o0, (rdN bs q0 0 268435456).2)) := by
    show _ = _
    rw [HO.out]
    unfold readB
    rw [if_neg h1, if_neg (by omega)]
    rfl
  have HQ := Lib.hid (fun W (hb : Below w.heap.size w W) => readnum_any bs q0 268435456 p c (by omega) hf0.1 hl W (hR.below hb))
  have hf1 := rdN_fits (bs := bs) (q := q0) (e := 0) (limit := 268435456) hf0.1
  generalize rdN bs q0 0 268435456 = ss at HO HQ hf1
  obtain ⟨S, q1, e1⟩ := ss
  simp only at HO HQ hf1
  have k1 : ((k : Int) == 1) = false := beq_no (by omega)
  have k2 : ((k : Int) == 2) = false := beq_no (by omega)
  have k3 : ((k : Int) == 3) = false := beq_no (by omega)
  have hkw : IntKind.i64.wrap (k : Int) = (k : Int) := by rw [IntKind.wrap_i64]; omega
  have hsw : IntKind.u32.wrap (S : Int) = (S : Int) := by rw [IntKind.wrap_u32]; omega
  have HRS := Lib.hid (RS.new w)
  clear hR
  go_enter Tryz.func106, Tryz.ntmps106
  go_wp2_with fail
  generalize (w.alloc (.cells #[.int .i64 0, .int .u16 0, .int .u32 0, .int .u32 0, .string ⟨#[]⟩, .slice none 0 0, .int .u32 0] 71)).alloc (.cells #[.int .i64 0, .int .u16 0, .int .u32 0, .int .u32 0, .string ⟨#[]⟩, .slice none 0 0, .int .u32 0] 71) = W0 at HRS ⊢
  refine (H0.out _ HRS.out.bel).mono ?_
  rintro r w1 ⟨rfl, hw1⟩
  obtain rfl := Eq.symm hw1
  have HRS1 := Lib.hid (HRS.out.set 0 (.int .i64 (k : Int)) (k' := (k : Int)) (a' := 0) (b' := 0) (c' := 0) (s' := ⟨#[]⟩) (v' := .slice none 0 0) (q' := 0) rfl)
  obtain ⟨x0, x1, x2, x3, x4, x5, x6⟩ := seven_cells HRS.out.box
  obtain ⟨y0, y1, y2, y3, y4, y5, y6⟩ := seven_cells HRS.out.res
  obtain ⟨fr, fb⟩ := HRS.out.frozen
  have hne : ¬ w.heap.size + 1 = w.heap.size := by omega
  have hne' : ¬ w.heap.size = w.heap.size + 1 := by omega
  clear hw1 H0
  go_wp2_with fail
  clear x0 x1 x2 x3 x4 x5 x6 y0 y1 y2 y3 y4 y5 y6 fr fb
  generalize W0.setCell ⟨w.heap.size + 1, 0, none⟩ (.int .i64 (k : Int)) = W1 at HRS1 ⊢
  obtain ⟨x0, x1, x2, x3, x4, x5, x6⟩ := seven_cells HRS1.out.box
  obtain ⟨y0, y1, y2, y3, y4, y5, y6⟩ := seven_cells HRS1.out.res
  obtain ⟨fr, fb⟩ := HRS1.out.frozen
  go_wp2_with fail
  refine (HQ.out _ HRS1.out.bel).mono ?_
  rintro r w2 ⟨rfl, hw2⟩
  obtain rfl := Eq.symm hw2
  have HRS2 := Lib.hid (HRS1.out.set 6 (.int .u32 (S : Int)) (k' := (k : Int)) (a' := 0) (b' := 0) (c' := 0) (s' := ⟨#[]⟩) (v' := .slice none 0 0) (q' := (S : Int)) rfl)
  clear hw2 HQ
  by_cases hz : e1 = 0
  · subst hz
    have HO : Hid (readO bs Q 0 = (⟨(k : Int), 0, 0, 0, [], [], (S : Int)⟩, q1, 0)) := by show _ = _; rw [HO.out, if_pos rfl]
    go_wp2
    (try simp only [Exit.inBlock, Exit.then])
    refine bodyPost_ret (results_ctt (p := 4) (t := 5) (u := 6) (ty := 71) rfl _ _ ⟨w.heap.size, 0, none⟩ _ rfl (load8 (box_seven HRS2.out.res) rfl)) rfl ?_
    exact read8_some (o := ⟨(k : Int), 0, 0, 0, [], [], (S : Int)⟩) (p := none) (cc := 0) (q := 0) (pos := q1) HRS2.out (GRow.nil _ _ _) (by intro a ha; cases ha) (KindAt.nil _ _) HO.out
  · have hee : ((e1 : Int) == 0) = false := beq_no (by omega)
    have hee' : ((e1 : Int) != 0) = true := by simp; omega
    have HO : Hid (readO bs Q 0 = (o0, q1, e1)) := by show _ = _; rw [HO.out, if_neg hz]
    go_wp2
    (try simp only [Exit.inBlock, Exit.then])
    refine bodyPost_ret (results_ctt (p := 4) (t := 5) (u := 6) (ty := 71) rfl _ _ ⟨w.heap.size, 0, none⟩ _ rfl (load8 (box_seven HRS2.out.res) rfl)) rfl ?_
    exact read8_zero (pos := q1) HRS2.out HO.out hz
end Go.Proofs.YtceanfpcddcfoaaGreat
/-
  What the document's Read of layer 8 hands back: where spans stand behind the kind. No conditions beyond what each theorem states.
-/
namespace Go.Proofs.YtceanfpcddcfoaaGreat
open Go.ChangeShapes Go.WideShapes Go.ChangeAt Go.RowKit Go.Lib
set_option linter.unusedVariables false
set_option linter.unusedSimpArgs false

set_option maxHeartbeats 6400000 in
set_option maxRecDepth 20000 in
theorem read8_2 (bs : List UInt8) (Q : Nat) (hQ : Q ≤ bs.length) (p : Option Addr) (c : Nat) (w : World) (hR : BRow w p bs) (hl : bs.length ≤ 1000000) (he0 : (rdN bs Q 0 5).2.2 = 0) (h2 : (rdN bs Q 0 5).1 = 2) :
    Calls Tryz.prog 106 #[.slice p bs.length c, .int .i64 (Q : Int)] w (Read8At bs Q w) := by
  have H0 := Lib.hid (fun W (hb : Below w.heap.size w W) => readnum_any bs Q 5 p c (by omega) hQ hl W (hR.below hb))
  have hf0 := rdN_fits (bs := bs) (q := Q) (e := 0) (limit := 5) hQ
  have HO : Hid (readO bs Q 0 = readB bs 2 (0, 0, 0) (rdN bs Q 0 5).2.1 0) := by
    show _ = _
    unfold readO
    rw [if_neg (by omega), he0, h2]
  generalize rdN bs Q 0 5 = kk at H0 he0 h2 hf0 HO
  obtain ⟨k, q0, e0⟩ := kk
  simp only at H0 he0 h2 hf0 HO
  subst he0 h2
  have HO : Hid (readO bs Q 0 = if (readS bs q0 0).2.2 = 0 then (⟨2, 0, 0, 0, [], (readS bs q0 0).1, 0⟩, (readS bs q0 0).2) else (o0, (readS bs q0 0).2)) := by
    show _ = _
    rw [HO.out]
    unfold readB
    rw [if_neg (by decide), if_pos (Or.inl rfl)]
    rfl
  have HS := Lib.hid (fun W (hb : Below w.heap.size w W) => refread_at bs q0 hf0.1 p c W (hR.below hb) hl)
  unfold ReadAt at HS
  generalize readS bs q0 0 = ss at HO HS
  obtain ⟨L, q1, e1⟩ := ss
  simp only at HO HS
  clear hR
  have HRS := Lib.hid (RS.new w)
  go_enter Tryz.func106, Tryz.ntmps106
  go_wp2_with fail
  generalize (w.alloc (.cells #[.int .i64 0, .int .u16 0, .int .u32 0, .int .u32 0, .string ⟨#[]⟩, .slice none 0 0, .int .u32 0] 71)).alloc (.cells #[.int .i64 0, .int .u16 0, .int .u32 0, .int .u32 0, .string ⟨#[]⟩, .slice none 0 0, .int .u32 0] 71) = W0 at HRS ⊢
  refine (H0.out _ HRS.out.bel).mono ?_
  rintro r w1 ⟨rfl, hw1⟩
  obtain rfl := Eq.symm hw1
  have HRS1 := Lib.hid (HRS.out.set 0 (.int .i64 2) (k' := 2) (a' := 0) (b' := 0) (c' := 0) (s' := ⟨#[]⟩) (v' := .slice none 0 0) (q' := 0) rfl)
  obtain ⟨x0, x1, x2, x3, x4, x5, x6⟩ := seven_cells HRS.out.box
  obtain ⟨y0, y1, y2, y3, y4, y5, y6⟩ := seven_cells HRS.out.res
  obtain ⟨fr, fb⟩ := HRS.out.frozen
  have hne : ¬ w.heap.size + 1 = w.heap.size := by omega
  have hne' : ¬ w.heap.size = w.heap.size + 1 := by omega
  clear hw1 H0
  go_wp2_with fail
  clear x0 x1 x2 x3 x4 x5 x6 y0 y1 y2 y3 y4 y5 y6 fr fb
  generalize W0.setCell ⟨w.heap.size + 1, 0, none⟩ (.int .i64 2) = W1 at HRS1 ⊢
  obtain ⟨x0, x1, x2, x3, x4, x5, x6⟩ := seven_cells HRS1.out.box
  obtain ⟨y0, y1, y2, y3, y4, y5, y6⟩ := seven_cells HRS1.out.res
  obtain ⟨fr, fb⟩ := HRS1.out.frozen
  go_wp2_with fail
  refine (HS.out _ HRS1.out.bel).mono ?_
  rintro r w2 ⟨v2, rfl, hH⟩
  have HR2 := Lib.hid (HRS1.out.below hH.2)
  obtain ⟨pv, cv, rfl, hG, hcv, hpv⟩ := hH.gave layS_pos
  have hX1 : w.heap.size + 1 < W1.heap.size := lt_of_block HRS1.out.box
  have hP : ∀ q, pv = some q → W1.heap.size ≤ q.block := fun q e => by
    subst e
    exact (hH.1.lt q.block rfl).1
  have HRS2 := Lib.hid (HR2.out.set 5 (.slice pv L.length cv) (k' := 2) (a' := 0) (b' := 0) (c' := 0) (s' := ⟨#[]⟩) (v' := .slice pv L.length cv) (q' := 0) rfl)
  have HG2 : Hid (GRow layS (w2.setCell ⟨w.heap.size + 1, 5, none⟩ (.slice pv L.length cv)) pv L) := hG.kept (only_set _ _ _ _) (fun q e ee => by have := hP q e; have ee : q.block = w.heap.size + 1 := ee; omega)
  have HK2 : Hid (KindAt 136 (w2.setCell ⟨w.heap.size + 1, 5, none⟩ (.slice pv L.length cv)) pv) := (kind_owns hH.1).kept (only_set _ _ _ _) (fun q e ee => by have := hP q e; have ee : q.block = w.heap.size + 1 := ee; omega)
  have HP : Hid (∀ q, pv = some q → q.block ≠ w.heap.size) := fun q e => by have := hP q e; omega
  clear x0 x1 x2 x3 x4 x5 x6 y0 y1 y2 y3 y4 y5 y6 fr fb
  obtain ⟨x0, x1, x2, x3, x4, x5, x6⟩ := seven_cells HR2.out.box
  obtain ⟨y0, y1, y2, y3, y4, y5, y6⟩ := seven_cells HR2.out.res
  obtain ⟨fr, fb⟩ := HR2.out.frozen
  clear hH hG hP HS
  by_cases hz : e1 = 0
  · subst hz
    have HO2 : Hid (readO bs Q 0 = (⟨2, 0, 0, 0, [], L, 0⟩, q1, 0)) := by show _ = _; rw [HO.out, if_pos rfl]
    go_wp2
    (try simp only [Exit.inBlock, Exit.then])
    refine bodyPost_ret (results_ctt (p := 4) (t := 5) (u := 6) (ty := 71) rfl _ _ ⟨w.heap.size, 0, none⟩ _ rfl (load8 (box_seven HRS2.out.res) rfl)) rfl ?_
    exact read8_some (o := ⟨2, 0, 0, 0, [], L, 0⟩) (p := pv) (cc := cv) (q := 0) (pos := q1) HRS2.out HG2.out HP.out HK2.out HO2.out
  · have hee : ((e1 : Int) == 0) = false := beq_no (by omega)
    have hee' : ((e1 : Int) != 0) = true := by simp; omega
    have HO2 : Hid (readO bs Q 0 = (o0, q1, e1)) := by show _ = _; rw [HO.out, if_neg hz]
    go_wp2
    (try simp only [Exit.inBlock, Exit.then])
    refine bodyPost_ret (results_ctt (p := 4) (t := 5) (u := 6) (ty := 71) rfl _ _ ⟨w.heap.size, 0, none⟩ _ rfl (load8 (box_seven HRS2.out.res) rfl)) rfl ?_
    exact read8_zero (pos := q1) HRS2.out HO2.out hz
end Go.Proofs.YtceanfpcddcfoaaGreat
/-
  What the document's Read of layer 8 hands back: where an anchor and a number stand behind the kind. No conditions beyond what each theorem states.
-/
namespace Go.Proofs.YtceanfpcddcfoaaGreat
open Go.ChangeShapes Go.WideShapes Go.ChangeAt Go.RowKit Go.Lib
set_option linter.unusedVariables false
set_option linter.unusedSimpArgs false

theorem readB_err {bs : List UInt8} {k : Nat} {t : Nat × Nat × Nat} {q e : Nat} (h : e ≠ 0) : readB bs k t q e = (o0, q, e) := by
  have h1 : rdT bs q e 64 = ([], q, e) := by unfold rdT; rw [if_neg h]
  have h2 : readS bs q e = ([], q, e) := by unfold readS; rw [rdN_err h]; simp only; rw [rdL_err _ _ _ _ h]; simp only; rw [if_neg h]
  unfold readB
  rw [h1, h2, rdN_err h]
  simp only
  rw [if_neg h, if_neg h, if_neg h]
  split
  · rfl
  · split <;> rfl
set_option maxHeartbeats 12800000 in
set_option maxRecDepth 20000 in
theorem read8_1 (bs : List UInt8) (Q : Nat) (hQ : Q ≤ bs.length) (p : Option Addr) (c : Nat) (w : World) (hR : BRow w p bs) (hl : bs.length ≤ 1000000) (hcap : bs.length ≤ c) (he0 : (rdN bs Q 0 5).2.2 = 0) (h2 : (rdN bs Q 0 5).1 = 1) :
    Calls Tryz.prog 106 #[.slice p bs.length c, .int .i64 (Q : Int)] w (Read8At bs Q w) := by
  have H0 := Lib.hid (fun W (hb : Below w.heap.size w W) => readnum_any bs Q 5 p c (by omega) hQ hl W (hR.below hb))
  have hf0 := rdN_fits (bs := bs) (q := Q) (e := 0) (limit := 5) hQ
  have HO : Hid (readO bs Q 0 = readB bs 1 (rdP bs (rdN bs Q 0 5).2.1 0).1 (rdP bs (rdN bs Q 0 5).2.1 0).2.1 (rdP bs (rdN bs Q 0 5).2.1 0).2.2) := by
    show _ = _
    unfold readO
    rw [if_pos (by omega), he0, h2]
  have HBR : Hid (∀ W, Below w.heap.size w W → BRow W p bs) := fun W hb => hR.below hb
  generalize rdN bs Q 0 5 = kk at H0 he0 h2 hf0 HO
  obtain ⟨k, q0, e0⟩ := kk
  simp only at H0 he0 h2 hf0 HO
  subst he0 h2
  clear hR
  have HRS := Lib.hid (RS.new w)
  go_enter Tryz.func106, Tryz.ntmps106
  go_wp2_with fail
  generalize (w.alloc (.cells #[.int .i64 0, .int .u16 0, .int .u32 0, .int .u32 0, .string ⟨#[]⟩, .slice none 0 0, .int .u32 0] 71)).alloc (.cells #[.int .i64 0, .int .u16 0, .int .u32 0, .int .u32 0, .string ⟨#[]⟩, .slice none 0 0, .int .u32 0] 71) = W0 at HRS ⊢
  refine (H0.out _ HRS.out.bel).mono ?_
  rintro r w1 ⟨rfl, hw1⟩
  obtain rfl := Eq.symm hw1
  have HRS1 := Lib.hid (HRS.out.set 0 (.int .i64 1) (k' := 1) (a' := 0) (b' := 0) (c' := 0) (s' := ⟨#[]⟩) (v' := .slice none 0 0) (q' := 0) rfl)
  obtain ⟨x0, x1, x2, x3, x4, x5, x6⟩ := seven_cells HRS.out.box
  obtain ⟨y0, y1, y2, y3, y4, y5, y6⟩ := seven_cells HRS.out.res
  obtain ⟨fr, fb⟩ := HRS.out.frozen
  have hne : ¬ w.heap.size + 1 = w.heap.size := by omega
  have hne' : ¬ w.heap.size = w.heap.size + 1 := by omega
  clear hw1 H0
  go_wp2_with fail
  clear x0 x1 x2 x3 x4 x5 x6 y0 y1 y2 y3 y4 y5 y6 fr fb
  have hWs : (W0.setCell ⟨w.heap.size + 1, 0, none⟩ (.int .i64 1)).heap.size = W0.heap.size := by simp
  generalize W0.setCell ⟨w.heap.size + 1, 0, none⟩ (.int .i64 1) = W1 at HRS1 hWs ⊢
  rw [← hWs]
  clear hWs HRS
  have hX1 : w.heap.size + 1 < W1.heap.size := lt_of_block HRS1.out.box
  have hL0 := (B3.new W1 165 65535 268435456 268435456).alloc (.cells #[.int .u64 0, .int .u64 0, .int .u64 0] 165)
  have hV0 : B3 165 (W1.heap.size + 1) 0 0 0 ((W1.alloc (.cells #[.int .u64 65535, .int .u64 268435456, .int .u64 268435456] 165)).alloc (.cells #[.int .u64 0, .int .u64 0, .int .u64 0] 165)) := by
    have := B3.new (W1.alloc (.cells #[.int .u64 65535, .int .u64 268435456, .int .u64 268435456] 165)) 165 0 0 0
    simpa using this
  have hRS := HRS1.out.below (below_alloc (below_alloc (Below.refl _ _) (.cells #[.int .u64 65535, .int .u64 268435456, .int .u64 268435456] 165)) (.cells #[.int .u64 0, .int .u64 0, .int .u64 0] 165))
  clear HRS1
  generalize (W1.alloc (.cells #[.int .u64 65535, .int .u64 268435456, .int .u64 268435456] 165)).alloc (.cells #[.int .u64 0, .int .u64 0, .int .u64 0] 165) = W9 at hL0 hV0 hRS ⊢
  generalize W1.heap.size = V0 at hX1 hL0 hV0 ⊢
  have HL0 := Lib.hid hL0
  have HV0 := Lib.hid hV0
  have HRS0 := Lib.hid hRS
  clear hL0 hV0 hRS
  go_loopg [1, 9, 12] 4 (fun g at' er i wq => ∃ (j a b c' q1 e1 : Nat), j ≤ 3 ∧ 4 - j ≤ g ∧ i = .int .i64 (j : Int) ∧ at' = .int .i64 (q1 : Int) ∧ er = .int .i64 (e1 : Int) ∧ q1 ≤ bs.length ∧ e1 < 16 ∧ St8 bs q0 j a b c' q1 e1 ∧ (a ≤ 65535 ∧ b ≤ 268435456 ∧ c' ≤ 268435456) ∧ B3 165 (V0 + 1) (a : Int) (b : Int) (c' : Int) wq ∧ B3 165 V0 65535 268435456 268435456 wq ∧ RS w 1 0 0 0 ⟨#[]⟩ (.slice none 0 0) 0 wq)
  case atStart => exact ⟨0, 0, 0, 0, q0, 0, by omega, by omega, rfl, rfl, rfl, hf0.1, by omega, ⟨rfl, rfl, rfl, rfl, rfl⟩, ⟨by omega, by omega, by omega⟩, HV0.out, HL0.out, HRS0.out⟩
  case round =>
    clear HL0 HV0 HRS0
    obtain ⟨j, a, b, c', q1, e1, hj, hgj, rfl, rfl, rfl, hq1, he1, hst, ⟨ha, hb, hc⟩, hV, hL, hRQ⟩ := hrel
    have HST := Lib.hid hst
    have HRQ := Lib.hid hRQ
    have HV := Lib.hid hV
    have HL := Lib.hid hL
    obtain ⟨v0, v1, v2⟩ := hV.cells
    obtain ⟨l0, l1, l2⟩ := hL.cells
    clear hst hV hL hRQ
    by_cases hj3 : j = 3
    · subst hj3
      have HD := Lib.hid (HST.out.done (by omega) (Or.inl rfl))
      have HO2 : Hid (readO bs Q 0 = readB bs 1 (a, b, c') q1 e1) := by show _ = _; rw [HO.out, HD.out]
      have z1 : IntKind.u16.wrap (a : Int) = (a : Int) := by rw [IntKind.wrap_u16]; omega
      have z2 : IntKind.u32.wrap (b : Int) = (b : Int) := by rw [IntKind.wrap_u32]; omega
      have z3 : IntKind.u32.wrap (c' : Int) = (c' : Int) := by rw [IntKind.wrap_u32]; omega
      obtain ⟨x0, x1, x2, x3, x4, x5, x6⟩ := seven_cells HRQ.out.box
      obtain ⟨y0, y1, y2, y3, y4, y5, y6⟩ := seven_cells HRQ.out.res
      obtain ⟨fr, fb⟩ := HRQ.out.frozen
      have HRS3 := Lib.hid (((HRQ.out.set 1 (.int .u16 (a : Int)) (k' := 1) (a' := (a : Int)) (b' := 0) (c' := 0) (s' := ⟨#[]⟩) (v' := .slice none 0 0) (q' := 0) rfl).set 2 (.int .u32 (b : Int)) (k' := 1) (a' := (a : Int)) (b' := (b : Int)) (c' := 0) (s' := ⟨#[]⟩) (v' := .slice none 0 0) (q' := 0) rfl).set 3 (.int .u32 (c' : Int)) (k' := 1) (a' := (a : Int)) (b' := (b : Int)) (c' := (c' : Int)) (s' := ⟨#[]⟩) (v' := .slice none 0 0) (q' := 0) rfl)
      have hv1 : ¬ w.heap.size + 1 = V0 + 1 := by omega
      have hv2 : ¬ V0 + 1 = w.heap.size + 1 := by omega
      clear HO HD HST
      by_cases hz : e1 = 0
      · subst hz
        have HO : Hid (readO bs Q 0 = if (readT (bs.drop q1) 64).2.2 = 0 then (⟨1, (a : Int), (b : Int), (c' : Int), (readT (bs.drop q1) 64).1, [], 0⟩, (q1 + (readT (bs.drop q1) 64).2.1, (readT (bs.drop q1) 64).2.2)) else (o0, (q1 + (readT (bs.drop q1) 64).2.1, (readT (bs.drop q1) 64).2.2))) := by
          show _ = _
          rw [HO2.out]
          unfold readB rdT
          rw [if_pos rfl, if_pos rfl]
        have HT := Lib.hid (fun W (hb : Below w.heap.size w W) => refreadtext_any bs q1 64 p c (by omega) hq1 hl hcap W (HBR.out W hb))
        rw [show (64 : Int).toNat = 64 from rfl] at HT
        generalize readT (bs.drop q1) 64 = tt at HO HT
        clear HO2
        obtain ⟨tx, qx, e2⟩ := tt
        simp only at HO HT
        generalize hq2 : q1 + qx = q2 at HO HT
        go_wp2_with fail
        clear x0 x1 x2 x3 x4 x5 x6 y0 y1 y2 y3 y4 y5 y6 fr fb v0 v1 v2 l0 l1 l2 z1 z2 z3 HV HL
        generalize ((wr.setCell ⟨w.heap.size + 1, 1, none⟩ (.int .u16 (a : Int))).setCell ⟨w.heap.size + 1, 2, none⟩ (.int .u32 (b : Int))).setCell ⟨w.heap.size + 1, 3, none⟩ (.int .u32 (c' : Int)) = W3 at HRS3 ⊢
        obtain ⟨x0, x1, x2, x3, x4, x5, x6⟩ := seven_cells HRS3.out.box
        obtain ⟨y0, y1, y2, y3, y4, y5, y6⟩ := seven_cells HRS3.out.res
        obtain ⟨fr, fb⟩ := HRS3.out.frozen
        refine (HT.out _ HRS3.out.bel).mono ?_
        rintro r w2 ⟨rfl, hw2⟩
        obtain rfl := Eq.symm hw2
        have HRS2 := Lib.hid (HRS3.out.set 4 (.string ⟨tx.toArray⟩) (k' := 1) (a' := (a : Int)) (b' := (b : Int)) (c' := (c' : Int)) (s' := ⟨tx.toArray⟩) (v' := .slice none 0 0) (q' := 0) rfl)
        clear hw2 HT
        by_cases hz : e2 = 0
        · subst hz
          have HO2 : Hid (readO bs Q 0 = (⟨1, (a : Int), (b : Int), (c' : Int), tx, [], 0⟩, q2, 0)) := by show _ = _; rw [HO.out, if_pos rfl]
          go_wp2
          (try simp only [Exit.inBlock, Exit.then])
          refine bodyPost_ret (results_ctt (p := 4) (t := 5) (u := 6) (ty := 71) rfl _ _ ⟨w.heap.size, 0, none⟩ _ rfl (load8 (box_seven HRS2.out.res) rfl)) rfl ?_
          exact read8_some (o := ⟨1, (a : Int), (b : Int), (c' : Int), tx, [], 0⟩) (p := none) (cc := 0) (q := 0) (pos := q2) HRS2.out (GRow.nil _ _ _) (by intro a ha; cases ha) (KindAt.nil _ _) HO2.out
        · have hee : ((e2 : Int) == 0) = false := beq_no (by omega)
          have hee' : ((e2 : Int) != 0) = true := by simp; omega
          have HO2 : Hid (readO bs Q 0 = (o0, q2, e2)) := by show _ = _; rw [HO.out, if_neg hz]
          go_wp2
          (try simp only [Exit.inBlock, Exit.then])
          refine bodyPost_ret (results_ctt (p := 4) (t := 5) (u := 6) (ty := 71) rfl _ _ ⟨w.heap.size, 0, none⟩ _ rfl (load8 (box_seven HRS2.out.res) rfl)) rfl ?_
          exact read8_zero (pos := q2) HRS2.out HO2.out hz
      · have hee : ((e1 : Int) == 0) = false := beq_no (by omega)
        have hee' : ((e1 : Int) != 0) = true := by simp; omega
        have HO3 : Hid (readO bs Q 0 = (o0, q1, e1)) := by show _ = _; rw [HO2.out]; exact readB_err hz
        go_wp2
        (try simp only [Exit.inBlock, Exit.then])
        refine bodyPost_ret (results_ctt (p := 4) (t := 5) (u := 6) (ty := 71) rfl _ _ ⟨w.heap.size, 0, none⟩ _ rfl (load8 (box_seven HRS3.out.res) rfl)) rfl ?_
        exact read8_zero (pos := q1) HRS3.out HO3.out hz
    · by_cases hez1 : e1 = 0
      · subst hez1
        have : j = 0 ∨ j = 1 ∨ j = 2 := by omega
        rcases this with rfl | rfl | rfl
        · have hfit := rdN_fits (bs := bs) (q := q1) (e := 0) (limit := 65535) hq1
          have HC := readnum_any bs q1 65535 p c (by omega) hq1 hl wr (HBR.out _ HRQ.out.bel)
          have HST2 := Lib.hid (HST.out.next0)
          generalize rdN bs q1 0 65535 = r1 at HC HST2 hfit
          obtain ⟨x1, x2, x3⟩ := r1
          simp only at HC HST2 hfit
          have HC := Lib.hid HC
          have f0 := HV.out.frozen 0
          have HVV := Lib.hid (HV.out.set0 (x1 : Int))
          have HLL := Lib.hid (HL.out.other (K := V0 + 1) (o := 0) (by omega) (.int .u64 (x1 : Int)))
          have HRQ3 := Lib.hid (HRQ.out.other (V := V0 + 1) (o := 0) (by omega) (.int .u64 (x1 : Int)))
          clear HST
          go_wp2_with fail
          refine HC.out.mono ?_
          rintro e w5 ⟨rfl, hw5⟩
          obtain rfl := Eq.symm hw5
          clear hw5 HC
          go_wp2
          go_roundg (4 - (0 + 1))
          case measure => omega
          case rel => exact ⟨0 + 1, x1, b, c', x2, x3, by omega, Nat.le_refl _, by go_num, rfl, rfl, hfit.1, by omega, HST2.out, ⟨hfit.2.1, hb, hc⟩, HVV.out, HLL.out, HRQ3.out⟩
        · have hfit := rdN_fits (bs := bs) (q := q1) (e := 0) (limit := 268435456) hq1
          have HC := readnum_any bs q1 268435456 p c (by omega) hq1 hl wr (HBR.out _ HRQ.out.bel)
          have HST2 := Lib.hid (HST.out.next1)
          generalize rdN bs q1 0 268435456 = r1 at HC HST2 hfit
          obtain ⟨x1, x2, x3⟩ := r1
          simp only at HC HST2 hfit
          have HC := Lib.hid HC
          have f0 := HV.out.frozen 1
          have HVV := Lib.hid (HV.out.set1 (x1 : Int))
          have HLL := Lib.hid (HL.out.other (K := V0 + 1) (o := 1) (by omega) (.int .u64 (x1 : Int)))
          have HRQ3 := Lib.hid (HRQ.out.other (V := V0 + 1) (o := 1) (by omega) (.int .u64 (x1 : Int)))
          clear HST
          go_wp2_with fail
          refine HC.out.mono ?_
          rintro e w5 ⟨rfl, hw5⟩
          obtain rfl := Eq.symm hw5
          clear hw5 HC
          go_wp2
          go_roundg (4 - (1 + 1))
          case measure => omega
          case rel => exact ⟨1 + 1, a, x1, c', x2, x3, by omega, Nat.le_refl _, by go_num, rfl, rfl, hfit.1, by omega, HST2.out, ⟨ha, hfit.2.1, hc⟩, HVV.out, HLL.out, HRQ3.out⟩
        · have hfit := rdN_fits (bs := bs) (q := q1) (e := 0) (limit := 268435456) hq1
          have HC := readnum_any bs q1 268435456 p c (by omega) hq1 hl wr (HBR.out _ HRQ.out.bel)
          have HST2 := Lib.hid (HST.out.next2)
          generalize rdN bs q1 0 268435456 = r1 at HC HST2 hfit
          obtain ⟨x1, x2, x3⟩ := r1
          simp only at HC HST2 hfit
          have HC := Lib.hid HC
          have f0 := HV.out.frozen 2
          have HVV := Lib.hid (HV.out.set2 (x1 : Int))
          have HLL := Lib.hid (HL.out.other (K := V0 + 1) (o := 2) (by omega) (.int .u64 (x1 : Int)))
          have HRQ3 := Lib.hid (HRQ.out.other (V := V0 + 1) (o := 2) (by omega) (.int .u64 (x1 : Int)))
          clear HST
          go_wp2_with fail
          refine HC.out.mono ?_
          rintro e w5 ⟨rfl, hw5⟩
          obtain rfl := Eq.symm hw5
          clear hw5 HC
          go_wp2
          go_roundg (4 - (2 + 1))
          case measure => omega
          case rel => exact ⟨2 + 1, a, b, x1, x2, x3, by omega, Nat.le_refl _, by go_num, rfl, rfl, hfit.1, by omega, HST2.out, ⟨ha, hb, hfit.2.1⟩, HVV.out, HLL.out, HRQ3.out⟩
      · have hez' : ((e1 : Int) == 0) = false := beq_no (by omega)
        have hez'' : ((e1 : Int) != 0) = true := by simp; omega
        have hj3' : (j : Int) < 3 := by omega
        have HD := Lib.hid (HST.out.done (by omega) (Or.inr hez1))
        have HO3 : Hid (readO bs Q 0 = (o0, q1, e1)) := by show _ = _; rw [HO.out, HD.out]; exact readB_err hez1
        have z1 : IntKind.u16.wrap (a : Int) = (a : Int) := by rw [IntKind.wrap_u16]; omega
        have z2 : IntKind.u32.wrap (b : Int) = (b : Int) := by rw [IntKind.wrap_u32]; omega
        have z3 : IntKind.u32.wrap (c' : Int) = (c' : Int) := by rw [IntKind.wrap_u32]; omega
        obtain ⟨x0, x1, x2, x3, x4, x5, x6⟩ := seven_cells HRQ.out.box
        obtain ⟨y0, y1, y2, y3, y4, y5, y6⟩ := seven_cells HRQ.out.res
        obtain ⟨fr, fb⟩ := HRQ.out.frozen
        have HRS3 := Lib.hid (((HRQ.out.set 1 (.int .u16 (a : Int)) (k' := 1) (a' := (a : Int)) (b' := 0) (c' := 0) (s' := ⟨#[]⟩) (v' := .slice none 0 0) (q' := 0) rfl).set 2 (.int .u32 (b : Int)) (k' := 1) (a' := (a : Int)) (b' := (b : Int)) (c' := 0) (s' := ⟨#[]⟩) (v' := .slice none 0 0) (q' := 0) rfl).set 3 (.int .u32 (c' : Int)) (k' := 1) (a' := (a : Int)) (b' := (b : Int)) (c' := (c' : Int)) (s' := ⟨#[]⟩) (v' := .slice none 0 0) (q' := 0) rfl)
        have hv1 : ¬ w.heap.size + 1 = V0 + 1 := by omega
        have hv2 : ¬ V0 + 1 = w.heap.size + 1 := by omega
        clear HO HD HST
        go_wp2
        (try simp only [Exit.inBlock, Exit.then])
        refine bodyPost_ret (results_ctt (p := 4) (t := 5) (u := 6) (ty := 71) rfl _ _ ⟨w.heap.size, 0, none⟩ _ rfl (load8 (box_seven HRS3.out.res) rfl)) rfl ?_
        exact read8_zero (pos := q1) HRS3.out HO3.out hez1
end Go.Proofs.YtceanfpcddcfoaaGreat
/-
  How a transaction is read, number by number and operation by operation. Of no program; no conditions beyond what each theorem states.
-/
namespace Go.Proofs.YtceanfpcddcfoaaGreat
open Go.ChangeShapes Go.WideShapes Go.ChangeAt Go.RowKit Go.Lib
set_option linter.unusedVariables false
set_option linter.unusedSimpArgs false

def lim9 (i : Nat) : Nat := match i with | 0 => 65535 | 1 => 268435456 | 2 => 1099511627776 | 3 => 7 | _ => 16
/-- Where the number with this place is read, and the error ahead of it. -/
def chS (bs : List UInt8) (Q E : Nat) : Nat → Nat × Nat
  | 0 => (Q, E)
  | i + 1 => (rdN bs (chS bs Q E i).1 (chS bs Q E i).2 (lim9 i)).2
def chV (bs : List UInt8) (Q E i : Nat) : Nat := (rdN bs (chS bs Q E i).1 (chS bs Q E i).2 (lim9 i)).1
theorem chS_succ (bs : List UInt8) (Q E i : Nat) : chS bs Q E (i + 1) = (rdN bs (chS bs Q E i).1 (chS bs Q E i).2 (lim9 i)).2 := rfl
theorem readTx_ch (bs : List UInt8) (Q E : Nat) : readTx bs Q E = (if (rdOs bs (chV bs Q E 4) (chS bs Q E 5).1 (chS bs Q E 5).2).2.2 = 0 then (⟨(chV bs Q E 0 : Int), (chV bs Q E 1 : Int), (chV bs Q E 2 : Int), (chV bs Q E 3 : Int), (rdOs bs (chV bs Q E 4) (chS bs Q E 5).1 (chS bs Q E 5).2).1⟩, (rdOs bs (chV bs Q E 4) (chS bs Q E 5).1 (chS bs Q E 5).2).2) else (t0, (rdOs bs (chV bs Q E 4) (chS bs Q E 5).1 (chS bs Q E 5).2).2)) := rfl
theorem chS_le {bs : List UInt8} {Q E : Nat} (hQ : Q ≤ bs.length) : ∀ i, (chS bs Q E i).1 ≤ bs.length ∧ ((chS bs Q E i).2 < 16 ∨ (chS bs Q E i).2 = E) := by
  intro i
  induction i with
  | zero => exact ⟨hQ, Or.inr rfl⟩
  | succ i ih =>
    rw [chS_succ]
    have := rdN_fits (bs := bs) (q := (chS bs Q E i).1) (e := (chS bs Q E i).2) (limit := lim9 i) ih.1
    omega
theorem chV_le {bs : List UInt8} {Q E : Nat} (hQ : Q ≤ bs.length) (i : Nat) : chV bs Q E i ≤ lim9 i := (rdN_fits (bs := bs) (q := (chS bs Q E i).1) (e := (chS bs Q E i).2) (limit := lim9 i) (chS_le hQ i).1).2.1
theorem ch_err {bs : List UInt8} {Q E i : Nat} (h : (chS bs Q E i).2 ≠ 0) : ∀ j, chS bs Q E (i + j) = chS bs Q E i ∧ chV bs Q E (i + j) = 0 := by
  intro j
  induction j with
  | zero => exact ⟨rfl, by unfold chV; rw [Nat.add_zero, rdN_err h]⟩
  | succ j ih =>
    have e : chS bs Q E (i + (j + 1)) = chS bs Q E i := by
      rw [← Nat.add_assoc, chS_succ, ih.1, rdN_err h]
    refine ⟨e, ?_⟩
    unfold chV
    rw [e, rdN_err h]
/-- Number j, behind the first i ones. -/
def V9 (bs : List UInt8) (Q i j : Nat) : Nat := if j < i then chV bs Q 0 j else 0
theorem V9_end {bs : List UInt8} {Q i : Nat} (hi : i ≤ 5) (h : i = 5 ∨ (chS bs Q 0 i).2 ≠ 0) : chS bs Q 0 5 = chS bs Q 0 i ∧ ∀ j, j < 5 → V9 bs Q i j = chV bs Q 0 j := by
  rcases h with rfl | h
  · exact ⟨rfl, fun j hj => by unfold V9; rw [if_pos hj]⟩
  · refine ⟨?_, fun j hj => ?_⟩
    · have := (ch_err h (5 - i)).1
      rwa [show i + (5 - i) = 5 by omega] at this
    · unfold V9
      by_cases hji : j < i
      · rw [if_pos hji]
      · rw [if_neg hji]
        have := (ch_err h (j - i)).2
        rw [show i + (j - i) = j by omega] at this
        exact this.symm
theorem V9_next {bs : List UInt8} {Q i : Nat} (j : Nat) : V9 bs Q (i + 1) j = if j = i then chV bs Q 0 i else V9 bs Q i j := by
  unfold V9
  by_cases h : j = i
  · subst h; rw [if_pos (by omega), if_pos rfl]
  · rw [if_neg h]
    by_cases h2 : j < i
    · rw [if_pos (by omega), if_pos h2]
    · rw [if_neg (by omega), if_neg h2]
theorem V9_zero {bs : List UInt8} {Q : Nat} (j : Nat) : V9 bs Q 0 j = 0 := by unfold V9; rw [if_neg (by omega)]
theorem V9_same {bs : List UInt8} {Q i j : Nat} (h : i ≤ j) : V9 bs Q i j = 0 := by unfold V9; rw [if_neg (by omega)]
theorem V9_old {bs : List UInt8} {Q i j : Nat} (h : j < i) : V9 bs Q i j = chV bs Q 0 j := by unfold V9; rw [if_pos h]
theorem readT_lt (bs : List UInt8) (limit : Nat) : (readT bs limit).2.2 < 16 := by
  have hf := read_fair bs limit
  unfold Fair at hf
  unfold readT
  split
  · simp only; omega
  · split
    · simp
    · simp
theorem rdT_fits {bs : List UInt8} {q e limit : Nat} (hq : q ≤ bs.length) (he : e < 16) : (rdT bs q e limit).2.1 ≤ bs.length ∧ (rdT bs q e limit).2.2 < 16 := by
  unfold rdT
  by_cases h : e = 0
  · rw [if_pos h]
    have := readT_fair (bs.drop q) limit
    have h2 := readT_lt (bs.drop q) limit
    rw [List.length_drop] at this
    simp only
    omega
  · rw [if_neg h]; exact ⟨hq, he⟩
theorem readS_range {bs : List UInt8} {q e : Nat} (hq : q ≤ bs.length) (he : e < 16) : (readS bs q e).2.1 ≤ bs.length ∧ FitSs (readS bs q e).1 ∧ (readS bs q e).1.length ≤ 1024 ∧ (readS bs q e).2.2 < 16 := by
  by_cases h : e = 0
  · subst h; exact readS_fits hq
  · have h2 : readS bs q e = ([], q, e) := by unfold readS; rw [rdN_err h]; simp only; rw [rdL_err _ _ _ _ h]; simp only; rw [if_neg h]
    rw [h2]
    exact ⟨hq, fun x hx => (by cases hx), by simp, he⟩
theorem fitOm_zero : FitOm o0 := by unfold FitOm o0; simp [FitSs]
theorem readB_range {bs : List UInt8} {k : Nat} {t : Nat × Nat × Nat} {q e : Nat} (hq : q ≤ bs.length) (he : e < 16) (hk : k ≤ 5) (h1 : t.1 ≤ 65535) (h2 : t.2.1 ≤ 268435456) (h3 : t.2.2 ≤ 268435456) : (readB bs k t q e).2.1 ≤ bs.length ∧ (readB bs k t q e).2.2 < 16 ∧ FitOm (readB bs k t q e).1 ∧ (readB bs k t q e).1.spans.length ≤ 1024 ∧ (readB bs k t q e).1.text.length ≤ 1000000 ∨ 1000000 < bs.length := by
  by_cases hb : 1000000 < bs.length
  · exact Or.inr hb
  refine Or.inl ?_
  have a := rdT_fits (limit := 64) hq he
  have b := readS_range hq he
  have c := rdN_fits (e := e) (limit := 268435456) hq
  have c3 : (rdN bs q e 268435456).2.2 < 16 := by have := c.2.2; omega
  have d : (rdT bs q e 64).1.length ≤ bs.length := by
    unfold rdT
    by_cases h : e = 0
    · rw [if_pos h]
      have := readT_fair (bs.drop q) 64
      rw [List.length_drop] at this
      rcases this with h | h
      · simp only; omega
      · simp only; rw [h.1]; simp
    · rw [if_neg h]; simp
  unfold readB
  by_cases k1 : k = 1
  · rw [if_pos k1]
    split
    · refine ⟨a.1, a.2, ?_, by simp, by simp only; omega⟩
      unfold FitOm; simp only
      refine ⟨by omega, by omega, by omega, by omega, by omega, by omega, by omega, by omega, fun x hx => (by cases hx), by omega, by omega⟩
    · exact ⟨a.1, a.2, fitOm_zero, by simp [o0], by simp [o0]⟩
  · rw [if_neg k1]
    by_cases k2 : k = 2 ∨ k = 3
    · rw [if_pos k2]
      split
      · refine ⟨b.1, b.2.2.2, ?_, b.2.2.1, by simp⟩
        unfold FitOm; simp only
        refine ⟨by omega, by omega, by omega, by omega, by omega, by omega, by omega, by omega, b.2.1, by omega, by omega⟩
      · exact ⟨b.1, b.2.2.2, fitOm_zero, by simp [o0], by simp [o0]⟩
    · rw [if_neg k2]
      split
      · refine ⟨c.1, c3, ?_, by simp, by simp⟩
        unfold FitOm; simp only
        refine ⟨by omega, by omega, by omega, by omega, by omega, by omega, by omega, by omega, fun x hx => (by cases hx), by omega, by omega⟩
      · exact ⟨c.1, c3, fitOm_zero, by simp [o0], by simp [o0]⟩
theorem readO_range {bs : List UInt8} {q e : Nat} (hq : q ≤ bs.length) (he : e < 16) (hb : bs.length ≤ 1000000) : (readO bs q e).2.1 ≤ bs.length ∧ (readO bs q e).2.2 < 16 ∧ FitOm (readO bs q e).1 ∧ (readO bs q e).1.spans.length ≤ 1024 := by
  have a := rdN_fits (e := e) (limit := 5) hq
  have b := rdN_fits (bs := bs) (q := (rdN bs q e 5).2.1) (e := (rdN bs q e 5).2.2) (limit := 65535) a.1
  have c := rdN_fits (bs := bs) (q := (rdN bs (rdN bs q e 5).2.1 (rdN bs q e 5).2.2 65535).2.1) (e := (rdN bs (rdN bs q e 5).2.1 (rdN bs q e 5).2.2 65535).2.2) (limit := 268435456) b.1
  have d := rdN_fits (bs := bs) (q := (rdN bs (rdN bs (rdN bs q e 5).2.1 (rdN bs q e 5).2.2 65535).2.1 (rdN bs (rdN bs q e 5).2.1 (rdN bs q e 5).2.2 65535).2.2 268435456).2.1) (e := (rdN bs (rdN bs (rdN bs q e 5).2.1 (rdN bs q e 5).2.2 65535).2.1 (rdN bs (rdN bs q e 5).2.1 (rdN bs q e 5).2.2 65535).2.2 268435456).2.2) (limit := 268435456) c.1
  unfold readO
  split
  · have := readB_range (bs := bs) (k := (rdN bs q e 5).1) (t := (rdP bs (rdN bs q e 5).2.1 (rdN bs q e 5).2.2).1) (q := (rdP bs (rdN bs q e 5).2.1 (rdN bs q e 5).2.2).2.1) (e := (rdP bs (rdN bs q e 5).2.1 (rdN bs q e 5).2.2).2.2) d.1 (by unfold rdP; simp only; omega) (by omega) b.2.1 c.2.1 d.2.1
    rcases this with h | h
    · exact ⟨h.1, h.2.1, h.2.2.1, h.2.2.2.1⟩
    · omega
  · have := readB_range (bs := bs) (k := (rdN bs q e 5).1) (t := (0, 0, 0)) (q := (rdN bs q e 5).2.1) (e := (rdN bs q e 5).2.2) a.1 (by omega) (by omega) (by simp) (by simp) (by simp)
    rcases this with h | h
    · exact ⟨h.1, h.2.1, h.2.2.1, h.2.2.2.1⟩
    · omega
theorem rdOs_range {bs : List UInt8} (hb : bs.length ≤ 1000000) : ∀ (n q e : Nat), q ≤ bs.length → e < 16 → (∀ o ∈ (rdOs bs n q e).1, FitOm o ∧ o.spans.length ≤ 1024) ∧ (rdOs bs n q e).1.length ≤ n := by
  intro n
  induction n with
  | zero => intro q e _ _; exact ⟨fun o ho => (by cases ho), by simp [rdOs]⟩
  | succ n ih =>
    intro q e hq he
    rw [rdOs]
    split
    · have r := readO_range hq (e := 0) (by omega) hb
      have i := ih (readO bs q 0).2.1 (readO bs q 0).2.2 r.1 r.2.1
      refine ⟨fun o ho => ?_, by simp only [List.length_cons]; omega⟩
      rcases List.mem_cons.1 ho with rfl | ho
      · exact ⟨r.2.2.1, r.2.2.2⟩
      · exact i.1 o ho
    · exact ⟨fun o ho => (by cases ho), by simp⟩
theorem fitTm_zero : FitTm t0 := by unfold FitTm t0; simp
theorem readTx_range {bs : List UInt8} {q e : Nat} (hq : q ≤ bs.length) (he : e < 16) (hb : bs.length ≤ 1000000) : FitTm (readTx bs q e).1 ∧ (∀ o ∈ (readTx bs q e).1.ops, o.spans.length ≤ 1024) ∧ (readTx bs q e).1.ops.length ≤ 16 := by
  rw [readTx_ch]
  have c0 := chV_le (E := e) hq 0
  have c1 := chV_le (E := e) hq 1
  have c2 := chV_le (E := e) hq 2
  have c3 := chV_le (E := e) hq 3
  have c4 := chV_le (E := e) hq 4
  have s5 := chS_le (E := e) hq 5
  have r := rdOs_range hb (chV bs q e 4) (chS bs q e 5).1 (chS bs q e 5).2 s5.1 (by omega)
  unfold lim9 at c0 c1 c2 c3 c4
  simp only at c0 c1 c2 c3 c4
  split
  · refine ⟨?_, fun o ho => (r.1 o ho).2, by simp only; omega⟩
    unfold FitTm
    simp only
    refine ⟨by omega, by omega, by omega, by omega, by omega, by omega, by omega, by omega, fun o ho => (r.1 o ho).1⟩
  · exact ⟨fitTm_zero, fun o ho => (by cases ho), by simp [t0]⟩
/-- Operations one by one: what was read so far, and what is still to be read. -/
theorem rdOs_step {bs : List UInt8} {n k q : Nat} (hk : k < n) : rdOs bs (n - k) q 0 = ((readO bs q 0).1 :: (rdOs bs (n - (k + 1)) (readO bs q 0).2.1 (readO bs q 0).2.2).1, (rdOs bs (n - (k + 1)) (readO bs q 0).2.1 (readO bs q 0).2.2).2) := by
  rw [show n - k = (n - (k + 1)) + 1 by omega, rdOs, if_pos rfl]
end Go.Proofs.YtceanfpcddcfoaaGreat
