
/-
  What a log's calls hand back, as premises; what stays whatever a log writes. No conditions beyond what each theorem states.
-/
import Derived.Test.YtafhjccghbpbbaaLogRef1
import Derived.Test.YtafhjccghbpbbaaLogRange
namespace Go.Proofs.Ytafhjccghbpbbaa
open Go.ChangeShapes Go.WideShapes Go.ChangeAt Go.RowKit Go.Lib
set_option linter.unusedVariables false
set_option linter.unusedSimpArgs false

/-- What holds whatever is done to the blocks of S. -/
def FirmG (S : Nat → Prop) (w : World) (P : World → Prop) : Prop := ∀ w', Kept S w w' → P w'
/-- One call of a log: its blocks are its own, or new. -/
structure StepG (S S' : Nat → Prop) (w w' : World) : Prop where
  kept : Kept S w w'
  new : ∀ k, k < w.heap.size → S' k → S k
theorem FirmG.now {S : Nat → Prop} {w : World} {P : World → Prop} (h : FirmG S w P) : P w := h w (Kept.refl S w)
theorem FirmG.step {S S' : Nat → Prop} {w w' : World} {P : World → Prop} (h : FirmG S w P) (k : StepG S S' w w') : FirmG S' w' P := fun w2 h2 => h w2 (k.kept.trans h2 k.new)
theorem FirmG.below {S : Nat → Prop} {w w' : World} {P : World → Prop} (h : FirmG S w P) (hb : Below w.heap.size w w') : FirmG S w' P := fun w2 h2 => h w2 ((Kept.ofBelow hb).trans h2 (fun i _ hi => hi))
theorem FirmG.mono {S : Nat → Prop} {w : World} {P Q : World → Prop} (h : FirmG S w P) (hq : ∀ w', P w' → Q w') : FirmG S w Q := fun w2 h2 => hq _ (h w2 h2)
theorem FirmG.base {S : Nat → Prop} {w0 w : World} (hb : Below w0.heap.size w0 w) (hS : ∀ k, S k → w0.heap.size ≤ k) : FirmG S w (fun W => Below w0.heap.size w0 W) := fun w2 h2 => hb.trans (h2.below hb.size hS)
/-- Bytes in a row of rows. -/
def MoreB (w : World) (q : Option Addr) (bss : List (List UInt8)) : Prop := ∀ i, i < bss.length → ∃ b o p c, q = some ⟨b, o, none⟩ ∧ w.cell? ⟨b, o + i, none⟩ = some (.slice p (bss.getD i []).length c) ∧ BRow w p (bss.getD i [])
theorem MoreB.below {w w' : World} {q : Option Addr} {bss : List (List UInt8)} (h : MoreB w q bss) (hb : Below w.heap.size w w') : MoreB w' q bss := fun i hi => by
  obtain ⟨b, o, p, c, e, h1, h2⟩ := h i hi
  exact ⟨b, o, p, c, e, cellU h1 hb, h2.below hb⟩
/-- What is put, as it lies in memory. -/
structure PutV where
  r : Int
  s : Int
  b : List UInt8
  p : Option Addr
  c : Nat
def u0P : PutV := ⟨0, 0, [], none, 0⟩
def PutV.m (x : PutV) : Lm := ⟨x.r, x.s, x.b⟩
/-- The bytes of a name, none if it is not kept; how many bytes are kept; what comes behind `pre`, as it lies in w. -/
def gotL (l : List Lm) (r s : Int) : List UInt8 := match placeL l r s with | some i => (l.getD i l0L).b | none => []
def sizeL (l : List Lm) : Nat := l.foldl (fun n x => n + x.b.length) 0
def toldL (l : List Lm) (pre : List PutV) (x : PutV) (w : World) : Prop := pre.map PutV.m = l.take pre.length ∧ pre.length < l.length ∧ x.m = l.getD pre.length l0L ∧ BRow w x.p x.b
/-- The kinds that are the laws' own. -/
def KindL (t : TypeId) : Prop := t = 40 ∨ t = 32 ∨ t = 3
/-- A log: `Lg S K l w` says that the one at block K, which writes the blocks of S alone, keeps l. -/
structure LogSpec (Lg : (Nat → Prop) → Nat → List Lm → World → Prop) : Prop where
  below : ∀ S K l w w', Lg S K l w → Below w.heap.size w w' → Lg S K l w'
  lt : ∀ S K l w, Lg S K l w → ∀ k, S k → k < w.heap.size
  othersK : ∀ S K l w, Lg S K l w → ∀ k, S k → ∀ cs t f, w.heap[k]? = some (.cells cs t f) → ¬ KindL t
  apartK : ∀ S K l w w' N, Lg S K l w → (∀ k, N k → ∃ cs t f, w.heap[k]? = some (.cells cs t f) ∧ KindL t) → Kept N w w' → Lg S K l w'
  zero : ∀ w : World, ∃ S, Lg S w.heap.size [] (w.alloc (.cells #[.map none, .slice none 0 0, .int .i64 0] 31)) ∧ ∀ k, S k → w.heap.size ≤ k
  put : ∀ S K l w (x : Lm) p c, Lg S K l w → FirmG S w (fun W => BRow W p x.b) → (0 ≤ x.r ∧ x.r ≤ 65535) → (0 ≤ x.s ∧ x.s ≤ 4294967295) → x.b.length ≤ 500 → x.b.length ≤ c → (p = none → c = 0) → l.length ≤ 200 → Calls Try.prog 6 #[.pointer (some ⟨K, 0, none⟩), .agg #[.int .u16 x.r, .int .u32 x.s], .slice p x.b.length c] w fun e w' => e = .returned (.int .i64 (if keptL l x.r x.s = true then 16 else 0)) ∧ ∃ S', Lg S' K (putG l x) w' ∧ StepG S S' w w'
  reply : ∀ S K l w r fr tu most, Lg S K l w → (0 ≤ r ∧ r ≤ 65535) → (0 ≤ fr ∧ fr ≤ 4294967295) → (0 ≤ tu ∧ tu ≤ 4294967295) → tu ≤ fr + 1000 → (-9223372036854775808 ≤ most ∧ most ≤ 9223372036854775807) → l.length ≤ 200 → Calls Try.prog 12 #[.pointer (some ⟨K, 0, none⟩), .agg #[.int .u16 r, .int .u32 fr, .int .u32 tu], .int .i64 most] w fun e w' => ∃ q d, e = .returned (.slice q (replyL l r fr tu most).length d) ∧ MoreB w' q (replyL l r fr tu most) ∧ Below w.heap.size w w'
  get : ∀ S K l w r s, Lg S K l w → (0 ≤ r ∧ r ≤ 65535) → (0 ≤ s ∧ s ≤ 4294967295) → l.length ≤ 200 → Calls Try.prog 8 #[.pointer (some ⟨K, 0, none⟩), .agg #[.int .u16 r, .int .u32 s]] w fun e w' => ∃ p c, e = .returned (.tuple #[.slice p (gotL l r s).length c, .bool (keptL l r s)]) ∧ BRow w' p (gotL l r s) ∧ Below w.heap.size w w'
  len : ∀ S K l w, Lg S K l w → l.length ≤ 200 → Calls Try.prog 9 #[.pointer (some ⟨K, 0, none⟩)] w fun e w' => e = .returned (.int .i64 (l.length : Int)) ∧ Below w.heap.size w w'
  size : ∀ S K l w, Lg S K l w → l.length ≤ 200 → Calls Try.prog 10 #[.pointer (some ⟨K, 0, none⟩)] w fun e w' => e = .returned (.int .i64 (sizeL l : Int)) ∧ Below w.heap.size w w'
  all : ∀ S K l w, Lg S K l w → l.length ≤ 200 → Calls Try.prog 11 #[.pointer (some ⟨K, 0, none⟩)] w fun e w' => Below w.heap.size w w' ∧ ∃ gf lb, e = .returned (.func (.func gf) #[] lb) ∧ (∀ args W, (callFunc gf args).run Try.prog W = .ok (.enter gf args) W) ∧ ∀ N n w2, 4 ≤ n → Below w'.heap.size w' w2 → (∀ k, N k → ∃ cs f, w.heap[k]? = some (.cells cs 3 f)) → SeqTells Fence.wide n Try.prog gf lb (fun x : PutV => #[.agg #[.int .u16 x.r, .int .u32 x.s], .slice x.p x.b.length x.c]) N (toldL l) (fun ys => ys.map PutV.m = l) (fun _ => True) w2
theorem LogSpec.others {Lg : (Nat → Prop) → Nat → List Lm → World → Prop} (HL : LogSpec Lg) : ∀ S K l w, Lg S K l w → ∀ k, S k → ∀ cs t f, w.heap[k]? = some (.cells cs t f) → t ≠ 40 := fun S K l w h k hk cs t f hc e => HL.othersK S K l w h k hk cs t f hc (Or.inl e)
theorem LogSpec.apart {Lg : (Nat → Prop) → Nat → List Lm → World → Prop} (HL : LogSpec Lg) : ∀ S K l w w' B, Lg S K l w → (∀ k, B = some k → ∃ cs f, w.heap[k]? = some (.cells cs 40 f)) → Kept (fun k => B = some k) w w' → Lg S K l w' := fun S K l w w' B h hB hk => HL.apartK S K l w w' _ h (fun k e => by
  obtain ⟨cs, f, hc⟩ := hB k e
  exact ⟨cs, _, f, hc, Or.inl rfl⟩) hk
def layU : Lay PutV := ⟨3, fun x => [.int .u16 x.r, .int .u32 x.s, .slice x.p x.b.length x.c], fun _ => rfl, fun x u hu => by
  simp at hu
  rcases hu with rfl | rfl | rfl <;> rfl⟩
theorem layU_pos : 0 < layU.k := by decide
theorem urow_at {w : World} {p : Option Addr} {xs : List PutV} (h : GRow layU w p xs) {i : Nat} (hi : i < xs.length) : ∃ b o, p = some ⟨b, o, none⟩ ∧ w.cell? ⟨b, o + i * 3, none⟩ = some (.int .u16 (xs.getD i u0P).r) ∧ w.cell? ⟨b, o + i * 3 + 1, none⟩ = some (.int .u32 (xs.getD i u0P).s) ∧ w.cell? ⟨b, o + i * 3 + 2, none⟩ = some (.slice (xs.getD i u0P).p (xs.getD i u0P).b.length (xs.getD i u0P).c) := by
  obtain ⟨b, o, rfl, h0⟩ := h.cell u0P (j := 0) hi rfl
  obtain ⟨b1, o1, e1, h1⟩ := h.cell u0P (j := 1) hi rfl
  obtain ⟨b2, o2, e2, h2⟩ := h.cell u0P (j := 2) hi rfl
  cases e1; cases e2
  exact ⟨b, o, rfl, h0, h1, h2⟩
structure InU (w : World) (x : PutV) : Prop where
  row : BRow w x.p x.b
  r : 0 ≤ x.r ∧ x.r ≤ 65535
  s : 0 ≤ x.s ∧ x.s ≤ 4294967295
  cap : x.b.length ≤ x.c
  nil : x.p = none → x.c = 0
  len : x.b.length ≤ 9223372036854775807
structure ArgU (w : World) (p : Option Addr) (xs : List PutV) : Prop where
  row : GRow layU w p xs
  each : ∀ x ∈ xs, InU w x
/-- A row of the call's own, whatever is done elsewhere. -/
theorem own_kept {S : Nat → Prop} {w w' : World} {base n k : Nat} {e : TypeId} {v : Value} {xs : List Value} (h : w.ownsRow base e k v n xs) (hk : Kept S w w') (hn : ∀ j, v.ownBlock = some j → ¬ S j) : w'.ownsRow base e k v n xs := by
  refine ⟨h.1, ?_⟩
  rcases h.2 with h0 | ⟨g, cap, cur, rfl, hb, hg, h1, h2, h3, h4⟩
  · exact Or.inl h0
  · exact Or.inr ⟨g, cap, cur, rfl, hb, hk.stays hg (hn g (by simp [Value.ownBlock])), h1, h2, h3, h4⟩
theorem own_kind {w : World} {base n k : Nat} {e : TypeId} {v : Value} {xs : List Value} (h : w.ownsRow base e k v n xs) : ∀ j, v.ownBlock = some j → ∃ cs f, w.heap[j]? = some (.cells cs e f) := fun j hj => by
  rcases h.2 with ⟨rfl, _⟩ | ⟨g, cap, cur, rfl, hb, hg, h1, h2, h3, h4⟩
  · simp [Value.ownBlock] at hj
  · simp [Value.ownBlock] at hj
    subst hj
    exact ⟨_, _, hg⟩
/-- What is kept once these were put. -/
def putsG (xs : List PutV) : List Lm := xs.foldl (fun l x => putG l x.m) []
theorem putsG_step (xs : List PutV) {k : Nat} (h : k < xs.length) : putsG (xs.take (k + 1)) = putG (putsG (xs.take k)) (xs.getD k u0P).m := by
  unfold putsG
  rw [take_getD u0P h, List.foldl_append]
  rfl
theorem putsG_len (xs : List PutV) : (putsG xs).length ≤ xs.length := by
  have key : ∀ (ys : List PutV) (l : List Lm), (ys.foldl (fun l x => putG l x.m) l).length ≤ l.length + ys.length := by
    intro ys
    induction ys with
    | nil => intro l; simp
    | cons y ys ih =>
      intro l
      have h1 := ih (putG l y.m)
      have h2 : (putG l y.m).length ≤ l.length + 1 := by unfold putG; split <;> simp
      rw [List.foldl_cons, List.length_cons]; omega
  have := key xs []
  unfold putsG
  simpa using this
end Go.Proofs.Ytafhjccghbpbbaa
