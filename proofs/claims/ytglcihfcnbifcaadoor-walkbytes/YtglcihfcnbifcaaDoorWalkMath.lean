
/-
  Walks as pairs of whole complex numbers, one behind the other, and as words of floating point: where the numbers are not great, the words hold just these walks. Of no program. No conditions beyond what each theorem states.
-/
import Derived.Test.YtglcihfcnbifcaaDoorTurned
import Derived.Test.YtglcihfcnbifcaaDoorGauss
namespace Go.Proofs.YtglcihfcnbifcaaDoor
open Go
set_option linter.unusedVariables false
set_option linter.unusedSimpArgs false

abbrev Wi := Gi × Gi
def gadd (a b : Gi) : Gi := (a.1 + b.1, a.2 + b.2)
def wapp (w : Wi) (z : Gi) : Gi := gadd (gmul w.1 z) w.2
/-- A walk, and another one behind it. -/
def wthen (a b : Wi) : Wi := (gmul b.1 a.1, wapp b a.2)
def wstay : Wi := ((1, 0), (0, 0))
/-- A byte's walk. -/
def wbyte (n : Nat) : Wi := ((tRe ((n % 4 : Nat) : Int), tIm ((n % 4 : Nat) : Int)), (((n / 4 % 8 + 1 : Nat) : Int), ((n / 32 + 1 : Nat) : Int)))
/-- A text's walk. -/
def wtext (l : List UInt8) : Wi := l.foldl (fun a b => wthen a (wbyte b.toNat)) wstay

theorem wapp_then (a b : Wi) (z : Gi) : wapp (wthen a b) z = wapp b (wapp a z) := by
  obtain ⟨⟨a1, a2⟩, ⟨a3, a4⟩⟩ := a
  obtain ⟨⟨b1, b2⟩, ⟨b3, b4⟩⟩ := b
  obtain ⟨z1, z2⟩ := z
  refine Prod.ext ?_ ?_
  · simp only [wapp, wthen, gadd, gmul, Int.sub_mul, Int.add_mul, Int.mul_sub, Int.mul_add, Int.mul_assoc]; omega
  · simp only [wapp, wthen, gadd, gmul, Int.sub_mul, Int.add_mul, Int.mul_sub, Int.mul_add, Int.mul_assoc]; omega
theorem wthen_assoc (a b c : Wi) : wthen (wthen a b) c = wthen a (wthen b c) := by
  refine Prod.ext ?_ ?_
  · exact (gmul_assoc c.1 b.1 a.1).symm
  · exact (wapp_then b c a.2).symm
theorem wthen_stay (a : Wi) : wthen a wstay = a := by
  refine Prod.ext (Prod.ext ?_ ?_) (Prod.ext ?_ ?_) <;> simp [wthen, wstay, wapp, gadd, gmul]
theorem stay_wthen (a : Wi) : wthen wstay a = a := by
  refine Prod.ext (Prod.ext ?_ ?_) (Prod.ext ?_ ?_) <;> simp [wthen, wstay, wapp, gadd, gmul]
theorem wfold_then (l : List UInt8) (a : Wi) : l.foldl (fun a b => wthen a (wbyte b.toNat)) a = wthen a (wtext l) := by
  induction l generalizing a with
  | nil => exact (wthen_stay a).symm
  | cons b l ih =>
    show l.foldl _ (wthen a (wbyte b.toNat)) = wthen a (l.foldl _ (wthen wstay (wbyte b.toNat)))
    rw [ih, ih, stay_wthen, wthen_assoc]
theorem wtext_append (l m : List UInt8) : wtext (l ++ m) = wthen (wtext l) (wtext m) := by
  unfold wtext
  rw [List.foldl_append]
  exact wfold_then m _
theorem wtext_snoc (l : List UInt8) (b : UInt8) : wtext (l ++ [b]) = wthen (wtext l) (wbyte b.toNat) := by
  unfold wtext
  rw [List.foldl_append]
  rfl

/-- 1, turned. -/
def Un (t : Gi) : Prop := t = (1, 0) ∨ t = (0, 1) ∨ t = (-1, 0) ∨ t = (0, -1)
def Near (n : Int) (z : Gi) : Prop := (-n ≤ z.1 ∧ z.1 ≤ n) ∧ (-n ≤ z.2 ∧ z.2 ≤ n)
theorem un_mul {a b : Gi} (ha : Un a) (hb : Un b) : Un (gmul a b) := by
  rcases ha with rfl | rfl | rfl | rfl <;> rcases hb with rfl | rfl | rfl | rfl <;> (unfold Un gmul; decide)
theorem un_near {n : Int} {a z : Gi} (ha : Un a) (hz : Near n z) : Near n (gmul a z) := by
  unfold Near at hz ⊢
  rcases ha with rfl | rfl | rfl | rfl <;> simp [gmul] <;> omega
theorem un_byte (n : Nat) : Un (wbyte n).1 := by
  have : n % 4 = 0 ∨ n % 4 = 1 ∨ n % 4 = 2 ∨ n % 4 = 3 := by omega
  show Un (tRe ((n % 4 : Nat) : Int), tIm ((n % 4 : Nat) : Int))
  rcases this with h | h | h | h <;> rw [h] <;> (unfold Un tRe tIm; decide)
theorem snoc_ind {P : List UInt8 → Prop} (h0 : P []) (hs : ∀ l b, P l → P (l ++ [b])) (l : List UInt8) : P l := by
  have : ∀ m : List UInt8, P m.reverse := fun m => by
    induction m with
    | nil => exact h0
    | cons b m ih => rw [List.reverse_cons]; exact hs _ b ih
  have h := this l.reverse
  rwa [List.reverse_reverse] at h
theorem near_byte {n : Nat} (h : n < 256) : Near 8 (wbyte n).2 := by
  unfold Near wbyte
  refine ⟨⟨?_, ?_⟩, ?_, ?_⟩ <;> simp only <;> omega
theorem near_add {m n : Int} {a b : Gi} (ha : Near m a) (hb : Near n b) : Near (m + n) (gadd a b) := by
  unfold Near gadd at *
  simp only
  omega
theorem near_mono {m n : Int} {a : Gi} (h : Near m a) (hmn : m ≤ n) : Near n a := by unfold Near at *; omega
/-- A walk that may be, with a step of at most so much. -/
def Wok (n : Int) (w : Wi) : Prop := Un w.1 ∧ Near n w.2
theorem wok_then {m n : Int} {a b : Wi} (ha : Wok m a) (hb : Wok n b) : Wok (m + n) (wthen a b) := ⟨un_mul hb.1 ha.1, near_add (un_near hb.1 ha.2) hb.2⟩
theorem wok_stay : Wok 0 wstay := ⟨.inl rfl, by unfold Near wstay; decide⟩
theorem wok_byte {n : Nat} (h : n < 256) : Wok 8 (wbyte n) := ⟨un_byte n, near_byte h⟩
theorem wok_text (l : List UInt8) : Wok (8 * l.length) (wtext l) := by
  refine snoc_ind (P := fun l => Wok (8 * l.length) (wtext l)) (by simpa [wtext] using wok_stay) (fun l b ih => ?_) l
  rw [wtext_snoc]
  have h := wok_then ih (wok_byte (n := b.toNat) b.toNat_lt)
  rw [List.length_append]
  simpa [Int.mul_add] using h

/-- A walk's words. -/
abbrev Cx := Nat × Nat
abbrev Ws := Cx × Cx
def cmulW (a b : Cx) : Cx := (cMulBits a.1 a.2 b.1 b.2).getD (0, 0)
def caddW (a b : Cx) : Cx := (cSumBits .add .f64 a.1 a.2 b.1 b.2).getD (0, 0)
def wappW (w : Ws) (z : Cx) : Cx := caddW (cmulW w.1 z) w.2
def wthenW (a b : Ws) : Ws := (cmulW b.1 a.1, wappW b a.2)
def wstayW : Ws := ((4607182418800017408, 0), (0, 0))
def wbyteW (n : Nat) : Ws := ((turnX ((n % 4 : Nat) : Int), turnY ((n % 4 : Nat) : Int)), (floatOfInt .f64 ((n / 4 % 8 + 1 : Nat) : Int), floatOfInt .f64 ((n / 32 + 1 : Nat) : Int)))
def wtextW (l : List UInt8) : Ws := l.foldl (fun a b => wthenW a (wbyteW b.toNat)) wstayW
theorem wtextW_snoc (l : List UInt8) (b : UInt8) : wtextW (l ++ [b]) = wthenW (wtextW l) (wbyteW b.toNat) := by
  unfold wtextW
  rw [List.foldl_append]
  rfl

/-- The words hold a whole complex number; a walk. -/
def CW (x : Cx) (g : Gi) : Prop := Wh x.1 g.1 ∧ Wh x.2 g.2
def WW (a : Ws) (w : Wi) : Prop := CW a.1 w.1 ∧ CW a.2 w.2

theorem near_mul {n : Int} {a z : Gi} (ha : Un a) (hz : Near n z) (hn : n ≤ 33554432) :
    (a.1 * z.1).natAbs < 9007199254740992 ∧ (a.2 * z.2).natAbs < 9007199254740992 ∧ (a.1 * z.2).natAbs < 9007199254740992 ∧ (a.2 * z.1).natAbs < 9007199254740992 ∧ (a.1 * z.1 - a.2 * z.2).natAbs < 9007199254740992 ∧ (a.1 * z.2 + a.2 * z.1).natAbs < 9007199254740992 := by
  unfold Near at hz
  rcases ha with rfl | rfl | rfl | rfl <;> simp <;> omega
theorem cmul_ok {x y : Cx} {a z : Gi} {n : Int} (hx : CW x a) (hy : CW y z) (ha : Un a) (hz : Near n z) (hn : n ≤ 33554432) : cMulBits x.1 x.2 y.1 y.2 = some (cmulW x y) ∧ CW (cmulW x y) (gmul a z) := by
  obtain ⟨h1, h2, h3, h4, h5, h6⟩ := near_mul ha hz hn
  obtain ⟨re, im, e, w1, w2⟩ := wh_cmul hx.1 hx.2 hy.1 hy.2 h1 h2 h3 h4 h5 h6
  have : cmulW x y = (re, im) := by unfold cmulW; rw [e]; rfl
  rw [this]
  exact ⟨e, w1, w2⟩
theorem cadd_ok {x y : Cx} {a b : Gi} {m n : Int} (hx : CW x a) (hy : CW y b) (ha : Near m a) (hb : Near n b) (hm : m ≤ 33554432) (hn : n ≤ 33554432) : cSumBits .add .f64 x.1 x.2 y.1 y.2 = some (caddW x y) ∧ CW (caddW x y) (gadd a b) := by
  unfold Near at ha hb
  obtain ⟨re, im, e, w1, w2⟩ := wh_csum hx.1 hx.2 hy.1 hy.2 (by omega) (by omega)
  have : caddW x y = (re, im) := by unfold caddW; rw [e]; rfl
  rw [this]
  exact ⟨e, w1, w2⟩
theorem un_one {a : Gi} (h : Un a) : Near 1 a := by unfold Near; rcases h with rfl | rfl | rfl | rfl <;> decide

/-- What Apply reckons. -/
def AppOk (a : Ws) (z : Cx) : Prop := cMulBits a.1.1 a.1.2 z.1 z.2 = some (cmulW a.1 z) ∧ cSumBits .add .f64 (cmulW a.1 z).1 (cmulW a.1 z).2 a.2.1 a.2.2 = some (wappW a z)
/-- What Then reckons. -/
def ThenOk (a b : Ws) : Prop := cMulBits b.1.1 b.1.2 a.1.1 a.1.2 = some (cmulW b.1 a.1) ∧ AppOk b a.2
theorem app_ok {a : Ws} {w : Wi} {z : Cx} {g : Gi} {m n : Int} (ha : WW a w) (hz : CW z g) (hw : Wok m w) (hg : Near n g) (hm : m ≤ 33554432) (hn : n ≤ 33554432) : AppOk a z ∧ CW (wappW a z) (wapp w g) := by
  obtain ⟨h1, h2⟩ := cmul_ok ha.1 hz hw.1 hg hn
  obtain ⟨h3, h4⟩ := cadd_ok h2 ha.2 (un_near hw.1 hg) hw.2 hn hm
  exact ⟨⟨h1, h3⟩, h4⟩
theorem then_ok {a b : Ws} {v w : Wi} {m n : Int} (ha : WW a v) (hb : WW b w) (hv : Wok m v) (hw : Wok n w) (hm : m ≤ 33554432) (hn : n ≤ 33554432) : ThenOk a b ∧ WW (wthenW a b) (wthen v w) := by
  obtain ⟨h1, h2⟩ := cmul_ok hb.1 ha.1 hw.1 (un_one hv.1) (by omega)
  obtain ⟨h3, h4⟩ := app_ok hb ha.2 hw hv.2 hn hm
  exact ⟨⟨h1, h3⟩, h2, h4⟩
theorem ww_stay : WW wstayW wstay := ⟨⟨wh_one, wh_zero⟩, wh_zero, wh_zero⟩
theorem ww_byte {n : Nat} (h : n < 256) : WW (wbyteW n) (wbyte n) := by
  have h1 := wh_ofInt ((n / 4 % 8 + 1 : Nat) : Int) (by omega)
  have h2 := wh_ofInt ((n / 32 + 1 : Nat) : Int) (by omega)
  exact ⟨⟨turnX_wh _, turnY_wh _⟩, h1, h2⟩
theorem ww_text (l : List UInt8) : l.length ≤ 4194304 → WW (wtextW l) (wtext l) := by
  refine snoc_ind (P := fun l => l.length ≤ 4194304 → WW (wtextW l) (wtext l)) (fun _ => ww_stay) (fun l b ih h => ?_) l
  rw [List.length_append, List.length_singleton] at h
  rw [wtext_snoc, wtextW_snoc]
  exact (then_ok (ih (by omega)) (ww_byte b.toNat_lt) (wok_text l) (wok_byte b.toNat_lt) (by omega) (by omega)).2
/-- What Text reckons at each byte. -/
theorem text_ok (l : List UInt8) (b : UInt8) (h : l.length ≤ 4194304) : ThenOk (wtextW l) (wbyteW b.toNat) :=
  (then_ok (ww_text l h) (ww_byte b.toNat_lt) (wok_text l) (wok_byte b.toNat_lt) (by omega) (by omega)).1

/-- Two walks' words that hold the same walk are equal in floating point. -/
def eqW (a b : Ws) : Bool := (FloatKind.f64.format.order a.1.1 b.1.1 == some .eq && FloatKind.f64.format.order a.1.2 b.1.2 == some .eq) && (FloatKind.f64.format.order a.2.1 b.2.1 == some .eq && FloatKind.f64.format.order a.2.2 b.2.2 == some .eq)
theorem eqW_iff {a b : Ws} {v w : Wi} (ha : WW a v) (hb : WW b w) : eqW a b = decide (v = w) := by
  have e1 := wh_ceq ha.1.1 ha.1.2 hb.1.1 hb.1.2
  have e2 := wh_ceq ha.2.1 ha.2.2 hb.2.1 hb.2.2
  have : eqW a b = (((Ieee.double.order a.1.1 b.1.1 == some .eq) && (Ieee.double.order a.1.2 b.1.2 == some .eq)) && ((Ieee.double.order a.2.1 b.2.1 == some .eq) && (Ieee.double.order a.2.2 b.2.2 == some .eq))) := rfl
  rw [this, e1, e2, ← Bool.decide_and]
  refine decide_eq_decide.2 ⟨fun h => Prod.ext (Prod.ext h.1.1 h.1.2) (Prod.ext h.2.1 h.2.2), fun h => by subst h; exact ⟨⟨rfl, rfl⟩, rfl, rfl⟩⟩

end Go.Proofs.YtglcihfcnbifcaaDoor
