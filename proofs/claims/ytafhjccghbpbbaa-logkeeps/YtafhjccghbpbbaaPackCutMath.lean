
/-
  The bytes of things, one behind the other, and what is read of them, whole or cut off. Of no program but how things lie in memory; no conditions beyond what each theorem states.
-/
import Derived.Test.YtafhjccghbpbbaaPackEnc
import Derived.Test.YtafhjccghbpbbaaPackLaw
namespace Go.Proofs.Ytafhjccghbpbbaa
open Go.RowKit Go.Lib
set_option linter.unusedVariables false
set_option linter.unusedSimpArgs false

/-- A thing's bytes (b: bytes as they are count too). -/
def encG (b : Bool) (x : Th) : List UInt8 :=
  if x.1 = 1 then [UInt8.ofNat (x.2.1 % 256)] else if x.1 = 2 then encN (x.2.1 % 9223372036854775808) else if x.1 = 3 then encT x.2.2.1 else if x.1 = 4 ∧ b = true then x.2.2.1 else []
def encTo (b : Bool) (xs : List Th) (k : Nat) : List UInt8 := (xs.take k).flatMap (encG b)
theorem encG_len (b : Bool) (x : Th) (h : x.2.2.1.length ≤ 300) : (encG b x).length ≤ 309 := by
  unfold encG
  split
  · simp
  · split
    · have := encN_len (n := x.2.1 % 9223372036854775808) (Nat.mod_lt _ (by decide)); omega
    · split
      · have := encN_len (n := x.2.2.1.length) (by omega); unfold encT; rw [List.length_append]; omega
      · split
        · omega
        · simp
theorem encTo_zero (b : Bool) (xs : List Th) : encTo b xs 0 = [] := rfl
theorem encTo_succ {b : Bool} {xs : List Th} {k : Nat} (h : k < xs.length) : encTo b xs (k + 1) = encTo b xs k ++ encG b (atO xs k) := by
  unfold encTo
  rw [List.take_add_one, List.flatMap_append]
  simp [atO, h]
theorem encTo_len {b : Bool} {xs : List Th} (hs : ∀ i, i < xs.length → (atO xs i).2.2.1.length ≤ 300) : ∀ k, k ≤ xs.length → (encTo b xs k).length ≤ k * 309 := by
  intro k
  induction k with
  | zero => intro _; simp [encTo_zero]
  | succ k ih =>
    intro hk
    rw [encTo_succ (by omega), List.length_append]
    have := ih (by omega)
    have := encG_len b _ (hs k (by omega))
    omega
theorem encTo_split {b : Bool} {xs : List Th} {k : Nat} (h : k < xs.length) : encTo b xs xs.length = encTo b xs k ++ encG b (atO xs k) ++ (xs.drop (k + 1)).flatMap (encG b) := by
  rw [← encTo_succ h]
  unfold encTo
  rw [← List.flatMap_append, List.take_append_drop, List.take_length]

theorem cut_drop {pre c post : List UInt8} {a : Nat} (hq : pre.length ≤ a) : ((pre ++ c ++ post).take a).drop pre.length = (c ++ post).take (a - pre.length) := by
  rw [List.append_assoc, List.drop_take, List.drop_left]
theorem cut_two {c post : List UInt8} {m : Nat} : (c.length ≤ m ∧ (c ++ post).take m = c ++ post.take (m - c.length)) ∨ (m < c.length ∧ (c ++ post).take m = c.take m) := by
  by_cases h : c.length ≤ m
  · exact Or.inl ⟨h, by rw [List.take_append, List.take_of_length_le h]⟩
  · exact Or.inr ⟨by omega, by rw [List.take_append_of_le_length (by omega)]⟩

/-- What is read of a byte, a number or a text that is there, or cut off. -/
theorem rdB_cut {pre post : List UInt8} {y : UInt8} {a : Nat} (hq : pre.length ≤ a) (ha : a ≤ (pre ++ [y] ++ post).length) :
    (rdB ((pre ++ [y] ++ post).take a) pre.length 0 = (y.toNat, pre.length + 1, 0)) ∨ rdB ((pre ++ [y] ++ post).take a) pre.length 0 = (0, pre.length, 14) := by
  unfold rdB
  rw [if_pos rfl, List.length_take, Nat.min_eq_left ha]
  by_cases h : pre.length < a
  · left
    rw [if_pos h]
    have : ((pre ++ [y] ++ post).take a).getD pre.length 0 = y := by simp [List.getElem?_take, h]
    rw [this]
  · right; rw [if_neg h]
theorem rdN_cut {pre post : List UInt8} {n a limit : Nat} (hn : n < 9223372036854775808) (hl : n ≤ limit) (hq : pre.length ≤ a) :
    (rdN ((pre ++ encN n ++ post).take a) pre.length 0 limit = (n, pre.length + (encN n).length, 0)) ∨ rdN ((pre ++ encN n ++ post).take a) pre.length 0 limit = (0, pre.length, 14) := by
  unfold rdN
  rw [if_pos rfl, cut_drop hq]
  rcases cut_two (c := encN n) (post := post) (m := a - pre.length) with ⟨h, e⟩ | ⟨h, e⟩
  · left; rw [e, read_enc hn hl]
  · right; rw [e, read_cut hn h]; rfl
theorem rdT_cut {pre post s : List UInt8} {a limit : Nat} (hn : s.length < 9223372036854775808) (hl : s.length ≤ limit) (hq : pre.length ≤ a) :
    (rdT ((pre ++ encT s ++ post).take a) pre.length 0 limit = (s, pre.length + (encT s).length, 0)) ∨ rdT ((pre ++ encT s ++ post).take a) pre.length 0 limit = ([], pre.length, 14) := by
  unfold rdT
  rw [if_pos rfl, cut_drop hq]
  rcases cut_two (c := encT s) (post := post) (m := a - pre.length) with ⟨h, e⟩ | ⟨h, e⟩
  · left; rw [e, readT_enc hn hl]
  · right; rw [e, readT_cut hn hl h]; rfl
/-- .. and whole. -/
theorem rdB_all {pre post : List UInt8} {y : UInt8} : rdB (pre ++ [y] ++ post) pre.length 0 = (y.toNat, pre.length + 1, 0) := by
  unfold rdB
  rw [if_pos rfl, if_pos (by simp)]
  simp
theorem rdN_all {pre post : List UInt8} {n limit : Nat} (hn : n < 9223372036854775808) (hl : n ≤ limit) : rdN (pre ++ encN n ++ post) pre.length 0 limit = (n, pre.length + (encN n).length, 0) := by
  unfold rdN
  rw [if_pos rfl, List.append_assoc, List.drop_left, read_enc hn hl]
theorem rdT_all {pre post s : List UInt8} {limit : Nat} (hn : s.length < 9223372036854775808) (hl : s.length ≤ limit) : rdT (pre ++ encT s ++ post) pre.length 0 limit = (s, pre.length + (encT s).length, 0) := by
  unfold rdT
  rw [if_pos rfl, List.append_assoc, List.drop_left, readT_enc hn hl]

end Go.Proofs.Ytafhjccghbpbbaa
