/-
  No cell of these rows narrows 'for every input' (looked for: loops, veiled, ifaces, maps, wideKeys, modest, calm, conditions, laid).
  DERIVED. THE GIVEN ROWS OF THIS SEAT. 3 by the template 'for every input the law returns true; each argument reads behind the call as it read before'; 0 by the template 'total and deterministic' (their statements: YtedlmngfkkpmgaaTotals.lean).
  GIVEN WITH THE SEED: the statements are not yours to turn. If you find one false, say at which input.
  Laid BY PROGRAM, IN A SANDBOX (cutbox-rows.mjs): the forced cells as the released guide's own fill.sh prints them over the translation 4f7ee1ce0a37ad7c… (all of the seat's roots in one cut). By AI agents, Wed Nov 11 2026. No macro, syntax, notation, axiom, sorry.
-/
import Derived.Test.YtedlmngfkkpmgaaChecked
import GoSem.Claim
import GoSem.ClaimJoined
import GoSem.ClaimMapViews
import Derived.JoinedTies
import Derived.KernelRfl
namespace Go.Proofs.Ytedlmngfkkpmgaa
/- THE CELL 'sum', in the pinned program and in every row, IS THE sha256 OF THE DUMP (.gsa) THAT YtedlmngfkkpmgaaProg.lean LOADS. Nothing in Lean hashes anything: it is a label: what it is worth is what the hold of that sum in a sandbox is worth. -/
noncomputable def Try.pinned : Pinned := { name := "ytedlmngfkkpmgaa", sum := "4f7ee1ce0a37ad7c068e459da0c01c51392171c96b28bd9a94f7c8ed87fa786f", checked := Try.checked }
namespace Rows
def none {H : Type} : Left H := { results := [], args := [] }

/-- 'copyistlaw09.TxnFits': WHATEVER THE INPUT: true; the input reads as it did. -/
def txnFitsSpec : ChangeSpec := { name := "txnFits", fn := fun _ => fun
  | [d1, d2] => { results := [.lit (.bool true)], args := [d1, d2] }
  | _ => none }
def txnFitsRow : OpenClaim := { program := "ytedlmngfkkpmgaa", sum := "4f7ee1ce0a37ad7c068e459da0c01c51392171c96b28bd9a94f7c8ed87fa786f", func := "copyist/copyistlaw09.TxnFits", spec := "txnFits", unfollowed := true, recurses := true, apart := false }
def TxnFitsSaid : Prop := txnFitsRow.holds Try.pinned (OpenSpec.ofChange txnFitsSpec)

/-- ITS FALSE NEIGHBOUR: 'it returns false'. Refute it at one input. -/
def txnFitsWrong : ChangeSpec := { name := "txnFits", fn := fun _ => fun
  | [d1, d2] => { results := [.lit (.bool false)], args := [d1, d2] }
  | _ => none }
def TxnFitsWrongFalsely : Prop := txnFitsRow.holds Try.pinned (OpenSpec.ofChange txnFitsWrong)

/-- 'copyistlaw09.TxnBytes': WHATEVER THE INPUT: true; the input reads as it did. -/
def txnBytesSpec : ChangeSpec := { name := "txnBytes", fn := fun _ => fun
  | [d] => { results := [.lit (.bool true)], args := [d] }
  | _ => none }
def txnBytesRow : OpenClaim := { program := "ytedlmngfkkpmgaa", sum := "4f7ee1ce0a37ad7c068e459da0c01c51392171c96b28bd9a94f7c8ed87fa786f", func := "copyist/copyistlaw09.TxnBytes", spec := "txnBytes", unfollowed := true, recurses := true, apart := false }
def TxnBytesSaid : Prop := txnBytesRow.holds Try.pinned (OpenSpec.ofChange txnBytesSpec)

/-- ITS FALSE NEIGHBOUR: 'it returns false'. Refute it at one input. -/
def txnBytesWrong : ChangeSpec := { name := "txnBytes", fn := fun _ => fun
  | [d] => { results := [.lit (.bool false)], args := [d] }
  | _ => none }
def TxnBytesWrongFalsely : Prop := txnBytesRow.holds Try.pinned (OpenSpec.ofChange txnBytesWrong)

/-- 'copyistlaw09.TxnReads': WHATEVER THE INPUT: true; the input reads as it did. -/
def txnReadsSpec : ChangeSpec := { name := "txnReads", fn := fun _ => fun
  | [d] => { results := [.lit (.bool true)], args := [d] }
  | _ => none }
def txnReadsRow : OpenClaim := { program := "ytedlmngfkkpmgaa", sum := "4f7ee1ce0a37ad7c068e459da0c01c51392171c96b28bd9a94f7c8ed87fa786f", func := "copyist/copyistlaw09.TxnReads", spec := "txnReads", unfollowed := true, recurses := true, apart := false }
def TxnReadsSaid : Prop := txnReadsRow.holds Try.pinned (OpenSpec.ofChange txnReadsSpec)

/-- ITS FALSE NEIGHBOUR: 'it returns false'. Refute it at one input. -/
def txnReadsWrong : ChangeSpec := { name := "txnReads", fn := fun _ => fun
  | [d] => { results := [.lit (.bool false)], args := [d] }
  | _ => none }
def TxnReadsWrongFalsely : Prop := txnReadsRow.holds Try.pinned (OpenSpec.ofChange txnReadsWrong)

/- THE SECOND FORM. 'bulk': how many values and letters a reading holds, each counted each time it is reached (what is shared counts as often as it is met; a slice's spare places count too). A statement '..UptoSaid' is the law's where the arguments, and the package variables that the reading takes, are together of bulk at most 1048576: NARROWER than '..Said'. Prove '..Said' where nothing that the law and all that it calls make is longer than what came in: it says more and counts as full. Else prove '..UptoSaid'. A law counts once. -/
mutual
def uptoBulk {H : Type} : DataW H → Nat
  | .lit (.string bytes) => bytes.length + 1
  | .lit _ => 1
  | .nil => 1
  | .ptr d => uptoBulk d + 1
  | .slice elems spare => uptoBulkAll elems + uptoBulkAll spare + 1
  | .agg parts => uptoBulkAll parts + 1
  | .iface _ d => uptoBulk d + 1
  | .map entries => uptoBulkEntries entries + 1
  | .held _ => 1
def uptoBulkAll {H : Type} : List (DataW H) → Nat
  | [] => 0
  | d :: r => uptoBulk d + uptoBulkAll r
def uptoBulkEntries {H : Type} : List (Lit × DataW H) → Nat
  | [] => 0
  | x :: r => uptoBulkEntry x + uptoBulkEntries r
def uptoBulkEntry {H : Type} : Lit × DataW H → Nat
  | (.string bytes, d) => bytes.length + uptoBulk d + 1
  | (_, d) => uptoBulk d + 1
 end
def uptoSmall : (H : Type) → List (DataW H) → Bool := fun _ ds => decide (uptoBulkAll ds ≤ 1048576)
def OpenSpec.upto (s : _root_.Go.ChangeSpec) : _root_.Go.OpenSpec := { _root_.Go.OpenSpec.ofChange s with cond := some uptoSmall }

/-- 'copyistlaw09.TxnFits', WHERE WHAT IT READS IS OF BULK AT MOST 1048576: true; the input reads as it did. -/
def txnFitsUptoRow : OpenClaim := { program := "ytedlmngfkkpmgaa", sum := "4f7ee1ce0a37ad7c068e459da0c01c51392171c96b28bd9a94f7c8ed87fa786f", func := "copyist/copyistlaw09.TxnFits", spec := "txnFits", unfollowed := true, recurses := true, apart := false, narrowed := true }
def TxnFitsUptoSaid : Prop := txnFitsUptoRow.holds Try.pinned (OpenSpec.upto txnFitsSpec)

/-- 'copyistlaw09.TxnBytes', WHERE WHAT IT READS IS OF BULK AT MOST 1048576: true; the input reads as it did. -/
def txnBytesUptoRow : OpenClaim := { program := "ytedlmngfkkpmgaa", sum := "4f7ee1ce0a37ad7c068e459da0c01c51392171c96b28bd9a94f7c8ed87fa786f", func := "copyist/copyistlaw09.TxnBytes", spec := "txnBytes", unfollowed := true, recurses := true, apart := false, narrowed := true }
def TxnBytesUptoSaid : Prop := txnBytesUptoRow.holds Try.pinned (OpenSpec.upto txnBytesSpec)

/-- 'copyistlaw09.TxnReads', WHERE WHAT IT READS IS OF BULK AT MOST 1048576: true; the input reads as it did. -/
def txnReadsUptoRow : OpenClaim := { program := "ytedlmngfkkpmgaa", sum := "4f7ee1ce0a37ad7c068e459da0c01c51392171c96b28bd9a94f7c8ed87fa786f", func := "copyist/copyistlaw09.TxnReads", spec := "txnReads", unfollowed := true, recurses := true, apart := false, narrowed := true }
def TxnReadsUptoSaid : Prop := txnReadsUptoRow.holds Try.pinned (OpenSpec.upto txnReadsSpec)

end Rows
end Go.Proofs.Ytedlmngfkkpmgaa
