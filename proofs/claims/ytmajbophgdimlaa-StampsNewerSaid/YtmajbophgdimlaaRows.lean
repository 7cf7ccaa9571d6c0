/-
  No cell of these rows narrows 'for every input' (looked for: loops, veiled, ifaces, maps, wideKeys, modest, calm, conditions, laid).
  DERIVED. THE GIVEN ROWS OF THIS SEAT. 2 by the template 'for every input the law returns true; each argument reads behind the call as it read before'; 0 by the template 'total and deterministic' (their statements: YtmajbophgdimlaaTotals.lean).
  GIVEN WITH THE SEED: the statements are not yours to turn. If you find one false, say at which input.
  Laid BY PROGRAM, IN A SANDBOX (cutbox-rows.mjs): the forced cells as the released guide's own fill.sh prints them over the translation d2a6d1d57936dc40… (all of the seat's roots in one cut). By AI agents, Wed Nov 11 2026. No macro, syntax, notation, axiom, sorry.
-/
import Derived.Test.YtmajbophgdimlaaChecked
import GoSem.Claim
import GoSem.ClaimJoined
import GoSem.ClaimMapViews
import Derived.JoinedTies
import Derived.KernelRfl
namespace Go.Proofs.Ytmajbophgdimlaa
/- THE CELL 'sum', in the pinned program and in every row, IS THE sha256 OF THE DUMP (.gsa) THAT YtmajbophgdimlaaProg.lean LOADS. Nothing in Lean hashes anything: it is a label: what it is worth is what the hold of that sum in a sandbox is worth. -/
noncomputable def Try.pinned : Pinned := { name := "ytmajbophgdimlaa", sum := "d2a6d1d57936dc4080d0451921e8559ff9c59ca93f5bd0ac3d1cb1ac044a4f42", checked := Try.checked }
namespace Rows
def none {H : Type} : Left H := { results := [], args := [] }

/-- 'oriellaw18.StampsNewer': WHATEVER THE INPUT: true; the input reads as it did. -/
def stampsNewerSpec : ChangeSpec := { name := "stampsNewer", fn := fun _ => fun
  | [d1, d2] => { results := [.lit (.bool true)], args := [d1, d2] }
  | _ => none }
def stampsNewerRow : OpenClaim := { program := "ytmajbophgdimlaa", sum := "d2a6d1d57936dc4080d0451921e8559ff9c59ca93f5bd0ac3d1cb1ac044a4f42", func := "oriel/oriellaw18.StampsNewer", spec := "stampsNewer", unfollowed := true, recurses := true, plainKeys := false, apart := false }
def StampsNewerSaid : Prop := stampsNewerRow.holds Try.pinned (OpenSpec.ofChange stampsNewerSpec)

/-- ITS FALSE NEIGHBOUR: 'it returns false'. Refute it at one input. -/
def stampsNewerWrong : ChangeSpec := { name := "stampsNewer", fn := fun _ => fun
  | [d1, d2] => { results := [.lit (.bool false)], args := [d1, d2] }
  | _ => none }
def StampsNewerWrongFalsely : Prop := stampsNewerRow.holds Try.pinned (OpenSpec.ofChange stampsNewerWrong)

/-- 'oriellaw18.StampsBelow': WHATEVER THE INPUT: true; the input reads as it did. -/
def stampsBelowSpec : ChangeSpec := { name := "stampsBelow", fn := fun _ => fun
  | [d1, d2] => { results := [.lit (.bool true)], args := [d1, d2] }
  | _ => none }
def stampsBelowRow : OpenClaim := { program := "ytmajbophgdimlaa", sum := "d2a6d1d57936dc4080d0451921e8559ff9c59ca93f5bd0ac3d1cb1ac044a4f42", func := "oriel/oriellaw18.StampsBelow", spec := "stampsBelow", unfollowed := true, recurses := true, plainKeys := false, apart := false }
def StampsBelowSaid : Prop := stampsBelowRow.holds Try.pinned (OpenSpec.ofChange stampsBelowSpec)

/-- ITS FALSE NEIGHBOUR: 'it returns false'. Refute it at one input. -/
def stampsBelowWrong : ChangeSpec := { name := "stampsBelow", fn := fun _ => fun
  | [d1, d2] => { results := [.lit (.bool false)], args := [d1, d2] }
  | _ => none }
def StampsBelowWrongFalsely : Prop := stampsBelowRow.holds Try.pinned (OpenSpec.ofChange stampsBelowWrong)

/- THE SECOND FORM. 'bulk': how many values and letters a reading holds, each counted each time it is reached (what is shared counts as often as it is met; a slice's spare places count too). A statement '..UptoSaid' is the law's where the arguments, and the package variables that the reading takes, are together of bulk at most 1048576: NARROWER than '..Said'. Prove '..Said' where nothing that the law and all that it calls make is longer than what came in: it says more and counts as full. Else prove '..UptoSaid'. A law counts once. -/
mutual
def uptoBulk {H : Type} : DataW H → Nat
  | .lit (.string bytes) => bytes.length + 1
  | .lit _ => 1
  | .nil => 1
  | .ptr d => uptoBulk d + 1
  | .slice elems spare => uptoBulkAll elems + uptoBulkAll spare + 1
  | .agg parts => uptoBulkAll parts + 1
  | .iface _ d => uptoBulk d + 1
  | .map entries => uptoBulkEntries entries + 1
  | .held _ => 1
def uptoBulkAll {H : Type} : List (DataW H) → Nat
  | [] => 0
  | d :: r => uptoBulk d + uptoBulkAll r
def uptoBulkEntries {H : Type} : List (Lit × DataW H) → Nat
  | [] => 0
  | x :: r => uptoBulkEntry x + uptoBulkEntries r
def uptoBulkEntry {H : Type} : Lit × DataW H → Nat
  | (.string bytes, d) => bytes.length + uptoBulk d + 1
  | (_, d) => uptoBulk d + 1
 end
def uptoSmall : (H : Type) → List (DataW H) → Bool := fun _ ds => decide (uptoBulkAll ds ≤ 1048576)
def OpenSpec.upto (s : _root_.Go.ChangeSpec) : _root_.Go.OpenSpec := { _root_.Go.OpenSpec.ofChange s with cond := some uptoSmall }

/-- 'oriellaw18.StampsNewer', WHERE WHAT IT READS IS OF BULK AT MOST 1048576: true; the input reads as it did. -/
def stampsNewerUptoRow : OpenClaim := { program := "ytmajbophgdimlaa", sum := "d2a6d1d57936dc4080d0451921e8559ff9c59ca93f5bd0ac3d1cb1ac044a4f42", func := "oriel/oriellaw18.StampsNewer", spec := "stampsNewer", unfollowed := true, recurses := true, plainKeys := false, apart := false, narrowed := true }
def StampsNewerUptoSaid : Prop := stampsNewerUptoRow.holds Try.pinned (OpenSpec.upto stampsNewerSpec)

/-- 'oriellaw18.StampsBelow', WHERE WHAT IT READS IS OF BULK AT MOST 1048576: true; the input reads as it did. -/
def stampsBelowUptoRow : OpenClaim := { program := "ytmajbophgdimlaa", sum := "d2a6d1d57936dc4080d0451921e8559ff9c59ca93f5bd0ac3d1cb1ac044a4f42", func := "oriel/oriellaw18.StampsBelow", spec := "stampsBelow", unfollowed := true, recurses := true, plainKeys := false, apart := false, narrowed := true }
def StampsBelowUptoSaid : Prop := stampsBelowUptoRow.holds Try.pinned (OpenSpec.upto stampsBelowSpec)

end Rows
end Go.Proofs.Ytmajbophgdimlaa
