/-
  No cell of these rows narrows 'for every input' (looked for: loops, veiled, ifaces, maps, wideKeys, modest, calm, conditions, laid).
  DERIVED. THE GIVEN ROWS OF THIS SEAT. 4 by the template 'for every input the law returns true; each argument reads behind the call as it read before'; 0 by the template 'total and deterministic' (their statements: YtabmembnbmpieaaTotals.lean).
  GIVEN WITH THE SEED: the statements are not yours to turn. If you find one false, say at which input.
  Laid BY PROGRAM, IN A SANDBOX (cutbox-rows.mjs): the forced cells as the released guide's own fill.sh prints them over the translation c866d9991f2a0830… (all of the seat's roots in one cut). By AI agents, Wed Nov 11 2026. No macro, syntax, notation, axiom, sorry.
-/
import Derived.Test.YtabmembnbmpieaaChecked
import GoSem.Claim
import GoSem.ClaimJoined
import GoSem.ClaimMapViews
import Derived.JoinedTies
import Derived.KernelRfl
namespace Go.Proofs.Ytabmembnbmpieaa
/- THE CELL 'sum', in the pinned program and in every row, IS THE sha256 OF THE DUMP (.gsa) THAT YtabmembnbmpieaaProg.lean LOADS. Nothing in Lean hashes anything: it is a label: what it is worth is what the hold of that sum in a sandbox is worth. -/
noncomputable def Try.pinned : Pinned := { name := "ytabmembnbmpieaa", sum := "c866d9991f2a0830742d9b85b565d44e5a1d6295eb27150dce6df2f51e28a3f8", checked := Try.checked }
namespace Rows
def none {H : Type} : Left H := { results := [], args := [] }

/-- 'coherentlaw.Touched': WHATEVER THE INPUT: true; the input reads as it did. -/
def touchedSpec : ChangeSpec := { name := "touched", fn := fun _ => fun
  | [d] => { results := [.lit (.bool true)], args := [d] }
  | _ => none }
def touchedRow : OpenClaim := { program := "ytabmembnbmpieaa", sum := "c866d9991f2a0830742d9b85b565d44e5a1d6295eb27150dce6df2f51e28a3f8", func := "coherent/coherentlaw.Touched", spec := "touched", apart := false }
def TouchedSaid : Prop := touchedRow.holds Try.pinned (OpenSpec.ofChange touchedSpec)

/-- ITS FALSE NEIGHBOUR: 'it returns false'. Refute it at one input. -/
def touchedWrong : ChangeSpec := { name := "touched", fn := fun _ => fun
  | [d] => { results := [.lit (.bool false)], args := [d] }
  | _ => none }
def TouchedWrongFalsely : Prop := touchedRow.holds Try.pinned (OpenSpec.ofChange touchedWrong)

/-- 'coherentkeep.Recent': WHATEVER THE INPUT: true; the input reads as it did. -/
def recentSpec : ChangeSpec := { name := "recent", fn := fun _ => fun
  | [d1, d2] => { results := [.lit (.bool true)], args := [d1, d2] }
  | _ => none }
def recentRow : OpenClaim := { program := "ytabmembnbmpieaa", sum := "c866d9991f2a0830742d9b85b565d44e5a1d6295eb27150dce6df2f51e28a3f8", func := "coherent/coherentkeep.Recent", spec := "recent", apart := false }
def RecentSaid : Prop := recentRow.holds Try.pinned (OpenSpec.ofChange recentSpec)

/-- ITS FALSE NEIGHBOUR: 'it returns false'. Refute it at one input. -/
def recentWrong : ChangeSpec := { name := "recent", fn := fun _ => fun
  | [d1, d2] => { results := [.lit (.bool false)], args := [d1, d2] }
  | _ => none }
def RecentWrongFalsely : Prop := recentRow.holds Try.pinned (OpenSpec.ofChange recentWrong)

/-- 'coherentkeep.Followed': WHATEVER THE INPUT: true; the input reads as it did. -/
def followedSpec : ChangeSpec := { name := "followed", fn := fun _ => fun
  | [d1, d2, d3] => { results := [.lit (.bool true)], args := [d1, d2, d3] }
  | _ => none }
def followedRow : OpenClaim := { program := "ytabmembnbmpieaa", sum := "c866d9991f2a0830742d9b85b565d44e5a1d6295eb27150dce6df2f51e28a3f8", func := "coherent/coherentkeep.Followed", spec := "followed", apart := false }
def FollowedSaid : Prop := followedRow.holds Try.pinned (OpenSpec.ofChange followedSpec)

/-- ITS FALSE NEIGHBOUR: 'it returns false'. Refute it at one input. -/
def followedWrong : ChangeSpec := { name := "followed", fn := fun _ => fun
  | [d1, d2, d3] => { results := [.lit (.bool false)], args := [d1, d2, d3] }
  | _ => none }
def FollowedWrongFalsely : Prop := followedRow.holds Try.pinned (OpenSpec.ofChange followedWrong)

/-- 'coherentkeep.Paired': WHATEVER THE INPUT: true; the input reads as it did. -/
def pairedSpec : ChangeSpec := { name := "paired", fn := fun _ => fun
  | [d1, d2, d3] => { results := [.lit (.bool true)], args := [d1, d2, d3] }
  | _ => none }
def pairedRow : OpenClaim := { program := "ytabmembnbmpieaa", sum := "c866d9991f2a0830742d9b85b565d44e5a1d6295eb27150dce6df2f51e28a3f8", func := "coherent/coherentkeep.Paired", spec := "paired", apart := false }
def PairedSaid : Prop := pairedRow.holds Try.pinned (OpenSpec.ofChange pairedSpec)

/-- ITS FALSE NEIGHBOUR: 'it returns false'. Refute it at one input. -/
def pairedWrong : ChangeSpec := { name := "paired", fn := fun _ => fun
  | [d1, d2, d3] => { results := [.lit (.bool false)], args := [d1, d2, d3] }
  | _ => none }
def PairedWrongFalsely : Prop := pairedRow.holds Try.pinned (OpenSpec.ofChange pairedWrong)

/- THE SECOND FORM. 'bulk': how many values and letters a reading holds, each counted each time it is reached (what is shared counts as often as it is met; a slice's spare places count too). A statement '..UptoSaid' is the law's where the arguments, and the package variables that the reading takes, are together of bulk at most 1048576: NARROWER than '..Said'. Prove '..Said' where nothing that the law and all that it calls make is longer than what came in: it says more and counts as full. Else prove '..UptoSaid'. A law counts once. -/
mutual
def uptoBulk {H : Type} : DataW H → Nat
  | .lit (.string bytes) => bytes.length + 1
  | .lit _ => 1
  | .nil => 1
  | .ptr d => uptoBulk d + 1
  | .slice elems spare => uptoBulkAll elems + uptoBulkAll spare + 1
  | .agg parts => uptoBulkAll parts + 1
  | .iface _ d => uptoBulk d + 1
  | .map entries => uptoBulkEntries entries + 1
  | .held _ => 1
def uptoBulkAll {H : Type} : List (DataW H) → Nat
  | [] => 0
  | d :: r => uptoBulk d + uptoBulkAll r
def uptoBulkEntries {H : Type} : List (Lit × DataW H) → Nat
  | [] => 0
  | x :: r => uptoBulkEntry x + uptoBulkEntries r
def uptoBulkEntry {H : Type} : Lit × DataW H → Nat
  | (.string bytes, d) => bytes.length + uptoBulk d + 1
  | (_, d) => uptoBulk d + 1
 end
def uptoSmall : (H : Type) → List (DataW H) → Bool := fun _ ds => decide (uptoBulkAll ds ≤ 1048576)
def OpenSpec.upto (s : _root_.Go.ChangeSpec) : _root_.Go.OpenSpec := { _root_.Go.OpenSpec.ofChange s with cond := some uptoSmall }

/-- 'coherentlaw.Touched', WHERE WHAT IT READS IS OF BULK AT MOST 1048576: true; the input reads as it did. -/
def touchedUptoRow : OpenClaim := { program := "ytabmembnbmpieaa", sum := "c866d9991f2a0830742d9b85b565d44e5a1d6295eb27150dce6df2f51e28a3f8", func := "coherent/coherentlaw.Touched", spec := "touched", apart := false, narrowed := true }
def TouchedUptoSaid : Prop := touchedUptoRow.holds Try.pinned (OpenSpec.upto touchedSpec)

/-- 'coherentkeep.Recent', WHERE WHAT IT READS IS OF BULK AT MOST 1048576: true; the input reads as it did. -/
def recentUptoRow : OpenClaim := { program := "ytabmembnbmpieaa", sum := "c866d9991f2a0830742d9b85b565d44e5a1d6295eb27150dce6df2f51e28a3f8", func := "coherent/coherentkeep.Recent", spec := "recent", apart := false, narrowed := true }
def RecentUptoSaid : Prop := recentUptoRow.holds Try.pinned (OpenSpec.upto recentSpec)

/-- 'coherentkeep.Followed', WHERE WHAT IT READS IS OF BULK AT MOST 1048576: true; the input reads as it did. -/
def followedUptoRow : OpenClaim := { program := "ytabmembnbmpieaa", sum := "c866d9991f2a0830742d9b85b565d44e5a1d6295eb27150dce6df2f51e28a3f8", func := "coherent/coherentkeep.Followed", spec := "followed", apart := false, narrowed := true }
def FollowedUptoSaid : Prop := followedUptoRow.holds Try.pinned (OpenSpec.upto followedSpec)

/-- 'coherentkeep.Paired', WHERE WHAT IT READS IS OF BULK AT MOST 1048576: true; the input reads as it did. -/
def pairedUptoRow : OpenClaim := { program := "ytabmembnbmpieaa", sum := "c866d9991f2a0830742d9b85b565d44e5a1d6295eb27150dce6df2f51e28a3f8", func := "coherent/coherentkeep.Paired", spec := "paired", apart := false, narrowed := true }
def PairedUptoSaid : Prop := pairedUptoRow.holds Try.pinned (OpenSpec.upto pairedSpec)

end Rows
end Go.Proofs.Ytabmembnbmpieaa
