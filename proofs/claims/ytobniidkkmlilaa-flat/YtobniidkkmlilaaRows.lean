/-
  No cell of these rows narrows 'for every input' (looked for: loops, veiled, ifaces, maps, wideKeys, modest, calm, conditions, laid).
  DERIVED. THE GIVEN ROWS OF THIS SEAT. 12 by the template 'for every input the law returns true; each argument reads behind the call as it read before'; 0 by the template 'total and deterministic' (their statements: YtobniidkkmlilaaTotals.lean).
  GIVEN WITH THE SEED: the statements are not yours to turn. If you find one false, say at which input.
  Laid BY PROGRAM, IN A SANDBOX (cutbox-rows.mjs): the forced cells as the released guide's own fill.sh prints them over the translation 1a69333715c10415… (all of the seat's roots in one cut). By AI agents, Wed Nov 11 2026. No macro, syntax, notation, axiom, sorry.
-/
import Derived.Test.YtobniidkkmlilaaChecked
import GoSem.Claim
import GoSem.ClaimJoined
import GoSem.ClaimMapViews
import Derived.JoinedTies
import Derived.KernelRfl
namespace Go.Proofs.Ytobniidkkmlilaa
/- THE CELL 'sum', in the pinned program and in every row, IS THE sha256 OF THE DUMP (.gsa) THAT YtobniidkkmlilaaProg.lean LOADS. Nothing in Lean hashes anything: it is a label: what it is worth is what the hold of that sum in a sandbox is worth. -/
noncomputable def Try.pinned : Pinned := { name := "ytobniidkkmlilaa", sum := "1a69333715c10415997d7f7b0c46edd51749b92875439bfd19c4240344dcc381", checked := Try.checked }
namespace Rows
def none {H : Type} : Left H := { results := [], args := [] }

/-- 'coherentlaw.Touched': WHATEVER THE INPUT: true; the input reads as it did. -/
def touchedSpec : ChangeSpec := { name := "touched", fn := fun _ => fun
  | [d] => { results := [.lit (.bool true)], args := [d] }
  | _ => none }
def touchedRow : OpenClaim := { program := "ytobniidkkmlilaa", sum := "1a69333715c10415997d7f7b0c46edd51749b92875439bfd19c4240344dcc381", func := "coherent/coherentlaw.Touched", spec := "touched", apart := false }
def TouchedSaid : Prop := touchedRow.holds Try.pinned (OpenSpec.ofChange touchedSpec)

/-- ITS FALSE NEIGHBOUR: 'it returns false'. Refute it at one input. -/
def touchedWrong : ChangeSpec := { name := "touched", fn := fun _ => fun
  | [d] => { results := [.lit (.bool false)], args := [d] }
  | _ => none }
def TouchedWrongFalsely : Prop := touchedRow.holds Try.pinned (OpenSpec.ofChange touchedWrong)

/-- 'coherentkeep.Recent': WHATEVER THE INPUT: true; the input reads as it did. -/
def recentSpec : ChangeSpec := { name := "recent", fn := fun _ => fun
  | [d1, d2] => { results := [.lit (.bool true)], args := [d1, d2] }
  | _ => none }
def recentRow : OpenClaim := { program := "ytobniidkkmlilaa", sum := "1a69333715c10415997d7f7b0c46edd51749b92875439bfd19c4240344dcc381", func := "coherent/coherentkeep.Recent", spec := "recent", apart := false }
def RecentSaid : Prop := recentRow.holds Try.pinned (OpenSpec.ofChange recentSpec)

/-- ITS FALSE NEIGHBOUR: 'it returns false'. Refute it at one input. -/
def recentWrong : ChangeSpec := { name := "recent", fn := fun _ => fun
  | [d1, d2] => { results := [.lit (.bool false)], args := [d1, d2] }
  | _ => none }
def RecentWrongFalsely : Prop := recentRow.holds Try.pinned (OpenSpec.ofChange recentWrong)

/-- 'coherentkeep.Followed': WHATEVER THE INPUT: true; the input reads as it did. -/
def followedSpec : ChangeSpec := { name := "followed", fn := fun _ => fun
  | [d1, d2, d3] => { results := [.lit (.bool true)], args := [d1, d2, d3] }
  | _ => none }
def followedRow : OpenClaim := { program := "ytobniidkkmlilaa", sum := "1a69333715c10415997d7f7b0c46edd51749b92875439bfd19c4240344dcc381", func := "coherent/coherentkeep.Followed", spec := "followed", apart := false }
def FollowedSaid : Prop := followedRow.holds Try.pinned (OpenSpec.ofChange followedSpec)

/-- ITS FALSE NEIGHBOUR: 'it returns false'. Refute it at one input. -/
def followedWrong : ChangeSpec := { name := "followed", fn := fun _ => fun
  | [d1, d2, d3] => { results := [.lit (.bool false)], args := [d1, d2, d3] }
  | _ => none }
def FollowedWrongFalsely : Prop := followedRow.holds Try.pinned (OpenSpec.ofChange followedWrong)

/-- 'coherentkeep.Paired': WHATEVER THE INPUT: true; the input reads as it did. -/
def pairedSpec : ChangeSpec := { name := "paired", fn := fun _ => fun
  | [d1, d2, d3] => { results := [.lit (.bool true)], args := [d1, d2, d3] }
  | _ => none }
def pairedRow : OpenClaim := { program := "ytobniidkkmlilaa", sum := "1a69333715c10415997d7f7b0c46edd51749b92875439bfd19c4240344dcc381", func := "coherent/coherentkeep.Paired", spec := "paired", apart := false }
def PairedSaid : Prop := pairedRow.holds Try.pinned (OpenSpec.ofChange pairedSpec)

/-- ITS FALSE NEIGHBOUR: 'it returns false'. Refute it at one input. -/
def pairedWrong : ChangeSpec := { name := "paired", fn := fun _ => fun
  | [d1, d2, d3] => { results := [.lit (.bool false)], args := [d1, d2, d3] }
  | _ => none }
def PairedWrongFalsely : Prop := pairedRow.holds Try.pinned (OpenSpec.ofChange pairedWrong)

/-- 'coherentlaw.Makes': WHATEVER THE INPUT: true; the input reads as it did. -/
def makesSpec : ChangeSpec := { name := "makes", fn := fun _ => fun
  | [d] => { results := [.lit (.bool true)], args := [d] }
  | _ => none }
def makesRow : OpenClaim := { program := "ytobniidkkmlilaa", sum := "1a69333715c10415997d7f7b0c46edd51749b92875439bfd19c4240344dcc381", func := "coherent/coherentlaw.Makes", spec := "makes", apart := false }
def MakesSaid : Prop := makesRow.holds Try.pinned (OpenSpec.ofChange makesSpec)

/-- ITS FALSE NEIGHBOUR: 'it returns false'. Refute it at one input. -/
def makesWrong : ChangeSpec := { name := "makes", fn := fun _ => fun
  | [d] => { results := [.lit (.bool false)], args := [d] }
  | _ => none }
def MakesWrongFalsely : Prop := makesRow.holds Try.pinned (OpenSpec.ofChange makesWrong)

/-- 'coherentlaw.Reads': WHATEVER THE INPUT: true; the input reads as it did. -/
def readsSpec : ChangeSpec := { name := "reads", fn := fun _ => fun
  | [d] => { results := [.lit (.bool true)], args := [d] }
  | _ => none }
def readsRow : OpenClaim := { program := "ytobniidkkmlilaa", sum := "1a69333715c10415997d7f7b0c46edd51749b92875439bfd19c4240344dcc381", func := "coherent/coherentlaw.Reads", spec := "reads", apart := false }
def ReadsSaid : Prop := readsRow.holds Try.pinned (OpenSpec.ofChange readsSpec)

/-- ITS FALSE NEIGHBOUR: 'it returns false'. Refute it at one input. -/
def readsWrong : ChangeSpec := { name := "reads", fn := fun _ => fun
  | [d] => { results := [.lit (.bool false)], args := [d] }
  | _ => none }
def ReadsWrongFalsely : Prop := readsRow.holds Try.pinned (OpenSpec.ofChange readsWrong)

/-- 'coherentlaw.Plays': WHATEVER THE INPUT: true; the input reads as it did. -/
def playsSpec : ChangeSpec := { name := "plays", fn := fun _ => fun
  | [d] => { results := [.lit (.bool true)], args := [d] }
  | _ => none }
def playsRow : OpenClaim := { program := "ytobniidkkmlilaa", sum := "1a69333715c10415997d7f7b0c46edd51749b92875439bfd19c4240344dcc381", func := "coherent/coherentlaw.Plays", spec := "plays", apart := false }
def PlaysSaid : Prop := playsRow.holds Try.pinned (OpenSpec.ofChange playsSpec)

/-- ITS FALSE NEIGHBOUR: 'it returns false'. Refute it at one input. -/
def playsWrong : ChangeSpec := { name := "plays", fn := fun _ => fun
  | [d] => { results := [.lit (.bool false)], args := [d] }
  | _ => none }
def PlaysWrongFalsely : Prop := playsRow.holds Try.pinned (OpenSpec.ofChange playsWrong)

/-- 'coherentkeep.Flat': WHATEVER THE INPUT: true; the input reads as it did. -/
def flatSpec : ChangeSpec := { name := "flat", fn := fun _ => fun
  | [d1, d2] => { results := [.lit (.bool true)], args := [d1, d2] }
  | _ => none }
def flatRow : OpenClaim := { program := "ytobniidkkmlilaa", sum := "1a69333715c10415997d7f7b0c46edd51749b92875439bfd19c4240344dcc381", func := "coherent/coherentkeep.Flat", spec := "flat", apart := false }
def FlatSaid : Prop := flatRow.holds Try.pinned (OpenSpec.ofChange flatSpec)

/-- ITS FALSE NEIGHBOUR: 'it returns false'. Refute it at one input. -/
def flatWrong : ChangeSpec := { name := "flat", fn := fun _ => fun
  | [d1, d2] => { results := [.lit (.bool false)], args := [d1, d2] }
  | _ => none }
def FlatWrongFalsely : Prop := flatRow.holds Try.pinned (OpenSpec.ofChange flatWrong)

/-- 'coherentkeep.Neutral': WHATEVER THE INPUT: true; the input reads as it did. -/
def neutralSpec : ChangeSpec := { name := "neutral", fn := fun _ => fun
  | [d1, d2, d3] => { results := [.lit (.bool true)], args := [d1, d2, d3] }
  | _ => none }
def neutralRow : OpenClaim := { program := "ytobniidkkmlilaa", sum := "1a69333715c10415997d7f7b0c46edd51749b92875439bfd19c4240344dcc381", func := "coherent/coherentkeep.Neutral", spec := "neutral", apart := false }
def NeutralSaid : Prop := neutralRow.holds Try.pinned (OpenSpec.ofChange neutralSpec)

/-- ITS FALSE NEIGHBOUR: 'it returns false'. Refute it at one input. -/
def neutralWrong : ChangeSpec := { name := "neutral", fn := fun _ => fun
  | [d1, d2, d3] => { results := [.lit (.bool false)], args := [d1, d2, d3] }
  | _ => none }
def NeutralWrongFalsely : Prop := neutralRow.holds Try.pinned (OpenSpec.ofChange neutralWrong)

/-- 'coherentkeep.Nested': WHATEVER THE INPUT: true; the input reads as it did. -/
def nestedSpec : ChangeSpec := { name := "nested", fn := fun _ => fun
  | [d1, d2] => { results := [.lit (.bool true)], args := [d1, d2] }
  | _ => none }
def nestedRow : OpenClaim := { program := "ytobniidkkmlilaa", sum := "1a69333715c10415997d7f7b0c46edd51749b92875439bfd19c4240344dcc381", func := "coherent/coherentkeep.Nested", spec := "nested", apart := false }
def NestedSaid : Prop := nestedRow.holds Try.pinned (OpenSpec.ofChange nestedSpec)

/-- ITS FALSE NEIGHBOUR: 'it returns false'. Refute it at one input. -/
def nestedWrong : ChangeSpec := { name := "nested", fn := fun _ => fun
  | [d1, d2] => { results := [.lit (.bool false)], args := [d1, d2] }
  | _ => none }
def NestedWrongFalsely : Prop := nestedRow.holds Try.pinned (OpenSpec.ofChange nestedWrong)

/-- 'coherentlaw.States': WHATEVER THE INPUT: true; the input reads as it did. -/
def statesSpec : ChangeSpec := { name := "states", fn := fun _ => fun
  | [d] => { results := [.lit (.bool true)], args := [d] }
  | _ => none }
def statesRow : OpenClaim := { program := "ytobniidkkmlilaa", sum := "1a69333715c10415997d7f7b0c46edd51749b92875439bfd19c4240344dcc381", func := "coherent/coherentlaw.States", spec := "states", apart := false }
def StatesSaid : Prop := statesRow.holds Try.pinned (OpenSpec.ofChange statesSpec)

/-- ITS FALSE NEIGHBOUR: 'it returns false'. Refute it at one input. -/
def statesWrong : ChangeSpec := { name := "states", fn := fun _ => fun
  | [d] => { results := [.lit (.bool false)], args := [d] }
  | _ => none }
def StatesWrongFalsely : Prop := statesRow.holds Try.pinned (OpenSpec.ofChange statesWrong)

/-- 'coherentkeep.One': WHATEVER THE INPUT: true; the input reads as it did. -/
def oneSpec : ChangeSpec := { name := "one", fn := fun _ => fun
  | [d1, d2, d3, d4, d5] => { results := [.lit (.bool true)], args := [d1, d2, d3, d4, d5] }
  | _ => none }
def oneRow : OpenClaim := { program := "ytobniidkkmlilaa", sum := "1a69333715c10415997d7f7b0c46edd51749b92875439bfd19c4240344dcc381", func := "coherent/coherentkeep.One", spec := "one", apart := false }
def OneSaid : Prop := oneRow.holds Try.pinned (OpenSpec.ofChange oneSpec)

/-- ITS FALSE NEIGHBOUR: 'it returns false'. Refute it at one input. -/
def oneWrong : ChangeSpec := { name := "one", fn := fun _ => fun
  | [d1, d2, d3, d4, d5] => { results := [.lit (.bool false)], args := [d1, d2, d3, d4, d5] }
  | _ => none }
def OneWrongFalsely : Prop := oneRow.holds Try.pinned (OpenSpec.ofChange oneWrong)

/- THE SECOND FORM. 'bulk': how many values and letters a reading holds, each counted each time it is reached (what is shared counts as often as it is met; a slice's spare places count too). A statement '..UptoSaid' is the law's where the arguments, and the package variables that the reading takes, are together of bulk at most 1048576: NARROWER than '..Said'. Prove '..Said' where nothing that the law and all that it calls make is longer than what came in: it says more and counts as full. Else prove '..UptoSaid'. A law counts once. -/
mutual
def uptoBulk {H : Type} : DataW H → Nat
  | .lit (.string bytes) => bytes.length + 1
  | .lit _ => 1
  | .nil => 1
  | .ptr d => uptoBulk d + 1
  | .slice elems spare => uptoBulkAll elems + uptoBulkAll spare + 1
  | .agg parts => uptoBulkAll parts + 1
  | .iface _ d => uptoBulk d + 1
  | .map entries => uptoBulkEntries entries + 1
  | .held _ => 1
def uptoBulkAll {H : Type} : List (DataW H) → Nat
  | [] => 0
  | d :: r => uptoBulk d + uptoBulkAll r
def uptoBulkEntries {H : Type} : List (Lit × DataW H) → Nat
  | [] => 0
  | x :: r => uptoBulkEntry x + uptoBulkEntries r
def uptoBulkEntry {H : Type} : Lit × DataW H → Nat
  | (.string bytes, d) => bytes.length + uptoBulk d + 1
  | (_, d) => uptoBulk d + 1
 end
def uptoSmall : (H : Type) → List (DataW H) → Bool := fun _ ds => decide (uptoBulkAll ds ≤ 1048576)
def OpenSpec.upto (s : _root_.Go.ChangeSpec) : _root_.Go.OpenSpec := { _root_.Go.OpenSpec.ofChange s with cond := some uptoSmall }

/-- 'coherentlaw.Touched', WHERE WHAT IT READS IS OF BULK AT MOST 1048576: true; the input reads as it did. -/
def touchedUptoRow : OpenClaim := { program := "ytobniidkkmlilaa", sum := "1a69333715c10415997d7f7b0c46edd51749b92875439bfd19c4240344dcc381", func := "coherent/coherentlaw.Touched", spec := "touched", apart := false, narrowed := true }
def TouchedUptoSaid : Prop := touchedUptoRow.holds Try.pinned (OpenSpec.upto touchedSpec)

/-- 'coherentkeep.Recent', WHERE WHAT IT READS IS OF BULK AT MOST 1048576: true; the input reads as it did. -/
def recentUptoRow : OpenClaim := { program := "ytobniidkkmlilaa", sum := "1a69333715c10415997d7f7b0c46edd51749b92875439bfd19c4240344dcc381", func := "coherent/coherentkeep.Recent", spec := "recent", apart := false, narrowed := true }
def RecentUptoSaid : Prop := recentUptoRow.holds Try.pinned (OpenSpec.upto recentSpec)

/-- 'coherentkeep.Followed', WHERE WHAT IT READS IS OF BULK AT MOST 1048576: true; the input reads as it did. -/
def followedUptoRow : OpenClaim := { program := "ytobniidkkmlilaa", sum := "1a69333715c10415997d7f7b0c46edd51749b92875439bfd19c4240344dcc381", func := "coherent/coherentkeep.Followed", spec := "followed", apart := false, narrowed := true }
def FollowedUptoSaid : Prop := followedUptoRow.holds Try.pinned (OpenSpec.upto followedSpec)

/-- 'coherentkeep.Paired', WHERE WHAT IT READS IS OF BULK AT MOST 1048576: true; the input reads as it did. -/
def pairedUptoRow : OpenClaim := { program := "ytobniidkkmlilaa", sum := "1a69333715c10415997d7f7b0c46edd51749b92875439bfd19c4240344dcc381", func := "coherent/coherentkeep.Paired", spec := "paired", apart := false, narrowed := true }
def PairedUptoSaid : Prop := pairedUptoRow.holds Try.pinned (OpenSpec.upto pairedSpec)

/-- 'coherentlaw.Makes', WHERE WHAT IT READS IS OF BULK AT MOST 1048576: true; the input reads as it did. -/
def makesUptoRow : OpenClaim := { program := "ytobniidkkmlilaa", sum := "1a69333715c10415997d7f7b0c46edd51749b92875439bfd19c4240344dcc381", func := "coherent/coherentlaw.Makes", spec := "makes", apart := false, narrowed := true }
def MakesUptoSaid : Prop := makesUptoRow.holds Try.pinned (OpenSpec.upto makesSpec)

/-- 'coherentlaw.Reads', WHERE WHAT IT READS IS OF BULK AT MOST 1048576: true; the input reads as it did. -/
def readsUptoRow : OpenClaim := { program := "ytobniidkkmlilaa", sum := "1a69333715c10415997d7f7b0c46edd51749b92875439bfd19c4240344dcc381", func := "coherent/coherentlaw.Reads", spec := "reads", apart := false, narrowed := true }
def ReadsUptoSaid : Prop := readsUptoRow.holds Try.pinned (OpenSpec.upto readsSpec)

/-- 'coherentlaw.Plays', WHERE WHAT IT READS IS OF BULK AT MOST 1048576: true; the input reads as it did. -/
def playsUptoRow : OpenClaim := { program := "ytobniidkkmlilaa", sum := "1a69333715c10415997d7f7b0c46edd51749b92875439bfd19c4240344dcc381", func := "coherent/coherentlaw.Plays", spec := "plays", apart := false, narrowed := true }
def PlaysUptoSaid : Prop := playsUptoRow.holds Try.pinned (OpenSpec.upto playsSpec)

/-- 'coherentkeep.Flat', WHERE WHAT IT READS IS OF BULK AT MOST 1048576: true; the input reads as it did. -/
def flatUptoRow : OpenClaim := { program := "ytobniidkkmlilaa", sum := "1a69333715c10415997d7f7b0c46edd51749b92875439bfd19c4240344dcc381", func := "coherent/coherentkeep.Flat", spec := "flat", apart := false, narrowed := true }
def FlatUptoSaid : Prop := flatUptoRow.holds Try.pinned (OpenSpec.upto flatSpec)

/-- 'coherentkeep.Neutral', WHERE WHAT IT READS IS OF BULK AT MOST 1048576: true; the input reads as it did. -/
def neutralUptoRow : OpenClaim := { program := "ytobniidkkmlilaa", sum := "1a69333715c10415997d7f7b0c46edd51749b92875439bfd19c4240344dcc381", func := "coherent/coherentkeep.Neutral", spec := "neutral", apart := false, narrowed := true }
def NeutralUptoSaid : Prop := neutralUptoRow.holds Try.pinned (OpenSpec.upto neutralSpec)

/-- 'coherentkeep.Nested', WHERE WHAT IT READS IS OF BULK AT MOST 1048576: true; the input reads as it did. -/
def nestedUptoRow : OpenClaim := { program := "ytobniidkkmlilaa", sum := "1a69333715c10415997d7f7b0c46edd51749b92875439bfd19c4240344dcc381", func := "coherent/coherentkeep.Nested", spec := "nested", apart := false, narrowed := true }
def NestedUptoSaid : Prop := nestedUptoRow.holds Try.pinned (OpenSpec.upto nestedSpec)

/-- 'coherentlaw.States', WHERE WHAT IT READS IS OF BULK AT MOST 1048576: true; the input reads as it did. -/
def statesUptoRow : OpenClaim := { program := "ytobniidkkmlilaa", sum := "1a69333715c10415997d7f7b0c46edd51749b92875439bfd19c4240344dcc381", func := "coherent/coherentlaw.States", spec := "states", apart := false, narrowed := true }
def StatesUptoSaid : Prop := statesUptoRow.holds Try.pinned (OpenSpec.upto statesSpec)

/-- 'coherentkeep.One', WHERE WHAT IT READS IS OF BULK AT MOST 1048576: true; the input reads as it did. -/
def oneUptoRow : OpenClaim := { program := "ytobniidkkmlilaa", sum := "1a69333715c10415997d7f7b0c46edd51749b92875439bfd19c4240344dcc381", func := "coherent/coherentkeep.One", spec := "one", apart := false, narrowed := true }
def OneUptoSaid : Prop := oneUptoRow.holds Try.pinned (OpenSpec.upto oneSpec)

end Rows
end Go.Proofs.Ytobniidkkmlilaa
