/-
  No cell of these rows narrows 'for every input' (looked for: loops, veiled, ifaces, maps, wideKeys, modest, calm, conditions, laid).
  DERIVED. THE GIVEN ROWS OF THIS SEAT. 4 by the template 'for every input the law returns true; each argument reads behind the call as it read before'; 0 by the template 'total and deterministic' (their statements: YtdflcknbelpflaaTotals.lean).
  GIVEN WITH THE SEED: the statements are not yours to turn. If you find one false, say at which input.
  Laid BY PROGRAM, IN A SANDBOX (cutbox-rows.mjs): the forced cells as the released guide's own fill.sh prints them over the translation adb24c78ef59923f… (all of the seat's roots in one cut). By AI agents, Wed Nov 11 2026. No macro, syntax, notation, axiom, sorry.
-/
import Derived.Test.YtdflcknbelpflaaChecked
import GoSem.Claim
import GoSem.ClaimJoined
import GoSem.ClaimMapViews
import Derived.JoinedTies
import Derived.KernelRfl
namespace Go.Proofs.Ytdflcknbelpflaa
/- THE CELL 'sum', in the pinned program and in every row, IS THE sha256 OF THE DUMP (.gsa) THAT YtdflcknbelpflaaProg.lean LOADS. Nothing in Lean hashes anything: it is a label: what it is worth is what the hold of that sum in a sandbox is worth. -/
noncomputable def Try.pinned : Pinned := { name := "ytdflcknbelpflaa", sum := "adb24c78ef59923f52ad46162a685d31db68fef6d6c106ef4518ee63789c3e82", checked := Try.checked }
namespace Rows
def none {H : Type} : Left H := { results := [], args := [] }

/-- 'exerguelaw10.PatTells': WHATEVER THE INPUT: true; the input reads as it did. -/
def patTellsSpec : ChangeSpec := { name := "patTells", fn := fun _ => fun
  | [d1, d2] => { results := [.lit (.bool true)], args := [d1, d2] }
  | _ => none }
def patTellsRow : OpenClaim := { program := "ytdflcknbelpflaa", sum := "adb24c78ef59923f52ad46162a685d31db68fef6d6c106ef4518ee63789c3e82", func := "exergue/exerguelaw10.PatTells", spec := "patTells", unfollowed := true, recurses := true, apart := false }
def PatTellsSaid : Prop := patTellsRow.holds Try.pinned (OpenSpec.ofChange patTellsSpec)

/-- ITS FALSE NEIGHBOUR: 'it returns false'. Refute it at one input. -/
def patTellsWrong : ChangeSpec := { name := "patTells", fn := fun _ => fun
  | [d1, d2] => { results := [.lit (.bool false)], args := [d1, d2] }
  | _ => none }
def PatTellsWrongFalsely : Prop := patTellsRow.holds Try.pinned (OpenSpec.ofChange patTellsWrong)

/-- 'exerguelaw10.PatNumbers': WHATEVER THE INPUT: true; the input reads as it did. -/
def patNumbersSpec : ChangeSpec := { name := "patNumbers", fn := fun _ => fun
  | [d] => { results := [.lit (.bool true)], args := [d] }
  | _ => none }
def patNumbersRow : OpenClaim := { program := "ytdflcknbelpflaa", sum := "adb24c78ef59923f52ad46162a685d31db68fef6d6c106ef4518ee63789c3e82", func := "exergue/exerguelaw10.PatNumbers", spec := "patNumbers", unfollowed := true, recurses := true, apart := false }
def PatNumbersSaid : Prop := patNumbersRow.holds Try.pinned (OpenSpec.ofChange patNumbersSpec)

/-- ITS FALSE NEIGHBOUR: 'it returns false'. Refute it at one input. -/
def patNumbersWrong : ChangeSpec := { name := "patNumbers", fn := fun _ => fun
  | [d] => { results := [.lit (.bool false)], args := [d] }
  | _ => none }
def PatNumbersWrongFalsely : Prop := patNumbersRow.holds Try.pinned (OpenSpec.ofChange patNumbersWrong)

/-- 'exerguelaw10.PatGroups': WHATEVER THE INPUT: true; the input reads as it did. -/
def patGroupsSpec : ChangeSpec := { name := "patGroups", fn := fun _ => fun
  | [d] => { results := [.lit (.bool true)], args := [d] }
  | _ => none }
def patGroupsRow : OpenClaim := { program := "ytdflcknbelpflaa", sum := "adb24c78ef59923f52ad46162a685d31db68fef6d6c106ef4518ee63789c3e82", func := "exergue/exerguelaw10.PatGroups", spec := "patGroups", unfollowed := true, recurses := true, apart := false }
def PatGroupsSaid : Prop := patGroupsRow.holds Try.pinned (OpenSpec.ofChange patGroupsSpec)

/-- ITS FALSE NEIGHBOUR: 'it returns false'. Refute it at one input. -/
def patGroupsWrong : ChangeSpec := { name := "patGroups", fn := fun _ => fun
  | [d] => { results := [.lit (.bool false)], args := [d] }
  | _ => none }
def PatGroupsWrongFalsely : Prop := patGroupsRow.holds Try.pinned (OpenSpec.ofChange patGroupsWrong)

/-- 'exerguelaw10.PatSames': WHATEVER THE INPUT: true; the input reads as it did. -/
def patSamesSpec : ChangeSpec := { name := "patSames", fn := fun _ => fun
  | [d1, d2, d3] => { results := [.lit (.bool true)], args := [d1, d2, d3] }
  | _ => none }
def patSamesRow : OpenClaim := { program := "ytdflcknbelpflaa", sum := "adb24c78ef59923f52ad46162a685d31db68fef6d6c106ef4518ee63789c3e82", func := "exergue/exerguelaw10.PatSames", spec := "patSames", unfollowed := true, recurses := true, apart := false }
def PatSamesSaid : Prop := patSamesRow.holds Try.pinned (OpenSpec.ofChange patSamesSpec)

/-- ITS FALSE NEIGHBOUR: 'it returns false'. Refute it at one input. -/
def patSamesWrong : ChangeSpec := { name := "patSames", fn := fun _ => fun
  | [d1, d2, d3] => { results := [.lit (.bool false)], args := [d1, d2, d3] }
  | _ => none }
def PatSamesWrongFalsely : Prop := patSamesRow.holds Try.pinned (OpenSpec.ofChange patSamesWrong)

/- THE SECOND FORM. 'bulk': how many values and letters a reading holds, each counted each time it is reached (what is shared counts as often as it is met; a slice's spare places count too). A statement '..UptoSaid' is the law's where the arguments, and the package variables that the reading takes, are together of bulk at most 1048576: NARROWER than '..Said'. Prove '..Said' where nothing that the law and all that it calls make is longer than what came in: it says more and counts as full. Else prove '..UptoSaid'. A law counts once. -/
mutual
def uptoBulk {H : Type} : DataW H → Nat
  | .lit (.string bytes) => bytes.length + 1
  | .lit _ => 1
  | .nil => 1
  | .ptr d => uptoBulk d + 1
  | .slice elems spare => uptoBulkAll elems + uptoBulkAll spare + 1
  | .agg parts => uptoBulkAll parts + 1
  | .iface _ d => uptoBulk d + 1
  | .map entries => uptoBulkEntries entries + 1
  | .held _ => 1
def uptoBulkAll {H : Type} : List (DataW H) → Nat
  | [] => 0
  | d :: r => uptoBulk d + uptoBulkAll r
def uptoBulkEntries {H : Type} : List (Lit × DataW H) → Nat
  | [] => 0
  | x :: r => uptoBulkEntry x + uptoBulkEntries r
def uptoBulkEntry {H : Type} : Lit × DataW H → Nat
  | (.string bytes, d) => bytes.length + uptoBulk d + 1
  | (_, d) => uptoBulk d + 1
 end
def uptoSmall : (H : Type) → List (DataW H) → Bool := fun _ ds => decide (uptoBulkAll ds ≤ 1048576)
def OpenSpec.upto (s : _root_.Go.ChangeSpec) : _root_.Go.OpenSpec := { _root_.Go.OpenSpec.ofChange s with cond := some uptoSmall }

/-- 'exerguelaw10.PatTells', WHERE WHAT IT READS IS OF BULK AT MOST 1048576: true; the input reads as it did. -/
def patTellsUptoRow : OpenClaim := { program := "ytdflcknbelpflaa", sum := "adb24c78ef59923f52ad46162a685d31db68fef6d6c106ef4518ee63789c3e82", func := "exergue/exerguelaw10.PatTells", spec := "patTells", unfollowed := true, recurses := true, apart := false, narrowed := true }
def PatTellsUptoSaid : Prop := patTellsUptoRow.holds Try.pinned (OpenSpec.upto patTellsSpec)

/-- 'exerguelaw10.PatNumbers', WHERE WHAT IT READS IS OF BULK AT MOST 1048576: true; the input reads as it did. -/
def patNumbersUptoRow : OpenClaim := { program := "ytdflcknbelpflaa", sum := "adb24c78ef59923f52ad46162a685d31db68fef6d6c106ef4518ee63789c3e82", func := "exergue/exerguelaw10.PatNumbers", spec := "patNumbers", unfollowed := true, recurses := true, apart := false, narrowed := true }
def PatNumbersUptoSaid : Prop := patNumbersUptoRow.holds Try.pinned (OpenSpec.upto patNumbersSpec)

/-- 'exerguelaw10.PatGroups', WHERE WHAT IT READS IS OF BULK AT MOST 1048576: true; the input reads as it did. -/
def patGroupsUptoRow : OpenClaim := { program := "ytdflcknbelpflaa", sum := "adb24c78ef59923f52ad46162a685d31db68fef6d6c106ef4518ee63789c3e82", func := "exergue/exerguelaw10.PatGroups", spec := "patGroups", unfollowed := true, recurses := true, apart := false, narrowed := true }
def PatGroupsUptoSaid : Prop := patGroupsUptoRow.holds Try.pinned (OpenSpec.upto patGroupsSpec)

/-- 'exerguelaw10.PatSames', WHERE WHAT IT READS IS OF BULK AT MOST 1048576: true; the input reads as it did. -/
def patSamesUptoRow : OpenClaim := { program := "ytdflcknbelpflaa", sum := "adb24c78ef59923f52ad46162a685d31db68fef6d6c106ef4518ee63789c3e82", func := "exergue/exerguelaw10.PatSames", spec := "patSames", unfollowed := true, recurses := true, apart := false, narrowed := true }
def PatSamesUptoSaid : Prop := patSamesUptoRow.holds Try.pinned (OpenSpec.upto patSamesSpec)

end Rows
end Go.Proofs.Ytdflcknbelpflaa
