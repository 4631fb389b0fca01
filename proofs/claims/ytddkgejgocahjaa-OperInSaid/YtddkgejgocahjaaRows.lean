/-
  No cell of these rows narrows 'for every input' (looked for: loops, veiled, ifaces, maps, wideKeys, modest, calm, conditions, laid).
  DERIVED. THE GIVEN ROWS OF THIS SEAT. 7 by the template 'for every input the law returns true; each argument reads behind the call as it read before'; 0 by the template 'total and deterministic' (their statements: YtddkgejgocahjaaTotals.lean).
  GIVEN WITH THE SEED: the statements are not yours to turn. If you find one false, say at which input.
  Laid BY PROGRAM, IN A SANDBOX (cutbox-rows.mjs): the forced cells as the released guide's own fill.sh prints them over the translation c358b21265551ce0… (all of the seat's roots in one cut). By AI agents, Wed Nov 11 2026. No macro, syntax, notation, axiom, sorry.
-/
import Derived.Test.YtddkgejgocahjaaChecked
import GoSem.Claim
import GoSem.ClaimJoined
import GoSem.ClaimMapViews
import Derived.JoinedTies
import Derived.KernelRfl
namespace Go.Proofs.Ytddkgejgocahjaa
/- THE CELL 'sum', in the pinned program and in every row, IS THE sha256 OF THE DUMP (.gsa) THAT YtddkgejgocahjaaProg.lean LOADS. Nothing in Lean hashes anything: it is a label: what it is worth is what the hold of that sum in a sandbox is worth. -/
noncomputable def Try.pinned : Pinned := { name := "ytddkgejgocahjaa", sum := "c358b21265551ce06855f08f23814685269cdf4dc56c9af864702aa0c1f738f0", checked := Try.checked }
namespace Rows
def none {H : Type} : Left H := { results := [], args := [] }

/-- 'exerguelaw07.OperTells': WHATEVER THE INPUT: true; the input reads as it did. -/
def operTellsSpec : ChangeSpec := { name := "operTells", fn := fun _ => fun
  | [d] => { results := [.lit (.bool true)], args := [d] }
  | _ => none }
def operTellsRow : OpenClaim := { program := "ytddkgejgocahjaa", sum := "c358b21265551ce06855f08f23814685269cdf4dc56c9af864702aa0c1f738f0", func := "exergue/exerguelaw07.OperTells", spec := "operTells", unfollowed := true, recurses := true, apart := false }
def OperTellsSaid : Prop := operTellsRow.holds Try.pinned (OpenSpec.ofChange operTellsSpec)

/-- ITS FALSE NEIGHBOUR: 'it returns false'. Refute it at one input. -/
def operTellsWrong : ChangeSpec := { name := "operTells", fn := fun _ => fun
  | [d] => { results := [.lit (.bool false)], args := [d] }
  | _ => none }
def OperTellsWrongFalsely : Prop := operTellsRow.holds Try.pinned (OpenSpec.ofChange operTellsWrong)

/-- 'exerguelaw07.OperMods': WHATEVER THE INPUT: true; the input reads as it did. -/
def operModsSpec : ChangeSpec := { name := "operMods", fn := fun _ => fun
  | [d] => { results := [.lit (.bool true)], args := [d] }
  | _ => none }
def operModsRow : OpenClaim := { program := "ytddkgejgocahjaa", sum := "c358b21265551ce06855f08f23814685269cdf4dc56c9af864702aa0c1f738f0", func := "exergue/exerguelaw07.OperMods", spec := "operMods", unfollowed := true, recurses := true, apart := false }
def OperModsSaid : Prop := operModsRow.holds Try.pinned (OpenSpec.ofChange operModsSpec)

/-- ITS FALSE NEIGHBOUR: 'it returns false'. Refute it at one input. -/
def operModsWrong : ChangeSpec := { name := "operMods", fn := fun _ => fun
  | [d] => { results := [.lit (.bool false)], args := [d] }
  | _ => none }
def OperModsWrongFalsely : Prop := operModsRow.holds Try.pinned (OpenSpec.ofChange operModsWrong)

/-- 'exerguelaw07.OperNoughts': WHATEVER THE INPUT: true; the input reads as it did. -/
def operNoughtsSpec : ChangeSpec := { name := "operNoughts", fn := fun _ => fun
  | [d1, d2, d3] => { results := [.lit (.bool true)], args := [d1, d2, d3] }
  | _ => none }
def operNoughtsRow : OpenClaim := { program := "ytddkgejgocahjaa", sum := "c358b21265551ce06855f08f23814685269cdf4dc56c9af864702aa0c1f738f0", func := "exergue/exerguelaw07.OperNoughts", spec := "operNoughts", unfollowed := true, recurses := true, apart := false }
def OperNoughtsSaid : Prop := operNoughtsRow.holds Try.pinned (OpenSpec.ofChange operNoughtsSpec)

/-- ITS FALSE NEIGHBOUR: 'it returns false'. Refute it at one input. -/
def operNoughtsWrong : ChangeSpec := { name := "operNoughts", fn := fun _ => fun
  | [d1, d2, d3] => { results := [.lit (.bool false)], args := [d1, d2, d3] }
  | _ => none }
def OperNoughtsWrongFalsely : Prop := operNoughtsRow.holds Try.pinned (OpenSpec.ofChange operNoughtsWrong)

/-- 'exerguelaw07.OperRests': WHATEVER THE INPUT: true; the input reads as it did. -/
def operRestsSpec : ChangeSpec := { name := "operRests", fn := fun _ => fun
  | [d] => { results := [.lit (.bool true)], args := [d] }
  | _ => none }
def operRestsRow : OpenClaim := { program := "ytddkgejgocahjaa", sum := "c358b21265551ce06855f08f23814685269cdf4dc56c9af864702aa0c1f738f0", func := "exergue/exerguelaw07.OperRests", spec := "operRests", unfollowed := true, recurses := true, apart := false }
def OperRestsSaid : Prop := operRestsRow.holds Try.pinned (OpenSpec.ofChange operRestsSpec)

/-- ITS FALSE NEIGHBOUR: 'it returns false'. Refute it at one input. -/
def operRestsWrong : ChangeSpec := { name := "operRests", fn := fun _ => fun
  | [d] => { results := [.lit (.bool false)], args := [d] }
  | _ => none }
def OperRestsWrongFalsely : Prop := operRestsRow.holds Try.pinned (OpenSpec.ofChange operRestsWrong)

/-- 'exerguelaw07.OperWhole': WHATEVER THE INPUT: true; the input reads as it did. -/
def operWholeSpec : ChangeSpec := { name := "operWhole", fn := fun _ => fun
  | [d] => { results := [.lit (.bool true)], args := [d] }
  | _ => none }
def operWholeRow : OpenClaim := { program := "ytddkgejgocahjaa", sum := "c358b21265551ce06855f08f23814685269cdf4dc56c9af864702aa0c1f738f0", func := "exergue/exerguelaw07.OperWhole", spec := "operWhole", unfollowed := true, recurses := true, apart := false }
def OperWholeSaid : Prop := operWholeRow.holds Try.pinned (OpenSpec.ofChange operWholeSpec)

/-- ITS FALSE NEIGHBOUR: 'it returns false'. Refute it at one input. -/
def operWholeWrong : ChangeSpec := { name := "operWhole", fn := fun _ => fun
  | [d] => { results := [.lit (.bool false)], args := [d] }
  | _ => none }
def OperWholeWrongFalsely : Prop := operWholeRow.holds Try.pinned (OpenSpec.ofChange operWholeWrong)

/-- 'exerguelaw07.OperIn': WHATEVER THE INPUT: true; the input reads as it did. -/
def operInSpec : ChangeSpec := { name := "operIn", fn := fun _ => fun
  | [d] => { results := [.lit (.bool true)], args := [d] }
  | _ => none }
def operInRow : OpenClaim := { program := "ytddkgejgocahjaa", sum := "c358b21265551ce06855f08f23814685269cdf4dc56c9af864702aa0c1f738f0", func := "exergue/exerguelaw07.OperIn", spec := "operIn", unfollowed := true, recurses := true, apart := false }
def OperInSaid : Prop := operInRow.holds Try.pinned (OpenSpec.ofChange operInSpec)

/-- ITS FALSE NEIGHBOUR: 'it returns false'. Refute it at one input. -/
def operInWrong : ChangeSpec := { name := "operIn", fn := fun _ => fun
  | [d] => { results := [.lit (.bool false)], args := [d] }
  | _ => none }
def OperInWrongFalsely : Prop := operInRow.holds Try.pinned (OpenSpec.ofChange operInWrong)

/-- 'exerguelaw07.OperBack': WHATEVER THE INPUT: true; the input reads as it did. -/
def operBackSpec : ChangeSpec := { name := "operBack", fn := fun _ => fun
  | [d] => { results := [.lit (.bool true)], args := [d] }
  | _ => none }
def operBackRow : OpenClaim := { program := "ytddkgejgocahjaa", sum := "c358b21265551ce06855f08f23814685269cdf4dc56c9af864702aa0c1f738f0", func := "exergue/exerguelaw07.OperBack", spec := "operBack", unfollowed := true, recurses := true, apart := false }
def OperBackSaid : Prop := operBackRow.holds Try.pinned (OpenSpec.ofChange operBackSpec)

/-- ITS FALSE NEIGHBOUR: 'it returns false'. Refute it at one input. -/
def operBackWrong : ChangeSpec := { name := "operBack", fn := fun _ => fun
  | [d] => { results := [.lit (.bool false)], args := [d] }
  | _ => none }
def OperBackWrongFalsely : Prop := operBackRow.holds Try.pinned (OpenSpec.ofChange operBackWrong)

/- THE SECOND FORM. 'bulk': how many values and letters a reading holds, each counted each time it is reached (what is shared counts as often as it is met; a slice's spare places count too). A statement '..UptoSaid' is the law's where the arguments, and the package variables that the reading takes, are together of bulk at most 1048576: NARROWER than '..Said'. Prove '..Said' where nothing that the law and all that it calls make is longer than what came in: it says more and counts as full. Else prove '..UptoSaid'. A law counts once. -/
mutual
def uptoBulk {H : Type} : DataW H → Nat
  | .lit (.string bytes) => bytes.length + 1
  | .lit _ => 1
  | .nil => 1
  | .ptr d => uptoBulk d + 1
  | .slice elems spare => uptoBulkAll elems + uptoBulkAll spare + 1
  | .agg parts => uptoBulkAll parts + 1
  | .iface _ d => uptoBulk d + 1
  | .map entries => uptoBulkEntries entries + 1
  | .held _ => 1
def uptoBulkAll {H : Type} : List (DataW H) → Nat
  | [] => 0
  | d :: r => uptoBulk d + uptoBulkAll r
def uptoBulkEntries {H : Type} : List (Lit × DataW H) → Nat
  | [] => 0
  | x :: r => uptoBulkEntry x + uptoBulkEntries r
def uptoBulkEntry {H : Type} : Lit × DataW H → Nat
  | (.string bytes, d) => bytes.length + uptoBulk d + 1
  | (_, d) => uptoBulk d + 1
 end
def uptoSmall : (H : Type) → List (DataW H) → Bool := fun _ ds => decide (uptoBulkAll ds ≤ 1048576)
def OpenSpec.upto (s : _root_.Go.ChangeSpec) : _root_.Go.OpenSpec := { _root_.Go.OpenSpec.ofChange s with cond := some uptoSmall }

/-- 'exerguelaw07.OperTells', WHERE WHAT IT READS IS OF BULK AT MOST 1048576: true; the input reads as it did. -/
def operTellsUptoRow : OpenClaim := { program := "ytddkgejgocahjaa", sum := "c358b21265551ce06855f08f23814685269cdf4dc56c9af864702aa0c1f738f0", func := "exergue/exerguelaw07.OperTells", spec := "operTells", unfollowed := true, recurses := true, apart := false, narrowed := true }
def OperTellsUptoSaid : Prop := operTellsUptoRow.holds Try.pinned (OpenSpec.upto operTellsSpec)

/-- 'exerguelaw07.OperMods', WHERE WHAT IT READS IS OF BULK AT MOST 1048576: true; the input reads as it did. -/
def operModsUptoRow : OpenClaim := { program := "ytddkgejgocahjaa", sum := "c358b21265551ce06855f08f23814685269cdf4dc56c9af864702aa0c1f738f0", func := "exergue/exerguelaw07.OperMods", spec := "operMods", unfollowed := true, recurses := true, apart := false, narrowed := true }
def OperModsUptoSaid : Prop := operModsUptoRow.holds Try.pinned (OpenSpec.upto operModsSpec)

/-- 'exerguelaw07.OperNoughts', WHERE WHAT IT READS IS OF BULK AT MOST 1048576: true; the input reads as it did. -/
def operNoughtsUptoRow : OpenClaim := { program := "ytddkgejgocahjaa", sum := "c358b21265551ce06855f08f23814685269cdf4dc56c9af864702aa0c1f738f0", func := "exergue/exerguelaw07.OperNoughts", spec := "operNoughts", unfollowed := true, recurses := true, apart := false, narrowed := true }
def OperNoughtsUptoSaid : Prop := operNoughtsUptoRow.holds Try.pinned (OpenSpec.upto operNoughtsSpec)

/-- 'exerguelaw07.OperRests', WHERE WHAT IT READS IS OF BULK AT MOST 1048576: true; the input reads as it did. -/
def operRestsUptoRow : OpenClaim := { program := "ytddkgejgocahjaa", sum := "c358b21265551ce06855f08f23814685269cdf4dc56c9af864702aa0c1f738f0", func := "exergue/exerguelaw07.OperRests", spec := "operRests", unfollowed := true, recurses := true, apart := false, narrowed := true }
def OperRestsUptoSaid : Prop := operRestsUptoRow.holds Try.pinned (OpenSpec.upto operRestsSpec)

/-- 'exerguelaw07.OperWhole', WHERE WHAT IT READS IS OF BULK AT MOST 1048576: true; the input reads as it did. -/
def operWholeUptoRow : OpenClaim := { program := "ytddkgejgocahjaa", sum := "c358b21265551ce06855f08f23814685269cdf4dc56c9af864702aa0c1f738f0", func := "exergue/exerguelaw07.OperWhole", spec := "operWhole", unfollowed := true, recurses := true, apart := false, narrowed := true }
def OperWholeUptoSaid : Prop := operWholeUptoRow.holds Try.pinned (OpenSpec.upto operWholeSpec)

/-- 'exerguelaw07.OperIn', WHERE WHAT IT READS IS OF BULK AT MOST 1048576: true; the input reads as it did. -/
def operInUptoRow : OpenClaim := { program := "ytddkgejgocahjaa", sum := "c358b21265551ce06855f08f23814685269cdf4dc56c9af864702aa0c1f738f0", func := "exergue/exerguelaw07.OperIn", spec := "operIn", unfollowed := true, recurses := true, apart := false, narrowed := true }
def OperInUptoSaid : Prop := operInUptoRow.holds Try.pinned (OpenSpec.upto operInSpec)

/-- 'exerguelaw07.OperBack', WHERE WHAT IT READS IS OF BULK AT MOST 1048576: true; the input reads as it did. -/
def operBackUptoRow : OpenClaim := { program := "ytddkgejgocahjaa", sum := "c358b21265551ce06855f08f23814685269cdf4dc56c9af864702aa0c1f738f0", func := "exergue/exerguelaw07.OperBack", spec := "operBack", unfollowed := true, recurses := true, apart := false, narrowed := true }
def OperBackUptoSaid : Prop := operBackUptoRow.holds Try.pinned (OpenSpec.upto operBackSpec)

end Rows
end Go.Proofs.Ytddkgejgocahjaa
