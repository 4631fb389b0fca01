/-
  No cell of these rows narrows 'for every input' (looked for: loops, veiled, ifaces, maps, wideKeys, modest, calm, conditions, laid).
  DERIVED. THE GIVEN ROWS OF THIS SEAT. 6 by the template 'for every input the law returns true; each argument reads behind the call as it read before'; 0 by the template 'total and deterministic' (their statements: YtcmmjficmoflkaaTotals.lean).
  GIVEN WITH THE SEED: the statements are not yours to turn. If you find one false, say at which input.
  Laid BY PROGRAM, IN A SANDBOX (cutbox-rows.mjs): the forced cells as the released guide's own fill.sh prints them over the translation befa8f4fc891f36a… (all of the seat's roots in one cut). By AI agents, Wed Nov 11 2026. No macro, syntax, notation, axiom, sorry.
-/
import Derived.Test.YtcmmjficmoflkaaChecked
import GoSem.Claim
import GoSem.ClaimJoined
import GoSem.ClaimMapViews
import Derived.JoinedTies
import Derived.KernelRfl
namespace Go.Proofs.Ytcmmjficmoflkaa
/- THE CELL 'sum', in the pinned program and in every row, IS THE sha256 OF THE DUMP (.gsa) THAT YtcmmjficmoflkaaProg.lean LOADS. Nothing in Lean hashes anything: it is a label: what it is worth is what the hold of that sum in a sandbox is worth. -/
noncomputable def Try.pinned : Pinned := { name := "ytcmmjficmoflkaa", sum := "befa8f4fc891f36a70fae4240352c627e85af6adce6a64565f9fca1e5476fabe", checked := Try.checked }
namespace Rows
def none {H : Type} : Left H := { results := [], args := [] }

/-- 'exerguelaw17.ShapeBack': WHATEVER THE INPUT: true; the input reads as it did. -/
def shapeBackSpec : ChangeSpec := { name := "shapeBack", fn := fun _ => fun
  | [d] => { results := [.lit (.bool true)], args := [d] }
  | _ => none }
def shapeBackRow : OpenClaim := { program := "ytcmmjficmoflkaa", sum := "befa8f4fc891f36a70fae4240352c627e85af6adce6a64565f9fca1e5476fabe", func := "exergue/exerguelaw17.ShapeBack", spec := "shapeBack", unfollowed := true, recurses := true, apart := false }
def ShapeBackSaid : Prop := shapeBackRow.holds Try.pinned (OpenSpec.ofChange shapeBackSpec)

/-- ITS FALSE NEIGHBOUR: 'it returns false'. Refute it at one input. -/
def shapeBackWrong : ChangeSpec := { name := "shapeBack", fn := fun _ => fun
  | [d] => { results := [.lit (.bool false)], args := [d] }
  | _ => none }
def ShapeBackWrongFalsely : Prop := shapeBackRow.holds Try.pinned (OpenSpec.ofChange shapeBackWrong)

/-- 'exerguelaw17.ShapeFew': WHATEVER THE INPUT: true; the input reads as it did. -/
def shapeFewSpec : ChangeSpec := { name := "shapeFew", fn := fun _ => fun
  | [d] => { results := [.lit (.bool true)], args := [d] }
  | _ => none }
def shapeFewRow : OpenClaim := { program := "ytcmmjficmoflkaa", sum := "befa8f4fc891f36a70fae4240352c627e85af6adce6a64565f9fca1e5476fabe", func := "exergue/exerguelaw17.ShapeFew", spec := "shapeFew", unfollowed := true, recurses := true, apart := false }
def ShapeFewSaid : Prop := shapeFewRow.holds Try.pinned (OpenSpec.ofChange shapeFewSpec)

/-- ITS FALSE NEIGHBOUR: 'it returns false'. Refute it at one input. -/
def shapeFewWrong : ChangeSpec := { name := "shapeFew", fn := fun _ => fun
  | [d] => { results := [.lit (.bool false)], args := [d] }
  | _ => none }
def ShapeFewWrongFalsely : Prop := shapeFewRow.holds Try.pinned (OpenSpec.ofChange shapeFewWrong)

/-- 'exerguelaw17.ShapeValue': WHATEVER THE INPUT: true; the input reads as it did. -/
def shapeValueSpec : ChangeSpec := { name := "shapeValue", fn := fun _ => fun
  | [d1, d2, d3] => { results := [.lit (.bool true)], args := [d1, d2, d3] }
  | _ => none }
def shapeValueRow : OpenClaim := { program := "ytcmmjficmoflkaa", sum := "befa8f4fc891f36a70fae4240352c627e85af6adce6a64565f9fca1e5476fabe", func := "exergue/exerguelaw17.ShapeValue", spec := "shapeValue", unfollowed := true, recurses := true, apart := false }
def ShapeValueSaid : Prop := shapeValueRow.holds Try.pinned (OpenSpec.ofChange shapeValueSpec)

/-- ITS FALSE NEIGHBOUR: 'it returns false'. Refute it at one input. -/
def shapeValueWrong : ChangeSpec := { name := "shapeValue", fn := fun _ => fun
  | [d1, d2, d3] => { results := [.lit (.bool false)], args := [d1, d2, d3] }
  | _ => none }
def ShapeValueWrongFalsely : Prop := shapeValueRow.holds Try.pinned (OpenSpec.ofChange shapeValueWrong)

/-- 'exerguelaw17.ShapeSide': WHATEVER THE INPUT: true; the input reads as it did. -/
def shapeSideSpec : ChangeSpec := { name := "shapeSide", fn := fun _ => fun
  | [d] => { results := [.lit (.bool true)], args := [d] }
  | _ => none }
def shapeSideRow : OpenClaim := { program := "ytcmmjficmoflkaa", sum := "befa8f4fc891f36a70fae4240352c627e85af6adce6a64565f9fca1e5476fabe", func := "exergue/exerguelaw17.ShapeSide", spec := "shapeSide", unfollowed := true, recurses := true, apart := false }
def ShapeSideSaid : Prop := shapeSideRow.holds Try.pinned (OpenSpec.ofChange shapeSideSpec)

/-- ITS FALSE NEIGHBOUR: 'it returns false'. Refute it at one input. -/
def shapeSideWrong : ChangeSpec := { name := "shapeSide", fn := fun _ => fun
  | [d] => { results := [.lit (.bool false)], args := [d] }
  | _ => none }
def ShapeSideWrongFalsely : Prop := shapeSideRow.holds Try.pinned (OpenSpec.ofChange shapeSideWrong)

/-- 'exerguelaw17.ShapeShort': WHATEVER THE INPUT: true; the input reads as it did. -/
def shapeShortSpec : ChangeSpec := { name := "shapeShort", fn := fun _ => fun
  | [d1, d2, d3] => { results := [.lit (.bool true)], args := [d1, d2, d3] }
  | _ => none }
def shapeShortRow : OpenClaim := { program := "ytcmmjficmoflkaa", sum := "befa8f4fc891f36a70fae4240352c627e85af6adce6a64565f9fca1e5476fabe", func := "exergue/exerguelaw17.ShapeShort", spec := "shapeShort", unfollowed := true, recurses := true, apart := false }
def ShapeShortSaid : Prop := shapeShortRow.holds Try.pinned (OpenSpec.ofChange shapeShortSpec)

/-- ITS FALSE NEIGHBOUR: 'it returns false'. Refute it at one input. -/
def shapeShortWrong : ChangeSpec := { name := "shapeShort", fn := fun _ => fun
  | [d1, d2, d3] => { results := [.lit (.bool false)], args := [d1, d2, d3] }
  | _ => none }
def ShapeShortWrongFalsely : Prop := shapeShortRow.holds Try.pinned (OpenSpec.ofChange shapeShortWrong)

/-- 'exerguelaw17.ShapeRead': WHATEVER THE INPUT: true; the input reads as it did. -/
def shapeReadSpec : ChangeSpec := { name := "shapeRead", fn := fun _ => fun
  | [d1, d2, d3] => { results := [.lit (.bool true)], args := [d1, d2, d3] }
  | _ => none }
def shapeReadRow : OpenClaim := { program := "ytcmmjficmoflkaa", sum := "befa8f4fc891f36a70fae4240352c627e85af6adce6a64565f9fca1e5476fabe", func := "exergue/exerguelaw17.ShapeRead", spec := "shapeRead", unfollowed := true, recurses := true, apart := false }
def ShapeReadSaid : Prop := shapeReadRow.holds Try.pinned (OpenSpec.ofChange shapeReadSpec)

/-- ITS FALSE NEIGHBOUR: 'it returns false'. Refute it at one input. -/
def shapeReadWrong : ChangeSpec := { name := "shapeRead", fn := fun _ => fun
  | [d1, d2, d3] => { results := [.lit (.bool false)], args := [d1, d2, d3] }
  | _ => none }
def ShapeReadWrongFalsely : Prop := shapeReadRow.holds Try.pinned (OpenSpec.ofChange shapeReadWrong)

/- THE SECOND FORM. 'bulk': how many values and letters a reading holds, each counted each time it is reached (what is shared counts as often as it is met; a slice's spare places count too). A statement '..UptoSaid' is the law's where the arguments, and the package variables that the reading takes, are together of bulk at most 1048576: NARROWER than '..Said'. Prove '..Said' where nothing that the law and all that it calls make is longer than what came in: it says more and counts as full. Else prove '..UptoSaid'. A law counts once. -/
mutual
def uptoBulk {H : Type} : DataW H → Nat
  | .lit (.string bytes) => bytes.length + 1
  | .lit _ => 1
  | .nil => 1
  | .ptr d => uptoBulk d + 1
  | .slice elems spare => uptoBulkAll elems + uptoBulkAll spare + 1
  | .agg parts => uptoBulkAll parts + 1
  | .iface _ d => uptoBulk d + 1
  | .map entries => uptoBulkEntries entries + 1
  | .held _ => 1
def uptoBulkAll {H : Type} : List (DataW H) → Nat
  | [] => 0
  | d :: r => uptoBulk d + uptoBulkAll r
def uptoBulkEntries {H : Type} : List (Lit × DataW H) → Nat
  | [] => 0
  | x :: r => uptoBulkEntry x + uptoBulkEntries r
def uptoBulkEntry {H : Type} : Lit × DataW H → Nat
  | (.string bytes, d) => bytes.length + uptoBulk d + 1
  | (_, d) => uptoBulk d + 1
 end
def uptoSmall : (H : Type) → List (DataW H) → Bool := fun _ ds => decide (uptoBulkAll ds ≤ 1048576)
def OpenSpec.upto (s : _root_.Go.ChangeSpec) : _root_.Go.OpenSpec := { _root_.Go.OpenSpec.ofChange s with cond := some uptoSmall }

/-- 'exerguelaw17.ShapeBack', WHERE WHAT IT READS IS OF BULK AT MOST 1048576: true; the input reads as it did. -/
def shapeBackUptoRow : OpenClaim := { program := "ytcmmjficmoflkaa", sum := "befa8f4fc891f36a70fae4240352c627e85af6adce6a64565f9fca1e5476fabe", func := "exergue/exerguelaw17.ShapeBack", spec := "shapeBack", unfollowed := true, recurses := true, apart := false, narrowed := true }
def ShapeBackUptoSaid : Prop := shapeBackUptoRow.holds Try.pinned (OpenSpec.upto shapeBackSpec)

/-- 'exerguelaw17.ShapeFew', WHERE WHAT IT READS IS OF BULK AT MOST 1048576: true; the input reads as it did. -/
def shapeFewUptoRow : OpenClaim := { program := "ytcmmjficmoflkaa", sum := "befa8f4fc891f36a70fae4240352c627e85af6adce6a64565f9fca1e5476fabe", func := "exergue/exerguelaw17.ShapeFew", spec := "shapeFew", unfollowed := true, recurses := true, apart := false, narrowed := true }
def ShapeFewUptoSaid : Prop := shapeFewUptoRow.holds Try.pinned (OpenSpec.upto shapeFewSpec)

/-- 'exerguelaw17.ShapeValue', WHERE WHAT IT READS IS OF BULK AT MOST 1048576: true; the input reads as it did. -/
def shapeValueUptoRow : OpenClaim := { program := "ytcmmjficmoflkaa", sum := "befa8f4fc891f36a70fae4240352c627e85af6adce6a64565f9fca1e5476fabe", func := "exergue/exerguelaw17.ShapeValue", spec := "shapeValue", unfollowed := true, recurses := true, apart := false, narrowed := true }
def ShapeValueUptoSaid : Prop := shapeValueUptoRow.holds Try.pinned (OpenSpec.upto shapeValueSpec)

/-- 'exerguelaw17.ShapeSide', WHERE WHAT IT READS IS OF BULK AT MOST 1048576: true; the input reads as it did. -/
def shapeSideUptoRow : OpenClaim := { program := "ytcmmjficmoflkaa", sum := "befa8f4fc891f36a70fae4240352c627e85af6adce6a64565f9fca1e5476fabe", func := "exergue/exerguelaw17.ShapeSide", spec := "shapeSide", unfollowed := true, recurses := true, apart := false, narrowed := true }
def ShapeSideUptoSaid : Prop := shapeSideUptoRow.holds Try.pinned (OpenSpec.upto shapeSideSpec)

/-- 'exerguelaw17.ShapeShort', WHERE WHAT IT READS IS OF BULK AT MOST 1048576: true; the input reads as it did. -/
def shapeShortUptoRow : OpenClaim := { program := "ytcmmjficmoflkaa", sum := "befa8f4fc891f36a70fae4240352c627e85af6adce6a64565f9fca1e5476fabe", func := "exergue/exerguelaw17.ShapeShort", spec := "shapeShort", unfollowed := true, recurses := true, apart := false, narrowed := true }
def ShapeShortUptoSaid : Prop := shapeShortUptoRow.holds Try.pinned (OpenSpec.upto shapeShortSpec)

/-- 'exerguelaw17.ShapeRead', WHERE WHAT IT READS IS OF BULK AT MOST 1048576: true; the input reads as it did. -/
def shapeReadUptoRow : OpenClaim := { program := "ytcmmjficmoflkaa", sum := "befa8f4fc891f36a70fae4240352c627e85af6adce6a64565f9fca1e5476fabe", func := "exergue/exerguelaw17.ShapeRead", spec := "shapeRead", unfollowed := true, recurses := true, apart := false, narrowed := true }
def ShapeReadUptoSaid : Prop := shapeReadUptoRow.holds Try.pinned (OpenSpec.upto shapeReadSpec)

end Rows
end Go.Proofs.Ytcmmjficmoflkaa
