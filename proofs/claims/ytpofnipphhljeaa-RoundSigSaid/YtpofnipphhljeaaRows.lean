/-
  No cell of these rows narrows 'for every input' (looked for: loops, veiled, ifaces, maps, wideKeys, modest, calm, conditions, laid).
  DERIVED. THE GIVEN ROWS OF THIS SEAT. 6 by the template 'for every input the law returns true; each argument reads behind the call as it read before'; 0 by the template 'total and deterministic' (their statements: YtpofnipphhljeaaTotals.lean).
  GIVEN WITH THE SEED: the statements are not yours to turn. If you find one false, say at which input.
  Laid BY PROGRAM, IN A SANDBOX (cutbox-rows.mjs): the forced cells as the released guide's own fill.sh prints them over the translation 8811a72ba8ad7a0a… (all of the seat's roots in one cut). By AI agents, Wed Nov 11 2026. No macro, syntax, notation, axiom, sorry.
-/
import Derived.Test.YtpofnipphhljeaaChecked
import GoSem.Claim
import GoSem.ClaimJoined
import GoSem.ClaimMapViews
import Derived.JoinedTies
import Derived.KernelRfl
namespace Go.Proofs.Ytpofnipphhljeaa
/- THE CELL 'sum', in the pinned program and in every row, IS THE sha256 OF THE DUMP (.gsa) THAT YtpofnipphhljeaaProg.lean LOADS. Nothing in Lean hashes anything: it is a label: what it is worth is what the hold of that sum in a sandbox is worth. -/
noncomputable def Try.pinned : Pinned := { name := "ytpofnipphhljeaa", sum := "8811a72ba8ad7a0a2033afaf3f8f3c10f59557c68333aa25d12df144ca19e65c", checked := Try.checked }
namespace Rows
def none {H : Type} : Left H := { results := [], args := [] }

/-- 'exerguelaw06.RoundStays': WHATEVER THE INPUT: true; the input reads as it did. -/
def roundStaysSpec : ChangeSpec := { name := "roundStays", fn := fun _ => fun
  | [d] => { results := [.lit (.bool true)], args := [d] }
  | _ => none }
def roundStaysRow : OpenClaim := { program := "ytpofnipphhljeaa", sum := "8811a72ba8ad7a0a2033afaf3f8f3c10f59557c68333aa25d12df144ca19e65c", func := "exergue/exerguelaw06.RoundStays", spec := "roundStays", unfollowed := true, recurses := true, apart := false }
def RoundStaysSaid : Prop := roundStaysRow.holds Try.pinned (OpenSpec.ofChange roundStaysSpec)

/-- ITS FALSE NEIGHBOUR: 'it returns false'. Refute it at one input. -/
def roundStaysWrong : ChangeSpec := { name := "roundStays", fn := fun _ => fun
  | [d] => { results := [.lit (.bool false)], args := [d] }
  | _ => none }
def RoundStaysWrongFalsely : Prop := roundStaysRow.holds Try.pinned (OpenSpec.ofChange roundStaysWrong)

/-- 'exerguelaw06.RoundBetween': WHATEVER THE INPUT: true; the input reads as it did. -/
def roundBetweenSpec : ChangeSpec := { name := "roundBetween", fn := fun _ => fun
  | [d] => { results := [.lit (.bool true)], args := [d] }
  | _ => none }
def roundBetweenRow : OpenClaim := { program := "ytpofnipphhljeaa", sum := "8811a72ba8ad7a0a2033afaf3f8f3c10f59557c68333aa25d12df144ca19e65c", func := "exergue/exerguelaw06.RoundBetween", spec := "roundBetween", unfollowed := true, recurses := true, apart := false }
def RoundBetweenSaid : Prop := roundBetweenRow.holds Try.pinned (OpenSpec.ofChange roundBetweenSpec)

/-- ITS FALSE NEIGHBOUR: 'it returns false'. Refute it at one input. -/
def roundBetweenWrong : ChangeSpec := { name := "roundBetween", fn := fun _ => fun
  | [d] => { results := [.lit (.bool false)], args := [d] }
  | _ => none }
def RoundBetweenWrongFalsely : Prop := roundBetweenRow.holds Try.pinned (OpenSpec.ofChange roundBetweenWrong)

/-- 'exerguelaw06.RoundOrder': WHATEVER THE INPUT: true; the input reads as it did. -/
def roundOrderSpec : ChangeSpec := { name := "roundOrder", fn := fun _ => fun
  | [d] => { results := [.lit (.bool true)], args := [d] }
  | _ => none }
def roundOrderRow : OpenClaim := { program := "ytpofnipphhljeaa", sum := "8811a72ba8ad7a0a2033afaf3f8f3c10f59557c68333aa25d12df144ca19e65c", func := "exergue/exerguelaw06.RoundOrder", spec := "roundOrder", unfollowed := true, recurses := true, apart := false }
def RoundOrderSaid : Prop := roundOrderRow.holds Try.pinned (OpenSpec.ofChange roundOrderSpec)

/-- ITS FALSE NEIGHBOUR: 'it returns false'. Refute it at one input. -/
def roundOrderWrong : ChangeSpec := { name := "roundOrder", fn := fun _ => fun
  | [d] => { results := [.lit (.bool false)], args := [d] }
  | _ => none }
def RoundOrderWrongFalsely : Prop := roundOrderRow.holds Try.pinned (OpenSpec.ofChange roundOrderWrong)

/-- 'exerguelaw06.RoundNearer': WHATEVER THE INPUT: true; the input reads as it did. -/
def roundNearerSpec : ChangeSpec := { name := "roundNearer", fn := fun _ => fun
  | [d1, d2, d3] => { results := [.lit (.bool true)], args := [d1, d2, d3] }
  | _ => none }
def roundNearerRow : OpenClaim := { program := "ytpofnipphhljeaa", sum := "8811a72ba8ad7a0a2033afaf3f8f3c10f59557c68333aa25d12df144ca19e65c", func := "exergue/exerguelaw06.RoundNearer", spec := "roundNearer", unfollowed := true, recurses := true, apart := false }
def RoundNearerSaid : Prop := roundNearerRow.holds Try.pinned (OpenSpec.ofChange roundNearerSpec)

/-- ITS FALSE NEIGHBOUR: 'it returns false'. Refute it at one input. -/
def roundNearerWrong : ChangeSpec := { name := "roundNearer", fn := fun _ => fun
  | [d1, d2, d3] => { results := [.lit (.bool false)], args := [d1, d2, d3] }
  | _ => none }
def RoundNearerWrongFalsely : Prop := roundNearerRow.holds Try.pinned (OpenSpec.ofChange roundNearerWrong)

/-- 'exerguelaw06.RoundSig': WHATEVER THE INPUT: true; the input reads as it did. -/
def roundSigSpec : ChangeSpec := { name := "roundSig", fn := fun _ => fun
  | [d1, d2, d3] => { results := [.lit (.bool true)], args := [d1, d2, d3] }
  | _ => none }
def roundSigRow : OpenClaim := { program := "ytpofnipphhljeaa", sum := "8811a72ba8ad7a0a2033afaf3f8f3c10f59557c68333aa25d12df144ca19e65c", func := "exergue/exerguelaw06.RoundSig", spec := "roundSig", unfollowed := true, recurses := true, apart := false }
def RoundSigSaid : Prop := roundSigRow.holds Try.pinned (OpenSpec.ofChange roundSigSpec)

/-- ITS FALSE NEIGHBOUR: 'it returns false'. Refute it at one input. -/
def roundSigWrong : ChangeSpec := { name := "roundSig", fn := fun _ => fun
  | [d1, d2, d3] => { results := [.lit (.bool false)], args := [d1, d2, d3] }
  | _ => none }
def RoundSigWrongFalsely : Prop := roundSigRow.holds Try.pinned (OpenSpec.ofChange roundSigWrong)

/-- 'exerguelaw06.RoundFits': WHATEVER THE INPUT: true; the input reads as it did. -/
def roundFitsSpec : ChangeSpec := { name := "roundFits", fn := fun _ => fun
  | [d] => { results := [.lit (.bool true)], args := [d] }
  | _ => none }
def roundFitsRow : OpenClaim := { program := "ytpofnipphhljeaa", sum := "8811a72ba8ad7a0a2033afaf3f8f3c10f59557c68333aa25d12df144ca19e65c", func := "exergue/exerguelaw06.RoundFits", spec := "roundFits", unfollowed := true, recurses := true, apart := false }
def RoundFitsSaid : Prop := roundFitsRow.holds Try.pinned (OpenSpec.ofChange roundFitsSpec)

/-- ITS FALSE NEIGHBOUR: 'it returns false'. Refute it at one input. -/
def roundFitsWrong : ChangeSpec := { name := "roundFits", fn := fun _ => fun
  | [d] => { results := [.lit (.bool false)], args := [d] }
  | _ => none }
def RoundFitsWrongFalsely : Prop := roundFitsRow.holds Try.pinned (OpenSpec.ofChange roundFitsWrong)

/- THE SECOND FORM. 'bulk': how many values and letters a reading holds, each counted each time it is reached (what is shared counts as often as it is met; a slice's spare places count too). A statement '..UptoSaid' is the law's where the arguments, and the package variables that the reading takes, are together of bulk at most 1048576: NARROWER than '..Said'. Prove '..Said' where nothing that the law and all that it calls make is longer than what came in: it says more and counts as full. Else prove '..UptoSaid'. A law counts once. -/
mutual
def uptoBulk {H : Type} : DataW H → Nat
  | .lit (.string bytes) => bytes.length + 1
  | .lit _ => 1
  | .nil => 1
  | .ptr d => uptoBulk d + 1
  | .slice elems spare => uptoBulkAll elems + uptoBulkAll spare + 1
  | .agg parts => uptoBulkAll parts + 1
  | .iface _ d => uptoBulk d + 1
  | .map entries => uptoBulkEntries entries + 1
  | .held _ => 1
def uptoBulkAll {H : Type} : List (DataW H) → Nat
  | [] => 0
  | d :: r => uptoBulk d + uptoBulkAll r
def uptoBulkEntries {H : Type} : List (Lit × DataW H) → Nat
  | [] => 0
  | x :: r => uptoBulkEntry x + uptoBulkEntries r
def uptoBulkEntry {H : Type} : Lit × DataW H → Nat
  | (.string bytes, d) => bytes.length + uptoBulk d + 1
  | (_, d) => uptoBulk d + 1
 end
def uptoSmall : (H : Type) → List (DataW H) → Bool := fun _ ds => decide (uptoBulkAll ds ≤ 1048576)
def OpenSpec.upto (s : _root_.Go.ChangeSpec) : _root_.Go.OpenSpec := { _root_.Go.OpenSpec.ofChange s with cond := some uptoSmall }

/-- 'exerguelaw06.RoundStays', WHERE WHAT IT READS IS OF BULK AT MOST 1048576: true; the input reads as it did. -/
def roundStaysUptoRow : OpenClaim := { program := "ytpofnipphhljeaa", sum := "8811a72ba8ad7a0a2033afaf3f8f3c10f59557c68333aa25d12df144ca19e65c", func := "exergue/exerguelaw06.RoundStays", spec := "roundStays", unfollowed := true, recurses := true, apart := false, narrowed := true }
def RoundStaysUptoSaid : Prop := roundStaysUptoRow.holds Try.pinned (OpenSpec.upto roundStaysSpec)

/-- 'exerguelaw06.RoundBetween', WHERE WHAT IT READS IS OF BULK AT MOST 1048576: true; the input reads as it did. -/
def roundBetweenUptoRow : OpenClaim := { program := "ytpofnipphhljeaa", sum := "8811a72ba8ad7a0a2033afaf3f8f3c10f59557c68333aa25d12df144ca19e65c", func := "exergue/exerguelaw06.RoundBetween", spec := "roundBetween", unfollowed := true, recurses := true, apart := false, narrowed := true }
def RoundBetweenUptoSaid : Prop := roundBetweenUptoRow.holds Try.pinned (OpenSpec.upto roundBetweenSpec)

/-- 'exerguelaw06.RoundOrder', WHERE WHAT IT READS IS OF BULK AT MOST 1048576: true; the input reads as it did. -/
def roundOrderUptoRow : OpenClaim := { program := "ytpofnipphhljeaa", sum := "8811a72ba8ad7a0a2033afaf3f8f3c10f59557c68333aa25d12df144ca19e65c", func := "exergue/exerguelaw06.RoundOrder", spec := "roundOrder", unfollowed := true, recurses := true, apart := false, narrowed := true }
def RoundOrderUptoSaid : Prop := roundOrderUptoRow.holds Try.pinned (OpenSpec.upto roundOrderSpec)

/-- 'exerguelaw06.RoundNearer', WHERE WHAT IT READS IS OF BULK AT MOST 1048576: true; the input reads as it did. -/
def roundNearerUptoRow : OpenClaim := { program := "ytpofnipphhljeaa", sum := "8811a72ba8ad7a0a2033afaf3f8f3c10f59557c68333aa25d12df144ca19e65c", func := "exergue/exerguelaw06.RoundNearer", spec := "roundNearer", unfollowed := true, recurses := true, apart := false, narrowed := true }
def RoundNearerUptoSaid : Prop := roundNearerUptoRow.holds Try.pinned (OpenSpec.upto roundNearerSpec)

/-- 'exerguelaw06.RoundSig', WHERE WHAT IT READS IS OF BULK AT MOST 1048576: true; the input reads as it did. -/
def roundSigUptoRow : OpenClaim := { program := "ytpofnipphhljeaa", sum := "8811a72ba8ad7a0a2033afaf3f8f3c10f59557c68333aa25d12df144ca19e65c", func := "exergue/exerguelaw06.RoundSig", spec := "roundSig", unfollowed := true, recurses := true, apart := false, narrowed := true }
def RoundSigUptoSaid : Prop := roundSigUptoRow.holds Try.pinned (OpenSpec.upto roundSigSpec)

/-- 'exerguelaw06.RoundFits', WHERE WHAT IT READS IS OF BULK AT MOST 1048576: true; the input reads as it did. -/
def roundFitsUptoRow : OpenClaim := { program := "ytpofnipphhljeaa", sum := "8811a72ba8ad7a0a2033afaf3f8f3c10f59557c68333aa25d12df144ca19e65c", func := "exergue/exerguelaw06.RoundFits", spec := "roundFits", unfollowed := true, recurses := true, apart := false, narrowed := true }
def RoundFitsUptoSaid : Prop := roundFitsUptoRow.holds Try.pinned (OpenSpec.upto roundFitsSpec)

end Rows
end Go.Proofs.Ytpofnipphhljeaa
