/-
 Labelled blocks that are only left or gone on with; a choice of two functions; the library's search for a byte.
-/
import Derived.Test.YthhabncebpaheaaSyGL
import Derived.Scope
import Derived.Lib.Bytealg
import Derived.Laws.Externs
namespace Go.Sy
open Go Go.RowKit
set_option linter.unusedVariables false
set_option linter.unusedSimpArgs false
set_option linter.unusedSectionVars false
variable [Inhabited GT]
def csc : Code → Code | .scope a => a | c => c
def isScope : Code → Bool | .scope _ => true | _ => false
section
variable {F : Fr} {P : Program} {c : Code} {L : LE} {H : Heap} {Q : Post}
theorem K.scope (h : isScope c = true) (k : J F P (csc c) L H (Exit.noGoto Q)) : J F P c L H Q := by
 cases c <;> first | cases h | skip
 exact fun hin a w hs => wp_scope_straight (k hin a w hs)
end
theorem elimL {α β γ : Type} {f : α → Option γ} {g : β → Option γ} {a : α} {r : γ} (h : Sum.elim f g (.inl a) = some r) : f a = some r := h
theorem elimR {α β γ : Type} {f : α → Option γ} {g : β → Option γ} {b : β} {r : γ} (h : Sum.elim f g (.inr b) = some r) : g b = some r := h
end Go.Sy
