/-
 Labelled blocks that are only left or gone on with; a choice of two functions; the library's search for a byte.
-/
import Derived.Test.YtcapcgbamehojaaGreatDoorSyGL
import Derived.Scope
import Derived.Lib.Bytealg
import Derived.Laws.Externs
namespace Go.Sy
open Go Go.RowKit
set_option linter.unusedVariables false
set_option linter.unusedSimpArgs false
set_option linter.unusedSectionVars false
variable [Inhabited GT]
def csc:Code→Code| .scope a=>a|c=>c
def z0A:Code→Bool| .scope _=>true|_=>false
def z0B:Code→Bool| .label _=>true|_=>false
section
variable {F : Fr} {P : Program} {c : Code} {L : LE} {H : a0o} {Q : h0f}
theorem K.scope(h:z0A c=true)(k:J F P (csc c) L H (Exit.noGoto Q)):J F P c L H Q:=by
 cases c<;>first|cases h|skip
 exact fun hin a w hs=>wp_scope_straight (k hin a w hs)
theorem K.label(h:z0B c=true)(k:PJ F Q .normal L H):J F P c L H Q:=by
 cases c<;>first|cases h|skip
 exact fun _ a w hs=>wp_label (k a w hs)
theorem PJ.scR(h:PJ F Q .ret L H):PJ F (Exit.noGoto Q) .ret L H:=h
end
theorem SC.byteIdx {P:Program} {f:FuncId} {s:List UInt8} {c:Int} (hc:c0N P f=true)(h: ∀(b:ByteArray) (c:Int) (w:World),Calls P f #[.string b, .int .u8 c] w fun e w'=>e= .returned (.int .i64 (Lib.indexByte b.data.toList c.toNat.toUInt8))∧w'=w):
  SC P f [.str s, .int .u8 c] [] (.int .i64 (Lib.indexByte s c.toNat.toUInt8)) []:=by
 refine⟨hc,fun w K D vals hl hrep hi hG=> ?_⟩
 match vals,hl,hrep with
 | [x,y],_,hrep=>
  have h0:=hrep 0 x _ rfl rfl
  have h1:=hrep 1 y _ rfl rfl
  cases h0 with
  |str b=>
  cases h1 with
  |int _ _=>
  refine(h b c w).mono ?_
  rintro e w' ⟨he,rfl⟩
  exact⟨_,he,Good.here hi (.int _ _)⟩
theorem l0p {α β γ:Type} {f:α→Option γ} {g:β→Option γ} {a:α} {r:γ} (h:Sum.elim f g (.inl a)=some r):f a=some r:=h
theorem l0o {α β γ:Type} {f:α→Option γ} {g:β→Option γ} {b:β} {r:γ} (h:Sum.elim f g (.inr b)=some r):g b=some r:=h
end Go.Sy
