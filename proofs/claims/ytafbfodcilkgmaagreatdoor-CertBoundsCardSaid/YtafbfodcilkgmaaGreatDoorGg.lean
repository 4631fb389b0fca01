import Derived.Test.YtafbfodcilkgmaaGreatDoorGf
set_option linter.all false
namespace Go.Proofs.YtafbfodcilkgmaaGreatDoor
open Go Go.Sy Go.RowKit
open Go.IntKind renaming wrap->wA
open _root_.Nat renaming beq->oB
open _root_.Option renaming bind->jA,some->vA
open _root_.Decidable renaming decide->yA
open _root_.Bool renaming false->oA,true->jB
set_option maxRecDepth 1000000
set_option maxHeartbeats 4000000
noncomputable def N0A(cs:List SV):a0b:=(⟨(gI<|gN cs 0),(gI<|gN cs 1)⟩:a0b)
noncomputable def L0l(cs:List SV):a0h:=(⟨(gL N0A 2<|gN cs 0),(gL N0A 2<|gN cs 1),(gL N0A 2<|gN cs 2),(gL N0A 2<|gN cs 3),(gB<|gN cs 4),(gI<|gN cs 5),(gI<|gN cs 6),(gI<|gN cs 7),(gI<|gN cs 8),(gI<|gN cs 9),(gI<|gN cs 10),(gI<|gN cs 11),(gI<|gN cs 12),(gI<|gN cs 13),(gB<|gN cs 14),(gI<|gN cs 15),(gI<|gN cs 16)⟩:a0h)
noncomputable def g22(cs:List SV):b0I:=(⟨(gI<|gN cs 0),(gI<|gN cs 1),(gI<|gN cs 2),(gI<|gN cs 3),(gI<|gN cs 4),(gI<|gN cs 5),(gI<|gN cs 6)⟩:b0I)
noncomputable def N0B(cs:List SV):f0u:=(⟨(gL gI1 1<|gN cs 0),(gL gI1 1<|gN cs 1)⟩:f0u)
noncomputable def g79(cs:List SV):i0P:=(⟨(gI<|gN cs 0),(gI<|gN cs 1),(gS<|gN cs 2)⟩:i0P)
noncomputable def g73(cs:List SV):p0J:=(⟨(gI<|gN cs 0),(gS<|gN cs 1)⟩:p0J)
noncomputable def g76(cs:List SV):p0I:=(⟨(gS<|gN cs 0),(gS<|gN cs 1),(gI<|gN cs 2)⟩:p0I)
noncomputable def g28(cs:List SV):d0G:=(⟨(gS<|gN cs 0),(⟨(gI<|gN cs 1),(gI<|gN cs 2),(gI<|gN cs 3),(gI<|gN cs 4),(gI<|gN cs 5),(gI<|gN cs 6),(gI<|gN cs 7)⟩:b0I),(⟨(gS<|gN cs 8),(gS<|gN cs 9),(gS<|gN cs 10),(gS<|gN cs 11)⟩:L0d),(gL g73 2<|gN cs 12),(gL g76 3<|gN cs 13),(gL g79 3<|gN cs 14)⟩:d0G)
noncomputable def n0o:List SV->Option SV
 | [a0]=>bif y0x [a0] [lsv (a0l .u8) 1<|gL gI1 1 a0]then Option.rec (motive:=λ_=>Option SV) none (λr=>vA<|.tup [lsv (a0l .i32) 1 r.1, .int .i64 r.2.1, .int .i64 r.2.2]) (k0S<|gL gI1 1 a0)else none
 |_=>none
def t0E:C0p Tryz.prog 48 n0o:=by
 intro l v h;unfold n0o at h;split at h;obtain⟨hl,h⟩:=C0f h;obtain⟨r,hr,h⟩:=A0j h;obtain rfl:=au h;exact(p0L hr).weak<|h0y hl;cases h
noncomputable def r0t:List SV->Option SV
 | [a0,a1,a2,a3]=>bif y0x [a0,a1,a2,a3] [.agg<|a0d<|gA L0l a0, .agg<|a0r<|gA g22 a1, .int .i64<|gI a2,lsv (a0l .i32) 1<|gL gI1 1 a3]then Option.rec (motive:=λ_=>Option SV) none (λr=>vA<|.agg<|e0a r) (c0s (gA L0l a0) (gA g22 a1) (gI a2)<|gL gI1 1 a3)else none
 |_=>none
def v0T:C0p Tryz.prog 54 r0t:=by
 intro l v h;unfold r0t at h;split at h;obtain⟨hl,h⟩:=C0f h;obtain⟨r,hr,h⟩:=A0j h;obtain rfl:=au h;exact(e0T hr).weak<|h0y hl;cases h
noncomputable def n0p:List SV->Option SV
 | [a0,a1,a2]=>bif y0x [a0,a1,a2] [.agg<|a0r<|gA g22 a0, .agg<|a0d<|gA L0l a1,lsv (a0l .i32) 1<|gL gI1 1 a2]then Option.rec (motive:=λ_=>Option SV) none (λr=>vA<|.agg<|l0V r) (j0D (gA g22 a0) (gA L0l a1)<|gL gI1 1 a2)else none
 |_=>none
def t0F:C0p Tryz.prog 140 n0p:=by
 intro l v h;unfold n0p at h;split at h;obtain⟨hl,h⟩:=C0f h;obtain⟨r,hr,h⟩:=A0j h;obtain rfl:=au h;exact(l0M hr).weak<|h0y hl;cases h
noncomputable def r0q:List SV->Option SV
 | [a0,a1]=>bif y0x [a0,a1] [.agg<|a0r<|gA g22 a0,lsv (a0l .i32) 1<|gL gI1 1 a1]then Option.rec (motive:=λ_=>Option SV) none (λr=>vA<|.bool r) (n0X (gA g22 a0)<|gL gI1 1 a1)else none
 |_=>none
def v0Q:C0p Tryz.prog 217 r0q:=by
 intro l v h;unfold r0q at h;split at h;obtain⟨hl,h⟩:=C0f h;obtain⟨r,hr,h⟩:=A0j h;obtain rfl:=au h;exact(o0Y hr).weak<|h0y hl;cases h
noncomputable def n0q:List SV->Option SV
 | [a0,a1]=>bif y0x [a0,a1] [.agg<|e0a<|gA N0B a0, .agg<|e0a<|gA N0B a1]then Option.rec (motive:=λ_=>Option SV) none (λr=>vA<|.bool r) (h0d (gA N0B a0)<|gA N0B a1)else none
 |_=>none
def t0H:C0p Tryz.prog 176 n0q:=by
 intro l v h;unfold n0q at h;split at h;obtain⟨hl,h⟩:=C0f h;obtain⟨r,hr,h⟩:=A0j h;obtain rfl:=au h;exact(m0h hr).weak<|h0y hl;cases h
noncomputable def k0a:List SV->Option SV
 | [a0,a1,a2]=>bif y0x [a0,a1,a2] [.agg<|a0r<|gA g22 a0, .agg<|a0d<|gA L0l a1,lsv (a0l .i32) 1<|gL gI1 1 a2]then Option.rec (motive:=λ_=>Option SV) none (λr=>vA<|.bool r) (e0K (gA g22 a0) (gA L0l a1)<|gL gI1 1 a2)else none
 |_=>none
def q0y:C0p Tryz.prog 105 k0a:=by
 intro l v h;unfold k0a at h;split at h;obtain⟨hl,h⟩:=C0f h;obtain⟨r,hr,h⟩:=A0j h;obtain rfl:=au h;exact(g0B hr).weak<|h0y hl;cases h
noncomputable def r0s:List SV->Option SV
 | [a0]=>bif y0x [a0] [.int .i32<|gI a0]then Option.rec (motive:=λ_=>Option SV) none (λr=>vA<|.int .i64 r) (k0F<|gI a0)else none
 |_=>none
def v0S:C0p Tryz.prog 183 r0s:=by
 intro l v h;unfold r0s at h;split at h;obtain⟨hl,h⟩:=C0f h;obtain⟨r,hr,h⟩:=A0j h;obtain rfl:=au h;exact(l0Z hr).weak<|h0y hl;cases h
noncomputable def l0O:List SV->Option SV
 | [a0,a1,a2]=>bif y0x [a0,a1,a2] [.agg<|a0r<|gA g22 a0, .int .i64<|gI a1, .str<|gS a2]then Option.rec (motive:=λ_=>Option SV) none (λr=>vA<|.tup [.agg<|a0d r.1, .bool r.2]) (a0O (gA g22 a0) (gI a1)<|gS a2)else none
 |_=>none
def s0j:C0p Tryz.prog 101 l0O:=by
 intro l v h;unfold l0O at h;split at h;obtain⟨hl,h⟩:=C0f h;obtain⟨r,hr,h⟩:=A0j h;obtain rfl:=au h;exact(c0H hr).weak<|h0y hl;cases h
noncomputable def p0s:List SV->Option SV
 | [a0,a1]=>bif y0x [a0,a1] [.agg<|a0r<|gA g22 a0, .agg<|a0I<|gA g79 a1]then Option.rec (motive:=λ_=>Option SV) none (λr=>vA<|.tup [.agg<|a0d r.1, .bool r.2]) (b0v (gA g22 a0)<|gA g79 a1)else none
 |_=>none
def u0m:C0p Tryz.prog 56 p0s:=by
 intro l v h;unfold p0s at h;split at h;obtain⟨hl,h⟩:=C0f h;obtain⟨r,hr,h⟩:=A0j h;obtain rfl:=au h;exact(i0F hr).weak<|h0y hl;cases h
noncomputable def t0G:List SV->Option SV
 | [a0]=>bif y0x [a0] [.agg<|c0p<|gA g28 a0]then Option.rec (motive:=λ_=>Option SV) none (λr=>vA<|.agg<|r0y r) (p0D<|gA g28 a0)else none
 |_=>none
def x0Q:C0p Tryz.prog 8 t0G:=by
 intro l v h;unfold t0G at h;split at h;obtain⟨hl,h⟩:=C0f h;obtain⟨r,hr,h⟩:=A0j h;obtain rfl:=au h;exact(u0R hr).weak<|h0y hl;cases h
noncomputable def r0p:List SV->Option SV
 | [a0]=>bif y0x [a0] [.agg<|a0r<|gA g22 a0]then Option.rec (motive:=λ_=>Option SV) none (λr=>vA<|.bool r) (v0j<|gA g22 a0)else none
 |_=>none
def v0P:C0p Tryz.prog 134 r0p:=by
 intro l v h;unfold r0p at h;split at h;obtain⟨hl,h⟩:=C0f h;obtain⟨r,hr,h⟩:=A0j h;obtain rfl:=au h;exact(y0E hr).weak<|h0y hl;cases h
noncomputable def g0K:List SV->Option SV
 | [a0,a1]=>bif y0x [a0,a1] [.int .u32<|gI a0, .int .u8<|gI a1]then Option.rec (motive:=λ_=>Option SV) none (λr=>vA<|.int .u32 r) (l0j (gI a0)<|gI a1)else none
 |_=>none
def m0y:C0p Tryz.prog 198 g0K:=by
 intro l v h;unfold g0K at h;split at h;obtain⟨hl,h⟩:=C0f h;obtain⟨r,hr,h⟩:=A0j h;obtain rfl:=au h;exact(o0I hr).weak<|h0y hl;cases h
noncomputable def r0r:List SV->Option SV
 | [a0,a1]=>bif y0x [a0,a1] [.int .u32<|gI a0, .int .u8<|gI a1]then Option.rec (motive:=λ_=>Option SV) none (λr=>vA<|.int .u32 r) (A0R (gI a0)<|gI a1)else none
 |_=>none
def v0R:C0p Tryz.prog 343 r0r:=by
 intro l v h;unfold r0r at h;split at h;obtain⟨hl,h⟩:=C0f h;obtain⟨r,hr,h⟩:=A0j h;obtain rfl:=au h;exact(z0B hr).weak<|h0y hl;cases h
noncomputable def knG:CallT:=λf args H=>List.rec (motive:=λ_=>Option<|SV×a0e) (Option.rec (motive:=λ_=>Option<|SV×a0e) none (λv=>vA (v,[]))<|bif oB f 48 then n0o args else bif oB f 54 then r0t args else bif oB f 140 then n0p args else bif oB f 217 then r0q args else bif oB f 176 then n0q args else bif oB f 105 then k0a args else bif oB f 183 then r0s args else bif oB f 101 then l0O args else bif oB f 56 then p0s args else bif oB f 8 then t0G args else bif oB f 134 then r0p args else bif oB f 198 then g0K args else bif oB f 343 then r0r args else none) (λ_ _ _=>none) H
def M0q:knG.Ok Tryz.prog:=by
 intro f args H v H' h;unfold knG at h
 cases H with
 |cons a b=>cases h
 |nil=>
  obtain⟨r,hr,h⟩:=A0j h;obtain⟨rfl,rfl⟩:=Prod.mk.inj<|au h;rcases C0g hr with⟨hb,hr⟩|hr;obtain rfl:=ae hb;exact t0E _ _ hr;rcases C0g hr with⟨hb,hr⟩|hr;obtain rfl:=ae hb;exact v0T _ _ hr;rcases C0g hr with⟨hb,hr⟩|hr;obtain rfl:=ae hb;exact t0F _ _ hr;rcases C0g hr with⟨hb,hr⟩|hr;obtain rfl:=ae hb;exact v0Q _ _ hr;rcases C0g hr with⟨hb,hr⟩|hr;obtain rfl:=ae hb;exact t0H _ _ hr;rcases C0g hr with⟨hb,hr⟩|hr;obtain rfl:=ae hb;exact q0y _ _ hr;rcases C0g hr with⟨hb,hr⟩|hr;obtain rfl:=ae hb;exact v0S _ _ hr;rcases C0g hr with⟨hb,hr⟩|hr;obtain rfl:=ae hb;exact s0j _ _ hr;rcases C0g hr with⟨hb,hr⟩|hr;obtain rfl:=ae hb;exact u0m _ _ hr;rcases C0g hr with⟨hb,hr⟩|hr;obtain rfl:=ae hb;exact x0Q _ _ hr;rcases C0g hr with⟨hb,hr⟩|hr;obtain rfl:=ae hb;exact v0P _ _ hr;rcases C0g hr with⟨hb,hr⟩|hr;obtain rfl:=ae hb;exact m0y _ _ hr;rcases C0g hr with⟨hb,hr⟩|hr;obtain rfl:=ae hb;exact v0R _ _ hr;cases hr
def fzs:List Nat:=[17,19,13,20,9,22,8,10,46,47,75,74,73,29,30,76]
noncomputable def knB:CallT:=knD Tryz.prog fzs [74] 100000 1000 knG
def o0T:knB.Ok Tryz.prog:=M0r M0q
def eB0:List SV:=([69,88,76,66,0,1,0,6,0,0,0,56,0,0,0,57,0,0,0,113,0,0,0,30,0,0,0,143,0,0,0,8,0,0,0,151,0,0,0,2,0,0,0,153,0,0,0,7,0,0,0,160,0,0,0,6,0,8,0,2,101,110,0,8,35,44,35,35,48,46,35,35,0,6,35,44,35,35,48,37,0,7,48,46,35,35,35,69,48,0,10,194,164,35,44,35,35,48,46,48,48,0,3,85,83,68,0,1,36,0,2,48,75,0,0,0,0,0,48,0,0,0,46,0,0,0,44,0,0,0,45,0,0,0,43,0,0,0,37,0,0,0,69,0,1,0,2,0,3,0,4,0,0,0,1,0,5,0,6,2,0,1,4,0,0,7,15,30,229,95]:List Int).map<|SV.int .u8
def eL(r:List SV):List SV:=[.str [101,110], .int .i32<|48, .int .i32<|46, .int .i32<|44, .int .i32<|45, .int .i32<|43, .int .i32<|37, .int .i32<|69, .str [35,44,35,35,48,46,35,35], .str [35,44,35,35,48,37], .str [48,46,35,35,35,69,48], .str [194,164,35,44,35,35,48,46,48,48]]++r
def evE{kn:CallT}{f:Nat}{A:List SV}{H0:a0e}{v:SV}{H1:a0e}(hk:kn.Ok Tryz.prog)(h:isR ((evA Tryz.prog kn fzs 100000 1000).1 f A H0) v H1=jB):SQ f A H0 v H1:=M0L hk h
def P0Q:List SV:=[.agg<|eL [.nl, .lst 1 3 [.str [85,83,68], .str [36], .int .i64<|2], .lst 1 3 [.int .i64<|4, .int .i64<|0, .str [48,75]]]]
def P0E:SV:= .tup [.vc 0, .int .i64<|0]
def P0I:a0e:=[.vec 170 1 5 eB0]
def e17:SQ 17 P0Q [] P0E P0I:=evE o0T dB
def P0L:List SV:=[.lst 166 1<|(eB0).take 166]
def P0z:SV:= .tup [.agg<|eL [.nl, .vc 0, .vc 1], .bool jB]
def P0H:a0e:=[.vec 1 3 77 [.str [85,83,68], .str [36], .int .i64<|2], .vec 1 3 80 [.int .i64<|4, .int .i64<|0, .str [48,75]]]
def e74:SQ 74 P0L [] P0z P0H:=evE o0T dB
def P0K:List SV:=[.agg<|eL [.nl, .lst 1 3 [.str [85,83,68], .str [36], .int .i64<|2], .lst 1 3 [.int .i64<|4, .int .i64<|0, .str [48,75]]]]
def P0y:SV:= .tup [.vc 0, .int .i64<|0]
def P0G:a0e:=[.vec 170 1 5 eB0]
def e75:SQ 75 P0K [] P0y P0G:=evE o0T dB
def P0N:List SV:=[.lst 170 1 eB0]
def P0B:SV:= .tup [.agg<|eL [.nl, .lst 1 3 [.str [85,83,68], .str [36], .int .i64<|2], .lst 1 3 [.int .i64<|4, .int .i64<|0, .str [48,75]]], .int .i64<|0]
def e46:SQ 46 P0N [] P0B []:=evE (q0w e75<|q0w e74 o0T) dB
def P0M:List SV:=[.agg<|eL [.nl, .lst 1 3 [.str [85,83,68], .str [36], .int .i64<|2], .lst 1 3 [.int .i64<|4, .int .i64<|0, .str [48,75]]]]
def P0A:SV:= .tup [.int .i64<|0, .int .i64<|0, .int .i64<|0]
def e47:SQ 47 P0M [] P0A []:=evE o0T dB
def P0P:List SV:=[.lst 170 1 eB0]
def P0D:SV:= .tup [.agg<|eL [.lst 0 2 [], .lst 1 3 [.str [85,83,68], .str [36], .int .i64<|2], .lst 1 3 [.int .i64<|4, .int .i64<|0, .str [48,75]], .int .i64<|1, .int .i64<|2, .int .i64<|1, .int .i64<|2, .int .i64<|2, .int .i64<|0, .int .i64<|0, .int .i64<|0, .int .i64<|0, .int .i64<|0], .int .i64<|0, .int .i64<|0, .int .i64<|0]
def e19:SQ 19 P0P [] P0D []:=evE (q0w e47<|q0w e46 o0T) dB
def P0R:List SV:=[.agg<|eL [.lst 0 2 [], .lst 1 3 [.str [85,83,68], .str [36], .int .i64<|2], .lst 1 3 [.int .i64<|4, .int .i64<|0, .str [48,75]], .int .i64<|1, .int .i64<|2, .int .i64<|1, .int .i64<|2, .int .i64<|2, .int .i64<|0, .int .i64<|0, .int .i64<|0, .int .i64<|0, .int .i64<|0], .agg [.int .i64<|0, .int .i64<|0, .str [], .nl, .bool oA, .bool oA, .bool oA], .agg [.bool oA, .lst 2 1 [.int .u8<|1, .int .u8<|2], .int .i64<|-1]]
def P0F:SV:= .tup [.vc 0, .int .i64<|0]
def P0J:a0e:=[.vec 3 1 5 [.int .u8<|49, .int .u8<|46, .int .u8<|50]]
def e13:SQ 13 P0R [] P0F P0J:=evE o0T dB
def P0O:List SV:=[.agg<|eL [.lst 0 2 [], .lst 1 3 [.str [85,83,68], .str [36], .int .i64<|2], .lst 1 3 [.int .i64<|4, .int .i64<|0, .str [48,75]], .int .i64<|1, .int .i64<|2, .int .i64<|1, .int .i64<|2, .int .i64<|2, .int .i64<|0, .int .i64<|0, .int .i64<|0, .int .i64<|0, .int .i64<|0], .agg [.int .i64<|0, .int .i64<|0, .str [], .nl, .bool oA, .bool oA, .bool oA], .lst 3 1 [.int .u8<|49, .int .u8<|46, .int .u8<|50]]
def P0C:SV:= .tup [.agg [.bool oA, .lst 2 1 [.int .u8<|1, .int .u8<|2], .int .i64<|-1], .int .i64<|0, .int .i64<|0]
def e20:SQ 20 P0O [] P0C []:=evE o0T dB
def eA9:List SV:=[.agg<|eL [.lst 0 2 [], .lst 1 3 [.str [85,83,68], .str [36], .int .i64<|2], .lst 1 3 [.int .i64<|4, .int .i64<|0, .str [48,75]], .int .i64<|1, .int .i64<|2, .int .i64<|1, .int .i64<|2, .int .i64<|2, .int .i64<|0, .int .i64<|0, .int .i64<|0, .int .i64<|0, .int .i64<|0], .agg [.int .i64<|0, .int .i64<|0, .str [], .nl, .bool oA, .bool oA, .bool oA], .agg [.bool oA, .lst 2 1 [.int .u8<|1, .int .u8<|2], .int .i64<|-1], .int .i64<|6, .int .i64<|3]
def eV9:SV:= .tup [.agg [.int .i64<|0, .int .i64<|0, .vc 0], .int .i64<|0]
def eK9:a0e:=[.vec 3 1 21 [.int .i32<|49, .int .i32<|46, .int .i32<|50]]
def e9:SQ 9 eA9 [] eV9 eK9:=evE o0T dB
def eA6:List SV:=[]
def eV6:SV:= .bool jB
def e6:SQ 6 eA6 [] eV6 []:=evE (q0w e9<|q0w e20<|q0w e13<|q0w e19<|q0w e17 o0T) dB
def h0G:Option Bool:=vA jB
def n0G{r:Bool}(h:h0G=vA r):SQ 6 [] [] (.bool r) []:=by
 obtain rfl:jB=r:=au h;exact e6
def d0m(x0:L0m):Option (Bool):=
 (jA h0G λy1=>jA (jA (jA (d0o x0.L_ x0.Q_ x0.D_) λy5=>bif(!y5)then(vA jB)else bif(yA<|x0.X_<0)then(vA jB)else bif(yA<|x0.X_>100)then(vA jB)else vA<|yA<|x0.ax_<1) λ(s0:Bool)=>bif s0 then(vA<|.inr y1)else vA<|.inl ())<|a0j λ(s6:Unit)=>jA (p0D x0.L_) λy2=>jA (jA (bif(yA<|x0.Q_.n_<0)then(vA jB)else vA<|yA<|x0.Q_.n_>4) λ(s1:Bool)=>bif s1 then(jA (j0w y2 x0.Q_ x0.D_ 10 10) λy6=>jA (bif y1 then(vA<|yA<|y6.2=9)else vA oA) λ(s2:Bool)=>vA<|.inr s2)else vA<|.inl ())<|a0j λ(s7:Unit)=>jA (l0m y2 x0.Q_ (wA .i64<|(x0.D_.D_.length:Int)+x0.X_)<|wA .i64<|(i0E x0.D_.E_<|wA .i64<|0-x0.D_.E_)+x0.X_) λy4=>jA (r0C y2 x0.Q_ (wA .i64<|(x0.D_.D_.length:Int)+x0.X_)<|wA .i64<|(i0E x0.D_.E_<|wA .i64<|0-x0.D_.E_)+x0.X_) λy3=>jA (j0w y2 x0.Q_ x0.D_ y3 y4) λy0=>bif(yA<|¬y0.2=0)then(jA (bif y1 then(bif(yA<|y0.2=9)then(vA<|yA<|(y0.1.af_.length:Int)=0)else vA oA)else vA oA) λ(s3:Bool)=>vA s3)else jA (jA (bif(yA<|(y0.1.af_.length:Int)>y4)then(vA jB)else bif(yA<|¬(wA .i64<|y3-y0.1.bc_)=(wA .i64<|(wA .i64<|(x0.D_.D_.length:Int)+1)+(y0.1.af_.length:Int)))then(vA jB)else bif(yA<|¬y0.1.bb_=(wA .i64<|y4-(y0.1.af_.length:Int)))then(vA jB)else vA<|yA<|y0.1.bc_<0) λ(s4:Bool)=>bif s4 then(vA<|.inr oA)else vA<|.inl ())<|a0j λ(s8:Unit)=>bif(yA<|x0.ax_>(y0.1.af_.length:Int))then(vA y1)else jA (j0w y2 x0.Q_ x0.D_ (wA .i64<|(wA .i64<|y3-y0.1.bc_)-x0.ax_) y4) λy7=>jA (j0w y2 x0.Q_ x0.D_ y3<|wA .i64<|(y0.1.af_.length:Int)-x0.ax_) λy8=>jA (bif y1 then(bif(yA<|y7.2=4)then(vA<|yA<|y8.2=5)else vA oA)else vA oA) λ(s5:Bool)=>vA s5)
def k0n{x0:L0m}{r:Bool}(h:d0m x0=vA r):SQ 3 [.agg<|z0x x0] [] (.bool r) []:=
 pFn (fn:=Tryz.f3) (pA 46 n0G<|pyX 3 [2,3,4,5,6,7,8] 3 (λ(_:Unit)=>([(3, .ptr 0 0),(4, .ptr 1 0),(5, .ptr 2 0)],[(0, .ent (.box (c0p x0.L_))),(1, .ent (.box (i0X x0.Q_))),(2, .ent (.box (a0C x0.D_)))])) (λa=>pyN 0 [2,3,4,5,6,7,8,50] 3 (λ(e:Bool)=>([(3, .ptr 0 0),(4, .ptr 1 0),(5, .ptr 2 0),(50, .bool e)],[(0, .ent (.box (c0p x0.L_))),(1, .ent (.box (i0X x0.Q_))),(2, .ent (.box (a0C x0.D_)))])) (pA 4 o0y<|pb 39 2 (pEs [1,2,3] 12)<|pb 43 4 (pEs [1,2,3] 8)<|pb 47 4 (pEs [1,2,3] 4)<|pEs [1,2,3] 4)<|pB 0 (pXr 7 a<|pZh 0)<|pEx 1)<|pA 3 u0R (@λy k=>pyX 4 [2,4,5,6,7,8,9] 3 (λ(_:Unit)=>([(4, .ptr 0 0),(5, .ptr 1 0),(9, .ptr 2 0)],[(0, .ent (.box (i0X x0.Q_))),(1, .ent (.box (a0C x0.D_))),(2, .ent (.box (r0y y)))])) (λb=>pyN 0 [2,4,5,6,7,8,9,61] 3 (λ(e:Bool)=>([(4, .ptr 0 0),(5, .ptr 1 0),(9, .ptr 2 0),(61, .bool e)],[(0, .ent (.box (i0X x0.Q_))),(1, .ent (.box (a0C x0.D_))),(2, .ent (.box (r0y y)))])) (pb 57 5 (pEs [1,2,3] 5)<|pEs [1,2,3] 5)<|pB 0 (pA 5 m0a<|pyN 8 [2,4,5,6,7,8,9] 3 (u1 2 .bool) (pb 70 3 (pEs [0,1,2] 5)<|pEs [0,1,2] 5)<|pXr 1 b<|pZh 0)<|pEx 1) (pA 29 q0J<|pA 9 w0j<|pA 10 m0a<|pB 15 (pyN 0 [2,4,5,7,8,9,14,15,16] 4 (u1 2 .bool) (pb 109 3 (pb 113 4 (pE 7)<|pE 7)<|pE 11)<|pZh 2)<|pyX 11 [2,4,5,7,8,9,14,15,16,18] 4 u0 (λc=>pyN 0 [2,4,5,7,8,9,14,15,16,18,154] 4 (u1 154 .bool) (pb 128 7 (pE 27)<|pb 140 12 (pE 15)<|pb 150 10 (pE 5)<|pE 5)<|pB 0 (pXr 6 c<|pZh 0)<|pEx 1)<|pB 10 (pZh 8)<|pA 11 m0a<|pA 19 m0a<|pyN 8 [2] 0 (u1 2 .bool) (pb 186 3 (pb 190 4 (pEs [] 5)<|pEs [] 5)<|pEs [] 9)<|pZh 1) (h:=k))) h
end Go.Proofs.YtafbfodcilkgmaaGreatDoor
