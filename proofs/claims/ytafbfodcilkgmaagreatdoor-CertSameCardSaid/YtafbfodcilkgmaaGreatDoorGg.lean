import Derived.Test.YtafbfodcilkgmaaGreatDoorGf
set_option linter.all false
namespace Go.Proofs.YtafbfodcilkgmaaGreatDoor
open Go Go.Sy Go.RowKit
open Go.IntKind renaming wrap->zA
open _root_.Nat renaming beq->yB
open _root_.Option renaming bind->jA,some->wA
open _root_.Decidable renaming decide->vA
open _root_.Bool renaming false->yA,true->oA
set_option maxRecDepth 1000000
set_option maxHeartbeats 4000000
noncomputable def N0U(cs:List SV):a0b:=(⟨(gI<|gN cs 0),(gI<|gN cs 1)⟩:a0b)
noncomputable def L0x(cs:List SV):a0h:=(⟨(gL N0U 2<|gN cs 0),(gL N0U 2<|gN cs 1),(gL N0U 2<|gN cs 2),(gL N0U 2<|gN cs 3),(gB<|gN cs 4),(gI<|gN cs 5),(gI<|gN cs 6),(gI<|gN cs 7),(gI<|gN cs 8),(gI<|gN cs 9),(gI<|gN cs 10),(gI<|gN cs 11),(gI<|gN cs 12),(gI<|gN cs 13),(gB<|gN cs 14),(gI<|gN cs 15),(gI<|gN cs 16)⟩:a0h)
noncomputable def g22(cs:List SV):b0z:=(⟨(gI<|gN cs 0),(gI<|gN cs 1),(gI<|gN cs 2),(gI<|gN cs 3),(gI<|gN cs 4),(gI<|gN cs 5),(gI<|gN cs 6)⟩:b0z)
noncomputable def N0V(cs:List SV):f0K:=(⟨(gL gI1 1<|gN cs 0),(gL gI1 1<|gN cs 1)⟩:f0K)
noncomputable def g79(cs:List SV):j0s:=(⟨(gI<|gN cs 0),(gI<|gN cs 1),(gS<|gN cs 2)⟩:j0s)
noncomputable def g73(cs:List SV):p0T:=(⟨(gI<|gN cs 0),(gS<|gN cs 1)⟩:p0T)
noncomputable def g76(cs:List SV):p0g:=(⟨(gS<|gN cs 0),(gS<|gN cs 1),(gI<|gN cs 2)⟩:p0g)
noncomputable def g28(cs:List SV):f0f:=(⟨(gS<|gN cs 0),(⟨(gI<|gN cs 1),(gI<|gN cs 2),(gI<|gN cs 3),(gI<|gN cs 4),(gI<|gN cs 5),(gI<|gN cs 6),(gI<|gN cs 7)⟩:b0z),(⟨(gS<|gN cs 8),(gS<|gN cs 9),(gS<|gN cs 10),(gS<|gN cs 11)⟩:L0o),(gL g73 2<|gN cs 12),(gL g76 3<|gN cs 13),(gL g79 3<|gN cs 14)⟩:f0f)
noncomputable def n0v:List SV->Option SV
 | [a0]=>bif y0I [a0] [lsv (a0l .u8) 1<|gL gI1 1 a0]then Option.rec (motive:=λ_=>Option SV) none (λr=>wA<|(.tup [lsv (a0l .i32) 1 r.1, .int .i64 r.2.1, .int .i64 r.2.2])) (k0R<|gL gI1 1 a0)else none
 |_=>none
def t0J:C0y Tryz.prog 48 n0v:=by
 intro l v h;unfold n0v at h;split at h;obtain⟨hl,h⟩:=C0q h;obtain⟨r,hr,h⟩:=A0w h;obtain rfl:=au h;exact(p0W hr).weak<|h0m hl;cases h
noncomputable def r0x:List SV->Option SV
 | [a0,a1,a2,a3]=>bif y0I [a0,a1,a2,a3] [.agg<|a0d<|gA L0x a0, .agg<|a0q<|gA g22 a1, .int .i64<|gI a2,lsv (a0l .i32) 1<|gL gI1 1 a3]then Option.rec (motive:=λ_=>Option SV) none (λr=>wA<|(.agg<|d0Z r)) (b0c (gA L0x a0) (gA g22 a1) (gI a2)<|gL gI1 1 a3)else none
 |_=>none
def w0h:C0y Tryz.prog 54 r0x:=by
 intro l v h;unfold r0x at h;split at h;obtain⟨hl,h⟩:=C0q h;obtain⟨r,hr,h⟩:=A0w h;obtain rfl:=au h;exact(e0T hr).weak<|h0m hl;cases h
noncomputable def n0w:List SV->Option SV
 | [a0,a1,a2]=>bif y0I [a0,a1,a2] [.agg<|a0q<|gA g22 a0, .agg<|a0d<|gA L0x a1,lsv (a0l .i32) 1<|gL gI1 1 a2]then Option.rec (motive:=λ_=>Option SV) none (λr=>wA<|(.agg<|m0a r)) (h0V (gA g22 a0) (gA L0x a1)<|gL gI1 1 a2)else none
 |_=>none
def t0K:C0y Tryz.prog 140 n0w:=by
 intro l v h;unfold n0w at h;split at h;obtain⟨hl,h⟩:=C0q h;obtain⟨r,hr,h⟩:=A0w h;obtain rfl:=au h;exact(l0R hr).weak<|h0m hl;cases h
noncomputable def r0u:List SV->Option SV
 | [a0,a1]=>bif y0I [a0,a1] [.agg<|a0q<|gA g22 a0,lsv (a0l .i32) 1<|gL gI1 1 a1]then Option.rec (motive:=λ_=>Option SV) none (λr=>wA<|(.bool r)) (k0n (gA g22 a0)<|gL gI1 1 a1)else none
 |_=>none
def w0e:C0y Tryz.prog 217 r0u:=by
 intro l v h;unfold r0u at h;split at h;obtain⟨hl,h⟩:=C0q h;obtain⟨r,hr,h⟩:=A0w h;obtain rfl:=au h;exact(p0k hr).weak<|h0m hl;cases h
noncomputable def n0x:List SV->Option SV
 | [a0,a1]=>bif y0I [a0,a1] [.agg<|d0Z<|gA N0V a0, .agg<|d0Z<|gA N0V a1]then Option.rec (motive:=λ_=>Option SV) none (λr=>wA<|(.bool r)) (g0Y (gA N0V a0)<|gA N0V a1)else none
 |_=>none
def t0M:C0y Tryz.prog 176 n0x:=by
 intro l v h;unfold n0x at h;split at h;obtain⟨hl,h⟩:=C0q h;obtain⟨r,hr,h⟩:=A0w h;obtain rfl:=au h;exact(m0m hr).weak<|h0m hl;cases h
noncomputable def j0V:List SV->Option SV
 | [a0,a1,a2]=>bif y0I [a0,a1,a2] [.agg<|a0q<|gA g22 a0, .agg<|a0d<|gA L0x a1,lsv (a0l .i32) 1<|gL gI1 1 a2]then Option.rec (motive:=λ_=>Option SV) none (λr=>wA<|(.bool r)) (c0F (gA g22 a0) (gA L0x a1)<|gL gI1 1 a2)else none
 |_=>none
def q0F:C0y Tryz.prog 105 j0V:=by
 intro l v h;unfold j0V at h;split at h;obtain⟨hl,h⟩:=C0q h;obtain⟨r,hr,h⟩:=A0w h;obtain rfl:=au h;exact(g0z hr).weak<|h0m hl;cases h
noncomputable def r0w:List SV->Option SV
 | [a0]=>bif y0I [a0] [.int .i32<|gI a0]then Option.rec (motive:=λ_=>Option SV) none (λr=>wA<|(.int .i64 r)) (i0f<|gI a0)else none
 |_=>none
def w0g:C0y Tryz.prog 183 r0w:=by
 intro l v h;unfold r0w at h;split at h;obtain⟨hl,h⟩:=C0q h;obtain⟨r,hr,h⟩:=A0w h;obtain rfl:=au h;exact(m0f hr).weak<|h0m hl;cases h
noncomputable def l0T:List SV->Option SV
 | [a0,a1,a2]=>bif y0I [a0,a1,a2] [.agg<|a0q<|gA g22 a0, .int .i64<|gI a1, .str<|gS a2]then Option.rec (motive:=λ_=>Option SV) none (λr=>wA<|(.tup [.agg<|a0d r.1, .bool r.2])) (b0w (gA g22 a0) (gI a1)<|gS a2)else none
 |_=>none
def s0l:C0y Tryz.prog 101 l0T:=by
 intro l v h;unfold l0T at h;split at h;obtain⟨hl,h⟩:=C0q h;obtain⟨r,hr,h⟩:=A0w h;obtain rfl:=au h;exact(c0G hr).weak<|h0m hl;cases h
noncomputable def p0E:List SV->Option SV
 | [a0,a1]=>bif y0I [a0,a1] [.agg<|a0q<|gA g22 a0, .agg<|a0O<|gA g79 a1]then Option.rec (motive:=λ_=>Option SV) none (λr=>wA<|(.tup [.agg<|a0d r.1, .bool r.2])) (d0y (gA g22 a0)<|gA g79 a1)else none
 |_=>none
def u0x:C0y Tryz.prog 56 p0E:=by
 intro l v h;unfold p0E at h;split at h;obtain⟨hl,h⟩:=C0q h;obtain⟨r,hr,h⟩:=A0w h;obtain rfl:=au h;exact(i0r hr).weak<|h0m hl;cases h
noncomputable def t0L:List SV->Option SV
 | [a0]=>bif y0I [a0] [.agg<|c0D<|gA g28 a0]then Option.rec (motive:=λ_=>Option SV) none (λr=>wA<|(.agg<|t0T r)) (u0a<|gA g28 a0)else none
 |_=>none
def y0a:C0y Tryz.prog 8 t0L:=by
 intro l v h;unfold t0L at h;split at h;obtain⟨hl,h⟩:=C0q h;obtain⟨r,hr,h⟩:=A0w h;obtain rfl:=au h;exact(v0e hr).weak<|h0m hl;cases h
noncomputable def r0t:List SV->Option SV
 | [a0]=>bif y0I [a0] [.agg<|a0q<|gA g22 a0]then Option.rec (motive:=λ_=>Option SV) none (λr=>wA<|(.bool r)) (v0x<|gA g22 a0)else none
 |_=>none
def w0d:C0y Tryz.prog 134 r0t:=by
 intro l v h;unfold r0t at h;split at h;obtain⟨hl,h⟩:=C0q h;obtain⟨r,hr,h⟩:=A0w h;obtain rfl:=au h;exact(y0N hr).weak<|h0m hl;cases h
noncomputable def g0H:List SV->Option SV
 | [a0,a1]=>bif y0I [a0,a1] [.int .u32<|gI a0, .int .u8<|gI a1]then Option.rec (motive:=λ_=>Option SV) none (λr=>wA<|(.int .u32 r)) (l0k (gI a0)<|gI a1)else none
 |_=>none
def m0C:C0y Tryz.prog 198 g0H:=by
 intro l v h;unfold g0H at h;split at h;obtain⟨hl,h⟩:=C0q h;obtain⟨r,hr,h⟩:=A0w h;obtain rfl:=au h;exact(o0S hr).weak<|h0m hl;cases h
noncomputable def r0v:List SV->Option SV
 | [a0,a1]=>bif y0I [a0,a1] [.int .u32<|gI a0, .int .u8<|gI a1]then Option.rec (motive:=λ_=>Option SV) none (λr=>wA<|(.int .u32 r)) (B0e (gI a0)<|gI a1)else none
 |_=>none
def w0f:C0y Tryz.prog 343 r0v:=by
 intro l v h;unfold r0v at h;split at h;obtain⟨hl,h⟩:=C0q h;obtain⟨r,hr,h⟩:=A0w h;obtain rfl:=au h;exact(z0L hr).weak<|h0m hl;cases h
noncomputable def knG:CallT:=λf args H=>List.rec (motive:=λ_=>Option<|SV×a0f) (Option.rec (motive:=λ_=>Option<|SV×a0f) none (λv=>wA (v,[]))<|bif yB f 48 then n0v args else bif yB f 54 then r0x args else bif yB f 140 then n0w args else bif yB f 217 then r0u args else bif yB f 176 then n0x args else bif yB f 105 then j0V args else bif yB f 183 then r0w args else bif yB f 101 then l0T args else bif yB f 56 then p0E args else bif yB f 8 then t0L args else bif yB f 134 then r0t args else bif yB f 198 then g0H args else bif yB f 343 then r0v args else none) (λ_ _ _=>none) H
def M0K:knG.Ok Tryz.prog:=by
 intro f args H v H' h;unfold knG at h
 cases H with
 |cons a b=>cases h
 |nil=>
  obtain⟨r,hr,h⟩:=A0w h;obtain⟨rfl,rfl⟩:=Prod.mk.inj<|au h;rcases C0r hr with⟨hb,hr⟩|hr;obtain rfl:=ae hb;exact t0J _ _ hr;rcases C0r hr with⟨hb,hr⟩|hr;obtain rfl:=ae hb;exact w0h _ _ hr;rcases C0r hr with⟨hb,hr⟩|hr;obtain rfl:=ae hb;exact t0K _ _ hr;rcases C0r hr with⟨hb,hr⟩|hr;obtain rfl:=ae hb;exact w0e _ _ hr;rcases C0r hr with⟨hb,hr⟩|hr;obtain rfl:=ae hb;exact t0M _ _ hr;rcases C0r hr with⟨hb,hr⟩|hr;obtain rfl:=ae hb;exact q0F _ _ hr;rcases C0r hr with⟨hb,hr⟩|hr;obtain rfl:=ae hb;exact w0g _ _ hr;rcases C0r hr with⟨hb,hr⟩|hr;obtain rfl:=ae hb;exact s0l _ _ hr;rcases C0r hr with⟨hb,hr⟩|hr;obtain rfl:=ae hb;exact u0x _ _ hr;rcases C0r hr with⟨hb,hr⟩|hr;obtain rfl:=ae hb;exact y0a _ _ hr;rcases C0r hr with⟨hb,hr⟩|hr;obtain rfl:=ae hb;exact w0d _ _ hr;rcases C0r hr with⟨hb,hr⟩|hr;obtain rfl:=ae hb;exact m0C _ _ hr;rcases C0r hr with⟨hb,hr⟩|hr;obtain rfl:=ae hb;exact w0f _ _ hr;cases hr
def fzs:List Nat:=[17,19,13,20,9,22,8,10,46,47,75,74,73,29,30,76]
noncomputable def knB:CallT:=knD Tryz.prog fzs [74] 100000 1000 knG
def p0d:knB.Ok Tryz.prog:=M0L M0K
def eB0:List SV:=([69,88,76,66,0,1,0,6,0,0,0,56,0,0,0,57,0,0,0,113,0,0,0,30,0,0,0,143,0,0,0,8,0,0,0,151,0,0,0,2,0,0,0,153,0,0,0,7,0,0,0,160,0,0,0,6,0,8,0,2,101,110,0,8,35,44,35,35,48,46,35,35,0,6,35,44,35,35,48,37,0,7,48,46,35,35,35,69,48,0,10,194,164,35,44,35,35,48,46,48,48,0,3,85,83,68,0,1,36,0,2,48,75,0,0,0,0,0,48,0,0,0,46,0,0,0,44,0,0,0,45,0,0,0,43,0,0,0,37,0,0,0,69,0,1,0,2,0,3,0,4,0,0,0,1,0,5,0,6,2,0,1,4,0,0,7,15,30,229,95]:List Int).map<|SV.int .u8
def eL(r:List SV):List SV:=[.str [101,110], .int .i32<|48, .int .i32<|46, .int .i32<|44, .int .i32<|45, .int .i32<|43, .int .i32<|37, .int .i32<|69, .str [35,44,35,35,48,46,35,35], .str [35,44,35,35,48,37], .str [48,46,35,35,35,69,48], .str [194,164,35,44,35,35,48,46,48,48]]++r
def evE {kn:CallT} {f:Nat} {A:List SV} {H0:a0f} {v:SV} {H1:a0f} (hk:kn.Ok Tryz.prog)(h:isR ((evA Tryz.prog kn fzs 100000 1000).1 f A H0) v H1=oA):SQ f A H0 v H1:=N0g hk h
def Q0s:List SV:=[.agg<|eL [.nl, .lst 1 3 [.str [85,83,68], .str [36], .int .i64<|2], .lst 1 3 [.int .i64<|4, .int .i64<|0, .str [48,75]]]]
def Q0g:SV:= .tup [.vc 0, .int .i64<|0]
def Q0k:a0f:=[.vec 170 1 5 eB0]
def e17:SQ 17 Q0s [] Q0g Q0k:=evE p0d dB
def Q0n:List SV:=[.lst 166 1<|(eB0).take 166]
def Q0b:SV:= .tup [.agg<|eL [.nl, .vc 0, .vc 1], .bool oA]
def Q0j:a0f:=[.vec 1 3 77 [.str [85,83,68], .str [36], .int .i64<|2], .vec 1 3 80 [.int .i64<|4, .int .i64<|0, .str [48,75]]]
def e74:SQ 74 Q0n [] Q0b Q0j:=evE p0d dB
def Q0m:List SV:=[.agg<|eL [.nl, .lst 1 3 [.str [85,83,68], .str [36], .int .i64<|2], .lst 1 3 [.int .i64<|4, .int .i64<|0, .str [48,75]]]]
def Q0a:SV:= .tup [.vc 0, .int .i64<|0]
def Q0i:a0f:=[.vec 170 1 5 eB0]
def e75:SQ 75 Q0m [] Q0a Q0i:=evE p0d dB
def Q0p:List SV:=[.lst 170 1 eB0]
def Q0d:SV:= .tup [.agg<|eL [.nl, .lst 1 3 [.str [85,83,68], .str [36], .int .i64<|2], .lst 1 3 [.int .i64<|4, .int .i64<|0, .str [48,75]]], .int .i64<|0]
def e46:SQ 46 Q0p [] Q0d []:=evE (q0D e75<|q0D e74 p0d) dB
def Q0o:List SV:=[.agg<|eL [.nl, .lst 1 3 [.str [85,83,68], .str [36], .int .i64<|2], .lst 1 3 [.int .i64<|4, .int .i64<|0, .str [48,75]]]]
def Q0c:SV:= .tup [.int .i64<|0, .int .i64<|0, .int .i64<|0]
def e47:SQ 47 Q0o [] Q0c []:=evE p0d dB
def Q0r:List SV:=[.lst 170 1 eB0]
def Q0f:SV:= .tup [.agg<|eL [.lst 0 2 [], .lst 1 3 [.str [85,83,68], .str [36], .int .i64<|2], .lst 1 3 [.int .i64<|4, .int .i64<|0, .str [48,75]], .int .i64<|1, .int .i64<|2, .int .i64<|1, .int .i64<|2, .int .i64<|2, .int .i64<|0, .int .i64<|0, .int .i64<|0, .int .i64<|0, .int .i64<|0], .int .i64<|0, .int .i64<|0, .int .i64<|0]
def e19:SQ 19 Q0r [] Q0f []:=evE (q0D e47<|q0D e46 p0d) dB
def Q0t:List SV:=[.agg<|eL [.lst 0 2 [], .lst 1 3 [.str [85,83,68], .str [36], .int .i64<|2], .lst 1 3 [.int .i64<|4, .int .i64<|0, .str [48,75]], .int .i64<|1, .int .i64<|2, .int .i64<|1, .int .i64<|2, .int .i64<|2, .int .i64<|0, .int .i64<|0, .int .i64<|0, .int .i64<|0, .int .i64<|0], .agg [.int .i64<|0, .int .i64<|0, .str [], .nl, .bool yA, .bool yA, .bool yA], .agg [.bool yA, .lst 2 1 [.int .u8<|1, .int .u8<|2], .int .i64<|-1]]
def Q0h:SV:= .tup [.vc 0, .int .i64<|0]
def Q0l:a0f:=[.vec 3 1 5 [.int .u8<|49, .int .u8<|46, .int .u8<|50]]
def e13:SQ 13 Q0t [] Q0h Q0l:=evE p0d dB
def Q0q:List SV:=[.agg<|eL [.lst 0 2 [], .lst 1 3 [.str [85,83,68], .str [36], .int .i64<|2], .lst 1 3 [.int .i64<|4, .int .i64<|0, .str [48,75]], .int .i64<|1, .int .i64<|2, .int .i64<|1, .int .i64<|2, .int .i64<|2, .int .i64<|0, .int .i64<|0, .int .i64<|0, .int .i64<|0, .int .i64<|0], .agg [.int .i64<|0, .int .i64<|0, .str [], .nl, .bool yA, .bool yA, .bool yA], .lst 3 1 [.int .u8<|49, .int .u8<|46, .int .u8<|50]]
def Q0e:SV:= .tup [.agg [.bool yA, .lst 2 1 [.int .u8<|1, .int .u8<|2], .int .i64<|-1], .int .i64<|0, .int .i64<|0]
def e20:SQ 20 Q0q [] Q0e []:=evE p0d dB
def eA9:List SV:=[.agg<|eL [.lst 0 2 [], .lst 1 3 [.str [85,83,68], .str [36], .int .i64<|2], .lst 1 3 [.int .i64<|4, .int .i64<|0, .str [48,75]], .int .i64<|1, .int .i64<|2, .int .i64<|1, .int .i64<|2, .int .i64<|2, .int .i64<|0, .int .i64<|0, .int .i64<|0, .int .i64<|0, .int .i64<|0], .agg [.int .i64<|0, .int .i64<|0, .str [], .nl, .bool yA, .bool yA, .bool yA], .agg [.bool yA, .lst 2 1 [.int .u8<|1, .int .u8<|2], .int .i64<|-1], .int .i64<|6, .int .i64<|3]
def eV9:SV:= .tup [.agg [.int .i64<|0, .int .i64<|0, .vc 0], .int .i64<|0]
def eK9:a0f:=[.vec 3 1 21 [.int .i32<|49, .int .i32<|46, .int .i32<|50]]
def e9:SQ 9 eA9 [] eV9 eK9:=evE p0d dB
def eA6:List SV:=[]
def eV6:SV:= .bool oA
def e6:SQ 6 eA6 [] eV6 []:=evE (q0D e9<|q0D e20<|q0D e13<|q0D e19<|q0D e17 p0d) dB
def h0u:Option Bool:=wA oA
def n0M {r:Bool} (h:h0u=wA r):SQ 6 [] [] (.bool r) []:=by
 obtain rfl:oA=r:=au h;exact e6
def d0W(x0:f0f)(x1:p0h)(x2:a0X):Option (Bool):=
 (jA h0u λy3=>(jA (d0n x0 x1 x2) λy6=>(bif(!y6)then(wA y3)else(jA (u0a x0) λy4=>(jA (b0Y x0 x1 x2) λy0=>(jA (s0D y4 x1 x2 100000 100000) λy1=>(jA (o0s y4 x1 x2) λy2=>(bif(vA<|¬y0.2=0)then(jA (bif y3 then(bif(vA<|y1.2=y0.2)then(bif(vA<|y2.2=y0.2)then(wA<|(vA<|((zA .i64<|(y1.1.Y_.length:Int)+(y2.1.length:Int)))=0))else(wA yA))else(wA yA))else(wA yA)) λ(s0:Bool)=>(wA s0))else(jA (e0R y0.1) λy5=>(jA (bif y3 then(bif(vA<|y1.2=0)then(bif(vA<|y2.2=0)then(bif(vA<|y5.2=0)then(jA (b0i y1.1.Y_ y0.1) λy7=>(bif y7 then(jA (g0D y2.1 y5.1) λy8=>(bif y8 then(bif(vA<|y1.1.ax_=((zA .i64<|((zA .i64<|((zA .i64<|100000-(y0.1.length:Int)))-(x2.D_.length:Int)))-1)))then(wA<|(vA<|y1.1.av_=((zA .i64<|100000-(y0.1.length:Int)))))else(wA yA))else(wA yA)))else(wA yA)))else(wA yA))else(wA yA))else(wA yA))else(wA yA)) λ(s1:Bool)=>(wA s1)))))))))))
def l0l {x0:f0f} {x1:p0h} {x2:a0X} {r:Bool} (h:d0W x0 x1 x2=wA r):SQ 4 [.agg<|c0D x0, .agg<|k0N x1, .agg<|a0D x2] [] (.bool r) []:=
 pFn (fn:=Tryz.f4) (pA 10 n0M<|pA 9 o0I<|pB 3 (pZh 8)<|pA 5 v0e<|pA 9 i0I<|pA 12 z0P<|pA 13 w0x<|pB 14 (pyN 0 [6] 0 (u1 6 .bool) (pb 50 3 (pb 55 5 (pb 60 5 (pEs [] 10)<|pEs [] 10)<|pEs [] 15)<|pEs [] 20)<|pZh 2)<|pA 5 m0L<|pyN 7 [6] 0 (u1 6 .bool) (pb 75 3 (pb 79 4 (pb 83 4 (pb 87 4 (pA 3 g0l<|pb 93 2 (pA 2 p0K<|pb 98 2 (pb 111 13 (pEs [] 9)<|pEs [] 9)<|pEs [] 22)<|pEs [] 27)<|pEs [] 33)<|pEs [] 37)<|pEs [] 41)<|pEs [] 45)<|pZh 1) h
end Go.Proofs.YtafbfodcilkgmaaGreatDoor
