import Derived.Test.YtafbfodcilkgmaaGreatDoorGf
set_option linter.all false
namespace Go.Proofs.YtafbfodcilkgmaaGreatDoor
open Go Go.Sy Go.RowKit
open Go.IntKind renaming wrap->oA
open _root_.Nat renaming beq->vC
open _root_.Option renaming bind->jB,some->qB
open _root_.Decidable renaming decide->wB
open _root_.Bool renaming false->vB,true->yB
set_option maxRecDepth 1000000
set_option maxHeartbeats 4000000
noncomputable def L0W(cs:List SV):a0b:=(⟨(gI (gN cs 0)),(gI (gN cs 1))⟩:a0b)
noncomputable def J0S(cs:List SV):a0h:=(⟨(gL L0W 2 (gN cs 0)),(gL L0W 2 (gN cs 1)),(gL L0W 2 (gN cs 2)),(gL L0W 2 (gN cs 3)),(gB (gN cs 4)),(gI (gN cs 5)),(gI (gN cs 6)),(gI (gN cs 7)),(gI (gN cs 8)),(gI (gN cs 9)),(gI (gN cs 10)),(gI (gN cs 11)),(gI (gN cs 12)),(gI (gN cs 13)),(gB (gN cs 14)),(gI (gN cs 15)),(gI (gN cs 16))⟩:a0h)
noncomputable def g22(cs:List SV):c0J:=(⟨(gI (gN cs 0)),(gI (gN cs 1)),(gI (gN cs 2)),(gI (gN cs 3)),(gI (gN cs 4)),(gI (gN cs 5)),(gI (gN cs 6))⟩:c0J)
noncomputable def L0X(cs:List SV):g0K:=(⟨(gL gI1 1 (gN cs 0)),(gL gI1 1 (gN cs 1))⟩:g0K)
noncomputable def g79(cs:List SV):k0A:=(⟨(gI (gN cs 0)),(gI (gN cs 1)),(gS (gN cs 2))⟩:k0A)
noncomputable def g73(cs:List SV):p0i:=(⟨(gI (gN cs 0)),(gS (gN cs 1))⟩:p0i)
noncomputable def g76(cs:List SV):p0h:=(⟨(gS (gN cs 0)),(gS (gN cs 1)),(gI (gN cs 2))⟩:p0h)
noncomputable def g28(cs:List SV):f0x:=(⟨(gS (gN cs 0)),(⟨(gI (gN cs 1)),(gI (gN cs 2)),(gI (gN cs 3)),(gI (gN cs 4)),(gI (gN cs 5)),(gI (gN cs 6)),(gI (gN cs 7))⟩:c0J),(⟨(gS (gN cs 8)),(gS (gN cs 9)),(gS (gN cs 10)),(gS (gN cs 11))⟩:H0F),(gL g73 2 (gN cs 12)),(gL g76 3 (gN cs 13)),(gL g79 3 (gN cs 14))⟩:f0x)
noncomputable def n0F:List SV->Option SV
 | [a0]=>bif y0f [a0] [lsv (a0l .u8) 1 (gL gI1 1 a0)]then Option.rec (motive:=λ_=>Option SV) none (λr=>qB ((.tup [lsv (a0l .i32) 1 r.1, .int .i64 r.2.1, .int .i64 r.2.2]))) (j0F (gL gI1 1 a0))else none
 |_=>none
theorem t0A:B0L Tryz.prog 48 n0F:=by
 intro l v h;unfold n0F at h;split at h;obtain⟨hl,h⟩:=B0C h;obtain⟨r,hr,h⟩:=z0N h;obtain rfl:=ar h;exact(p0Q hr).weak (h0J hl);cases h
noncomputable def r0s:List SV->Option SV
 | [a0,a1,a2,a3]=>bif y0f [a0,a1,a2,a3] [.agg (a0d (gA J0S a0)), .agg (a0t (gA g22 a1)), .int .i64 (gI a2),lsv (a0l .i32) 1 (gL gI1 1 a3)]then Option.rec (motive:=λ_=>Option SV) none (λr=>qB ((.agg (e0s r)))) (e0x (gA J0S a0) (gA g22 a1) (gI a2) (gL gI1 1 a3))else none
 |_=>none
theorem v0I:B0L Tryz.prog 54 r0s:=by
 intro l v h;unfold r0s at h;split at h;obtain⟨hl,h⟩:=B0C h;obtain⟨r,hr,h⟩:=z0N h;obtain rfl:=ar h;exact(f0n hr).weak (h0J hl);cases h
noncomputable def n0G:List SV->Option SV
 | [a0,a1,a2]=>bif y0f [a0,a1,a2] [.agg (a0t (gA g22 a0)), .agg (a0d (gA J0S a1)),lsv (a0l .i32) 1 (gL gI1 1 a2)]then Option.rec (motive:=λ_=>Option SV) none (λr=>qB ((.agg (m0l r)))) (i0n (gA g22 a0) (gA J0S a1) (gL gI1 1 a2))else none
 |_=>none
theorem t0B:B0L Tryz.prog 140 n0G:=by
 intro l v h;unfold n0G at h;split at h;obtain⟨hl,h⟩:=B0C h;obtain⟨r,hr,h⟩:=z0N h;obtain rfl:=ar h;exact(m0b hr).weak (h0J hl);cases h
noncomputable def r0p:List SV->Option SV
 | [a0,a1]=>bif y0f [a0,a1] [.agg (a0t (gA g22 a0)),lsv (a0l .i32) 1 (gL gI1 1 a1)]then Option.rec (motive:=λ_=>Option SV) none (λr=>qB ((.bool r))) (l0N (gA g22 a0) (gL gI1 1 a1))else none
 |_=>none
theorem v0F:B0L Tryz.prog 217 r0p:=by
 intro l v h;unfold r0p at h;split at h;obtain⟨hl,h⟩:=B0C h;obtain⟨r,hr,h⟩:=z0N h;obtain rfl:=ar h;exact(p0l hr).weak (h0J hl);cases h
noncomputable def n0H:List SV->Option SV
 | [a0,a1]=>bif y0f [a0,a1] [.agg (e0s (gA L0X a0)), .agg (e0s (gA L0X a1))]then Option.rec (motive:=λ_=>Option SV) none (λr=>qB ((.bool r))) (g0m (gA L0X a0) (gA L0X a1))else none
 |_=>none
theorem t0D:B0L Tryz.prog 176 n0H:=by
 intro l v h;unfold n0H at h;split at h;obtain⟨hl,h⟩:=B0C h;obtain⟨r,hr,h⟩:=z0N h;obtain rfl:=ar h;exact(m0w hr).weak (h0J hl);cases h
noncomputable def k0j:List SV->Option SV
 | [a0,a1,a2]=>bif y0f [a0,a1,a2] [.agg (a0t (gA g22 a0)), .agg (a0d (gA J0S a1)),lsv (a0l .i32) 1 (gL gI1 1 a2)]then Option.rec (motive:=λ_=>Option SV) none (λr=>qB ((.bool r))) (d0Z (gA g22 a0) (gA J0S a1) (gL gI1 1 a2))else none
 |_=>none
theorem q0z:B0L Tryz.prog 105 k0j:=by
 intro l v h;unfold k0j at h;split at h;obtain⟨hl,h⟩:=B0C h;obtain⟨r,hr,h⟩:=z0N h;obtain rfl:=ar h;exact(g0Q hr).weak (h0J hl);cases h
noncomputable def r0r:List SV->Option SV
 | [a0]=>bif y0f [a0] [.int .i32 (gI a0)]then Option.rec (motive:=λ_=>Option SV) none (λr=>qB ((.int .i64 r))) (k0P (gI a0))else none
 |_=>none
theorem v0H:B0L Tryz.prog 183 r0r:=by
 intro l v h;unfold r0r at h;split at h;obtain⟨hl,h⟩:=B0C h;obtain⟨r,hr,h⟩:=z0N h;obtain rfl:=ar h;exact(m0p hr).weak (h0J hl);cases h
noncomputable def m0d:List SV->Option SV
 | [a0,a1,a2]=>bif y0f [a0,a1,a2] [.agg (a0t (gA g22 a0)), .int .i64 (gI a1), .str (gS a2)]then Option.rec (motive:=λ_=>Option SV) none (λr=>qB ((.tup [.agg (a0d r.1), .bool r.2]))) (c0K (gA g22 a0) (gI a1) (gS a2))else none
 |_=>none
theorem s0f:B0L Tryz.prog 101 m0d:=by
 intro l v h;unfold m0d at h;split at h;obtain⟨hl,h⟩:=B0C h;obtain⟨r,hr,h⟩:=z0N h;obtain rfl:=ar h;exact(c0T hr).weak (h0J hl);cases h
noncomputable def p0C:List SV->Option SV
 | [a0,a1]=>bif y0f [a0,a1] [.agg (a0t (gA g22 a0)), .agg (a0M (gA g79 a1))]then Option.rec (motive:=λ_=>Option SV) none (λr=>qB ((.tup [.agg (a0d r.1), .bool r.2]))) (f0Q (gA g22 a0) (gA g79 a1))else none
 |_=>none
theorem u0i:B0L Tryz.prog 56 p0C:=by
 intro l v h;unfold p0C at h;split at h;obtain⟨hl,h⟩:=B0C h;obtain⟨r,hr,h⟩:=z0N h;obtain rfl:=ar h;exact(i0P hr).weak (h0J hl);cases h
noncomputable def t0C:List SV->Option SV
 | [a0]=>bif y0f [a0] [.agg (c0z (gA g28 a0))]then Option.rec (motive:=λ_=>Option SV) none (λr=>qB ((.agg (v0Q r)))) (r0A (gA g28 a0))else none
 |_=>none
theorem x0z:B0L Tryz.prog 8 t0C:=by
 intro l v h;unfold t0C at h;split at h;obtain⟨hl,h⟩:=B0C h;obtain⟨r,hr,h⟩:=z0N h;obtain rfl:=ar h;exact(u0M hr).weak (h0J hl);cases h
noncomputable def r0o:List SV->Option SV
 | [a0]=>bif y0f [a0] [.agg (a0t (gA g22 a0))]then Option.rec (motive:=λ_=>Option SV) none (λr=>qB ((.bool r))) (v0b (gA g22 a0))else none
 |_=>none
theorem v0E:B0L Tryz.prog 134 r0o:=by
 intro l v h;unfold r0o at h;split at h;obtain⟨hl,h⟩:=B0C h;obtain⟨r,hr,h⟩:=z0N h;obtain rfl:=ar h;exact(y0m hr).weak (h0J hl);cases h
noncomputable def g0W:List SV->Option SV
 | [a0,a1]=>bif y0f [a0,a1] [.int .u32 (gI a0), .int .u8 (gI a1)]then Option.rec (motive:=λ_=>Option SV) none (λr=>qB ((.int .u32 r))) (i0q (gI a0) (gI a1))else none
 |_=>none
theorem m0N:B0L Tryz.prog 198 g0W:=by
 intro l v h;unfold g0W at h;split at h;obtain⟨hl,h⟩:=B0C h;obtain⟨r,hr,h⟩:=z0N h;obtain rfl:=ar h;exact(o0T hr).weak (h0J hl);cases h
noncomputable def r0q:List SV->Option SV
 | [a0,a1]=>bif y0f [a0,a1] [.int .u32 (gI a0), .int .u8 (gI a1)]then Option.rec (motive:=λ_=>Option SV) none (λr=>qB ((.int .u32 r))) (v0U (gI a0) (gI a1))else none
 |_=>none
theorem v0G:B0L Tryz.prog 343 r0q:=by
 intro l v h;unfold r0q at h;split at h;obtain⟨hl,h⟩:=B0C h;obtain⟨r,hr,h⟩:=z0N h;obtain rfl:=ar h;exact(z0h hr).weak (h0J hl);cases h
noncomputable def knG:CallT:=λf args H=>List.rec (motive:=λ_=>Option (SV×a0e)) (Option.rec (motive:=λ_=>Option (SV×a0e)) none (λv=>qB (v,[])) (bif vC f 48 then n0F args else bif vC f 54 then r0s args else bif vC f 140 then n0G args else bif vC f 217 then r0p args else bif vC f 176 then n0H args else bif vC f 105 then k0j args else bif vC f 183 then r0r args else bif vC f 101 then m0d args else bif vC f 56 then p0C args else bif vC f 8 then t0C args else bif vC f 134 then r0o args else bif vC f 198 then g0W args else bif vC f 343 then r0q args else none)) (λ_ _ _=>none) H
theorem K0T:knG.Ok Tryz.prog:=by
 intro f args H v H' h;unfold knG at h
 cases H with
 |cons a b=>cases h
 |nil=>
  obtain⟨r,hr,h⟩:=z0N h;obtain⟨rfl,rfl⟩:=Prod.mk.inj (ar h);rcases B0D hr with⟨hb,hr⟩|hr;obtain rfl:=ae hb;exact t0A _ _ hr;rcases B0D hr with⟨hb,hr⟩|hr;obtain rfl:=ae hb;exact v0I _ _ hr;rcases B0D hr with⟨hb,hr⟩|hr;obtain rfl:=ae hb;exact t0B _ _ hr;rcases B0D hr with⟨hb,hr⟩|hr;obtain rfl:=ae hb;exact v0F _ _ hr;rcases B0D hr with⟨hb,hr⟩|hr;obtain rfl:=ae hb;exact t0D _ _ hr;rcases B0D hr with⟨hb,hr⟩|hr;obtain rfl:=ae hb;exact q0z _ _ hr;rcases B0D hr with⟨hb,hr⟩|hr;obtain rfl:=ae hb;exact v0H _ _ hr;rcases B0D hr with⟨hb,hr⟩|hr;obtain rfl:=ae hb;exact s0f _ _ hr;rcases B0D hr with⟨hb,hr⟩|hr;obtain rfl:=ae hb;exact u0i _ _ hr;rcases B0D hr with⟨hb,hr⟩|hr;obtain rfl:=ae hb;exact x0z _ _ hr;rcases B0D hr with⟨hb,hr⟩|hr;obtain rfl:=ae hb;exact v0E _ _ hr;rcases B0D hr with⟨hb,hr⟩|hr;obtain rfl:=ae hb;exact m0N _ _ hr;rcases B0D hr with⟨hb,hr⟩|hr;obtain rfl:=ae hb;exact v0G _ _ hr;cases hr
def fzs:List Nat:=[17,19,13,20,9,22,8,10,46,47,75,74,73,29,30,76]
noncomputable def knB:CallT:=knD Tryz.prog fzs [74] 100000 1000 knG
theorem p0e:knB.Ok Tryz.prog:=K0U K0T
def eB0:List SV:=([69,88,76,66,0,1,0,6,0,0,0,56,0,0,0,57,0,0,0,113,0,0,0,30,0,0,0,143,0,0,0,8,0,0,0,151,0,0,0,2,0,0,0,153,0,0,0,7,0,0,0,160,0,0,0,6,0,8,0,2,101,110,0,8,35,44,35,35,48,46,35,35,0,6,35,44,35,35,48,37,0,7,48,46,35,35,35,69,48,0,10,194,164,35,44,35,35,48,46,48,48,0,3,85,83,68,0,1,36,0,2,48,75,0,0,0,0,0,48,0,0,0,46,0,0,0,44,0,0,0,45,0,0,0,43,0,0,0,37,0,0,0,69,0,1,0,2,0,3,0,4,0,0,0,1,0,5,0,6,2,0,1,4,0,0,7,15,30,229,95]:List Int).map (SV.int .u8)
def eL(r:List SV):List SV:=[.str [101,110], .int .i32 (48), .int .i32 (46), .int .i32 (44), .int .i32 (45), .int .i32 (43), .int .i32 (37), .int .i32 (69), .str [35,44,35,35,48,46,35,35], .str [35,44,35,35,48,37], .str [48,46,35,35,35,69,48], .str [194,164,35,44,35,35,48,46,48,48]]++r
theorem evE {kn:CallT} {f:Nat} {A:List SV} {H0:a0e} {v:SV} {H1:a0e} (hk:kn.Ok Tryz.prog)(h:isR ((evA Tryz.prog kn fzs 100000 1000).1 f A H0) v H1=yB):SQ f A H0 v H1:=L0k hk h
def O0f:List SV:=[.agg (eL [.nl, .lst 1 3 [.str [85,83,68], .str [36], .int .i64 (2)], .lst 1 3 [.int .i64 (4), .int .i64 (0), .str [48,75]]])]
def N0T:SV:= .tup [.vc 0, .int .i64 (0)]
def N0X:a0e:=[.vec 170 1 5 eB0]
theorem e17:SQ 17 O0f [] N0T N0X:=evE p0e cY
def O0a:List SV:=[.lst 166 1 ((eB0).take 166)]
def N0O:SV:= .tup [.agg (eL [.nl, .vc 0, .vc 1]), .bool yB]
def N0W:a0e:=[.vec 1 3 77 [.str [85,83,68], .str [36], .int .i64 (2)], .vec 1 3 80 [.int .i64 (4), .int .i64 (0), .str [48,75]]]
theorem e74:SQ 74 O0a [] N0O N0W:=evE p0e cY
def N0Z:List SV:=[.agg (eL [.nl, .lst 1 3 [.str [85,83,68], .str [36], .int .i64 (2)], .lst 1 3 [.int .i64 (4), .int .i64 (0), .str [48,75]]])]
def N0N:SV:= .tup [.vc 0, .int .i64 (0)]
def N0V:a0e:=[.vec 170 1 5 eB0]
theorem e75:SQ 75 N0Z [] N0N N0V:=evE p0e cY
def O0c:List SV:=[.lst 170 1 eB0]
def N0Q:SV:= .tup [.agg (eL [.nl, .lst 1 3 [.str [85,83,68], .str [36], .int .i64 (2)], .lst 1 3 [.int .i64 (4), .int .i64 (0), .str [48,75]]]), .int .i64 (0)]
theorem e46:SQ 46 O0c [] N0Q []:=evE (q0x e75 (q0x e74 p0e)) cY
def O0b:List SV:=[.agg (eL [.nl, .lst 1 3 [.str [85,83,68], .str [36], .int .i64 (2)], .lst 1 3 [.int .i64 (4), .int .i64 (0), .str [48,75]]])]
def N0P:SV:= .tup [.int .i64 (0), .int .i64 (0), .int .i64 (0)]
theorem e47:SQ 47 O0b [] N0P []:=evE p0e cY
def O0e:List SV:=[.lst 170 1 eB0]
def N0S:SV:= .tup [.agg (eL [.lst 0 2 [], .lst 1 3 [.str [85,83,68], .str [36], .int .i64 (2)], .lst 1 3 [.int .i64 (4), .int .i64 (0), .str [48,75]], .int .i64 (1), .int .i64 (2), .int .i64 (1), .int .i64 (2), .int .i64 (2), .int .i64 (0), .int .i64 (0), .int .i64 (0), .int .i64 (0), .int .i64 (0)]), .int .i64 (0), .int .i64 (0), .int .i64 (0)]
theorem e19:SQ 19 O0e [] N0S []:=evE (q0x e47 (q0x e46 p0e)) cY
def O0g:List SV:=[.agg (eL [.lst 0 2 [], .lst 1 3 [.str [85,83,68], .str [36], .int .i64 (2)], .lst 1 3 [.int .i64 (4), .int .i64 (0), .str [48,75]], .int .i64 (1), .int .i64 (2), .int .i64 (1), .int .i64 (2), .int .i64 (2), .int .i64 (0), .int .i64 (0), .int .i64 (0), .int .i64 (0), .int .i64 (0)]), .agg [.int .i64 (0), .int .i64 (0), .str [], .nl, .bool vB, .bool vB, .bool vB], .agg [.bool vB, .lst 2 1 [.int .u8 (1), .int .u8 (2)], .int .i64 (-1)]]
def N0U:SV:= .tup [.vc 0, .int .i64 (0)]
def N0Y:a0e:=[.vec 3 1 5 [.int .u8 (49), .int .u8 (46), .int .u8 (50)]]
theorem e13:SQ 13 O0g [] N0U N0Y:=evE p0e cY
def O0d:List SV:=[.agg (eL [.lst 0 2 [], .lst 1 3 [.str [85,83,68], .str [36], .int .i64 (2)], .lst 1 3 [.int .i64 (4), .int .i64 (0), .str [48,75]], .int .i64 (1), .int .i64 (2), .int .i64 (1), .int .i64 (2), .int .i64 (2), .int .i64 (0), .int .i64 (0), .int .i64 (0), .int .i64 (0), .int .i64 (0)]), .agg [.int .i64 (0), .int .i64 (0), .str [], .nl, .bool vB, .bool vB, .bool vB], .lst 3 1 [.int .u8 (49), .int .u8 (46), .int .u8 (50)]]
def N0R:SV:= .tup [.agg [.bool vB, .lst 2 1 [.int .u8 (1), .int .u8 (2)], .int .i64 (-1)], .int .i64 (0), .int .i64 (0)]
theorem e20:SQ 20 O0d [] N0R []:=evE p0e cY
def eA9:List SV:=[.agg (eL [.lst 0 2 [], .lst 1 3 [.str [85,83,68], .str [36], .int .i64 (2)], .lst 1 3 [.int .i64 (4), .int .i64 (0), .str [48,75]], .int .i64 (1), .int .i64 (2), .int .i64 (1), .int .i64 (2), .int .i64 (2), .int .i64 (0), .int .i64 (0), .int .i64 (0), .int .i64 (0), .int .i64 (0)]), .agg [.int .i64 (0), .int .i64 (0), .str [], .nl, .bool vB, .bool vB, .bool vB], .agg [.bool vB, .lst 2 1 [.int .u8 (1), .int .u8 (2)], .int .i64 (-1)], .int .i64 (6), .int .i64 (3)]
def eV9:SV:= .tup [.agg [.int .i64 (0), .int .i64 (0), .vc 0], .int .i64 (0)]
def eK9:a0e:=[.vec 3 1 21 [.int .i32 (49), .int .i32 (46), .int .i32 (50)]]
theorem e9:SQ 9 eA9 [] eV9 eK9:=evE p0e cY
def eA6:List SV:=[]
def eV6:SV:= .bool yB
theorem e6:SQ 6 eA6 [] eV6 []:=evE (q0x e9 (q0x e20 (q0x e13 (q0x e19 (q0x e17 p0e))))) cY
def h0P:Option Bool:=qB yB
theorem n0X {r:Bool} (h:h0P=qB r):SQ 6 [] [] (.bool r) []:=by
 obtain rfl:yB=r:=ar h;exact e6
def c0I(x0:J0T):Option (Bool):=
 (jB h0P λy2=>(jB (e0N x0.L_ x0.Q_ x0.D_) λy5=>(bif(!y5)then(qB y2)else(jB (r0A x0.L_) λy3=>(jB (f0h x0.L_ x0.Q_ x0.D_) λy1=>(jB (q0K y3 x0.Q_ x0.D_ (oA .i64 x0.ae_) (oA .i64 x0.af_)) λy0=>(bif(wB (¬y1.2=0))then(jB (bif y2 then(qB (wB (y0.2=y1.2)))else(qB vB)) fun(s0:Bool)=>(qB s0))else(jB (jB (bif(wB ((y0.1.Y_.length:Int)>(y1.1.length:Int)))then(qB yB)else(bif(wB ((y0.1.Y_.length:Int)>(oA .i64 x0.af_)))then(qB yB)else(bif inS 0 (y0.1.Y_.length:Int) y1.1.length then(jB (b0E y0.1.Y_ (cut y1.1 0 (y0.1.Y_.length:Int))) λy4=>(qB (!y4)))else none))) fun(s1:Bool)=>(bif s1 then(qB (.inr vB))else(qB (.inl ())))) (a0j fun(s3:Unit)=>(jB (bif y2 then(bif(wB ((y0.1.Y_.length:Int)=(y1.1.length:Int)))then(bif((wB (y0.2=0))==((wB ((oA .i64 x0.ae_)≥((oA .i64 (((oA .i64 ((y1.1.length:Int)+(x0.D_.D_.length:Int))))+1)))))))then(bif(wB (y0.2=0))then(qB yB)else(bif(wB (y0.2=4))then(qB yB)else(qB (wB (y0.2=5)))))else(qB vB))else(bif((wB (y0.2=0))==vB)then(bif(wB (y0.2=0))then(qB yB)else(bif(wB (y0.2=4))then(qB yB)else(qB (wB (y0.2=5)))))else(qB vB)))else(qB vB)) fun(s2:Bool)=>(qB s2)))))))))))
theorem l0a {x0:J0T} {r:Bool} (h:c0I x0=qB r):SQ 5 [.agg (z0d x0)] [] (.bool r) []:=by
 unfold c0I at h;exact pFn (fn:=Tryz.f5) (λh=>pA 46 n0X (pA 9 o0J (pB 3 (pZh 8) (pA 5 u0M (pA 9 m0A (@λb c=>pA 16 z0l (@λa d=>pB 15 (pyN 0 [2,5,6,7,8,10,12,13] 2 (fun(e:Bool)=>([(2, .bool e),(5, .ptr 0 0),(12, .ptr 1 0)],[(0, .ent (.box (a0C x0.D_))),(1, .ent (.box (k0m a.1)))])) (pb 54 3 (pEs [3,5] 6) (pEs [3,5] 6)) (pZh 2)) (pyX 2 [2,5,6,8,10,12,13] 2 (fun(j:Unit)=>([(5, .ptr 0 0),(12, .ptr 1 0)],[(0, .ent (.box (a0C x0.D_))),(1, .ent (.box (k0m a.1)))])) (λg=>pyN 0 [2,5,6,8,10,12,13,83] 2 (fun(i:Bool)=>([(5, .ptr 0 0),(12, .ptr 1 0),(83, .bool i)],[(0, .ent (.box (a0C x0.D_))),(1, .ent (.box (k0m a.1)))])) (pb 65 8 (pEs [3,5] 19) (pb 73 8 (pEs [3,5] 11) (pRb 6 ⟨.lst (cut b.1 0 (a.1.Y_.length:Int)).length 1 ((cut b.1 0 (a.1.Y_.length:Int)).flatMap (a0l .i32)),[],[]⟩ (λhc=>N.slice (a0g .i32) hc) (pA 0 g0w (pEs [3,5] 3))))) (pB 0 (pXr 6 g (pZh 0)) (pEx 1))) (pyN 0 [2] 0 (u1 2 .bool) (pb 85 3 (pb 94 9 (pb 108 14 (pb 111 3 (pEs [] 10) (pb 115 4 (pEs [] 6) (pEs [] 6))) (pEs [] 13)) (pb 108 14 (pb 111 3 (pEs [] 10) (pb 115 4 (pEs [] 6) (pEs [] 6))) (pEs [] 13))) (pEs [] 36)) (pZh 1))) (h:=d)) (h:=c)))))) (h:=h)) h
end Go.Proofs.YtafbfodcilkgmaaGreatDoor
