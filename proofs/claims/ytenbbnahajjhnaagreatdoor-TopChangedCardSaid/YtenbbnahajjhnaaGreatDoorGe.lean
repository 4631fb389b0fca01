import Derived.Test.YtenbbnahajjhnaaGreatDoorGd
set_option linter.all false
namespace Go.Proofs.YtenbbnahajjhnaaGreatDoor
open Go Go.Sy Go.RowKit
open Go.IntKind renaming wrap->jA
open _root_.Nat renaming beq->jC,ble->oC,blt->jE
open _root_.Option renaming bind->zA,some->qA
open _root_.Decidable renaming decide->vA
open _root_.Bool renaming false->oA,true->yA
set_option maxRecDepth 1000000
set_option maxHeartbeats 4000000
noncomputable def I0K(cs:List SV):a0d:=(⟨(gI (gN cs 0)),(gI (gN cs 1))⟩:a0d)
noncomputable def G0V(cs:List SV):a0V:=(⟨(gL I0K 2 (gN cs 0)),(gL I0K 2 (gN cs 1)),(gL I0K 2 (gN cs 2)),(gL I0K 2 (gN cs 3)),(gB (gN cs 4)),(gI (gN cs 5)),(gI (gN cs 6)),(gI (gN cs 7)),(gI (gN cs 8)),(gI (gN cs 9)),(gI (gN cs 10)),(gI (gN cs 11)),(gI (gN cs 12)),(gI (gN cs 13)),(gB (gN cs 14)),(gI (gN cs 15)),(gI (gN cs 16))⟩:a0V)
noncomputable def g27(cs:List SV):e0r:=(⟨(gI (gN cs 0)),(gI (gN cs 1)),(gI (gN cs 2)),(gI (gN cs 3)),(gI (gN cs 4)),(gI (gN cs 5)),(gI (gN cs 6))⟩:e0r)
noncomputable def I0L(cs:List SV):h0N:=(⟨(gL gI1 1 (gN cs 0)),(gL gI1 1 (gN cs 1))⟩:h0N)
noncomputable def g78(cs:List SV):d0p:=(⟨(gI (gN cs 0)),(gI (gN cs 1)),(gS (gN cs 2))⟩:d0p)
noncomputable def g87(cs:List SV):d0H:=(⟨(gI (gN cs 0)),(gS (gN cs 1))⟩:d0H)
noncomputable def g76(cs:List SV):d0N:=(⟨(gS (gN cs 0)),(gS (gN cs 1)),(gI (gN cs 2))⟩:d0N)
noncomputable def g33(cs:List SV):c0x:=(⟨(gS (gN cs 0)),(⟨(gI (gN cs 1)),(gI (gN cs 2)),(gI (gN cs 3)),(gI (gN cs 4)),(gI (gN cs 5)),(gI (gN cs 6)),(gI (gN cs 7))⟩:e0r),(⟨(gS (gN cs 8)),(gS (gN cs 9)),(gS (gN cs 10)),(gS (gN cs 11))⟩:x0k),(gL g87 2 (gN cs 12)),(gL g76 3 (gN cs 13)),(gL g78 3 (gN cs 14))⟩:c0x)
noncomputable def l0e:List SV->Option SV
 | [a0]=>bif u0M [a0] [lsv (a0l .u8) 1 (gL gI1 1 a0)]then Option.rec (motive:=λ_=>Option SV) none (λr=>qA ((.tup [lsv (a0l .i32) 1 r.1, .int .i64 r.2.1, .int .i64 r.2.2]))) (f0S (gL gI1 1 a0))else none
 |_=>none
theorem q0f:y0u Tryz.prog 28 l0e:=by
 intro l v h;unfold l0e at h;split at h;obtain⟨hl,h⟩:=y0m h;obtain⟨r,hr,h⟩:=w0y h;obtain rfl:=al h;exact(j0t hr).weak (f0A hl);cases h
noncomputable def o0e:List SV->Option SV
 | [a0,a1,a2,a3]=>bif u0M [a0,a1,a2,a3] [.agg (a0g (gA G0V a0)), .agg (a0T (gA g27 a1)), .int .i64 (gI a2),lsv (a0l .i32) 1 (gL gI1 1 a3)]then Option.rec (motive:=λ_=>Option SV) none (λr=>qA ((.agg (h0a r)))) (h0d (gA G0V a0) (gA g27 a1) (gI a2) (gL gI1 1 a3))else none
 |_=>none
theorem s0u:y0u Tryz.prog 88 o0e:=by
 intro l v h;unfold o0e at h;split at h;obtain⟨hl,h⟩:=y0m h;obtain⟨r,hr,h⟩:=w0y h;obtain rfl:=al h;exact(h0M hr).weak (f0A hl);cases h
noncomputable def l0f:List SV->Option SV
 | [a0,a1,a2]=>bif u0M [a0,a1,a2] [.agg (a0T (gA g27 a0)), .agg (a0g (gA G0V a1)),lsv (a0l .i32) 1 (gL gI1 1 a2)]then Option.rec (motive:=λ_=>Option SV) none (λr=>qA ((.agg (f0E r)))) (e0f (gA g27 a0) (gA G0V a1) (gL gI1 1 a2))else none
 |_=>none
theorem q0g:y0u Tryz.prog 85 l0f:=by
 intro l v h;unfold l0f at h;split at h;obtain⟨hl,h⟩:=y0m h;obtain⟨r,hr,h⟩:=w0y h;obtain rfl:=al h;exact(f0x hr).weak (f0A hl);cases h
noncomputable def o0b:List SV->Option SV
 | [a0,a1]=>bif u0M [a0,a1] [.agg (a0T (gA g27 a0)),lsv (a0l .i32) 1 (gL gI1 1 a1)]then Option.rec (motive:=λ_=>Option SV) none (λr=>qA ((.bool r))) (j0v (gA g27 a0) (gL gI1 1 a1))else none
 |_=>none
theorem s0r:y0u Tryz.prog 129 o0b:=by
 intro l v h;unfold o0b at h;split at h;obtain⟨hl,h⟩:=y0m h;obtain⟨r,hr,h⟩:=w0y h;obtain rfl:=al h;exact(m0l hr).weak (f0A hl);cases h
noncomputable def l0g:List SV->Option SV
 | [a0,a1]=>bif u0M [a0,a1] [.agg (h0a (gA I0L a0)), .agg (h0a (gA I0L a1))]then Option.rec (motive:=λ_=>Option SV) none (λr=>qA ((.bool r))) (b0i (gA I0L a0) (gA I0L a1))else none
 |_=>none
theorem q0i:y0u Tryz.prog 132 l0g:=by
 intro l v h;unfold l0g at h;split at h;obtain⟨hl,h⟩:=y0m h;obtain⟨r,hr,h⟩:=w0y h;obtain rfl:=al h;exact(b0S hr).weak (f0A hl);cases h
noncomputable def h0A:List SV->Option SV
 | [a0,a1,a2]=>bif u0M [a0,a1,a2] [.agg (a0T (gA g27 a0)), .agg (a0g (gA G0V a1)),lsv (a0l .i32) 1 (gL gI1 1 a2)]then Option.rec (motive:=λ_=>Option SV) none (λr=>qA ((.bool r))) (c0W (gA g27 a0) (gA G0V a1) (gL gI1 1 a2))else none
 |_=>none
theorem n0h:y0u Tryz.prog 123 h0A:=by
 intro l v h;unfold h0A at h;split at h;obtain⟨hl,h⟩:=y0m h;obtain⟨r,hr,h⟩:=w0y h;obtain rfl:=al h;exact(e0K hr).weak (f0A hl);cases h
noncomputable def o0d:List SV->Option SV
 | [a0]=>bif u0M [a0] [.int .i32 (gI a0)]then Option.rec (motive:=λ_=>Option SV) none (λr=>qA ((.int .i64 r))) (j0R (gI a0))else none
 |_=>none
theorem s0t:y0u Tryz.prog 119 o0d:=by
 intro l v h;unfold o0d at h;split at h;obtain⟨hl,h⟩:=y0m h;obtain⟨r,hr,h⟩:=w0y h;obtain rfl:=al h;exact(m0A hr).weak (f0A hl);cases h
noncomputable def j0H:List SV->Option SV
 | [a0,a1,a2]=>bif u0M [a0,a1,a2] [.agg (a0T (gA g27 a0)), .int .i64 (gI a1), .str (gS a2)]then Option.rec (motive:=λ_=>Option SV) none (λr=>qA ((.tup [.agg (a0g r.1), .bool r.2]))) (b0T (gA g27 a0) (gI a1) (gS a2))else none
 |_=>none
theorem o0X:y0u Tryz.prog 78 j0H:=by
 intro l v h;unfold j0H at h;split at h;obtain⟨hl,h⟩:=y0m h;obtain⟨r,hr,h⟩:=w0y h;obtain rfl:=al h;exact(b0Q hr).weak (f0A hl);cases h
noncomputable def m0t:List SV->Option SV
 | [a0,a1]=>bif u0M [a0,a1] [.agg (a0T (gA g27 a0)), .agg (a0k (gA g78 a1))]then Option.rec (motive:=λ_=>Option SV) none (λr=>qA ((.tup [.agg (a0g r.1), .bool r.2]))) (g0q (gA g27 a0) (gA g78 a1))else none
 |_=>none
theorem q0L:y0u Tryz.prog 82 m0t:=by
 intro l v h;unfold m0t at h;split at h;obtain⟨hl,h⟩:=y0m h;obtain⟨r,hr,h⟩:=w0y h;obtain rfl:=al h;exact(i0h hr).weak (f0A hl);cases h
noncomputable def q0h:List SV->Option SV
 | [a0]=>bif u0M [a0] [.agg (b0s (gA g33 a0))]then Option.rec (motive:=λ_=>Option SV) none (λr=>qA ((.agg (j0M r)))) (m0C (gA g33 a0))else none
 |_=>none
theorem u0g:y0u Tryz.prog 17 q0h:=by
 intro l v h;unfold q0h at h;split at h;obtain⟨hl,h⟩:=y0m h;obtain⟨r,hr,h⟩:=w0y h;obtain rfl:=al h;exact(r0w hr).weak (f0A hl);cases h
noncomputable def o0a:List SV->Option SV
 | [a0]=>bif u0M [a0] [.agg (a0T (gA g27 a0))]then Option.rec (motive:=λ_=>Option SV) none (λr=>qA ((.bool r))) (l0B (gA g27 a0))else none
 |_=>none
theorem s0q:y0u Tryz.prog 77 o0a:=by
 intro l v h;unfold o0a at h;split at h;obtain⟨hl,h⟩:=y0m h;obtain⟨r,hr,h⟩:=w0y h;obtain rfl:=al h;exact(p0E hr).weak (f0A hl);cases h
noncomputable def e0S:List SV->Option SV
 | [a0,a1]=>bif u0M [a0,a1] [.int .u32 (gI a0), .int .u8 (gI a1)]then Option.rec (motive:=λ_=>Option SV) none (λr=>qA ((.int .u32 r))) (c0P (gI a0) (gI a1))else none
 |_=>none
theorem k0x:y0u Tryz.prog 91 e0S:=by
 intro l v h;unfold e0S at h;split at h;obtain⟨hl,h⟩:=y0m h;obtain⟨r,hr,h⟩:=w0y h;obtain rfl:=al h;exact(g0L hr).weak (f0A hl);cases h
noncomputable def o0c:List SV->Option SV
 | [a0,a1]=>bif u0M [a0,a1] [.int .u32 (gI a0), .int .u8 (gI a1)]then Option.rec (motive:=λ_=>Option SV) none (λr=>qA ((.int .u32 r))) (l0P (gI a0) (gI a1))else none
 |_=>none
theorem s0s:y0u Tryz.prog 211 o0c:=by
 intro l v h;unfold o0c at h;split at h;obtain⟨hl,h⟩:=y0m h;obtain⟨r,hr,h⟩:=w0y h;obtain rfl:=al h;exact(q0t hr).weak (f0A hl);cases h
noncomputable def knG:CallT:=λf args H=>List.rec (motive:=λ_=>Option (SV×a0e)) (Option.rec (motive:=λ_=>Option (SV×a0e)) none (λv=>qA (v,[])) (bif jC f 28 then l0e args else bif jC f 88 then o0e args else bif jC f 85 then l0f args else bif jC f 129 then o0b args else bif jC f 132 then l0g args else bif jC f 123 then h0A args else bif jC f 119 then o0d args else bif jC f 78 then j0H args else bif jC f 82 then m0t args else bif jC f 17 then q0h args else bif jC f 77 then o0a args else bif jC f 91 then e0S args else bif jC f 211 then o0c args else none)) (λ_ _ _=>none) H
theorem H0R:knG.Ok Tryz.prog:=by
 intro f args H v H' h;unfold knG at h
 cases H with
 |cons a b=>cases h
 |nil=>
  obtain⟨r,hr,h⟩:=w0y h;obtain⟨rfl,rfl⟩:=bA (al h);rcases y0n hr with⟨hb,hr⟩|hr;obtain rfl:=af hb;exact q0f _ _ hr;rcases y0n hr with⟨hb,hr⟩|hr;obtain rfl:=af hb;exact s0u _ _ hr;rcases y0n hr with⟨hb,hr⟩|hr;obtain rfl:=af hb;exact q0g _ _ hr;rcases y0n hr with⟨hb,hr⟩|hr;obtain rfl:=af hb;exact s0r _ _ hr;rcases y0n hr with⟨hb,hr⟩|hr;obtain rfl:=af hb;exact q0i _ _ hr;rcases y0n hr with⟨hb,hr⟩|hr;obtain rfl:=af hb;exact n0h _ _ hr;rcases y0n hr with⟨hb,hr⟩|hr;obtain rfl:=af hb;exact s0t _ _ hr;rcases y0n hr with⟨hb,hr⟩|hr;obtain rfl:=af hb;exact o0X _ _ hr;rcases y0n hr with⟨hb,hr⟩|hr;obtain rfl:=af hb;exact q0L _ _ hr;rcases y0n hr with⟨hb,hr⟩|hr;obtain rfl:=af hb;exact u0g _ _ hr;rcases y0n hr with⟨hb,hr⟩|hr;obtain rfl:=af hb;exact s0q _ _ hr;rcases y0n hr with⟨hb,hr⟩|hr;obtain rfl:=af hb;exact k0x _ _ hr;rcases y0n hr with⟨hb,hr⟩|hr;obtain rfl:=af hb;exact s0s _ _ hr;cases hr
def fzs:List Nat:=[8,6,10,11,12,13,15,16,33,32,31,26,27,34]
noncomputable def knB:CallT:=knD Tryz.prog fzs [32] 100000 1000 knG
theorem n0g:knB.Ok Tryz.prog:=H0S H0R
def eB0:List SV:=([69,88,76,66,0,1,0,6,0,0,0,56,0,0,0,57,0,0,0,113,0,0,0,30,0,0,0,143,0,0,0,8,0,0,0,151,0,0,0,2,0,0,0,153,0,0,0,7,0,0,0,160,0,0,0,6,0,8,0,2,101,110,0,8,35,44,35,35,48,46,35,35,0,6,35,44,35,35,48,37,0,7,48,46,35,35,35,69,48,0,10,194,164,35,44,35,35,48,46,48,48,0,3,85,83,68,0,1,36,0,2,48,75,0,0,0,0,0,48,0,0,0,46,0,0,0,44,0,0,0,45,0,0,0,43,0,0,0,37,0,0,0,69,0,1,0,2,0,3,0,4,0,0,0,1,0,5,0,6,2,0,1,4,0,0,7,15,30,229,95]:List Int).map (SV.int .u8)
def eL(r:List SV):List SV:=[.str [101,110], .int .i32 (48), .int .i32 (46), .int .i32 (44), .int .i32 (45), .int .i32 (43), .int .i32 (37), .int .i32 (69), .str [35,44,35,35,48,46,35,35], .str [35,44,35,35,48,37], .str [48,46,35,35,35,69,48], .str [194,164,35,44,35,35,48,46,48,48]]++r
theorem evE {kn:CallT} {f:Nat} {A:List SV} {H0:a0e} {v:SV} {H1:a0e} (hk:kn.Ok Tryz.prog)(h:isR ((evA Tryz.prog kn fzs 100000 1000).1 f A H0) v H1=yA):SQ f A H0 v H1:=I0e hk h
def eA8:List SV:=[.agg (eL [.nl, .lst 1 3 [.str [85,83,68], .str [36], .int .i64 (2)], .lst 1 3 [.int .i64 (4), .int .i64 (0), .str [48,75]]])]
def eV8:SV:= .tup [.vc 0, .int .i64 (0)]
def eK8:a0e:=[.vec 170 1 5 eB0]
theorem e8:SQ 8 eA8 [] eV8 eK8:=evE n0g (by kernel_rfl)
def K0A:List SV:=[.lst 166 1 ((eB0).take 166)]
def K0r:SV:= .tup [.agg (eL [.nl, .vc 0, .vc 1]), .bool yA]
def K0x:a0e:=[.vec 1 3 77 [.str [85,83,68], .str [36], .int .i64 (2)], .vec 1 3 79 [.int .i64 (4), .int .i64 (0), .str [48,75]]]
theorem e32:SQ 32 K0A [] K0r K0x:=evE n0g (by kernel_rfl)
def K0z:List SV:=[.agg (eL [.nl, .lst 1 3 [.str [85,83,68], .str [36], .int .i64 (2)], .lst 1 3 [.int .i64 (4), .int .i64 (0), .str [48,75]]])]
def K0q:SV:= .tup [.vc 0, .int .i64 (0)]
def K0w:a0e:=[.vec 170 1 5 eB0]
theorem e33:SQ 33 K0z [] K0q K0w:=evE n0g (by kernel_rfl)
def K0C:List SV:=[.lst 170 1 eB0]
def K0t:SV:= .tup [.agg (eL [.nl, .lst 1 3 [.str [85,83,68], .str [36], .int .i64 (2)], .lst 1 3 [.int .i64 (4), .int .i64 (0), .str [48,75]]]), .int .i64 (0)]
theorem e15:SQ 15 K0C [] K0t []:=evE (o0A e33 (o0A e32 n0g)) (by kernel_rfl)
def K0B:List SV:=[.agg (eL [.nl, .lst 1 3 [.str [85,83,68], .str [36], .int .i64 (2)], .lst 1 3 [.int .i64 (4), .int .i64 (0), .str [48,75]]])]
def K0s:SV:= .tup [.int .i64 (0), .int .i64 (0), .int .i64 (0)]
theorem e16:SQ 16 K0B [] K0s []:=evE n0g (by kernel_rfl)
def eA6:List SV:=[.lst 170 1 eB0]
def eV6:SV:= .tup [.agg (eL [.lst 0 2 [], .lst 1 3 [.str [85,83,68], .str [36], .int .i64 (2)], .lst 1 3 [.int .i64 (4), .int .i64 (0), .str [48,75]], .int .i64 (1), .int .i64 (2), .int .i64 (1), .int .i64 (2), .int .i64 (2), .int .i64 (0), .int .i64 (0), .int .i64 (0), .int .i64 (0), .int .i64 (0)]), .int .i64 (0), .int .i64 (0), .int .i64 (0)]
theorem e6:SQ 6 eA6 [] eV6 []:=evE (o0A e16 (o0A e15 n0g)) (by kernel_rfl)
def K0E:List SV:=[.agg (eL [.lst 0 2 [], .lst 1 3 [.str [85,83,68], .str [36], .int .i64 (2)], .lst 1 3 [.int .i64 (4), .int .i64 (0), .str [48,75]], .int .i64 (1), .int .i64 (2), .int .i64 (1), .int .i64 (2), .int .i64 (2), .int .i64 (0), .int .i64 (0), .int .i64 (0), .int .i64 (0), .int .i64 (0)]), .agg [.int .i64 (0), .int .i64 (0), .str [], .nl, .bool oA, .bool oA, .bool oA], .agg [.bool oA, .lst 2 1 [.int .u8 (1), .int .u8 (2)], .int .i64 (-1)]]
def K0v:SV:= .tup [.vc 0, .int .i64 (0)]
def K0y:a0e:=[.vec 3 1 5 [.int .u8 (49), .int .u8 (46), .int .u8 (50)]]
theorem e10:SQ 10 K0E [] K0v K0y:=evE n0g (by kernel_rfl)
def K0D:List SV:=[.agg (eL [.lst 0 2 [], .lst 1 3 [.str [85,83,68], .str [36], .int .i64 (2)], .lst 1 3 [.int .i64 (4), .int .i64 (0), .str [48,75]], .int .i64 (1), .int .i64 (2), .int .i64 (1), .int .i64 (2), .int .i64 (2), .int .i64 (0), .int .i64 (0), .int .i64 (0), .int .i64 (0), .int .i64 (0)]), .agg [.int .i64 (0), .int .i64 (0), .str [], .nl, .bool oA, .bool oA, .bool oA], .lst 3 1 [.int .u8 (49), .int .u8 (46), .int .u8 (50)]]
def K0u:SV:= .tup [.agg [.bool oA, .lst 2 1 [.int .u8 (1), .int .u8 (2)], .int .i64 (-1)], .int .i64 (0), .int .i64 (0)]
theorem e11:SQ 11 K0D [] K0u []:=evE n0g (by kernel_rfl)
def eA4:List SV:=[]
def eV4:SV:= .bool yA
theorem e4:SQ 4 eA4 [] eV4 []:=evE (o0A e11 (o0A e10 (o0A e6 (o0A e8 n0g)))) (by kernel_rfl)
def g0E:Option Bool:=qA yA
theorem m0y {r:Bool} (h:g0E=qA r):SQ 4 [] [] (.bool r) []:=by
 obtain rfl:yA=r:=al h;exact e4
def c0Z(x0:G0Y):Option (Bool):=
 (zA g0E λy0=>(zA (d0j x0.B_ (⟨0,0,[],([]:List Int),oA,oA,oA⟩:G0X)) λy1=>(zA (zA (bif(!y1.2)then(qA yA)else(bif(vA (x0.k_<0))then(qA yA)else(bif(vA (x0.k_>((jA .i64 ((x0.B_.length:Int)-4)))))then(qA yA)else(bif((vA (x0.s_.f_=0))&&((vA (x0.s_.e_=0))&&((vA (x0.s_.h_=0))&&((vA (x0.s_.i_=0))&&yA))))then(qA yA)else(bif(vA (x0.M_<0))then(qA yA)else(qA ((vA (x0.M_≥(x0.B_.length:Int)))))))))) fun(s2:Bool)=>(bif s2 then(zA (bif y0 then(bif(!y1.2)then(qA yA)else(qA ((vA ((y1.1.L_.l_.length:Int)>0)))))else(qA oA)) fun(s3:Bool)=>(qA (.inr s3)))else(qA (.inl ())))) (a0x fun(s5:Unit)=>(bif room x0.B_.length then(zA (a0B (fun(s0:Int×(List Int))=>(bif(vA (s0.1<4))then(bif inR (jA .i64 (x0.k_+s0.1)) s0.2.length then(bif inR (jA .i64 (x0.k_+s0.1)) s0.2.length then(bif(vA (s0.1=0))then(bif inR (jA .i64 (x0.k_+s0.1)) s0.2.length then(bif inR (jA .i64 (x0.k_+s0.1)) s0.2.length then(qA (.inl ((jA .i64 (s0.1+1)),(a0W s0.2 (jA .i64 (x0.k_+s0.1)) ((bits .xor .u8 ((nth s0.2 (jA .i64 (x0.k_+s0.1)))) x0.s_.f_))))))else none)else none)else(bif(vA (s0.1=1))then(bif inR (jA .i64 (x0.k_+s0.1)) s0.2.length then(bif inR (jA .i64 (x0.k_+s0.1)) s0.2.length then(qA (.inl ((jA .i64 (s0.1+1)),(a0W s0.2 (jA .i64 (x0.k_+s0.1)) ((bits .xor .u8 ((nth s0.2 (jA .i64 (x0.k_+s0.1)))) x0.s_.e_))))))else none)else none)else(bif(vA (s0.1=2))then(bif inR (jA .i64 (x0.k_+s0.1)) s0.2.length then(bif inR (jA .i64 (x0.k_+s0.1)) s0.2.length then(qA (.inl ((jA .i64 (s0.1+1)),(a0W s0.2 (jA .i64 (x0.k_+s0.1)) ((bits .xor .u8 ((nth s0.2 (jA .i64 (x0.k_+s0.1)))) x0.s_.h_))))))else none)else none)else(bif(vA (s0.1=3))then(bif inR (jA .i64 (x0.k_+s0.1)) s0.2.length then(bif inR (jA .i64 (x0.k_+s0.1)) s0.2.length then(qA (.inl ((jA .i64 (s0.1+1)),(a0W s0.2 (jA .i64 (x0.k_+s0.1)) ((bits .xor .u8 ((nth s0.2 (jA .i64 (x0.k_+s0.1)))) x0.s_.i_))))))else none)else none)else none))))else none)else none)else(qA (.inr s0.2)))) big (0,x0.B_)) fun(s1:(List Int))=>(zA (e0D s1) λy2=>(bif inS 0 x0.M_ x0.B_.length then(zA (e0D (cut x0.B_ 0 x0.M_)) λy3=>(zA (c0r s1) λy4=>(zA (bif y0 then(bif(vA (y2.2.2.2=6))then(bif(vA (¬y3.2.2.2=0))then(qA (vA (y4.2=6)))else(qA oA))else(qA oA))else(qA oA)) fun(s4:Bool)=>(qA s4))))else none)))else none)))))
theorem j0h {x0:G0Y} {r:Bool} (h:c0Z x0=qA r):SQ 3 [.agg (v0T x0)] [] (.bool r) []:=by
 refine kFn (fn:=Tryz.f3) (λF D W V=> ?_);unfold c0Z at h;refine kq (kq (kq (kq (kq (kSR (kAb 30 h (λ_=>m0y) (λy0 h4=>kr 1 (kn 2 ?_))))))));obtain⟨y1,hy0,h5⟩:=a0I h4;refine RJ.call0 (d:=(qA 34)) (f:=5) (args:=[lB x0.B_, .agg [iL 0,iL 0, .str [], .nl, .bool oA, .bool oA, .bool oA]]) (v:= .tup [.agg (j0M y1.1), .bool y1.2]) (tr2:=[]) (by kernel_rfl) (by kernel_rfl) (.cons (Le.refl _) (.cons (Le.agg (.cons (Le.refl _) (.cons (Le.refl _) (.cons (Le.refl _) (.cons (Le.nl _) (LeL.refl _)))))) .nil)) (l0Z hy0) (by kernel_rfl) (kr 6 (kcX h5 (fun(s5:Unit)=>([(2, .bool oA),(3,lB x0.B_),(4,iL x0.k_),(5, .ptr 0 0),(6,iL x0.M_),(7, .bool y0)],[.box (e0p x0.s_)])) (λy5 hy1 h6=> ?_) (λs5 h7=> ?_)));exact kcN hy1 (fun(s2:Bool)=>([(2, .bool oA),(3,lB x0.B_),(4,iL x0.k_),(5, .ptr 0 0),(6,iL x0.M_),(7, .bool y0),(8, .ptr 1 0),(9, .bool y1.2),(64, .bool s2)],[.box (e0p x0.s_), .box (j0M y1.1)])) (λs2 hy2=>km 3 (kB 39 hy2 (λh9=>ke 25 (kNW h9 W V [1,2])) (λh10=>kc 4 (kB 43 h10 (λh11=>ke 21 (kNW h11 W V [1,2])) (λh12=>kc 7 (kB 50 h12 (λh13=>ke 14 (kNW h13 W V [1,2])) (λh14=>kc 5 (kB 55 h14 (λh15=>ke 9 (kNW h15 W V [1,2])) (λh16=>kc 4 (kB 59 h16 (λh17=>ke 5 (kNW h17 W V [1,2])) (λh18=>ke 5 (kNW h18 W V [1,2])))))))))))) (λs2 h8=>kBT 64 h8 (λh19=>kcN h19 (fun(s3:Bool)=>([(2, .bool s3),(3,lB x0.B_),(4,iL x0.k_),(5, .ptr 0 0),(6,iL x0.M_),(7, .bool y0)],[.box (e0p x0.s_)])) (λs3 hy3=>km 2 (kB 66 hy3 (λh22=>kc 3 (kB 69 h22 (λh24=>ke 8 (kNW h24 W V [0])) (λh25=>ke 8 (kNW h25 W V [0])))) (λh23=>ke 11 (kNW h23 W V [0])))) (λs3 h21=>kX (kCx h21 h6 (λh26=>by obtain rfl:=oi h26;exact kZ D W V)))) (λh20=>kK (kXW h20 W V [0])))
 ·refine kn 2 ?_
  obtain⟨hm,h27⟩:=c0l h7;refine RJ.rel (d:=(qA 79)) (ef:=⟨.vc 1,[],[(1, .vec x0.B_.length 1 5 (x0.B_.flatMap (a0l .u8)))]⟩) (ef':=⟨.vc 1,[],[(1, .vec x0.B_.length 1 5 (x0.B_.flatMap (a0l .u8)))]⟩) (c:=i0V x0.B_.length) (tr2:=[]) (H2:=[.box (e0p x0.s_),a0t (a0l .u8) 1 5 x0.B_]) (by kernel_rfl) (a0R hm) (λhc=>rfl) (by kernel_rfl) (kr 1 (kcN h27 (fun(s1:(List Int))=>([(2, .bool oA),(3,lB x0.B_),(6,iL x0.M_),(7, .bool y0),(10, .vc 0)],[a0t (a0l .u8) 1 5 s1])) (λs1 hy4=> ?_) (λs1 h28=> ?_)))
  ·refine kq (kb 0 (kl (fun(s0:Int×(List Int))=>([(2, .bool oA),(3,lB x0.B_),(4,iL x0.k_),(5, .ptr 0 0),(6,iL x0.M_),(7, .bool y0),(10, .vc 1),(11,iL s0.1)],[.box (e0p x0.s_),a0t (a0l .u8) 1 5 s0.2])) hy4 [2,3,4,5,6,7,10,11] (λs0 x234 hs0=>kS (kq (kBT 81 hs0 (λh29=> ?_) (λh30=> ?_))))))
   ·refine kKN (kS (kb 1 (kDr (kD 8 ?_))))
    obtain⟨hm,h31⟩:=c0l h29;refine kQ 92 (.ptr 1 (((jA .i64 (x0.k_+s0.1)):Int).toNat*1)) [1] (tr2:=[([],[]),([],[]),([],[]),([],[]),([],[]),([],[]),([],[]),([],[]),([3],[])]) hm ?_;obtain⟨hm,h0⟩:=c0l h31;refine RJ.rel (d:=(qA 93)) (ef:=⟨(((s0.2).flatMap (a0l .u8)).drop (((jA .i64 (x0.k_+s0.1)):Int).toNat*1)).headD .undef,[1],[]⟩) (ef':=⟨.int .u8 ((nth s0.2 (jA .i64 (x0.k_+s0.1)))),[1],[]⟩) (c:=jE (((jA .i64 (x0.k_+s0.1)):Int).toNat*1) (s0.2.flatMap (a0l .u8)).length) (tr2:=[([],[]),([],[]),([],[]),([],[]),([],[]),([],[]),([],[]),([],[]),([3],[]),([2,3],[])]) (H2:=[.box (e0p x0.s_),a0t (a0l .u8) 1 5 s0.2]) (by kernel_rfl) (C0W (a0n .u8) rfl hm) (λhc=>N.load1 (a0n .u8) (λ_=>rfl) hm) (by kernel_rfl) (kD 1 ?_)
    cases hb0:(vA (s0.1=0))
    ·have h1:=condF hb0 h0
     cases hb1:(vA (s0.1=1))
     ·have h2:=condF hb1 h1
      cases hb2:(vA (s0.1=2))
      ·have h3:=condF hb2 h2
       cases hb3:(vA (s0.1=3));have h32:=condF hb3 h3
       cases h32
       ·have h33:=condT hb3 h3
        refine RJ.pin 94 (kd:= .i64) (by kernel_rfl) (jB hb3) (kD 3 ?_);obtain⟨hm,h34⟩:=c0l h33;refine kQ 98 (.ptr 1 (((jA .i64 (x0.k_+s0.1)):Int).toNat*1)) [1] (tr2:=[([],[]),([],[]),([],[]),([],[]),([],[]),([],[]),([],[]),([],[]),([3],[]),([2,3],[]),([],[]),([],[]),([0,1],[]),([],[]),([3],[])]) hm ?_;obtain⟨hm,h35⟩:=c0l h34;exact RJ.rel (d:=none) (ef:=⟨.undef,[1],[(1, .vec (s0.2).length 1 5 (splice ((s0.2).flatMap (a0l .u8)) ((((jA .i64 (x0.k_+s0.1)):Int).toNat*1)) ((a0l .u8) ((bits .xor .u8 ((nth s0.2 (jA .i64 (x0.k_+s0.1)))) x0.s_.i_)))))]⟩) (ef':=⟨.undef,[1],[(1,a0t (a0l .u8) 1 5 (a0W s0.2 (jA .i64 (x0.k_+s0.1)) ((bits .xor .u8 ((nth s0.2 (jA .i64 (x0.k_+s0.1)))) x0.s_.i_))))]⟩) (c:=oC ((((jA .i64 (x0.k_+s0.1)):Int).toNat*1)+((a0l .u8) ((bits .xor .u8 ((nth s0.2 (jA .i64 (x0.k_+s0.1)))) x0.s_.i_))).length) (s0.2.flatMap (a0l .u8)).length) (tr2:=[([],[]),([],[]),([],[]),([],[]),([],[]),([],[]),([],[]),([],[]),([3],[]),([2,3],[]),([],[]),([],[]),([0,1],[]),([],[]),([3],[]),([2,3],[2])]) (H2:=[.box (e0p x0.s_),a0t (a0l .u8) 1 5 ((a0W s0.2 (jA .i64 (x0.k_+s0.1)) ((bits .xor .u8 ((nth s0.2 (jA .i64 (x0.k_+s0.1)))) x0.s_.i_))))]) (by kernel_rfl) (i0R (a0n .u8) hm) (λhc=>N.store (a0n .u8) hm) (by kernel_rfl) (kE (PJ.blockNormal (PJ.next (kM (kLo h35 [2,3,4,5,6,7,10,11])))))
      ·have h36:=condT hb2 h2
       refine RJ.pin 94 (kd:= .i64) (by kernel_rfl) (jB hb2) (kD 3 ?_);obtain⟨hm,h37⟩:=c0l h36;refine kQ 98 (.ptr 1 (((jA .i64 (x0.k_+s0.1)):Int).toNat*1)) [1] (tr2:=[([],[]),([],[]),([],[]),([],[]),([],[]),([],[]),([],[]),([],[]),([3],[]),([2,3],[]),([],[]),([],[]),([0,1],[]),([],[]),([3],[])]) hm ?_;obtain⟨hm,h38⟩:=c0l h37;exact RJ.rel (d:=none) (ef:=⟨.undef,[1],[(1, .vec (s0.2).length 1 5 (splice ((s0.2).flatMap (a0l .u8)) ((((jA .i64 (x0.k_+s0.1)):Int).toNat*1)) ((a0l .u8) ((bits .xor .u8 ((nth s0.2 (jA .i64 (x0.k_+s0.1)))) x0.s_.h_)))))]⟩) (ef':=⟨.undef,[1],[(1,a0t (a0l .u8) 1 5 (a0W s0.2 (jA .i64 (x0.k_+s0.1)) ((bits .xor .u8 ((nth s0.2 (jA .i64 (x0.k_+s0.1)))) x0.s_.h_))))]⟩) (c:=oC ((((jA .i64 (x0.k_+s0.1)):Int).toNat*1)+((a0l .u8) ((bits .xor .u8 ((nth s0.2 (jA .i64 (x0.k_+s0.1)))) x0.s_.h_))).length) (s0.2.flatMap (a0l .u8)).length) (tr2:=[([],[]),([],[]),([],[]),([],[]),([],[]),([],[]),([],[]),([],[]),([3],[]),([2,3],[]),([],[]),([],[]),([0,1],[]),([],[]),([3],[]),([2,3],[2])]) (H2:=[.box (e0p x0.s_),a0t (a0l .u8) 1 5 ((a0W s0.2 (jA .i64 (x0.k_+s0.1)) ((bits .xor .u8 ((nth s0.2 (jA .i64 (x0.k_+s0.1)))) x0.s_.h_))))]) (by kernel_rfl) (i0R (a0n .u8) hm) (λhc=>N.store (a0n .u8) hm) (by kernel_rfl) (kE (PJ.blockNormal (PJ.next (kM (kLo h38 [2,3,4,5,6,7,10,11])))))
     ·have h39:=condT hb1 h1
      refine RJ.pin 94 (kd:= .i64) (by kernel_rfl) (jB hb1) (kD 3 ?_);obtain⟨hm,h40⟩:=c0l h39;refine kQ 98 (.ptr 1 (((jA .i64 (x0.k_+s0.1)):Int).toNat*1)) [1] (tr2:=[([],[]),([],[]),([],[]),([],[]),([],[]),([],[]),([],[]),([],[]),([3],[]),([2,3],[]),([],[]),([],[]),([0,1],[]),([],[]),([3],[])]) hm ?_;obtain⟨hm,h41⟩:=c0l h40;exact RJ.rel (d:=none) (ef:=⟨.undef,[1],[(1, .vec (s0.2).length 1 5 (splice ((s0.2).flatMap (a0l .u8)) ((((jA .i64 (x0.k_+s0.1)):Int).toNat*1)) ((a0l .u8) ((bits .xor .u8 ((nth s0.2 (jA .i64 (x0.k_+s0.1)))) x0.s_.e_)))))]⟩) (ef':=⟨.undef,[1],[(1,a0t (a0l .u8) 1 5 (a0W s0.2 (jA .i64 (x0.k_+s0.1)) ((bits .xor .u8 ((nth s0.2 (jA .i64 (x0.k_+s0.1)))) x0.s_.e_))))]⟩) (c:=oC ((((jA .i64 (x0.k_+s0.1)):Int).toNat*1)+((a0l .u8) ((bits .xor .u8 ((nth s0.2 (jA .i64 (x0.k_+s0.1)))) x0.s_.e_))).length) (s0.2.flatMap (a0l .u8)).length) (tr2:=[([],[]),([],[]),([],[]),([],[]),([],[]),([],[]),([],[]),([],[]),([3],[]),([2,3],[]),([],[]),([],[]),([0,1],[]),([],[]),([3],[]),([2,3],[2])]) (H2:=[.box (e0p x0.s_),a0t (a0l .u8) 1 5 ((a0W s0.2 (jA .i64 (x0.k_+s0.1)) ((bits .xor .u8 ((nth s0.2 (jA .i64 (x0.k_+s0.1)))) x0.s_.e_))))]) (by kernel_rfl) (i0R (a0n .u8) hm) (λhc=>N.store (a0n .u8) hm) (by kernel_rfl) (kE (PJ.blockNormal (PJ.next (kM (kLo h41 [2,3,4,5,6,7,10,11])))))
    ·have h42:=condT hb0 h0
     refine RJ.pin 94 (kd:= .i64) (by kernel_rfl) (jB hb0) (kD 3 ?_);obtain⟨hm,h43⟩:=c0l h42;refine kQ 98 (.ptr 1 (((jA .i64 (x0.k_+s0.1)):Int).toNat*1)) [1] (tr2:=[([],[]),([],[]),([],[]),([],[]),([],[]),([],[]),([],[]),([],[]),([3],[]),([2,3],[]),([],[]),([],[]),([0,1],[]),([],[]),([3],[])]) hm ?_;obtain⟨hm,h44⟩:=c0l h43;exact RJ.rel (d:=none) (ef:=⟨.undef,[1],[(1, .vec (s0.2).length 1 5 (splice ((s0.2).flatMap (a0l .u8)) ((((jA .i64 (x0.k_+s0.1)):Int).toNat*1)) ((a0l .u8) ((bits .xor .u8 ((nth s0.2 (jA .i64 (x0.k_+s0.1)))) x0.s_.f_)))))]⟩) (ef':=⟨.undef,[1],[(1,a0t (a0l .u8) 1 5 (a0W s0.2 (jA .i64 (x0.k_+s0.1)) ((bits .xor .u8 ((nth s0.2 (jA .i64 (x0.k_+s0.1)))) x0.s_.f_))))]⟩) (c:=oC ((((jA .i64 (x0.k_+s0.1)):Int).toNat*1)+((a0l .u8) ((bits .xor .u8 ((nth s0.2 (jA .i64 (x0.k_+s0.1)))) x0.s_.f_))).length) (s0.2.flatMap (a0l .u8)).length) (tr2:=[([],[]),([],[]),([],[]),([],[]),([],[]),([],[]),([],[]),([],[]),([3],[]),([2,3],[]),([],[]),([],[]),([0,1],[]),([],[]),([3],[]),([2,3],[2])]) (H2:=[.box (e0p x0.s_),a0t (a0l .u8) 1 5 ((a0W s0.2 (jA .i64 (x0.k_+s0.1)) ((bits .xor .u8 ((nth s0.2 (jA .i64 (x0.k_+s0.1)))) x0.s_.f_))))]) (by kernel_rfl) (i0R (a0n .u8) hm) (λhc=>N.store (a0n .u8) hm) (by kernel_rfl) (kE (PJ.blockNormal (PJ.next (kM (kLo h44 [2,3,4,5,6,7,10,11])))))
   exact kEp 0 (kLx h30 (λh45=>PJ.blockOut (kNW h45 W V [1])))
  refine kn 1 ?_;obtain⟨y2,hy5,h46⟩:=a0I h28;refine RJ.wk (Wk.freeze 0 (n:=s1.length) (k:=1) (e:=5) (cs:=s1.flatMap (a0l .u8)) (by kernel_rfl)) (kA 101 (l0s hy5) (kr 10 (kn 2 ?_)));obtain⟨hm,h47⟩:=c0l h46;exact RJ.rel (d:=(qA 109)) (ef:=⟨.lst ((x0.M_:Int).toNat-(0:Int).toNat) 1 (((x0.B_.flatMap (a0l .u8)).take ((x0.M_:Int).toNat*1)).drop ((0:Int).toNat*1)),[],[]⟩) (ef':=⟨.lst (cut x0.B_ 0 x0.M_).length 1 ((cut x0.B_ 0 x0.M_).flatMap (a0l .u8)),[],[]⟩) (c:=inS 0 x0.M_ x0.B_.length) (tr2:=[]) (H2:=[.gone, .box (j0M y2.1)]) (by kernel_rfl) hm (λhc=>N.slice (a0n .u8) hc) (by kernel_rfl) (kAb 110 h47 (λ_=>l0s) (λy3 h48=>kr 10 (kn 1 (kAb 117 h48 (λ_=>m0z) (λy4 h49=>kr 5 (kcN h49 (fun(s4:Bool)=>([(2, .bool s4)],[])) (λs4 hy6=>km 2 (kB 121 hy6 (λh51=>kc 4 (kB 125 h51 (λh53=>kc 4 (kB 129 h53 (λh55=>ke 4 (kNW h55 W V [])) (λh56=>ke 4 (kNW h56 W V [])))) (λh54=>ke 8 (kNW h54 W V [])))) (λh52=>ke 12 (kNW h52 W V [])))) (λs4 h50=>kX (by cases h50;exact kZ D W V))))))))
end Go.Proofs.YtenbbnahajjhnaaGreatDoor
