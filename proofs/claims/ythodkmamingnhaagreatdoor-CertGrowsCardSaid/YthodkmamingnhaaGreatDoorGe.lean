import Derived.Test.YthodkmamingnhaaGreatDoorGd
set_option linter.all false
namespace Go.Proofs.YthodkmamingnhaaGreatDoor
open Go Go.Sy Go.RowKit
set_option maxRecDepth 1000000
set_option maxHeartbeats 4000000
noncomputable def B0X(cs:List SV):a0c:=(⟨(gI (gN cs 0)),(gI (gN cs 1))⟩:a0c)
noncomputable def A0H(cs:List SV):a0j:=(⟨(gL B0X 2 (gN cs 0)),(gL B0X 2 (gN cs 1)),(gL B0X 2 (gN cs 2)),(gL B0X 2 (gN cs 3)),(gB (gN cs 4)),(gI (gN cs 5)),(gI (gN cs 6)),(gI (gN cs 7)),(gI (gN cs 8)),(gI (gN cs 9)),(gI (gN cs 10)),(gI (gN cs 11)),(gI (gN cs 12)),(gI (gN cs 13)),(gB (gN cs 14)),(gI (gN cs 15)),(gI (gN cs 16))⟩:a0j)
noncomputable def g22(cs:List SV):c0T:=(⟨(gI (gN cs 0)),(gI (gN cs 1)),(gI (gN cs 2)),(gI (gN cs 3)),(gI (gN cs 4)),(gI (gN cs 5)),(gI (gN cs 6))⟩:c0T)
noncomputable def B0Y(cs:List SV):f0B:=(⟨(gL gI1 1 (gN cs 0)),(gL gI1 1 (gN cs 1))⟩:f0B)
noncomputable def g72(cs:List SV):l0b:=(⟨(gI (gN cs 0)),(gI (gN cs 1)),(gS (gN cs 2))⟩:l0b)
noncomputable def g66(cs:List SV):o0h:=(⟨(gI (gN cs 0)),(gS (gN cs 1))⟩:o0h)
noncomputable def g69(cs:List SV):o0J:=(⟨(gS (gN cs 0)),(gS (gN cs 1)),(gI (gN cs 2))⟩:o0J)
noncomputable def g28(cs:List SV):g0l:=(⟨(gS (gN cs 0)),(⟨(gI (gN cs 1)),(gI (gN cs 2)),(gI (gN cs 3)),(gI (gN cs 4)),(gI (gN cs 5)),(gI (gN cs 6)),(gI (gN cs 7))⟩:c0T),(⟨(gS (gN cs 8)),(gS (gN cs 9)),(gS (gN cs 10)),(gS (gN cs 11))⟩:A0J),(gL g66 2 (gN cs 12)),(gL g69 3 (gN cs 13)),(gL g72 3 (gN cs 14))⟩:g0l)
noncomputable def j0t:List SV->Option SV
 | [a0]=>bif r0t [a0] [lsv (a0s .u8) 1 (gL gI1 1 a0)]then Option.rec (motive:=λ_=>Option SV) none (λr=>some ((.tup [lsv (a0s .i32) 1 r.1, .int .i64 r.2.1, .int .i64 r.2.2]))) (g0J (gL gI1 1 a0))else none
 |_=>none
theorem n0E:u0u Tryz.prog 36 j0t:=by
 intro l v h;unfold j0t at h;split at h
 obtain⟨hl,h⟩:=u0n h;obtain⟨r,hr,h⟩:=s0R h;obtain rfl:=au h;exact(l0d hr).weak (f0m hl)
 cases h
noncomputable def m0l:List SV->Option SV
 | [a0,a1,a2,a3]=>bif r0t [a0,a1,a2,a3] [.agg (a0b (gA A0H a0)), .agg (a0d (gA g22 a1)), .int .i64 (gI a2),lsv (a0s .i32) 1 (gL gI1 1 a3)]then Option.rec (motive:=λ_=>Option SV) none (λr=>some ((.agg (b0X r)))) (g0I (gA A0H a0) (gA g22 a1) (gI a2) (gL gI1 1 a3))else none
 |_=>none
theorem p0r:u0u Tryz.prog 46 m0l:=by
 intro l v h;unfold m0l at h;split at h
 obtain⟨hl,h⟩:=u0n h;obtain⟨r,hr,h⟩:=s0R h;obtain rfl:=au h;exact(h0f hr).weak (f0m hl)
 cases h
noncomputable def j0u:List SV->Option SV
 | [a0,a1,a2]=>bif r0t [a0,a1,a2] [.agg (a0d (gA g22 a0)), .agg (a0b (gA A0H a1)),lsv (a0s .i32) 1 (gL gI1 1 a2)]then Option.rec (motive:=λ_=>Option SV) none (λr=>some ((.agg (d0L r)))) (f0P (gA g22 a0) (gA A0H a1) (gL gI1 1 a2))else none
 |_=>none
theorem n0F:u0u Tryz.prog 118 j0u:=by
 intro l v h;unfold j0u at h;split at h
 obtain⟨hl,h⟩:=u0n h;obtain⟨r,hr,h⟩:=s0R h;obtain rfl:=au h;exact(i0g hr).weak (f0m hl)
 cases h
noncomputable def m0i:List SV->Option SV
 | [a0,a1]=>bif r0t [a0,a1] [.agg (a0d (gA g22 a0)),lsv (a0s .i32) 1 (gL gI1 1 a1)]then Option.rec (motive:=λ_=>Option SV) none (λr=>some ((.bool r))) (j0W (gA g22 a0) (gL gI1 1 a1))else none
 |_=>none
theorem p0o:u0u Tryz.prog 184 m0i:=by
 intro l v h;unfold m0i at h;split at h
 obtain⟨hl,h⟩:=u0n h;obtain⟨r,hr,h⟩:=s0R h;obtain rfl:=au h;exact(n0i hr).weak (f0m hl)
 cases h
noncomputable def j0v:List SV->Option SV
 | [a0,a1]=>bif r0t [a0,a1] [.agg (b0X (gA B0Y a0)), .agg (b0X (gA B0Y a1))]then Option.rec (motive:=λ_=>Option SV) none (λr=>some ((.bool r))) (e0o (gA B0Y a0) (gA B0Y a1))else none
 |_=>none
theorem n0H:u0u Tryz.prog 160 j0v:=by
 intro l v h;unfold j0v at h;split at h
 obtain⟨hl,h⟩:=u0n h;obtain⟨r,hr,h⟩:=s0R h;obtain rfl:=au h;exact(i0x hr).weak (f0m hl)
 cases h
noncomputable def g0Z:List SV->Option SV
 | [a0,a1,a2]=>bif r0t [a0,a1,a2] [.agg (a0d (gA g22 a0)), .agg (a0b (gA A0H a1)),lsv (a0s .i32) 1 (gL gI1 1 a2)]then Option.rec (motive:=λ_=>Option SV) none (λr=>some ((.bool r))) (d0H (gA g22 a0) (gA A0H a1) (gL gI1 1 a2))else none
 |_=>none
theorem l0w:u0u Tryz.prog 94 g0Z:=by
 intro l v h;unfold g0Z at h;split at h
 obtain⟨hl,h⟩:=u0n h;obtain⟨r,hr,h⟩:=s0R h;obtain rfl:=au h;exact(g0o hr).weak (f0m hl)
 cases h
noncomputable def m0k:List SV->Option SV
 | [a0]=>bif r0t [a0] [.int .i32 (gI a0)]then Option.rec (motive:=λ_=>Option SV) none (λr=>some ((.int .i64 r))) (i0r (gI a0))else none
 |_=>none
theorem p0q:u0u Tryz.prog 179 m0k:=by
 intro l v h;unfold m0k at h;split at h
 obtain⟨hl,h⟩:=u0n h;obtain⟨r,hr,h⟩:=s0R h;obtain rfl:=au h;exact(k0U hr).weak (f0m hl)
 cases h
noncomputable def i0h:List SV->Option SV
 | [a0,a1,a2]=>bif r0t [a0,a1,a2] [.agg (a0d (gA g22 a0)), .int .i64 (gI a1), .str (gS a2)]then Option.rec (motive:=λ_=>Option SV) none (λr=>some ((.tup [.agg (a0b r.1), .bool r.2]))) (d0I (gA g22 a0) (gI a1) (gS a2))else none
 |_=>none
theorem m0O:u0u Tryz.prog 90 i0h:=by
 intro l v h;unfold i0h at h;split at h
 obtain⟨hl,h⟩:=u0n h;obtain⟨r,hr,h⟩:=s0R h;obtain rfl:=au h;exact(e0z hr).weak (f0m hl)
 cases h
noncomputable def k0M:List SV->Option SV
 | [a0,a1]=>bif r0t [a0,a1] [.agg (a0d (gA g22 a0)), .agg (b0L (gA g72 a1))]then Option.rec (motive:=λ_=>Option SV) none (λr=>some ((.tup [.agg (a0b r.1), .bool r.2]))) (h0P (gA g22 a0) (gA g72 a1))else none
 |_=>none
theorem o0c:u0u Tryz.prog 48 k0M:=by
 intro l v h;unfold k0M at h;split at h
 obtain⟨hl,h⟩:=u0n h;obtain⟨r,hr,h⟩:=s0R h;obtain rfl:=au h;exact(m0A hr).weak (f0m hl)
 cases h
noncomputable def n0G:List SV->Option SV
 | [a0]=>bif r0t [a0] [.agg (a0y (gA g28 a0))]then Option.rec (motive:=λ_=>Option SV) none (λr=>some ((.agg (k0R r)))) (k0W (gA g28 a0))else none
 |_=>none
theorem q0N:u0u Tryz.prog 6 n0G:=by
 intro l v h;unfold n0G at h;split at h
 obtain⟨hl,h⟩:=u0n h;obtain⟨r,hr,h⟩:=s0R h;obtain rfl:=au h;exact(o0F hr).weak (f0m hl)
 cases h
noncomputable def m0h:List SV->Option SV
 | [a0]=>bif r0t [a0] [.agg (a0d (gA g22 a0))]then Option.rec (motive:=λ_=>Option SV) none (λr=>some ((.bool r))) (o0P (gA g22 a0))else none
 |_=>none
theorem p0n:u0u Tryz.prog 112 m0h:=by
 intro l v h;unfold m0h at h;split at h
 obtain⟨hl,h⟩:=u0n h;obtain⟨r,hr,h⟩:=s0R h;obtain rfl:=au h;exact(r0y hr).weak (f0m hl)
 cases h
noncomputable def e0H:List SV->Option SV
 | [a0,a1]=>bif r0t [a0,a1] [.int .u32 (gI a0), .int .u8 (gI a1)]then Option.rec (motive:=λ_=>Option SV) none (λr=>some ((.int .u32 r))) (f0R (gI a0) (gI a1))else none
 |_=>none
theorem i0L:u0u Tryz.prog 164 e0H:=by
 intro l v h;unfold e0H at h;split at h
 obtain⟨hl,h⟩:=u0n h;obtain⟨r,hr,h⟩:=s0R h;obtain rfl:=au h;exact(k0t hr).weak (f0m hl)
 cases h
noncomputable def m0j:List SV->Option SV
 | [a0,a1]=>bif r0t [a0,a1] [.int .u32 (gI a0), .int .u8 (gI a1)]then Option.rec (motive:=λ_=>Option SV) none (λr=>some ((.int .u32 r))) (p0y (gI a0) (gI a1))else none
 |_=>none
theorem p0p:u0u Tryz.prog 303 m0j:=by
 intro l v h;unfold m0j at h;split at h
 obtain⟨hl,h⟩:=u0n h;obtain⟨r,hr,h⟩:=s0R h;obtain rfl:=au h;exact(s0r hr).weak (f0m hl)
 cases h
noncomputable def knG:CallT:=λf args H=>List.rec (motive:=λ_=>Option (SV×a0f)) (Option.rec (motive:=λ_=>Option (SV×a0f)) none (λv=>some (v,[])) (bif Nat.beq f 36 then j0t args else bif Nat.beq f 46 then m0l args else bif Nat.beq f 118 then j0u args else bif Nat.beq f 184 then m0i args else bif Nat.beq f 160 then j0v args else bif Nat.beq f 94 then g0Z args else bif Nat.beq f 179 then m0k args else bif Nat.beq f 90 then i0h args else bif Nat.beq f 48 then k0M args else bif Nat.beq f 6 then n0G args else bif Nat.beq f 112 then m0h args else bif Nat.beq f 164 then e0H args else bif Nat.beq f 303 then m0j args else none)) (λ_ _ _=>none) H
theorem B0p:knG.Ok Tryz.prog:=by
 intro f args H v H' h;unfold knG at h
 cases H with
 |cons a b=>cases h
 |nil=>
  obtain⟨r,hr,h⟩:=s0R h;obtain⟨rfl,rfl⟩:=Prod.mk.inj (au h)
  rcases u0o hr with⟨hb,hr⟩|hr
  obtain rfl:=ae hb;exact n0E _ _ hr
  rcases u0o hr with⟨hb,hr⟩|hr
  obtain rfl:=ae hb;exact p0r _ _ hr
  rcases u0o hr with⟨hb,hr⟩|hr
  obtain rfl:=ae hb;exact n0F _ _ hr
  rcases u0o hr with⟨hb,hr⟩|hr
  obtain rfl:=ae hb;exact p0o _ _ hr
  rcases u0o hr with⟨hb,hr⟩|hr
  obtain rfl:=ae hb;exact n0H _ _ hr
  rcases u0o hr with⟨hb,hr⟩|hr
  obtain rfl:=ae hb;exact l0w _ _ hr
  rcases u0o hr with⟨hb,hr⟩|hr
  obtain rfl:=ae hb;exact p0q _ _ hr
  rcases u0o hr with⟨hb,hr⟩|hr
  obtain rfl:=ae hb;exact m0O _ _ hr
  rcases u0o hr with⟨hb,hr⟩|hr
  obtain rfl:=ae hb;exact o0c _ _ hr
  rcases u0o hr with⟨hb,hr⟩|hr
  obtain rfl:=ae hb;exact q0N _ _ hr
  rcases u0o hr with⟨hb,hr⟩|hr
  obtain rfl:=ae hb;exact p0n _ _ hr
  rcases u0o hr with⟨hb,hr⟩|hr
  obtain rfl:=ae hb;exact i0L _ _ hr
  rcases u0o hr with⟨hb,hr⟩|hr
  obtain rfl:=ae hb;exact p0p _ _ hr
  cases hr
def fzs:List Nat:=[9,11,12,13,14,15,7,8,32,33,58,57,56,34,35,59]
noncomputable def knB:CallT:=knD Tryz.prog fzs [57] 100000 1000 knG
theorem k0C:knB.Ok Tryz.prog:=B0q B0p
def eB0:List SV:=([69,88,76,66,0,1,0,6,0,0,0,56,0,0,0,57,0,0,0,113,0,0,0,30,0,0,0,143,0,0,0,8,0,0,0,151,0,0,0,2,0,0,0,153,0,0,0,7,0,0,0,160,0,0,0,6,0,8,0,2,101,110,0,8,35,44,35,35,48,46,35,35,0,6,35,44,35,35,48,37,0,7,48,46,35,35,35,69,48,0,10,194,164,35,44,35,35,48,46,48,48,0,3,85,83,68,0,1,36,0,2,48,75,0,0,0,0,0,48,0,0,0,46,0,0,0,44,0,0,0,45,0,0,0,43,0,0,0,37,0,0,0,69,0,1,0,2,0,3,0,4,0,0,0,1,0,5,0,6,2,0,1,4,0,0,7,15,30,229,95]:List Int).map (SV.int .u8)
def eL(r:List SV):List SV:=[.str [101,110], .int .i32 (48), .int .i32 (46), .int .i32 (44), .int .i32 (45), .int .i32 (43), .int .i32 (37), .int .i32 (69), .str [35,44,35,35,48,46,35,35], .str [35,44,35,35,48,37], .str [48,46,35,35,35,69,48], .str [194,164,35,44,35,35,48,46,48,48]]++r
theorem evE {kn:CallT} {f:Nat} {A:List SV} {H0:a0f} {v:SV} {H1:a0f} (hk:kn.Ok Tryz.prog)(h:isR ((evA Tryz.prog kn fzs 100000 1000).1 f A H0) v H1=true):SQ f A H0 v H1:=B0y hk h
def eA9:List SV:=[.agg (eL [.nl, .lst 1 3 [.str [85,83,68], .str [36], .int .i64 (2)], .lst 1 3 [.int .i64 (4), .int .i64 (0), .str [48,75]]])]
def eV9:SV:= .tup [.vc 0, .int .i64 (0)]
def eK9:a0f:=[.vec 170 1 5 eB0]
theorem e9:SQ 9 eA9 [] eV9 eK9:=evE k0C (by kernel_rfl)
def D0k:List SV:=[.lst 166 1 ((eB0).take 166)]
def C0Y:SV:= .tup [.agg (eL [.nl, .vc 0, .vc 1]), .bool true]
def D0g:a0f:=[.vec 1 3 70 [.str [85,83,68], .str [36], .int .i64 (2)], .vec 1 3 73 [.int .i64 (4), .int .i64 (0), .str [48,75]]]
theorem e57:SQ 57 D0k [] C0Y D0g:=evE k0C (by kernel_rfl)
def D0j:List SV:=[.agg (eL [.nl, .lst 1 3 [.str [85,83,68], .str [36], .int .i64 (2)], .lst 1 3 [.int .i64 (4), .int .i64 (0), .str [48,75]]])]
def C0X:SV:= .tup [.vc 0, .int .i64 (0)]
def D0f:a0f:=[.vec 170 1 5 eB0]
theorem e58:SQ 58 D0j [] C0X D0f:=evE k0C (by kernel_rfl)
def D0m:List SV:=[.lst 170 1 eB0]
def D0a:SV:= .tup [.agg (eL [.nl, .lst 1 3 [.str [85,83,68], .str [36], .int .i64 (2)], .lst 1 3 [.int .i64 (4), .int .i64 (0), .str [48,75]]]), .int .i64 (0)]
theorem e32:SQ 32 D0m [] D0a []:=evE (l0u e58 (l0u e57 k0C)) (by kernel_rfl)
def D0l:List SV:=[.agg (eL [.nl, .lst 1 3 [.str [85,83,68], .str [36], .int .i64 (2)], .lst 1 3 [.int .i64 (4), .int .i64 (0), .str [48,75]]])]
def C0Z:SV:= .tup [.int .i64 (0), .int .i64 (0), .int .i64 (0)]
theorem e33:SQ 33 D0l [] C0Z []:=evE k0C (by kernel_rfl)
def D0q:List SV:=[.lst 170 1 eB0]
def D0e:SV:= .tup [.agg (eL [.lst 0 2 [], .lst 1 3 [.str [85,83,68], .str [36], .int .i64 (2)], .lst 1 3 [.int .i64 (4), .int .i64 (0), .str [48,75]], .int .i64 (1), .int .i64 (2), .int .i64 (1), .int .i64 (2), .int .i64 (2), .int .i64 (0), .int .i64 (0), .int .i64 (0), .int .i64 (0), .int .i64 (0)]), .int .i64 (0), .int .i64 (0), .int .i64 (0)]
theorem e11:SQ 11 D0q [] D0e []:=evE (l0u e33 (l0u e32 k0C)) (by kernel_rfl)
def D0p:List SV:=[.agg (eL [.lst 0 2 [], .lst 1 3 [.str [85,83,68], .str [36], .int .i64 (2)], .lst 1 3 [.int .i64 (4), .int .i64 (0), .str [48,75]], .int .i64 (1), .int .i64 (2), .int .i64 (1), .int .i64 (2), .int .i64 (2), .int .i64 (0), .int .i64 (0), .int .i64 (0), .int .i64 (0), .int .i64 (0)]), .agg [.int .i64 (0), .int .i64 (0), .str [], .nl, .bool false, .bool false, .bool false], .agg [.bool false, .lst 2 1 [.int .u8 (1), .int .u8 (2)], .int .i64 (-1)]]
def D0d:SV:= .tup [.vc 0, .int .i64 (0)]
def D0i:a0f:=[.vec 3 1 5 [.int .u8 (49), .int .u8 (46), .int .u8 (50)]]
theorem e12:SQ 12 D0p [] D0d D0i:=evE k0C (by kernel_rfl)
def D0o:List SV:=[.agg (eL [.lst 0 2 [], .lst 1 3 [.str [85,83,68], .str [36], .int .i64 (2)], .lst 1 3 [.int .i64 (4), .int .i64 (0), .str [48,75]], .int .i64 (1), .int .i64 (2), .int .i64 (1), .int .i64 (2), .int .i64 (2), .int .i64 (0), .int .i64 (0), .int .i64 (0), .int .i64 (0), .int .i64 (0)]), .agg [.int .i64 (0), .int .i64 (0), .str [], .nl, .bool false, .bool false, .bool false], .lst 3 1 [.int .u8 (49), .int .u8 (46), .int .u8 (50)]]
def D0c:SV:= .tup [.agg [.bool false, .lst 2 1 [.int .u8 (1), .int .u8 (2)], .int .i64 (-1)], .int .i64 (0), .int .i64 (0)]
theorem e13:SQ 13 D0o [] D0c []:=evE k0C (by kernel_rfl)
def D0n:List SV:=[.agg (eL [.lst 0 2 [], .lst 1 3 [.str [85,83,68], .str [36], .int .i64 (2)], .lst 1 3 [.int .i64 (4), .int .i64 (0), .str [48,75]], .int .i64 (1), .int .i64 (2), .int .i64 (1), .int .i64 (2), .int .i64 (2), .int .i64 (0), .int .i64 (0), .int .i64 (0), .int .i64 (0), .int .i64 (0)]), .agg [.int .i64 (0), .int .i64 (0), .str [], .nl, .bool false, .bool false, .bool false], .agg [.bool false, .lst 2 1 [.int .u8 (1), .int .u8 (2)], .int .i64 (-1)], .int .i64 (6), .int .i64 (3)]
def D0b:SV:= .tup [.agg [.int .i64 (0), .int .i64 (0), .vc 0], .int .i64 (0)]
def D0h:a0f:=[.vec 3 1 21 [.int .i32 (49), .int .i32 (46), .int .i32 (50)]]
theorem e14:SQ 14 D0n [] D0b D0h:=evE k0C (by kernel_rfl)
def eA4:List SV:=[]
def eV4:SV:= .bool true
theorem e4:SQ 4 eA4 [] eV4 []:=evE (l0u e14 (l0u e13 (l0u e12 (l0u e11 (l0u e9 k0C))))) (by kernel_rfl)
def f0t:Option Bool:=some true
theorem j0K {r:Bool} (h:f0t=some r):SQ 4 [] [] (.bool r) []:=by
 obtain rfl:true=r:=au h
 exact e4
def c0f(x0:A0I):Option (Bool):=
 (Option.bind f0t λy2=>(Option.bind (Option.bind (Option.bind (e0l x0.L_ x0.Q_ (⟨false,([]:List Int),0⟩:w0X)) λy3=>(bif(!y3)then(some true)else(bif(decide (x0.Q_.F_<0))then(some true)else(bif(decide (x0.Q_.F_>4))then(some true)else(bif(decide (x0.N_>1900))then(some true)else(some (decide (x0.E_>1900)))))))) fun(s0:Bool)=>(bif s0 then(some (.inr y2))else(some (.inl ())))) (a0m fun(s2:Unit)=>(Option.bind (k0W x0.L_) λy0=>(Option.bind (d0R y0 x0.Q_ (IntKind.wrap .i64 x0.N_) (IntKind.wrap .i64 x0.E_)) λy1=>(Option.bind (bif y2 then(bif(decide (y1≥130))then(Option.bind (d0R y0 x0.Q_ ((IntKind.wrap .i64 ((IntKind.wrap .i64 x0.N_)+(IntKind.wrap .i64 (Int.tmod x0.ad_ 100))))) (IntKind.wrap .i64 x0.E_)) λy4=>(bif(decide (y4≥y1))then(Option.bind (d0R y0 x0.Q_ (IntKind.wrap .i64 x0.N_) ((IntKind.wrap .i64 ((IntKind.wrap .i64 x0.E_)+(IntKind.wrap .i64 (Int.tmod x0.ad_ 100)))))) λy5=>(bif(decide (y5≥y1))then(Option.bind (d0R y0 (⟨x0.Q_.F_,x0.Q_.ak_,x0.Q_.V_,x0.Q_.l_,true,x0.Q_.aj_,x0.Q_.j_⟩:t0t) (IntKind.wrap .i64 x0.N_) (IntKind.wrap .i64 x0.E_)) λy6=>(bif(decide (y6≥y1))then(Option.bind (k0f y0 x0.Q_ (IntKind.wrap .i64 x0.N_) (IntKind.wrap .i64 x0.E_)) λy7=>(some ((decide (y7=((IntKind.wrap .i64 (((IntKind.wrap .i64 (y1+(IntKind.wrap .i64 x0.N_))))+1))))))))else(some false)))else(some false)))else(some false)))else(some false))else(some false)) fun(s1:Bool)=>(some s1)))))))
theorem h0G {x0:A0I} {r:Bool} (h:c0f x0=some r):SQ 3 [.agg (s0p x0)] [] (.bool r) []:=by
 refine kFn (fn:=Tryz.f3) (λF D W V=> ?_)
 unfold c0f at h
 refine kq (kq (kq (kq (kq (kq (kSR (kAb 23 h (λ_=>j0K) (λy2 h0=>kr 1 (kcX h0 (fun(s2:Unit)=>([(2, .bool false),(3, .ptr 0 0),(4, .ptr 1 0),(5, .int .u16 x0.N_),(6, .int .u16 x0.E_),(7, .int .u8 x0.ad_),(8, .bool y2)],[.box (a0y x0.L_), .box (g0r x0.Q_)])) (λy8 hy0 h1=> ?_) (λs2 h2=> ?_))))))))))
 refine kcN hy0 (fun(s0:Bool)=>([(2, .bool false),(3, .ptr 0 0),(4, .ptr 1 0),(5, .int .u16 x0.N_),(6, .int .u16 x0.E_),(7, .int .u8 x0.ad_),(8, .bool y2),(46, .bool s0)],[.box (a0y x0.L_), .box (g0r x0.Q_)])) (λs0 hy1=> ?_) (λs0 h3=> ?_)
 refine km 3 ?_
 obtain⟨y3,hy2,h4⟩:=a0l hy1
 exact RJ.call0 (d:=(some 27)) (f:=5) (args:=[.agg (a0y x0.L_), .agg (g0r x0.Q_), .agg [.bool false, .nl,iL 0]]) (v:= .bool y3) (tr2:=[]) (by kernel_rfl) (by kernel_rfl) (.cons (Le.refl _) (.cons (Le.refl _) (.cons (Le.agg (.cons (Le.refl _) (.cons (Le.nl _) (LeL.refl _)))) .nil))) (k0j hy2) (by kernel_rfl) (kc 2 (kB 29 h4 (λh5=>ke 17 (kNW h5 W V [1,2])) (λh6=>kc 5 (kB 34 h6 (λh7=>ke 12 (kNW h7 W V [1,2])) (λh8=>kc 5 (kB 39 h8 (λh9=>ke 7 (kNW h9 W V [1,2])) (λh10=>kc 4 (kB 43 h10 (λh11=>ke 3 (kNW h11 W V [1,2])) (λh12=>ke 3 (kNW h12 W V [1,2]))))))))))
 exact kBT 46 h3 (λh13=>kq (kX (kCx h13 h1 (λh15=>by obtain rfl:=oi h15;exact kZ D W V)))) (λh14=>kK (kXo h14 [2,3,4,5,6,7,8]))
 exact kn 1 (kAb 49 h2 (λ_=>o0F) (λy0 h16=>kr 2 (kn 6 (kAb 56 h16 (λ_=>f0x) (λy1 h17=>kr 1 (kq (kq (kq (kcN h17 (fun(s1:Bool)=>([(2, .bool s1)],[])) (λs1 hy3=>km 2 (kB 63 hy3 (λh19=>kc 4 (kB 67 h19 (λh21=>kc 8 (kAb 76 h21 (λ_=>f0x) (λy4 h23=>kc 4 (kB 80 h23 (λh24=>kc 8 (kAb 89 h24 (λ_=>f0x) (λy5 h26=>kc 4 (kB 93 h26 (λh27=>kc 6 (kAb 100 h27 (λ_=>f0x) (λy6 h29=>kc 4 (kB 104 h29 (λh30=>kc 6 (kAb 111 h30 (λ_=>p0E) (λy7 h32=>ke 8 (kNW h32 W V [])))) (λh31=>ke 15 (kNW h31 W V [])))))) (λh28=>ke 26 (kNW h28 W V [])))))) (λh25=>ke 39 (kNW h25 W V [])))))) (λh22=>ke 52 (kNW h22 W V [])))) (λh20=>ke 56 (kNW h20 W V [])))) (λs1 h18=>kX (by cases h18;exact kZ D W V)))))))))))
end Go.Proofs.YthodkmamingnhaaGreatDoor
