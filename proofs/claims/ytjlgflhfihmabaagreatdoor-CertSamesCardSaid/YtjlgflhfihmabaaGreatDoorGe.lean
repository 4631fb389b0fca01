import Derived.Test.YtjlgflhfihmabaaGreatDoorGd
set_option linter.all false
namespace Go.Proofs.YtjlgflhfihmabaaGreatDoor
open Go Go.Sy Go.RowKit
set_option maxRecDepth 1000000
set_option maxHeartbeats 4000000
noncomputable def B0S(cs:List SV):a0b:=(⟨(gI (gN cs 0)),(gI (gN cs 1))⟩:a0b)
noncomputable def g98(cs:List SV):a0F:=(⟨(gL B0S 2 (gN cs 0)),(gL B0S 2 (gN cs 1)),(gL B0S 2 (gN cs 2)),(gL B0S 2 (gN cs 3)),(gB (gN cs 4)),(gI (gN cs 5)),(gI (gN cs 6)),(gI (gN cs 7)),(gI (gN cs 8)),(gI (gN cs 9)),(gI (gN cs 10)),(gI (gN cs 11)),(gI (gN cs 12)),(gI (gN cs 13)),(gB (gN cs 14)),(gI (gN cs 15)),(gI (gN cs 16))⟩:a0F)
noncomputable def g22(cs:List SV):c0U:=(⟨(gI (gN cs 0)),(gI (gN cs 1)),(gI (gN cs 2)),(gI (gN cs 3)),(gI (gN cs 4)),(gI (gN cs 5)),(gI (gN cs 6))⟩:c0U)
noncomputable def B0T(cs:List SV):f0A:=(⟨(gL gI1 1 (gN cs 0)),(gL gI1 1 (gN cs 1))⟩:f0A)
noncomputable def g64(cs:List SV):j0V:=(⟨(gI (gN cs 0)),(gI (gN cs 1)),(gS (gN cs 2))⟩:j0V)
noncomputable def g60(cs:List SV):m0G:=(⟨(gI (gN cs 0)),(gS (gN cs 1))⟩:m0G)
noncomputable def g62(cs:List SV):m0Q:=(⟨(gS (gN cs 0)),(gS (gN cs 1)),(gI (gN cs 2))⟩:m0Q)
noncomputable def g28(cs:List SV):f0d:=(⟨(gS (gN cs 0)),(⟨(gI (gN cs 1)),(gI (gN cs 2)),(gI (gN cs 3)),(gI (gN cs 4)),(gI (gN cs 5)),(gI (gN cs 6)),(gI (gN cs 7))⟩:c0U),(⟨(gS (gN cs 8)),(gS (gN cs 9)),(gS (gN cs 10)),(gS (gN cs 11))⟩:z0e),(gL g60 2 (gN cs 12)),(gL g62 3 (gN cs 13)),(gL g64 3 (gN cs 14))⟩:f0d)
noncomputable def g34(cs:List SV):w0T:=(⟨(⟨(gS (gN cs 0)),(⟨(gI (gN cs 1)),(gI (gN cs 2)),(gI (gN cs 3)),(gI (gN cs 4)),(gI (gN cs 5)),(gI (gN cs 6)),(gI (gN cs 7))⟩:c0U),(⟨(gS (gN cs 8)),(gS (gN cs 9)),(gS (gN cs 10)),(gS (gN cs 11))⟩:z0e),(gL g60 2 (gN cs 12)),(gL g62 3 (gN cs 13)),(gL g64 3 (gN cs 14))⟩:f0d),(⟨(gI (gN cs 15)),(gI (gN cs 16)),(gI (gN cs 17)),(gI (gN cs 18)),(gI (gN cs 19))⟩:y0n),(⟨(gI (gN cs 20)),(gI (gN cs 21)),(gI (gN cs 22)),(gI (gN cs 23)),(gI (gN cs 24))⟩:y0n)⟩:w0T)
noncomputable def j0v:List SV->Option SV
 | [a0]=>bif q0T [a0] [lsv (a0v .u8) 1 (gL gI1 1 a0)]then Option.rec (motive:=λ_=>Option SV) none (λr=>some ((.tup [lsv (a0v .i32) 1 r.1, .int .i64 r.2.1, .int .i64 r.2.2]))) (g0K (gL gI1 1 a0))else none
 |_=>none
theorem n0F:t0w Tryz.prog 37 j0v:=by
 intro l v h;unfold j0v at h;split at h
 ·obtain⟨hl,h⟩:=t0t h;obtain⟨r,hr,h⟩:=r0O h;obtain rfl:=aq h;exact(l0a hr).weak (e0H hl)
 ·cases h
noncomputable def m0j:List SV->Option SV
 | [a0,a1,a2,a3]=>bif q0T [a0,a1,a2,a3] [.agg (a0c (gA g98 a0)), .agg (a0d (gA g22 a1)), .int .i64 (gI a2),lsv (a0v .i32) 1 (gL gI1 1 a3)]then Option.rec (motive:=λ_=>Option SV) none (λr=>some ((.agg (b0Z r)))) (g0J (gA g98 a0) (gA g22 a1) (gI a2) (gL gI1 1 a3))else none
 |_=>none
theorem p0v:t0w Tryz.prog 54 m0j:=by
 intro l v h;unfold m0j at h;split at h
 ·obtain⟨hl,h⟩:=t0t h;obtain⟨r,hr,h⟩:=r0O h;obtain rfl:=aq h;exact(h0g hr).weak (e0H hl)
 ·cases h
noncomputable def j0w:List SV->Option SV
 | [a0,a1,a2]=>bif q0T [a0,a1,a2] [.agg (a0d (gA g22 a0)), .agg (a0c (gA g98 a1)),lsv (a0v .i32) 1 (gL gI1 1 a2)]then Option.rec (motive:=λ_=>Option SV) none (λr=>some ((.agg (d0M r)))) (f0O (gA g22 a0) (gA g98 a1) (gL gI1 1 a2))else none
 |_=>none
theorem n0G:t0w Tryz.prog 132 j0w:=by
 intro l v h;unfold j0w at h;split at h
 ·obtain⟨hl,h⟩:=t0t h;obtain⟨r,hr,h⟩:=r0O h;obtain rfl:=aq h;exact(i0i hr).weak (e0H hl)
 ·cases h
noncomputable def m0g:List SV->Option SV
 | [a0,a1]=>bif q0T [a0,a1] [.agg (a0d (gA g22 a0)),lsv (a0v .i32) 1 (gL gI1 1 a1)]then Option.rec (motive:=λ_=>Option SV) none (λr=>some ((.bool r))) (j0X (gA g22 a0) (gL gI1 1 a1))else none
 |_=>none
theorem p0s:t0w Tryz.prog 206 m0g:=by
 intro l v h;unfold m0g at h;split at h
 ·obtain⟨hl,h⟩:=t0t h;obtain⟨r,hr,h⟩:=r0O h;obtain rfl:=aq h;exact(n0i hr).weak (e0H hl)
 ·cases h
noncomputable def j0x:List SV->Option SV
 | [a0,a1]=>bif q0T [a0,a1] [.agg (b0Z (gA B0T a0)), .agg (b0Z (gA B0T a1))]then Option.rec (motive:=λ_=>Option SV) none (λr=>some ((.bool r))) (e0o (gA B0T a0) (gA B0T a1))else none
 |_=>none
theorem n0I:t0w Tryz.prog 182 j0x:=by
 intro l v h;unfold j0x at h;split at h
 ·obtain⟨hl,h⟩:=t0t h;obtain⟨r,hr,h⟩:=r0O h;obtain rfl:=aq h;exact(i0y hr).weak (e0H hl)
 ·cases h
noncomputable def g0Z:List SV->Option SV
 | [a0,a1,a2]=>bif q0T [a0,a1,a2] [.agg (a0d (gA g22 a0)), .agg (a0c (gA g98 a1)),lsv (a0v .i32) 1 (gL gI1 1 a2)]then Option.rec (motive:=λ_=>Option SV) none (λr=>some ((.bool r))) (d0I (gA g22 a0) (gA g98 a1) (gL gI1 1 a2))else none
 |_=>none
theorem l0v:t0w Tryz.prog 108 g0Z:=by
 intro l v h;unfold g0Z at h;split at h
 ·obtain⟨hl,h⟩:=t0t h;obtain⟨r,hr,h⟩:=r0O h;obtain rfl:=aq h;exact(g0p hr).weak (e0H hl)
 ·cases h
noncomputable def m0i:List SV->Option SV
 | [a0]=>bif q0T [a0] [.int .i32 (gI a0)]then Option.rec (motive:=λ_=>Option SV) none (λr=>some ((.int .i64 r))) (i0s (gI a0))else none
 |_=>none
theorem p0u:t0w Tryz.prog 201 m0i:=by
 intro l v h;unfold m0i at h;split at h
 ·obtain⟨hl,h⟩:=t0t h;obtain⟨r,hr,h⟩:=r0O h;obtain rfl:=aq h;exact(k0T hr).weak (e0H hl)
 ·cases h
noncomputable def i0j:List SV->Option SV
 | [a0,a1,a2]=>bif q0T [a0,a1,a2] [.agg (a0d (gA g22 a0)), .int .i64 (gI a1), .str (gS a2)]then Option.rec (motive:=λ_=>Option SV) none (λr=>some ((.tup [.agg (a0c r.1), .bool r.2]))) (d0J (gA g22 a0) (gI a1) (gS a2))else none
 |_=>none
theorem m0N:t0w Tryz.prog 104 i0j:=by
 intro l v h;unfold i0j at h;split at h
 ·obtain⟨hl,h⟩:=t0t h;obtain⟨r,hr,h⟩:=r0O h;obtain rfl:=aq h;exact(e0y hr).weak (e0H hl)
 ·cases h
noncomputable def k0K:List SV->Option SV
 | [a0,a1]=>bif q0T [a0,a1] [.agg (a0d (gA g22 a0)), .agg (b0x (gA g64 a1))]then Option.rec (motive:=λ_=>Option SV) none (λr=>some ((.tup [.agg (a0c r.1), .bool r.2]))) (h0Q (gA g22 a0) (gA g64 a1))else none
 |_=>none
theorem o0g:t0w Tryz.prog 56 k0K:=by
 intro l v h;unfold k0K at h;split at h
 ·obtain⟨hl,h⟩:=t0t h;obtain⟨r,hr,h⟩:=r0O h;obtain rfl:=aq h;exact(m0x hr).weak (e0H hl)
 ·cases h
noncomputable def n0H:List SV->Option SV
 | [a0]=>bif q0T [a0] [.agg (a0p (gA g28 a0))]then Option.rec (motive:=λ_=>Option SV) none (λr=>some ((.agg (k0Q r)))) (j0Q (gA g28 a0))else none
 |_=>none
theorem q0U:t0w Tryz.prog 8 n0H:=by
 intro l v h;unfold n0H at h;split at h
 ·obtain⟨hl,h⟩:=t0t h;obtain⟨r,hr,h⟩:=r0O h;obtain rfl:=aq h;exact(m0s hr).weak (e0H hl)
 ·cases h
noncomputable def k0L:List SV->Option SV
 | [a0,a1]=>bif q0T [a0,a1] [.agg (k0Q (gA g34 a0)), .agg (k0Q (gA g34 a1))]then Option.rec (motive:=λ_=>Option SV) none (λr=>some ((.bool r))) (h0U (gA g34 a0) (gA g34 a1))else none
 |_=>none
theorem o0h:t0w Tryz.prog 7 k0L:=by
 intro l v h;unfold k0L at h;split at h
 ·obtain⟨hl,h⟩:=t0t h;obtain⟨r,hr,h⟩:=r0O h;obtain rfl:=aq h;exact(m0C hr).weak (e0H hl)
 ·cases h
noncomputable def m0f:List SV->Option SV
 | [a0]=>bif q0T [a0] [.agg (a0d (gA g22 a0))]then Option.rec (motive:=λ_=>Option SV) none (λr=>some ((.bool r))) (o0U (gA g22 a0))else none
 |_=>none
theorem p0r:t0w Tryz.prog 126 m0f:=by
 intro l v h;unfold m0f at h;split at h
 ·obtain⟨hl,h⟩:=t0t h;obtain⟨r,hr,h⟩:=r0O h;obtain rfl:=aq h;exact(r0D hr).weak (e0H hl)
 ·cases h
noncomputable def e0I:List SV->Option SV
 | [a0,a1]=>bif q0T [a0,a1] [.int .u32 (gI a0), .int .u8 (gI a1)]then Option.rec (motive:=λ_=>Option SV) none (λr=>some ((.int .u32 r))) (f0Q (gI a0) (gI a1))else none
 |_=>none
theorem i0M:t0w Tryz.prog 186 e0I:=by
 intro l v h;unfold e0I at h;split at h
 ·obtain⟨hl,h⟩:=t0t h;obtain⟨r,hr,h⟩:=r0O h;obtain rfl:=aq h;exact(k0s hr).weak (e0H hl)
 ·cases h
noncomputable def m0h:List SV->Option SV
 | [a0,a1]=>bif q0T [a0,a1] [.int .u32 (gI a0), .int .u8 (gI a1)]then Option.rec (motive:=λ_=>Option SV) none (λr=>some ((.int .u32 r))) (p0D (gI a0) (gI a1))else none
 |_=>none
theorem p0t:t0w Tryz.prog 309 m0h:=by
 intro l v h;unfold m0h at h;split at h
 ·obtain⟨hl,h⟩:=t0t h;obtain⟨r,hr,h⟩:=r0O h;obtain rfl:=aq h;exact(s0v hr).weak (e0H hl)
 ·cases h
noncomputable def knG:CallT:=λf args H=>List.rec (motive:=λ_=>Option (SV×a0f)) (Option.rec (motive:=λ_=>Option (SV×a0f)) none (λv=>some (v,[])) (bif Nat.beq f 37 then j0v args else bif Nat.beq f 54 then m0j args else bif Nat.beq f 132 then j0w args else bif Nat.beq f 206 then m0g args else bif Nat.beq f 182 then j0x args else bif Nat.beq f 108 then g0Z args else bif Nat.beq f 201 then m0i args else bif Nat.beq f 104 then i0j args else bif Nat.beq f 56 then k0K args else bif Nat.beq f 8 then n0H args else bif Nat.beq f 7 then k0L args else bif Nat.beq f 126 then m0f args else bif Nat.beq f 186 then e0I args else bif Nat.beq f 309 then m0h args else none)) (λ_ _ _=>none) H
theorem B0l:knG.Ok Tryz.prog:=by
 intro f args H v H' h;unfold knG at h
 cases H with
 |cons a b=>cases h
 |nil=>
  obtain⟨r,hr,h⟩:=r0O h;obtain⟨rfl,rfl⟩:=Prod.mk.inj (aq h)
  rcases t0u hr with⟨hb,hr⟩|hr
  ·obtain rfl:=ac hb;exact n0F _ _ hr
  rcases t0u hr with⟨hb,hr⟩|hr
  ·obtain rfl:=ac hb;exact p0v _ _ hr
  rcases t0u hr with⟨hb,hr⟩|hr
  ·obtain rfl:=ac hb;exact n0G _ _ hr
  rcases t0u hr with⟨hb,hr⟩|hr
  ·obtain rfl:=ac hb;exact p0s _ _ hr
  rcases t0u hr with⟨hb,hr⟩|hr
  ·obtain rfl:=ac hb;exact n0I _ _ hr
  rcases t0u hr with⟨hb,hr⟩|hr
  ·obtain rfl:=ac hb;exact l0v _ _ hr
  rcases t0u hr with⟨hb,hr⟩|hr
  ·obtain rfl:=ac hb;exact p0u _ _ hr
  rcases t0u hr with⟨hb,hr⟩|hr
  ·obtain rfl:=ac hb;exact m0N _ _ hr
  rcases t0u hr with⟨hb,hr⟩|hr
  ·obtain rfl:=ac hb;exact o0g _ _ hr
  rcases t0u hr with⟨hb,hr⟩|hr
  ·obtain rfl:=ac hb;exact q0U _ _ hr
  rcases t0u hr with⟨hb,hr⟩|hr
  ·obtain rfl:=ac hb;exact o0h _ _ hr
  rcases t0u hr with⟨hb,hr⟩|hr
  ·obtain rfl:=ac hb;exact p0r _ _ hr
  rcases t0u hr with⟨hb,hr⟩|hr
  ·obtain rfl:=ac hb;exact i0M _ _ hr
  rcases t0u hr with⟨hb,hr⟩|hr
  ·obtain rfl:=ac hb;exact p0t _ _ hr
  cases hr
def fzs:List Nat:=[10,12,13,14,15,16,17,18,33,34,66,65,64,35,36,67]
noncomputable def knB:CallT:=knD Tryz.prog fzs [65] 100000 1000 knG
theorem k0A:knB.Ok Tryz.prog:=B0m B0l
def eB0:List SV:=([69,88,76,66,0,1,0,6,0,0,0,56,0,0,0,57,0,0,0,113,0,0,0,30,0,0,0,143,0,0,0,8,0,0,0,151,0,0,0,2,0,0,0,153,0,0,0,7,0,0,0,160,0,0,0,6,0,8,0,2,101,110,0,8,35,44,35,35,48,46,35,35,0,6,35,44,35,35,48,37,0,7,48,46,35,35,35,69,48,0,10,194,164,35,44,35,35,48,46,48,48,0,3,85,83,68,0,1,36,0,2,48,75,0,0,0,0,0,48,0,0,0,46,0,0,0,44,0,0,0,45,0,0,0,43,0,0,0,37,0,0,0,69,0,1,0,2,0,3,0,4,0,0,0,1,0,5,0,6,2,0,1,4,0,0,7,15,30,229,95]:List Int).map (SV.int .u8)
def eL(r:List SV):List SV:=[.str [101,110], .int .i32 (48), .int .i32 (46), .int .i32 (44), .int .i32 (45), .int .i32 (43), .int .i32 (37), .int .i32 (69), .str [35,44,35,35,48,46,35,35], .str [35,44,35,35,48,37], .str [48,46,35,35,35,69,48], .str [194,164,35,44,35,35,48,46,48,48]]++r
theorem evE {kn:CallT} {f:Nat} {A:List SV} {H0:a0f} {v:SV} {H1:a0f} (hk:kn.Ok Tryz.prog)(h:isR ((evA Tryz.prog kn fzs 100000 1000).1 f A H0) v H1=true):SQ f A H0 v H1:=B0t hk h
def D0o:List SV:=[.agg (eL [.nl, .lst 1 3 [.str [85,83,68], .str [36], .int .i64 (2)], .lst 1 3 [.int .i64 (4), .int .i64 (0), .str [48,75]]])]
def D0a:SV:= .tup [.vc 0, .int .i64 (0)]
def D0f:a0f:=[.vec 170 1 5 eB0]
theorem e10:SQ 10 D0o [] D0a D0f:=evE k0A (by kernel_rfl)
def D0h:List SV:=[.lst 166 1 ((eB0).take 166)]
def C0T:SV:= .tup [.agg (eL [.nl, .vc 0, .vc 1]), .bool true]
def D0c:a0f:=[.vec 1 3 63 [.str [85,83,68], .str [36], .int .i64 (2)], .vec 1 3 65 [.int .i64 (4), .int .i64 (0), .str [48,75]]]
theorem e65:SQ 65 D0h [] C0T D0c:=evE k0A (by kernel_rfl)
def D0g:List SV:=[.agg (eL [.nl, .lst 1 3 [.str [85,83,68], .str [36], .int .i64 (2)], .lst 1 3 [.int .i64 (4), .int .i64 (0), .str [48,75]]])]
def C0S:SV:= .tup [.vc 0, .int .i64 (0)]
def D0b:a0f:=[.vec 170 1 5 eB0]
theorem e66:SQ 66 D0g [] C0S D0b:=evE k0A (by kernel_rfl)
def D0j:List SV:=[.lst 170 1 eB0]
def C0V:SV:= .tup [.agg (eL [.nl, .lst 1 3 [.str [85,83,68], .str [36], .int .i64 (2)], .lst 1 3 [.int .i64 (4), .int .i64 (0), .str [48,75]]]), .int .i64 (0)]
theorem e33:SQ 33 D0j [] C0V []:=evE (l0t e66 (l0t e65 k0A)) (by kernel_rfl)
def D0i:List SV:=[.agg (eL [.nl, .lst 1 3 [.str [85,83,68], .str [36], .int .i64 (2)], .lst 1 3 [.int .i64 (4), .int .i64 (0), .str [48,75]]])]
def C0U:SV:= .tup [.int .i64 (0), .int .i64 (0), .int .i64 (0)]
theorem e34:SQ 34 D0i [] C0U []:=evE k0A (by kernel_rfl)
def D0n:List SV:=[.lst 170 1 eB0]
def C0Z:SV:= .tup [.agg (eL [.lst 0 2 [], .lst 1 3 [.str [85,83,68], .str [36], .int .i64 (2)], .lst 1 3 [.int .i64 (4), .int .i64 (0), .str [48,75]], .int .i64 (1), .int .i64 (2), .int .i64 (1), .int .i64 (2), .int .i64 (2), .int .i64 (0), .int .i64 (0), .int .i64 (0), .int .i64 (0), .int .i64 (0)]), .int .i64 (0), .int .i64 (0), .int .i64 (0)]
theorem e12:SQ 12 D0n [] C0Z []:=evE (l0t e34 (l0t e33 k0A)) (by kernel_rfl)
def D0m:List SV:=[.agg (eL [.lst 0 2 [], .lst 1 3 [.str [85,83,68], .str [36], .int .i64 (2)], .lst 1 3 [.int .i64 (4), .int .i64 (0), .str [48,75]], .int .i64 (1), .int .i64 (2), .int .i64 (1), .int .i64 (2), .int .i64 (2), .int .i64 (0), .int .i64 (0), .int .i64 (0), .int .i64 (0), .int .i64 (0)]), .agg [.int .i64 (0), .int .i64 (0), .str [], .nl, .bool false, .bool false, .bool false], .agg [.bool false, .lst 2 1 [.int .u8 (1), .int .u8 (2)], .int .i64 (-1)]]
def C0Y:SV:= .tup [.vc 0, .int .i64 (0)]
def D0e:a0f:=[.vec 3 1 5 [.int .u8 (49), .int .u8 (46), .int .u8 (50)]]
theorem e13:SQ 13 D0m [] C0Y D0e:=evE k0A (by kernel_rfl)
def D0l:List SV:=[.agg (eL [.lst 0 2 [], .lst 1 3 [.str [85,83,68], .str [36], .int .i64 (2)], .lst 1 3 [.int .i64 (4), .int .i64 (0), .str [48,75]], .int .i64 (1), .int .i64 (2), .int .i64 (1), .int .i64 (2), .int .i64 (2), .int .i64 (0), .int .i64 (0), .int .i64 (0), .int .i64 (0), .int .i64 (0)]), .agg [.int .i64 (0), .int .i64 (0), .str [], .nl, .bool false, .bool false, .bool false], .lst 3 1 [.int .u8 (49), .int .u8 (46), .int .u8 (50)]]
def C0X:SV:= .tup [.agg [.bool false, .lst 2 1 [.int .u8 (1), .int .u8 (2)], .int .i64 (-1)], .int .i64 (0), .int .i64 (0)]
theorem e14:SQ 14 D0l [] C0X []:=evE k0A (by kernel_rfl)
def D0k:List SV:=[.agg (eL [.lst 0 2 [], .lst 1 3 [.str [85,83,68], .str [36], .int .i64 (2)], .lst 1 3 [.int .i64 (4), .int .i64 (0), .str [48,75]], .int .i64 (1), .int .i64 (2), .int .i64 (1), .int .i64 (2), .int .i64 (2), .int .i64 (0), .int .i64 (0), .int .i64 (0), .int .i64 (0), .int .i64 (0)]), .agg [.int .i64 (0), .int .i64 (0), .str [], .nl, .bool false, .bool false, .bool false], .agg [.bool false, .lst 2 1 [.int .u8 (1), .int .u8 (2)], .int .i64 (-1)], .int .i64 (6), .int .i64 (3)]
def C0W:SV:= .tup [.agg [.int .i64 (0), .int .i64 (0), .vc 0], .int .i64 (0)]
def D0d:a0f:=[.vec 3 1 21 [.int .i32 (49), .int .i32 (46), .int .i32 (50)]]
theorem e15:SQ 15 D0k [] C0W D0d:=evE k0A (by kernel_rfl)
def eA4:List SV:=[]
def eV4:SV:= .bool true
theorem e4:SQ 4 eA4 [] eV4 []:=evE (l0t e15 (l0t e14 (l0t e13 (l0t e12 (l0t e10 k0A))))) (by kernel_rfl)
def f0s:Option Bool:=some true
theorem j0K {r:Bool} (h:f0s=some r):SQ 4 [] [] (.bool r) []:=by
 obtain rfl:true=r:=aq h
 exact e4
def c0g(x0 x1:f0d):Option (Bool):=
 (Option.bind f0s λy0=>(Option.bind (Option.bind (Option.bind (c0x x0) λy5=>(bif(!y5)then(some true)else(Option.bind (c0x x1) λy6=>(bif(!y6)then(some true)else(Option.bind (c0I x0) λy7=>(bif(!y7)then(some true)else(Option.bind (c0I x1) λy8=>(some (!y8))))))))) fun(s0:Bool)=>(bif s0 then(some (.inr y0))else(some (.inl ())))) (a0l fun(s2:Unit)=>(Option.bind (bif y0 then(Option.bind (j0Q x0) λy1=>(Option.bind (j0Q x1) λy2=>(Option.bind (h0U y1 y2) λy3=>(Option.bind (d0t x0 x1) λy4=>(some (y3==y4))))))else(some false)) fun(s1:Bool)=>(some s1)))))
theorem h0H {x0 x1:f0d} {r:Bool} (h:c0g x0 x1=some r):SQ 3 [.agg (a0p x0), .agg (a0p x1)] [] (.bool r) []:=by
 refine kFn (fn:=Tryz.f3) (λF D W V=> ?_)
 unfold c0g at h
 refine kq (kSR (kAb 6 h (λ_=>j0K) (λy0 h0=>kr 1 (kcX h0 (fun(s2:Unit)=>([(2, .ptr 0 0),(3, .ptr 1 0),(4, .bool false),(5, .bool y0)],[.box (a0p x0), .box (a0p x1)])) (λy9 hy0 h1=> ?_) (λs2 h2=> ?_)))))
 ·exact kcN hy0 (fun(s0:Bool)=>([(2, .ptr 0 0),(3, .ptr 1 0),(4, .bool false),(5, .bool y0),(24, .bool s0)],[.box (a0p x0), .box (a0p x1)])) (λs0 hy1=>km 1 (kAb 8 hy1 (λ_=>g0c) (λy5 h4=>kc 2 (kB 10 h4 (λh5=>ke 14 (kNo h5 [2,3,4,5,24])) (λh6=>kc 1 (kAb 12 h6 (λ_=>g0c) (λy6 h7=>kc 3 (kB 15 h7 (λh8=>ke 9 (kNo h8 [2,3,4,5,24])) (λh9=>kc 1 (kAb 17 h9 (λ_=>g0t) (λy7 h10=>kc 3 (kB 20 h10 (λh11=>ke 4 (kNo h11 [2,3,4,5,24])) (λh12=>kc 1 (kAb 22 h12 (λ_=>g0t) (λy8 h13=>ke 2 (kNo h13 [2,3,4,5,24])))))))))))))))) (λs0 h3=>kBT 24 h3 (λh14=>kq (kX (kCx h14 h1 (λh16=>by obtain rfl:=oi h16;exact kZ D W V)))) (λh15=>kK (kXo h15 [2,3,4,5])))
 ·refine kcN h2 (fun(s1:Bool)=>([(4, .bool s1)],[])) (λs1 hy2=> ?_) (λs1 h17=> ?_)
  ·refine kDr (kD 2 (kB 27 hy2 (λh18=> ?_) (λh19=> ?_)))
   ·refine kD 1 ?_
    obtain⟨y1,hy3,h20⟩:=a0k h18
    refine kC0 (some 29) [([],[]),([],[]),([0,1],[]),([],[4,5])] (m0s hy3) (kD 1 ?_)
    obtain⟨y2,hy4,h21⟩:=a0k h20
    refine kC0 (some 31) [([],[]),([],[]),([0,1],[]),([],[4,5]),([2,3],[]),([],[6,7])] (m0s hy4) ?_
    obtain⟨y3,hy5,h22⟩:=a0k h21
    refine kC0 (some 32) [([],[]),([],[]),([0,1],[]),([],[4,5]),([2,3],[]),([],[6,7]),([],[8,9])] (m0C hy5) (kD 2 ?_)
    obtain⟨y4,hy6,h23⟩:=a0k h22
    exact kC0 (some 35) [([],[]),([],[]),([0,1],[]),([],[4,5]),([2,3],[]),([],[6,7]),([],[8,9]),([0,1],[]),([2,3],[]),([],[10,11])] (k0k hy6) (kD 3 (kE (kNW h23 W V [])))
   ·exact kD 11 (kE (kNW h19 W V []))
  ·exact kX (by cases h17;exact kZ D W V)
end Go.Proofs.YtjlgflhfihmabaaGreatDoor
