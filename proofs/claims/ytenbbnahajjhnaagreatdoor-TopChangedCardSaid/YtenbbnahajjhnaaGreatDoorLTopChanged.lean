/-
  The statement TopChangedCard is proved: at every input the law answers true, and its input reads as it did. Conditions: those of the card (package variables are as the program text lays them).
-/
import Derived.Test.YtenbbnahajjhnaaGreatDoorJ
import Derived.Test.YtenbbnahajjhnaaGreatDoorP
import Derived.Test.YtenbbnahajjhnaaGreatDoorCards
import Derived.Test.YtenbbnahajjhnaaGreatDoorTie
import Derived.ProofKit
import Derived.SizedLaws
import Derived.LaidMore
import Derived.SevenTiedAt
set_option linter.all false
namespace Go.Proofs.YtenbbnahajjhnaaGreatDoor
open Go Go.Sy Go.RowKit Go.ChangeShapes Go.WideShapes Go.ChangeAt
open _root_.Option renaming bind->zA,some->qA
open _root_.Or renaming inl->yJ,inr->zF
open _root_.Decidable renaming decide->vA
open _root_.Bool renaming false->oA,true->yA
set_option maxRecDepth 100000
set_option maxHeartbeats 4000000

theorem Tryz.own:ownKnob Tryz.prog.godebug=none:=by kernel_rfl
theorem Tryz.laidOut:laidOutB Tryz.prog=true:=by kernel_rfl

theorem H0N {α:Type} {l:List α} (h:l.length=4): ∃a0 a1 a2 a3,l=[a0,a1,a2,a3]:=by
  match l,h with
  | [a0,a1,a2,a3],_=>exact⟨a0,a1,a2,a3,rfl⟩
theorem H0M {α:Type} {l:List α} (h:l.length=7): ∃a0 a1 a2 a3 a4 a5 a6,l=[a0,a1,a2,a3,a4,a5,a6]:=by
  match l,h with
  | [a0,a1,a2,a3,a4,a5,a6],_=>exact⟨a0,a1,a2,a3,a4,a5,a6,rfl⟩
/-- Its numbers are numbers of their kinds, its lists no longer than memory. -/
def x0j(x:B0P):Prop:=(WfI .u8) x.f_/\(WfI .u8) x.e_/\(WfI .u8) x.h_/\(WfI .u8) x.i_
theorem y0S {n:Nat} :B0E Tryz.prog (n+2) 23 e0p x0j:=λd cs h hs=>by
  have hl:cs.length=4:=(x0C Tryz.underlying23 h).trans (by kernel_rfl);obtain⟨c0,c1,c2,c3,rfl⟩:=H0N hl;obtain⟨p0,h0,z0⟩:=l0C Tryz.underlying23 h hs 0 [c0] (by kernel_rfl) (by kernel_rfl);obtain⟨x0,e0,w0⟩: ∃x:Int,[c0]=(a0l .u8) x/\(WfI .u8) x:=(h0k Tryz.underlying5) p0 _ h0 z0;obtain⟨p1,h1,z1⟩:=l0C Tryz.underlying23 h hs 1 [c1] (by kernel_rfl) (by kernel_rfl);obtain⟨x1,e1,w1⟩: ∃x:Int,[c1]=(a0l .u8) x/\(WfI .u8) x:=(h0k Tryz.underlying5) p1 _ h1 z1;obtain⟨p2,h2,z2⟩:=l0C Tryz.underlying23 h hs 2 [c2] (by kernel_rfl) (by kernel_rfl);obtain⟨x2,e2,w2⟩: ∃x:Int,[c2]=(a0l .u8) x/\(WfI .u8) x:=(h0k Tryz.underlying5) p2 _ h2 z2;obtain⟨p3,h3,z3⟩:=l0C Tryz.underlying23 h hs 3 [c3] (by kernel_rfl) (by kernel_rfl);obtain⟨x3,e3,w3⟩: ∃x:Int,[c3]=(a0l .u8) x/\(WfI .u8) x:=(h0k Tryz.underlying5) p3 _ h3 z3;refine⟨⟨x0,x1,x2,x3⟩, ?_,⟨w0,w1,w2,w3⟩⟩;show [c0]++ [c1]++ [c2]++ [c3]=((a0l .u8) x0++(a0l .u8) x1++(a0l .u8) x2++(a0l .u8) x3);rw[e0,e1,e2,e3]
/-- Its numbers are numbers of their kinds, its lists no longer than memory. -/
def E0G(x:G0Y):Prop:=(WfL (WfI .u8)) x.B_/\(WfI .i64) x.k_/\x0j x.s_/\(WfI .i64) x.M_
theorem y0R {n:Nat} :B0E Tryz.prog (n+3) 25 v0T E0G:=λd cs h hs=>by
  have hl:cs.length=7:=(z0j Tryz.underlying25 h).trans (by kernel_rfl);obtain⟨c0,c1,c2,c3,c4,c5,c6,rfl⟩:=H0M hl;obtain⟨p0,h0,z0⟩:=j0x Tryz.underlying25 h hs 0 22 [c0] (by kernel_rfl);obtain⟨x0,e0,w0⟩: ∃x:List Int,[c0]=(k0e (a0l .u8) 1) x/\(WfL (WfI .u8)) x:=(x0u (enc:=(a0l .u8)) (Wf:=(WfI .u8)) Tryz.underlying22 (k:=1) (by kernel_rfl) (by kernel_rfl) (h0k Tryz.underlying5)) p0 _ h0 z0;obtain⟨p1,h1,z1⟩:=j0x Tryz.underlying25 h hs 1 3 [c1] (by kernel_rfl);obtain⟨x1,e1,w1⟩: ∃x:Int,[c1]=(a0l .i64) x/\(WfI .i64) x:=(h0k Tryz.underlying3) p1 _ h1 z1;obtain⟨p2,h2,z2⟩:=j0x Tryz.underlying25 h hs 2 23 [c2,c3,c4,c5] (by kernel_rfl);obtain⟨x2,e2,w2⟩: ∃x:B0P,[c2,c3,c4,c5]=e0p x/\x0j x:=y0S p2 _ h2 z2;obtain⟨p3,h3,z3⟩:=j0x Tryz.underlying25 h hs 3 3 [c6] (by kernel_rfl);obtain⟨x3,e3,w3⟩: ∃x:Int,[c6]=(a0l .i64) x/\(WfI .i64) x:=(h0k Tryz.underlying3) p3 _ h3 z3;refine⟨⟨x0,x1,x2,x3⟩, ?_,⟨w0,w1,w2,w3⟩⟩;show [c0]++ [c1]++ [c2,c3,c4,c5]++ [c6]=((k0e (a0l .u8) 1) x0++(a0l .i64) x1++e0p x2++(a0l .i64) x3);rw[e0,e1,e2,e3]
theorem F0R {x:B0P} (w:x0j x): ∃a b c d:Nat,x=⟨a,b,c,d⟩/\a<256/\b<256/\c<256/\d<256:=by
  obtain⟨w1,w2,w3,w4⟩:=w;have w1:=x0p w1;have w2:=x0p w2;have w3:=x0p w3;have w4:=x0p w4;obtain⟨a,b,c,d⟩:=x;simp only at w1 w2 w3 w4;refine⟨a.toNat,b.toNat,c.toNat,d.toNat, ?_,by omega,by omega,by omega,by omega⟩;simp only[B0P.mk.injEq];omega
/-- What is certified of short bytes: nothing, or a locale whose bundle they are. -/
theorem C0X {x:List Nat} (hx:a0A x): ∃r,d0j (up x) (⟨0,0,[],([]:List Int),oA,oA,oA⟩:G0X)=qA r/\(r.2=yA->x.length<=10000/\Ok r.1.L_/\x=d0m (c0F r.1.L_)/\r.1.L_.l_≠ []):=by
  show Tot _ _;unfold d0j;rw[b0L];by_cases h:x.length>10000;rw[dT (show(x.length:Int)>10000 by omega)];exact tR (λe=>by cases e);rw[dF (show¬(x.length:Int)>10000 by omega)];show Tot (zA (e0D (up x)) _) _;refine tB (H0L hx (by omega)) (λr hr=> ?_);refine tB (p:=λs=>s=yA->r.2.2.2=0) (tI (λe=> ?_) (λe=>tR (λq=>by cases q))) (λs hs=>tR (λq=>⟨by omega,hr (hs q)⟩));have e:=dTT e;obtain⟨ho,_⟩:=hr e;exact tB (E0Q ho.m.r.1 ho.m.c.1 ho.m.k.1) (λs _=>tR (λ_=>e))
theorem u0K(a:G0Y)(wa:E0G a):c0Z a=qA true:=by
  obtain⟨xs,i,by_,cu⟩:=a;obtain⟨w,wi,wx,wc⟩:=wa;simp only at w wi wx wc;obtain⟨a,b,c,d,rfl,ha,hb,hc,hd⟩:=F0R wx;have wi:=D0Q wi;have wc:=D0Q wc;obtain⟨x,rfl,hx,_⟩:=I0Z w;unfold c0Z;rw[show g0E=qA yA from rfl];simp only[ab];obtain⟨y1,h1,hy1⟩:=C0X hx;rw[h1];simp only[ab];obtain⟨y,ok⟩:=y1
  cases ok with
  |false=>rfl
  |true=>
    obtain⟨hl,ho,hsum,htag⟩:=hy1 rfl;simp only at ho hsum htag⊢;generalize y.L_=l at ho hsum htag⊢;subst hsum;have h56:=n0v ho;have hB:=i0q l;have hT:vA ((l.l_.length:Int)>0)=true:=dT (by have:=List.length_pos_iff.2 htag;omega);have hv:onN 4294967295 (d0m (c0F l))=H0r:=z0D hB;have hy:=o0v l;have hyl:=n0F (c0F l);rw[b0L,w64 (n:=((d0m (c0F l)).length:Int)-4) (by omega) (by omega)];simp only[bD,vC];by_cases h1:i<0;rw[dT h1,hT];rfl;by_cases h2:i>((d0m (c0F l)).length:Int)-4;rw[dF h1,dT h2,hT];rfl;rw[dF h1,dF h2];by_cases h0:a=0/\b=0/\c=0/\d=0;obtain⟨rfl,rfl,rfl,rfl⟩:=h0;rw[hT];rfl
    have hd0:((vA ((a:Int)=0))&&((vA ((b:Int)=0))&&((vA ((c:Int)=0))&&((vA ((d:Int)=0))&&yA))))=false:=by
      rw[Bool.eq_false_iff];intro hx;simp only[aa,decide_eq_true_eq,Bool.and_true]at hx;exact h0 (by omega)
    simp only[hd0,vC];by_cases c1:cu<0;rw[dT c1,hT];rfl;by_cases c2:cu≥((d0m (c0F l)).length:Int);rw[dF c1,dT c2,hT];rfl;rw[dF c1,dF c2];simp only[vC,ab,a0x];rw[a0z (by omega)];simp only[qC];obtain⟨pre,p,q,r,s,suf,hsum,hpre⟩:=J0d (l:=d0m (c0F l)) (i:=i.toNat) (by omega);have hi:i=(pre.length:Int):=by omega
    subst hi;have hyl2:=hyl;rw[hsum]at hy hv hyl2;have hbur:=y0k hy ha hb hc hd (by simp at hyl2;omega);have hn:=D0G (t:=4294967295) (by decide) hy ha hb hc hd h0;rw[hv]at hn
    have hy':a0A (pre++(p^^^a)::(q^^^b)::(r^^^c)::(s^^^d)::suf):=λz hz=>by
      simp at hz;rcases hz with hz|rfl|rfl|rfl|rfl|hz;exact hy z (by simp[hz]);exact x8 (hy p (by simp)) ha;exact x8 (hy q (by simp)) hb;exact x8 (hy r (by simp)) hc;exact x8 (hy s (by simp)) hd;exact hy z (by simp[hz])
    have hlen':(pre++(p^^^a)::(q^^^b)::(r^^^c)::(s^^^d)::suf).length<=140004/\4<=(pre++(p^^^a)::(q^^^b)::(r^^^c)::(s^^^d)::suf).length:=by
      simp at hyl2⊢;omega
    rw[<-hsum]at hbur;refine d0G (λo=>o=up (pre++(p^^^a)::(q^^^b)::(r^^^c)::(s^^^d)::suf)) ⟨_,hbur,rfl⟩ (λo h=> ?_);subst h;have hbad:=G0q hy' hlen'.2 (by omega) hn;have hce:=B0j hy' (by omega);rw[hbad]at hce;have h6:(u0z (pre++(p^^^a)::(q^^^b)::(r^^^c)::(s^^^d)::suf)).2=6:=(bA (al hce)).2.symm;have hdv:u0y (pre++(p^^^a)::(q^^^b)::(r^^^c)::(s^^^d)::suf)=(n0D,6):=by unfold u0y;rw[oB (by omega),h6]
    obtain⟨z,hz⟩:=s0p hy' (by omega) (by rw[hdv];decide);rw[hz,hdv];simp only[ab];rw[i0k (by omega) (by omega) (by omega)];obtain⟨n,rfl⟩:=bB (show 0<=cu by omega);have hyy:=o0v l;rw[show cut (up (d0m (c0F l))) 0 (n:Int)=up ((d0m (c0F l)).take n)from by rw[show(0:Int)=((0:Nat):Int)from rfl,E0A];rfl];have hnl:((d0m (c0F l)).take n).length=n:=by rw[aQ];omega
    have hne:(u0y ((d0m (c0F l)).take n)).2≠0:=by
      by_cases h60:n<60;intro h9;have he:=v0V h9;have hmm:=s0E (h0j hyy n) (by omega) (c:=(d0m (c0F l)).take n);rcases s0C hmm with ho2|hb2;rw[v0S ho2]at he;have hx:=congrArg List.length (bA he).1;rw[n0F,hnl]at hx;have:=n0v ho2;omega;rw[hb2]at he;have:=(bA he).2;omega;refine z0O ho (h0j hyy n) (by omega) ?_ (by omega);rw[List.take_take,show min 56 n=56 by omega];unfold d0m;rw[bZ (by omega)]
    obtain⟨z2,hz2⟩:=s0p (h0j hyy n) (by omega) hne;simp only[qC,ab];rw[hz2,ab,C0B hy' (by omega),ab,h6];simp only[dT hne];rfl

def q0K {H : Type} : List (String × DataW H) := [("math/bits.deBruijn32tab", Rows.laid_math_bits_deBruijn32tab), ("math/bits.deBruijn64tab", Rows.laid_math_bits_deBruijn64tab), ("internal/strconv.uint64pow10", Rows.laid_internal_strconv_uint64pow10), ("exergue/class.noughts", Rows.laid_exergue_class_noughts)]
theorem D0x(os:Os)(args:Array Value):laidMetH Tryz.prog q0K ((World.doorLaid Tryz.prog 4000 os).forCall (λ_ _=>0) ⟨#[],args,[]⟩).memory:=
  laidMetH_of_parts3 (fuel:=8) (laidMet_of_run' 8 (by kernel_rfl) (by kernel_rfl)) (by kernel_rfl) (by kernel_rfl)

/-- Package variables hold what they are said to. -/
theorem D0n {W:World} (hL:laidMetH Tryz.prog q0K W):k0j W (KW W) λ_=>none:=λg cs h=>by
  have hh:(q0K (H:=Unit)).all (λx=>x.2.handleName?.isNone)=true:=by kernel_rfl
  by_cases h0:g=0;subst h0;obtain rfl:=al (show qA [.int .i32 48, .int .i32 1632, .int .i32 1776, .int .i32 1984, .int .i32 2406, .int .i32 2534, .int .i32 2662, .int .i32 2790, .int .i32 2918, .int .i32 3046, .int .i32 3174, .int .i32 3302, .int .i32 3430, .int .i32 3664, .int .i32 3792, .int .i32 3872, .int .i32 6112, .int .i32 6160, .int .i32 65296, .int .i32 120782]=qA cs from h);exact n0m hh hL (nm := "exergue/class.noughts") (t := 302) (e := 21) (n := 20) (k := .i32) [48, 1632, 1776, 1984, 2406, 2534, 2662, 2790, 2918, 3046, 3174, 3302, 3430, 3664, 3792, 3872, 6112, 6160, 65296, 120782] (by unfold q0K; simp only [aG, bc, or_false]; first | exact yJ rfl | exact zF (yJ rfl) | exact zF (zF (yJ rfl)) | exact zF rfl | exact zF (zF rfl) | exact zF (zF (zF rfl)) | rfl) (by kernel_rfl) (by kernel_rfl) Tryz.underlying302 Tryz.underlying21 (by kernel_rfl) (by kernel_rfl);by_cases h2:g=2;subst h2;obtain rfl:=al (show qA [.int .u64 1, .int .u64 10, .int .u64 100, .int .u64 1000, .int .u64 10000, .int .u64 100000, .int .u64 1000000, .int .u64 10000000, .int .u64 100000000, .int .u64 1000000000, .int .u64 10000000000, .int .u64 100000000000, .int .u64 1000000000000, .int .u64 10000000000000, .int .u64 100000000000000, .int .u64 1000000000000000, .int .u64 10000000000000000, .int .u64 100000000000000000, .int .u64 1000000000000000000, .int .u64 10000000000000000000]=qA cs from h);exact n0m hh hL (nm := "internal/strconv.uint64pow10") (t := 413) (e := 301) (n := 20) (k := .u64) [1, 10, 100, 1000, 10000, 100000, 1000000, 10000000, 100000000, 1000000000, 10000000000, 100000000000, 1000000000000, 10000000000000, 100000000000000, 1000000000000000, 10000000000000000, 100000000000000000, 1000000000000000000, 10000000000000000000] (by unfold q0K; simp only [aG, bc, or_false]; first | exact yJ rfl | exact zF (yJ rfl) | exact zF (zF (yJ rfl)) | exact zF rfl | exact zF (zF rfl) | exact zF (zF (zF rfl)) | rfl) (by kernel_rfl) (by kernel_rfl) Tryz.underlying413 Tryz.underlying301 (by kernel_rfl) (by kernel_rfl);by_cases h3:g=3;subst h3;obtain rfl:=al (show qA [.int .u8 0, .int .u8 1, .int .u8 28, .int .u8 2, .int .u8 29, .int .u8 14, .int .u8 24, .int .u8 3, .int .u8 30, .int .u8 22, .int .u8 20, .int .u8 15, .int .u8 25, .int .u8 17, .int .u8 4, .int .u8 8, .int .u8 31, .int .u8 27, .int .u8 13, .int .u8 23, .int .u8 21, .int .u8 19, .int .u8 16, .int .u8 7, .int .u8 26, .int .u8 12, .int .u8 18, .int .u8 6, .int .u8 11, .int .u8 5, .int .u8 10, .int .u8 9]=qA cs from h);exact n0m hh hL (nm := "math/bits.deBruijn32tab") (t := 428) (e := 5) (n := 32) (k := .u8) [0, 1, 28, 2, 29, 14, 24, 3, 30, 22, 20, 15, 25, 17, 4, 8, 31, 27, 13, 23, 21, 19, 16, 7, 26, 12, 18, 6, 11, 5, 10, 9] (by unfold q0K; simp only [aG, bc, or_false]; first | exact yJ rfl | exact zF (yJ rfl) | exact zF (zF (yJ rfl)) | exact zF rfl | exact zF (zF rfl) | exact zF (zF (zF rfl)) | rfl) (by kernel_rfl) (by kernel_rfl) Tryz.underlying428 Tryz.underlying5 (by kernel_rfl) (by kernel_rfl);by_cases h4:g=4;subst h4;obtain rfl:=al (show qA [.int .u8 0, .int .u8 1, .int .u8 56, .int .u8 2, .int .u8 57, .int .u8 49, .int .u8 28, .int .u8 3, .int .u8 61, .int .u8 58, .int .u8 42, .int .u8 50, .int .u8 38, .int .u8 29, .int .u8 17, .int .u8 4, .int .u8 62, .int .u8 47, .int .u8 59, .int .u8 36, .int .u8 45, .int .u8 43, .int .u8 51, .int .u8 22, .int .u8 53, .int .u8 39, .int .u8 33, .int .u8 30, .int .u8 24, .int .u8 18, .int .u8 12, .int .u8 5, .int .u8 63, .int .u8 55, .int .u8 48, .int .u8 27, .int .u8 60, .int .u8 41, .int .u8 37, .int .u8 16, .int .u8 46, .int .u8 35, .int .u8 44, .int .u8 21, .int .u8 52, .int .u8 32, .int .u8 23, .int .u8 11, .int .u8 54, .int .u8 26, .int .u8 40, .int .u8 15, .int .u8 34, .int .u8 20, .int .u8 31, .int .u8 10, .int .u8 25, .int .u8 14, .int .u8 19, .int .u8 9, .int .u8 13, .int .u8 8, .int .u8 7, .int .u8 6]=qA cs from h);exact n0m hh hL (nm := "math/bits.deBruijn64tab") (t := 429) (e := 5) (n := 64) (k := .u8) [0, 1, 56, 2, 57, 49, 28, 3, 61, 58, 42, 50, 38, 29, 17, 4, 62, 47, 59, 36, 45, 43, 51, 22, 53, 39, 33, 30, 24, 18, 12, 5, 63, 55, 48, 27, 60, 41, 37, 16, 46, 35, 44, 21, 52, 32, 23, 11, 54, 26, 40, 15, 34, 20, 31, 10, 25, 14, 19, 9, 13, 8, 7, 6] (by unfold q0K; simp only [aG, bc, or_false]; first | exact yJ rfl | exact zF (yJ rfl) | exact zF (zF (yJ rfl)) | exact zF rfl | exact zF (zF rfl) | exact zF (zF (zF rfl)) | rfl) (by kernel_rfl) (by kernel_rfl) Tryz.underlying429 Tryz.underlying5 (by kernel_rfl) (by kernel_rfl);exfalso
  have:D0m g=none:=by
    unfold D0m;split<;>first|rfl|(exfalso;simp_all)
  rw[show I0J g=D0m g from rfl,this]at h;cases h

theorem A0K {P:Program} (h:P.funcs.toList.any Func.goes=oA)(f:FuncId):P.goes f=false:=by
  have h1: ∀fn∈P.funcs.toList,fn.goes=false:=λfn hm=>by
    rw[db]at h;simpa using h fn hm
  have h2:P.funcs.any Func.goes=false:=by rw[<-Array.any_toList];exact h
  unfold Program.goes;rw[h2,Bool.and_false,Bool.or_false,db];intro g _
  cases hg:P.funcs[g]? with
  |none=>simp
  |some fn=>
    have hm:fn∈P.funcs.toList:=by
      rw[aD];exact Array.mem_of_getElem? hg
    simp[h1 fn hm]
theorem go0:Tryz.prog.funcs.toList.any Func.goes=false:=by kernel_rfl
theorem A0L(s:String):oA=Tryz.prog.goesFrom s:=by
  unfold Program.goesFrom
  cases Tryz.prog.funcNamed s with
  |none=>rfl
  |some f=>exact(A0K go0 f).symm
theorem F0O:oA=Rows.topChangedRow.goesBy Tryz.prog:=by
  show oA=(Tryz.prog.goesFrom _||false);rw[Bool.or_false];exact A0L _
set_option maxRecDepth 100000 in
theorem o0q(os:Os)(started:os.Started)(H:Type)(enc:TypeId×Value->H):
    ReturnsInHanded {} Tryz.checked os 3 .any (λw args=>(Rows.topChangedSpec.pre enc Tryz.prog Tryz.f3 [] oA w args/\laidMetH Tryz.prog q0K w)/\sizedMet enc Tryz.prog Tryz.f3 (OpenSpec.ofChange Rows.topChangedSpec) oA w args) (Rows.topChangedSpec.post enc Tryz.prog Tryz.f3 oA yA oA oA):=by
  refine returnsInHanded_of_change_and (C:=Tryz.checked) (X:=λw _=>laidMetH Tryz.prog q0K w) (λ_ _ _ hh h=>h.of_heap hh) Tryz.own started (by kernel_rfl) Tryz.func3
    (ChangeSpec.witness_shaped (enc:=enc) (C:=Tryz.checked) (os:=os) (X:=λw _=>laidMetH Tryz.prog q0K w) oA (World.doorLaid Tryz.prog 4000 os) #[.agg #[.slice none 0 0, .int .i64 0, .int .u8 0, .int .u8 0, .int .u8 0, .int .u8 0, .int .i64 0]] 8 rfl (World.shaped_of_RefB (by kernel_rfl) (by kernel_rfl)) (by kernel_rfl) (by kernel_rfl) (by kernel_rfl) (D0x os _)) ?_
  intro W base args ds gs before hval0 hW _ hsz0 hL _;have hsz:(DataW.weightsEach Tryz.prog (Tryz.f3.params.toList++Rows.topChangedSpec.plain.varTypes Tryz.prog) (ds++gs)).all (· <=reachBytes)=true:=hsz0;clear hsz0;refine D0d (P:=Tryz.prog) (n:=3) (tb:=4) Tryz.laidOut Tryz.underlying4 rfl rfl (by kernel_rfl) (λh=> ?_) hval0 hW ?_ (D0n hL);rw[Tryz.params3]at h;obtain⟨d0,rfl⟩:=l1 h;exact⟨rfl,rfl,rfl⟩;intro ss hg hl1 hl2 hs;subst hg;rw[Tryz.params3]at hl1 hl2 hs hsz;obtain⟨d0,rfl⟩:=l1 hl1;obtain⟨s0,rfl⟩:=l1 hl2;obtain⟨cs0,rfl,hc0⟩:=r0P Tryz.underlying25 (hs 0 25 _ _ rfl rfl rfl);obtain⟨a0,rfl,w0⟩:=y0R (n:=0) _ _ hc0 (u0Z hsz (j:=0) rfl rfl);exact⟨[],j0h (u0K a0 w0)⟩
theorem q0W:Rows.TopChangedSaid:=
  OpenClaim.holds_of_wide 3 Tryz.f3 rfl rfl rfl rfl rfl rfl rfl ⟨rfl,rfl,rfl,rfl,rfl⟩ rfl rfl rfl rfl rfl (by kernel_rfl) Tryz.func3 qJ
    (jB (by kernel_rfl)) (by unfold Func.isWrapper;first|(rw[yB (by decide+kernel)];kernel_rfl)|(rw[oB (by decide+kernel)];exact⟨rfl,rfl⟩))
    (λos started H enc _=>o0q os started H enc)

theorem TopChanged_holds:Rows.TopChangedCardSaid:=
  Claim7.holds_tied_plain_at .later [] [.data, .data, .data, .data] yA (yA, "7486b52fbb669fbd4ed21edd4d3c93776b04cc92ca9d8b16fdb3c3e433460106") oA
    q0W (λ_ h=>by cases h) (by kernel_rfl) (λ_ h=>by cases h) topChanged_row_tie rfl ⟨rfl,rfl⟩ (by kernel_rfl) rfl
    (λf fn hf hfn=>by
      obtain rfl : f = 3 := al ((show Tryz.prog.funcNamed "exergue/exerguetop.TopChanged" = qA 3 by kernel_rfl).symm.trans hf) |>.symm;obtain rfl:fn=Tryz.f3:=(al (Tryz.func3.symm.trans hfn)).symm
      exact⟨by kernel_rfl,λj t ht=>by
        rw[Tryz.params3]at ht;have hm:t∈ [25]:=by simpa using Array.mem_of_getElem? ht
        have hall:([25].all λu=> !Tryz.prog.wantsStandIn u)=true:=by kernel_rfl
        exact(show Tryz.prog.wantsStandIn t=oA by simpa using List.all_eq_true.1 hall t hm)⟩)
    F0O

end Go.Proofs.YtenbbnahajjhnaaGreatDoor
