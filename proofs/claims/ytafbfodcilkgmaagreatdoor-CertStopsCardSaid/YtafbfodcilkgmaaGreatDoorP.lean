import Derived.Test.YtafbfodcilkgmaaGreatDoorGg
set_option linter.all false
namespace Go.Proofs.YtafbfodcilkgmaaGreatDoor
open Go Go.Sy Go.RowKit Go.ChangeShapes Go.WideShapes Go.ChangeAt
open Go.Conv renaming runesFrom->wF
open _root_.Int renaming fdiv->vF,tdiv->wD,tmod->jC
open Go.IntKind renaming bits->jI,signed->wH,wrap->oA
open _root_.Nat renaming beq->vC,blt->qE
open _root_.Option renaming bind->jB,some->qB
open _root_.Sum renaming elim->qG
open _root_.UInt8 renaming ofNat->oI
open Go.Utf8 renaming encode->yI
open _root_.Decidable renaming decide->wB
open _root_.Bool renaming false->vB,true->yB
set_option maxRecDepth 100000
set_option maxHeartbeats 4000000
variable {S O α β X T A:Type} {b:Bool} {x c i m k n g e x1:Int} {y:List a0b} {p:a0h} {w:e0E} {o:g0x} {q:s0B} {l cur:List Int} {d:b0v} {t:List UInt8} {s:c0J} {a u:Nat}
theorem cW {p:Prop} {a b:Bool} (n:(a==b)=Bool.false:=by rfl)(h:a=b):p:=by subst h;cases a<;>cases n
/-! What always answers. -/
theorem F0Y {step:S->Option (S⊕O)} (I:S->Prop)(μ:S->Nat)(post:O->Prop) {s0:S} (h0:I s0)(hb:μ s0<18446744073709551616)
    (hs: ∀s,I s->(∃s',step s=qB (.inl s')/\I s'/\μ s'<μ s)\/ ∃o,step s=qB (.inr o)/\post o): ∃o,a0n step big s0=qB o/\post o:=by
  have key: ∀m s,I s->μ s<m-> ∃o,a0n step m s=qB o/\post o:=by
    intro m
    induction m with
    |zero=>intro s _ h;omega
    |succ m ih=>
      intro s hi hm;rcases hs s hi with⟨s',h1,h2,h3⟩|⟨o,h1,h2⟩;rw[h0g h1];exact ih s' h2 cV;exact⟨o,k0i h1,h2⟩
  exact key big s0 h0 hb
def Tot (x:Option α)(p:α->Prop):Prop:= ∃o,x=qB o/\p o
theorem tR {a:α} {p:α->Prop} (h:p a):Tot (qB a) p:=⟨a,rfl,h⟩
theorem cX {α:Type} {β:Sort _} {f:β->α} {p:α->Prop} (t:∀x,p (f x):=by intros;exact True.intro)(x:β):Tot (qB (f x)) p:=tR (t x)
theorem dD {α:Type} {β γ:Sort _} {f:β->γ->α} {p:α->Prop} (t:∀x y,p (f x y):=by intros;exact True.intro)(x:β)(y:γ):Tot (qB (f x y)) p:=tR (t x y)
theorem tB {x:Option α} {k:α->Option β} {p:α->Prop} {q:β->Prop} (h:Tot x p)(hk: ∀o,p o->Tot (k o) q):Tot (jB x k) q:=by
  obtain⟨o,rfl,h⟩:=h;exact hk o h
theorem zC {x:Option α} {k:α->Option β} {q:β->Prop} (h:Tot x (λ_=>True))(g:∀ o,True->Tot (k o) q):Tot (jB x k) q:=tB h g
theorem tI {t e:Option α} {p:α->Prop} (ht:b=yB->Tot t p)(he:b=vB->Tot e p):Tot (bif b then t else e) p:=by
  cases b with
  |true=>exact ht rfl
  |false=>exact he rfl
theorem zI {t e:Option α} {p:α->Prop} (h:Tot t p)(g:Tot e p):Tot (bif b then t else e) p:=tI (λ_=>h) (λ_=>g)
theorem zB {x:Option α} {k:α->Option β} {q:β->Prop} (h:Tot x (λ_=>True))(g:∀ o,Tot (k o) q):Tot (jB x k) q:=tB h (λo _=>g o)
theorem dE {α:Type} {x:Option α} (h:Tot x (λ_=>True):=by repeat' (first|exact tR trivial|refine zI ?_ ?_|refine zB ?_ λ_=> ?_)):Tot x (λ_=>True):=h
theorem tY {t e:Option α} {p:α->Prop} (h:b=yB)(ht:Tot t p):Tot (bif b then t else e) p:=by subst h;exact ht
theorem tN {t e:Option α} {p:α->Prop} (h:b=vB)(he:Tot e p):Tot (bif b then t else e) p:=by subst h;exact he
theorem zE {y:Int} {t:Option α} {o:α} {p:α->Prop} (e:x=y)(h:p o):Tot (bif wB (x<y) then t else qB o) p:=tN (dF cV) (tR h)
theorem Tot.mono {x:Option α} {p q:α->Prop} (h:Tot x p)(hq: ∀o,p o->q o):Tot x q:=by obtain⟨o,h1,h2⟩:=h;exact⟨o,h1,hq o h2⟩
def M0B (k:S->Option X)(p:X->Prop):S⊕X->Prop
  | .inl s=>Tot (k s) p
  | .inr r=>p r
theorem tJ {x:Option (S⊕X)} {k:S->Option X} {p:X->Prop} (h:Tot x (M0B k p)):Tot (jB x (a0j k)) p:=by
  obtain⟨o,rfl,h⟩:=h
  cases o with
  |inl s=>exact h
  |inr r=>exact⟨r,rfl,h⟩
theorem tL {step:S->Option (S⊕O)} (I:S->Prop)(μ:S->Nat) {post:O->Prop} {s0:S} (h0:I s0)(hb:μ s0<18446744073709551616)
    (hs: ∀s,I s->Tot (step s) (λx=>match x with| .inl s'=>I s'/\μ s'<μ s| .inr o=>post o)):Tot (a0n step big s0) post:=by
  refine F0Y I μ post h0 hb (λs hi=> ?_);obtain⟨x,h1,h2⟩:=hs s hi
  cases x with
  |inl s'=>exact .inl ⟨s',h1,h2⟩
  |inr o=>exact .inr ⟨o,h1,h2⟩
theorem Tot.any {x:Option α} {p:α->Prop} (h:Tot x p):Tot x (λ_=>True):=h.mono (λ_ _=>trivial)
theorem dTT {p:Prop} [Decidable p](h:wB p=yB):p:=jF h
theorem dFF {p:Prop} [Decidable p](h:wB p=vB): ¬p:=of_decide_eq_false h
theorem tM {γ:Type} {x:α⊕β} {f:α->Option γ} {g:β->Option γ} {p:γ->Prop} (hf: ∀a,x= .inl a->Tot (f a) p)(hg: ∀b,x= .inr b->Tot (g b) p):Tot (qG f g x) p:=by
  cases x with
  |inl a=>exact hf a rfl
  |inr b=>exact hg b rfl
def B0s (p:α->Prop):α⊕β->Prop
  | .inl a=>p a
  | .inr _=>True
theorem tS {γ:Type} {x:Option (α⊕β)} {f:α->Option γ} {g:β->Option γ} {p:α->Prop} {q:γ->Prop} (h:Tot x (B0s p))(hf: ∀a,p a->Tot (f a) q)(hg: ∀b,Tot (g b) q):Tot (jB x λy=>qG f g y) q:=by
  obtain⟨o,rfl,h⟩:=h
  cases o with
  |inl a=>exact hf a h
  |inr b=>exact hg b
theorem tW {step:S->Option (S⊕O)} (ix:S->Int)(n:Nat)(I:S->Prop) {post:O->Prop} {s0:S} (hn:n<=4294967296)(h0:I s0/\0<=ix s0/\ix s0<=n)
    (hs: ∀s,I s->0<=ix s->ix s<n->Tot (step s) (λx=>match x with| .inl s'=>I s'/\ix s'=ix s+1| .inr o=>post o)) (he: ∀s,I s->ix s=n->Tot (step s) (λx=>match x with| .inl _=>False| .inr o=>post o)):Tot (a0n step big s0) post:=by
  refine tL (λs=>I s/\0<=ix s/\ix s<=n) (λs=>((n:Int)-ix s).toNat) h0 cV (λs hi=> ?_);by_cases h:ix s=n;refine Tot.mono (he s hi.1 h) (λo ho=> ?_)
  cases o with
  |inl _=>exact absurd ho id
  |inr _=>exact ho
  refine Tot.mono (hs s hi.1 hi.2.1 cV) (λo ho=> ?_)
  cases o with
  |inl s'=>exact⟨⟨ho.1,by rw[ho.2];omega,by rw[ho.2];omega⟩,by rw[ho.2];omega⟩
  |inr _=>exact ho
def jp {R E:Type} (p:S->Prop):S⊕(R⊕E)->Prop
  | .inl s=>p s
  | .inr (.inl _)=>False
  | .inr (.inr _)=>True
theorem tE {R E:Type} {x:Option (S⊕(R⊕E))} {k:S->Option (R⊕E)} {p:S->Prop} {q:R->Prop} (h:Tot x (jp p))(hk: ∀s,p s->Tot (k s) (B0s q)):Tot (jB x (a0j k)) (B0s q):=by
  obtain⟨o,rfl,h⟩:=h
  match o,h with
  | .inl s,h=>exact hk s h
  | .inr (.inr e),_=>exact⟨_,rfl,trivial⟩
/-! Patterns are read, or not: it answers. -/
def ra(l:List Int)(i:Int):Prop:=0<=i/\i<=(l.length:Int)
section
variable {l : List Int} (hl : l.length <= 100000) {b m p k d : Int}
include hl
theorem I0J {on:Int} (h:ra l i)(ho:0<=on/\on<=1):Tot (a0Y c on l i b m p k d) (λr=>r=yB->i+on<l.length):=by
  obtain⟨h0,h1⟩:=h;unfold a0Y;rw[w64 (n:=i+on) cV cV];refine tB (p:=λr=>r=yB->i+on<l.length) ?_ (λ_ h=>tR h);refine tI (λh=> ?_) (λ_=>tR cW);exact tY (a0c cV (dTT h)) (tR (λ_=>dTT h))
theorem E0p (h:ra l i):Tot (a0w c l i b m p k d) (λr=>(r.1=yB/\r.2=i+1/\i<l.length)\/(r.1=vB/\r.2=i)):=by
  unfold a0w;refine tB (I0J hl h cV) (λy hy=> ?_);obtain⟨h0,h1⟩:=h
  cases y with
  |false=>exact tR (.inr ⟨rfl,rfl⟩)
  |true=>
    have:=hy rfl;exact tR (.inl ⟨rfl,w64 cV cV,cV⟩)
theorem B0x (h:ra l i):Tot (a0w c l i b m p k d) (λr=>ra l r.2/\i<=r.2):=by
  refine(E0p hl h).mono (λr hr=> ?_);obtain⟨h0,h1⟩:=h;rcases hr with⟨_,e,e2⟩|⟨_,e⟩;exact⟨⟨cV,cV⟩,cV⟩;exact⟨⟨cV,cV⟩,cV⟩
theorem x0o (h:ra l i):Tot (b0h c l i b m p k d) (λr=>ra l r.2/\i<=r.2):=by
  unfold b0h;refine tB (p:=λs:Int×Int=>ra l s.2/\i<=s.2) (tL (λs:Int×Int=>ra l s.2/\i<=s.2) (λs=>((l.length:Int)-s.2).toNat) ⟨h,az _⟩ (by have:=h.1;simp only;omega) (λs hs=> ?_)) (λ_ h=>tR h);refine tB (E0p hl hs.1) (λy hy=> ?_);obtain⟨⟨h0,h1⟩,h2⟩:=hs;rcases hy with⟨e1,e2,e3⟩|⟨e1,e2⟩;rw[e1,e2];exact tR ⟨⟨⟨cZ,cZ⟩,cZ⟩,cZ⟩;rw[e1,e2];exact tR ⟨⟨h0,h1⟩,h2⟩
theorem D0c {w:Int} (h:ra l i) {x8 x18 x9 x10 x11 x12 x13 x14 x15 x16 x17 x19 x20} :Tot (d0Y w l i b m p k d x8 x9 x10 x11 x12 x13 x14 x15 x16 x17 x18 x19 x20) (B0s λr=>ra l r.1/\i<=r.1):=by
  unfold d0Y;refine tJ (tB (p:=λr:Bool×Int=>ra l r.2/\i<=r.2) (tI (λ_=>tR ⟨h,az _⟩) (λ_=>tB (B0x hl h) (λy hy=>tR hy))) (λs hs=>tI (λ_=>tR hs) (λ_=>tR (show Tot _ _ from ?_))));refine tJ (tI cX (λhd=>tR (show Tot _ _ from ?_)));have:=dFF hd;obtain⟨⟨h0,h1⟩,h2⟩:=hs;have e:oA .i64 (s.2+1)=s.2+1:=w64 cV cV;refine tY (a0c h0 cV) (tR ?_);rw[e];exact⟨⟨cZ,cZ⟩,cZ⟩
theorem G0V {w:Int} (h:ra l i) {x8 x9 x19 x10 x11 x12 x13 x14 x15 x16 x17 x18 x20 x21} :Tot (d0X w l i b m p k d x8 x9 x10 x11 x12 x13 x14 x15 x16 x17 x18 x19 x20 x21) (B0s λr=>ra l r.1/\i<=r.1):=
  D0c (x8:=x9) (x9:=x10) (x10:=x11) (x11:=x12) (x12:=x13) (x13:=x14) (x14:=x15) (x15:=x16) (x16:=x17) (x17:=x18) (x18:=x19) (x19:=x20) (x20:=x21) hl h
theorem K0z {w:Int} (h:ra l i) {x8 x9 x10 x20 x11 x12 x13 x14 x15 x16 x17 x18 x19 x21 x22} :Tot (f0D w l i b m p k d x8 x9 x10 x11 x12 x13 x14 x15 x16 x17 x18 x19 x20 x21 x22) (B0s λr=>ra l r.1/\i<=r.1):=
  D0c (x8:=x10) (x9:=x11) (x10:=x12) (x11:=x13) (x12:=x14) (x13:=x15) (x14:=x16) (x15:=x17) (x16:=x18) (x17:=x19) (x18:=x20) (x19:=x21) (x20:=x22) hl h
theorem C0b (h:ra l i):Tot (c0s l i b m p k d) (λr=>(r.1=yB/\r.2=i+2/\i+1<l.length)\/(r.1=vB/\r.2=i)):=by
  unfold c0s;refine tJ (tB (p:=λr=>r=vB->i+1<l.length) (tB (I0J hl h cV) (λy _=>tI (λ_=>tR cW) (λ_=>tB (I0J hl h cV) (λz hz=>tR (λe=>hz (by simpa using e)))))) (λs hs=> ?_));obtain⟨h0,h1⟩:=h
  cases s with
  |true=>exact tR (.inr ⟨rfl,rfl⟩)
  |false=>
    have:=hs rfl;exact tR (tR (.inl ⟨rfl,w64 cV cV,this⟩))
theorem F0K {o:List a0b} (h:ra l i)(hi:i<l.length)(ho:(o.length:Int)<=i):Tot (c0Z l i b m p k d o) (B0s λr=>ra l r.1/\i<r.1/\(r.2.length:Int)<=r.1):=by
  unfold c0Z;refine tB (C0b hl h) (λy hy=> ?_);obtain⟨h0,h1⟩:=h;rcases hy with⟨e1,e2,e3⟩|⟨e1,e2⟩;rw[e1,e2];exact tY rfl (tY (a0f dA) (tR ⟨⟨cZ,cZ⟩,cZ,dA⟩));rw[e1,e2,w64 (n:=i+1) cV cV];refine tJ (tL (λs:Int×List a0b=>ra l s.1/\i<s.1/\(s.2.length:Int)<=s.1) (λs=>((l.length:Int)-s.1).toNat) ⟨⟨cZ,cZ⟩,cZ,cZ⟩ cZ (λs hs=> ?_));refine tI (λhlt=> ?_) (λ_=>tR (tR trivial));have hlt:=dTT hlt;refine tB (C0b hl hs.1) (λy hy=> ?_);obtain⟨⟨g0,g1⟩,g2,g3⟩:=hs;rcases hy with⟨e1,e2,e3⟩|⟨e1,e2⟩;rw[e1,e2];exact tY rfl (tY (a0f dA) (tR ⟨⟨⟨cZ,cZ⟩,cZ,dA⟩,cZ⟩));rw[e1,e2];refine tB (E0p hl ⟨g0,g1⟩) (λy hy=> ?_);rcases hy with⟨e1,e2,e3⟩|⟨e1,e2⟩;rw[e1,e2];exact tR ⟨⟨cZ,cZ⟩,cZ,cZ⟩;rw[e1,e2,w64 (n:=s.1+1) cV cV];exact tN rfl (tY (a0c g0 hlt) (tY (a0f dA) (tR ⟨⟨⟨cZ,cZ⟩,cZ,dA⟩,cZ⟩)))
omit hl in
theorem w0B(x:Int):Tot (g0V x) (λ_=>True):=by
  unfold g0V;refine tJ (zC ?_ (λs _=>tI cX (λ_=>tR (zC ?_ dD))))
  · repeat' (first|exact tR trivial|refine tI (λ_=> ?_) (λ_=> ?_))
  exact tI cX cX
theorem w0h (h:ra l i):Tot (b0m l i b m p k d) (B0s λr=>ra l r.2/\i<=r.2/\(r.1.length:Int)<=r.2):=by
  unfold b0m;refine tJ (tL (λs:Int×List a0b=>ra l s.1/\i<=s.1/\(s.2.length:Int)<=s.1) (λs=>((l.length:Int)-s.1).toNat) ⟨h,az _,by have:=h.1;simpa using this⟩ (by have:=h.1;simp only;omega) (λs hs=> ?_));refine tI (λhlt=> ?_) (λ_=>tR (tR hs));have hlt:=dTT hlt;obtain⟨⟨g0,g1⟩,g2,g3⟩:=hs;have e:oA .i64 (s.1+1)=s.1+1:=w64 cV cV;rw[e];refine tY (a0c g0 hlt) ?_
  have step: ∀t:a0b,(ra l (s.1+1)/\i<=s.1+1/\((s.2++ [t]).length:Int)<=s.1+1)/\((l.length:Int)-(s.1+1)).toNat<((l.length:Int)-s.1).toNat:=λt=>⟨⟨⟨cV,cV⟩,cV,dA⟩,cV⟩
  have rm: ∀t:a0b,room (s.2.length+([t]:List a0b).length)=true:=λt=>a0f dA
  iterate 4 refine tI (λ_=>zC (tY (rm _) (tR trivial)) (λ_ _=>tR (step _))) (λ_=> ?_)
  refine tJ (tB (I0J hl ⟨g0,g1⟩ cV) (λy hy=>tI (λ_=> ?_) (λ_=>tB (w0B _) (λ_ _=>tI (λ_=>tR ⟨⟨g0,g1⟩,g2,g3⟩) (λ_=>tY (rm _) (tR (tR (step _))))))));exact tS (F0K hl ⟨g0,g1⟩ hlt g3) (λa ha=>tR ⟨⟨ha.1,by have:=ha.2.1;simp only;omega,ha.2.2⟩,by have:=ha.2.1;have:=ha.1.2;simp only;omega⟩) (λa=>tR trivial)
theorem C0X {w:Int} (h:ra l i)(ho:0<=w/\w<=1) {x8 x9 x10 x11 x12 x13 x14 x15 x16 x17 x18 x19 x20 x21} :Tot (c0t w l i b m p k d x8 x9 x10 x11 x12 x13 x14 x15 x16 x17 x18 x19 x20 x21) (λr=>r=yB->i+w<l.length):=by
  unfold c0t;refine tB (p:=λr=>r=yB->i+w<l.length) (tB (I0J hl h ho) (λy hy=> ?_)) (λ_ h=>tR h);refine tI (λe=>tR (λ_=>hy e)) (λ_=>tI (λ_=>tB (I0J hl h ho) (λy hy=>tR hy)) (λ_=>tR cW))
theorem E0x {w:Int} (h:ra l i) {x8 x9 x10 x11 x12 x13 x14 x15 x16 x17 x18 x19 x20 x21} :Tot (c0u w l i b m p k d x8 x9 x10 x11 x12 x13 x14 x15 x16 x17 x18 x19 x20 x21) (λr=>r=yB->i<l.length):=by
  unfold c0u;refine tB (p:=λr=>r=yB->i<l.length) ?_ (λ_ h=>tR h);refine tI (λ_=>tB (I0J hl h cV) (λy hy=>tI (λe=>tB (C0X hl h cV) (λz _=>tR (λ_=> ?_))) (λ_=>tR cW))) (λ_=>tR cW);have:=hy e;omega
theorem E0E {w v:Int} (h:ra l i) {x9 x10 x11 x12 x13 x14 x15 x16 x17 x18 x19 x20 x21 x22} :Tot (c0H w v l i b m p k d x9 x10 x11 x12 x13 x14 x15 x16 x17 x18 x19 x20 x21 x22) (λ_=>True):=by
  unfold c0H;refine tJ (zC (tI cX (λ_=>tB (E0x hl h) (λ_ _=>tR trivial))) (λ_ _=>tI cX (λ_=>tR (show Tot _ _ from ?_))));exact tJ (zC (tI cX cX) (λ_ _=>tI cX (λ_=>tR (tR trivial))))
theorem F0N (h:ra l i) {x7 x8 x9 x10 x11 x12 x13 x14 x15 x16 x17 x18 x19 x20} :Tot (d0a l i b m p k d x7 x8 x9 x10 x11 x12 x13 x14 x15 x16 x17 x18 x19 x20) (B0s λr=>ra l r.1/\i<=r.1):=by
  unfold d0a;refine tJ (tL (λs:Int×Int×Int×Int×Int×Int=>ra l s.2.2.1/\i<=s.2.2.1) (λs=>((l.length:Int)-s.2.2.1).toNat) ⟨h,az _⟩ (by have:=h.1;simp only;omega) (λs hs=> ?_));refine tJ (tB (p:=λr=>r=yB->s.2.2.1<l.length) (tB (C0X hl hs.1 cV) (λy hy=>tI (λe=>tR (λ_=>by have:=hy e;omega)) (λ_=>tB (E0x hl hs.1) (λy hy=>tR hy)))) (λr hr=>tI (λe=>tR (show Tot _ _ from ?_)) (λ_=>tR (tJ (tI cX (λ_=>tR (show Tot _ _ from tI (λ_=>tR hs) (λ_=>tI (λ_=>tR hs) (λ_=>tR hs)))))))));have hlt:=hr e;refine tB (E0p hl hs.1) (λy hy=> ?_);obtain⟨⟨g0,g1⟩,g2⟩:=hs;rcases hy with⟨e1,e2,e3⟩|⟨e1,e2⟩;rw[e1,e2];exact tR ⟨⟨⟨cZ,cZ⟩,cZ⟩,cZ⟩;rw[e1,e2];refine tB (p:=λt:Int×Int×Int=>t.1=s.2.2.1+1) (tB (E0p hl ⟨g0,g1⟩) (λz hz=> ?_)) (λt ht=> ?_);rcases hz with⟨e1,e2,e3⟩|⟨e1,e2⟩;rw[e1,e2];exact tR rfl;rw[e1,e2,w64 (n:=s.2.2.1+1) cV cV];exact tR rfl;rw[ht];refine tB (E0E hl ⟨cV,cV⟩) (λy _=>tM (λa _=>tR ⟨⟨⟨cZ,cZ⟩,cZ⟩,cZ⟩) (λa _=>tR trivial))
theorem B0u (h:ra l i) {x7 x8 x9 x10 x11 x12 x13 x14 x15 x16 x17 x18 x19 x20} :Tot (c0l l i b m p k d x7 x8 x9 x10 x11 x12 x13 x14 x15 x16 x17 x18 x19 x20) (B0s λr=>ra l r.1/\i<=r.1):=by
  unfold c0l;refine tB (B0x hl h) (λy hy=>tI (λ_=>tR hy) (λ_=>tB (x0o hl hy.1) (λz hz=>tB (x0o hl hz.1) (λw hw=>tI cX (λ_=>tR ⟨hw.1, ?_⟩)))));have:=hy.2;have:=hz.2;have:=hw.2;simp only;omega
theorem F0T (h:ra l i) {x7 x8 x9 x10 x11 x12 x13 x14 x15 x16 x17 x18 x19 x20} :Tot (d0b l i b m p k d x7 x8 x9 x10 x11 x12 x13 x14 x15 x16 x17 x18 x19 x20) (B0s λr=>ra l r.1/\i<=r.1):=by
  unfold d0b;refine tB (x0o hl h) (λy hy=> ?_);refine tE (p:=λs=>ra l s.1/\i<=s.1) (tI (λ_=>tB (x0o hl hy.1) (λz hz=>tR ⟨hz.1,bE hy.2 hz.2⟩)) (λ_=>tS (F0N hl hy.1) (λa ha=>tS (B0u hl ha.1) (λc hc=>tR ⟨hc.1,bE hy.2 (bE ha.2 hc.2)⟩) (λc=>tR trivial)) (λa=>tR trivial))) (λs hs=> ?_);refine tB (B0x hl hs.1) (λz hz=>tI (λ_=>tR ⟨hz.1,bE hs.2 hz.2⟩) (λ_=>tB (B0x hl hz.1) (λu hu=>tB (x0o hl hu.1) (λv hv=>tI cX (λ_=>tR ⟨hv.1,bE hs.2 (bE hz.2 (bE hu.2 hv.2))⟩)))))
theorem B0n {q:List Int} (hq:q.length<=100000)(h:ra l i) {x8 x9 x10 x11 x12 x13 x14 x15 x16 x17 x18 x19 x20 x21 x22} :Tot (c0k q l i b m p k d x8 x9 x10 x11 x12 x13 x14 x15 x16 x17 x18 x19 x20 x21 x22) (B0s λr=>ra l r.1/\r.2.1.length<=l.length/\r.2.2.length<=l.length):=by
  unfold c0k;refine tS (w0h hl h) (λa ha=>tJ (tW (λs:Int×Int=>s.1) q.length (λs=>ra l s.2) cV ⟨ha.1,az _,dB⟩ (λs hs g0 g1=> ?_) (λs hs e=> ?_))) (λa=>tR trivial);rw[dT g1];refine tJ (tY (a0c g0 g1) (tB (B0x hl hs) (λy hy=>tI cX (λ_=>tR (tR ⟨hy.1,w64 cV cV⟩)))));rw[dF (show¬s.1<(q.length:Int) by omega)];refine tR (tS (w0h hl hs) (λc hc=>tR ⟨hc.1, ?_, ?_⟩) (λc=>tR trivial));have:=ha.2.2;have:=ha.1.2;simp only;omega;have:=hc.2.2;have:=hc.1.2;simp only;omega
end
def j0f(x:a0h)(n:Nat):Prop:=x.h_.length<=n/\x.i_.length<=n/\x.T_.length<=n/\x.N_.length<=n
theorem E0t(l:List Int)(a b:Int):(cut l a b).length<=l.length:=by unfold cut;simp;omega
theorem C0Y (hl:l.length<=100000) {b p d:Int} (h:ra l i):Tot (c0F l i b m p k d) (B0s λr=>j0f r.1 l.length):=by
  unfold c0F;refine tS (D0c hl h) (λy4 h4=> ?_) cX;refine tS (w0h hl h4.1) (λy11 h11=> ?_) cX;refine tE (p:=λs:Int×Int×Int=>ra l s.1) (tI (λ_=>tS (G0V hl h11.1) (λa ha=>tR ha.1) cX) (λ_=>tR h11.1)) (λs hs=> ?_);refine tS (F0T hl hs) (λy47 h47=> ?_) cX;refine tY (k0K hs.1 h47.2 h47.1.2) ?_;refine tS (G0V hl h47.1) (λy55 h55=> ?_) cX;refine tS (w0h hl h55.1) (λy62 h62=> ?_) cX;refine tE (p:=λs:Int×Int×Int=>ra l s.1) (tI (λ_=>tS (K0z hl h62.1) (λa ha=>tR ha.1) cX) (λ_=>tR h62.1)) (λs2 hs2=> ?_);refine tE (p:=λs:Int×List a0b×List a0b×Bool=>ra l s.1/\s.2.1.length<=l.length/\s.2.2.1.length<=l.length) (tB (B0x hl hs2) (λy hy=>tI (λ_=>tS (B0n hl (aG (E0t ..) hl) hy.1) (λa ha=>tR ha) cX) (λ_=>tR ⟨hy.1,dB,dB⟩))) (λs3 hs3=> ?_);refine tE (p:=λ_=>True) (tI cX cX) (λ_ _=>tR ⟨?_, ?_,hs3.2.1,hs3.2.2⟩);have:=h11.2.2;have:=h11.1.2;simp only;omega;have:=h62.2.2;have:=h62.1.2;simp only;omega
theorem K0s (hl:l.length<=100000):Tot (q0o l) (λr=>j0f r.1 l.length):=by
  unfold q0o;refine tB (show Tot i0L (λ_=>True)from tR trivial) (λ_ _=>tS (C0Y hl ⟨az _,cV⟩) (λa ha=>zC (by unfold j0z;exact tR trivial) (λ_ _=>tR ha)) (λa=>zC (by unfold j0y;exact tR trivial) (λ_ _=>tR ?_)));exact⟨dB,dB,dB,dB⟩
/-! Bytes are read, patterns written: it answers. -/
theorem H0L(x:Int):Tot (p0P x) (λn=>0<=n/\n<=4):=by
  unfold p0P;refine zC ?_ (λy _=> ?_)
  · unfold r0C
    refine zC ?_ dD
    repeat' (first|exact tR trivial|refine tI (λ_=> ?_) (λ_=> ?_))
  · repeat' (first|exact tR ⟨cV,cV⟩|refine tI (λ_=> ?_) (λ_=> ?_))
theorem I0Y (h0:0<l.length)(hl:l.length<=100000):Tot (m0Y l) (λr=>0<=r.2/\r.2<=l.length):=by
  unfold m0Y;have i0:inR 0 l.length=true:=a0c (az _) cV;refine tY i0 (tB (p:=λn=>0<=n/\n<=4) ?_ (λy hy=> ?_))
  · unfold k0B
    repeat' (first|exact tR ⟨cV,cV⟩|refine tI (λ_=> ?_) (λ_=> ?_))
  refine tJ (tB (p:=λr=>r=vB->1<=y/\y<=l.length) (tI (λ_=>tR cW) (λe=>tR (λh=> ?_))) (λr hr=>tI (λ_=>tR ⟨az _,cZ⟩) (λe=>tR (show Tot _ _ from ?_))));have:=dFF e;have:=dFF h;omega;obtain⟨y1,y2⟩:=hr e;refine tY i0 (zC ?_ (λm _=> ?_))
  · unfold s0n
    repeat' (first|exact tR trivial|refine tI (λ_=> ?_) (λ_=> ?_))
  have hc:(cut l 1 y).length<=l.length:=E0t ..;refine tJ (tY (k0K cV y1 y2) (tW (λs:Int×Int=>s.2) (cut l 1 y).length (λ_=>True) cV ⟨trivial,az _,dB⟩ (λs _ g0 g1=> ?_) (λs _ e=> ?_)));refine tY (dT g1)<|tY (a0c g0 g1) (tI (λ_=>tR ⟨az _,cZ⟩) (λ_=>tR ⟨trivial,w64 cV cV⟩))
  rw[dF (show¬s.2<((cut l 1 y).length:Int) by omega)];exact tR (tB (H0L _) (λz hz=>tI (λ_=>tR ⟨az _,cZ⟩) (λ_=>tR ⟨cZ,y2⟩)))
theorem G0x (hl:l.length<=100000):Tot (j0F l) (λr=>r.1.length<=l.length):=by
  unfold j0F;refine tJ (tL (λs:Int×List Int=>ra l s.1/\(s.2.length:Int)<=s.1) (λs=>((l.length:Int)-s.1).toNat) ⟨⟨az _,cZ⟩,dB⟩ cZ (λs hs=> ?_));obtain⟨⟨g0,g1⟩,g2⟩:=hs;refine tI (λhlt=> ?_) (λ_=>tR (tR cZ));have hlt:=dTT hlt;have hc:((cut l s.1 (l.length:Int)).length:Int)=(l.length:Int)-s.1:=by unfold cut;simp;omega
  refine tY (k0K g0 g1 cV) (tB (I0Y cV cV) (λy hy=>tI (λ_=>tR (show([]:List Int).length<=_ by simp)) (λhn=>tY (a0f dA) (tR ?_))));have hn:=dFF hn;rw[w64 (n:=s.1+y.2) cV cV];exact⟨⟨⟨cZ,cZ⟩,dA⟩,cZ⟩
theorem D0a (ht:t.length<=100000):Tot (l0u t) (λr=>j0f r.1 120):=by
  have z: ∀a c:Int,Tot (qB ((⟨([]:List a0b),([]:List a0b),([]:List a0b),([]:List a0b),vB,0,0,0,0,0,0,0,0,0,vB,0,0⟩:a0h),a,c)) (λr:a0h×Int×Int=>j0f r.1 120):=λa c=>tR ⟨dB,dB,dB,dB⟩
  unfold l0u;refine tB (G0x (by rw[d0I];exact ht)) (λy hy=>tI (λ_=>z _ _) (λ_=>tI (λ_=>z _ _) (λh=> ?_)));have h:=dFF h;refine tB (K0s (by rw[d0I]at hy;omega)) (λq hq=>tI (λ_=>z _ _) (λ_=>tI (λ_=>z _ _) (λ_=>tR ?_)));obtain⟨q1,q2,q3,q4⟩:=hq;exact⟨cZ,cZ,cZ,cZ⟩
theorem w0C(n:Int):Tot (j0x n) (λr=>0<=r/\r<=121):=by
  unfold j0x s0e L0Q;refine tR ?_;split<;>split<;>omega
theorem q0k {o:List Int} (ho:o.length<=100000):Tot (g0h o c n) (λr=>r.length<=o.length+121):=by
  unfold g0h;refine tB (p:=λr:List Int=>r.length<=o.length+121) (tB (w0C n) (λy hy=>tL (λs:Int×List Int=>0<=s.1/\s.1<=y/\(s.2.length:Int)<=o.length+s.1) (λs=>(y-s.1).toNat) ⟨az _,hy.1,dB⟩ cZ (λs hs=> ?_))) (λ_ h=>tR h);refine tI (λhlt=>tY (a0f dA) (tR ?_)) (λ_=>tR cZ);have hlt:=dTT hlt;rw[w64 (n:=s.1+1) cV cV];exact⟨⟨cZ,cZ,dA⟩,cZ⟩
theorem D0V(p:a0h)(n:Int):Tot (k0g p n) (λ_=>True):=by
  unfold k0g;refine tJ (zC (tI cX cX) (λ_ _=>tI cX (λ_=>tR (show Tot _ _ from zC ?_ dD))));refine tI cX (λ_=>tI (λh=>tY ?_ (tR trivial)) cX);have:=dTT h;unfold nz;rw[dF cV];rfl
theorem B0Y {o:List Int} (ho:o.length<=10000):Tot (l0s o p) (λr=>r.length<=o.length+500):=by
  unfold l0s;refine tB (w0C _) (λy hy=>tB (w0C _) (λz hz=> ?_));rw[w64 (n:=y+z) cV cV];refine tB (p:=λr:List Int=>r.length<=o.length+500) (tL (λs:Int×List Int=>0<=s.1/\s.1<=y+z/\(s.2.length:Int)<=o.length+s.1+s.1) (λs=>(y+z-s.1).toNat) ⟨az _,cZ,dB⟩ cZ (λs hs=> ?_)) (λ_ h=>tR h);refine tI (λhlt=> ?_) (λ_=>tR cZ);have hlt:=dTT hlt;rw[w64 (n:=s.1+1) cV cV];refine tB (p:=λt:List Int=>(t.length:Int)<=s.2.length+2) (tB (p:=λt:List Int=>(t.length:Int)<=s.2.length+1) (zC (tI (λ_=>tB (D0V _ _) dD) cX) (λ_ _=>tI (λ_=>tY (a0f dA) (tR dB)) (λ_=>tR cV))) (λt ht=>tI (λ_=>tY (a0f dA) (tR dA)) (λ_=>tY (a0f dA) (tR dA)))) (λt ht=>tR ?_);exact⟨⟨cZ,cZ,cZ⟩,cZ⟩
theorem w0p(p:a0h):Tot (j0J p) (λr=>r.length<=2000):=by
  unfold j0J;refine tB (p:=λr:List Int=>r.length<=1000) (zC (tI cX cX) (λ_ _=>tI (λ_=> ?_) (λ_=> ?_))) (λr hr=>tB (p:=λr:List Int=>r.length<=2000) ?_ (λ_ h=>tR h));exact tB (q0k dB) (λa ha=>tB (w0C _) (λ_ _=>tB (q0k (by simp at ha;omega)) (λc hc=>tR (by simp at ha;omega))));refine tB (B0Y dB) (λa ha=>tI (λ_=>tY (a0f (by simp at ha⊢;omega)) (tB (q0k (by simp at ha⊢;omega)) (λc hc=>tB (w0C _) (λ_ _=>tB (q0k (by simp at ha hc⊢;omega)) (λe he=>tR (by simp at ha hc he;omega)))))) (λ_=>tR (by simp at ha;omega)));refine tI (λ_=>tY (a0f dA) (tB (p:=λt:List Int=>t.length<=r.length+2) (tI (λ_=>tY (a0f dA) (tR dB)) (λ_=>tR dB)) (λt ht=>tB (q0k cV) (λu hu=>tR cV)))) (λ_=>tR cV)
theorem z0z {o:List Int} {w:Int} (ho:o.length<=100000):Tot (n0w o p w) (λr=>r.length<=o.length+2):=by
  unfold n0w;exact tI (λ_=>tR cV) (λ_=>tY (a0f dA) (tR dB))
theorem u0D {E X:Type} [DecidableEq X] {f:E->Option (Unit⊕X)} {p:X->Prop} (hf: ∀e,f e=qB (.inl ())\/ ∃x,f e=qB (.inr x)/\p x): ∀ms:List E,(∀a∈ms,∀b∈ms,f a≠qB (.inl ())->f b≠qB (.inl ())->f a=f b)->Tot (n0D f ms) (λo=>match o with| .inl _=> ∀e∈ms,f e=qB (.inl ())| .inr x=>p x/\ ∃e∈ms,f e=qB (.inr x))
  | [],_=>tR (λe h=>by cases h)
  |e::ms,h=>by
    obtain⟨o,ho,hp⟩:=u0D hf ms (λa ha b hb=>h a (ao _ ha) b (ao _ hb));simp only[n0D,ho];rcases hf e with he|⟨x,he,hx⟩;rw[he]
    cases o with
    |inl u=>
      refine tR (λa ha=> ?_);rcases aS.1 ha with rfl|ha;exact he;exact hp a ha
    |inr y=>exact tR ⟨hp.1,hp.2.imp λa ha=>⟨ao _ ha.1,ha.2⟩⟩
    rw[he]
    cases o with
    |inl u=>exact tR ⟨hx,e,aw ..,he⟩
    |inr y=>
      obtain⟨a,ha,hy⟩:=hp.2;have:=h e (aw ..) a (ao _ ha) (by rw[he];simp) (by rw[hy];simp);rw[he,hy]at this;obtain rfl:=Sum.inr.inj (ar this);simp only[if_true];exact tR ⟨hx,e,aw ..,he⟩
theorem I0p(t:a0b):Tot (n0v t) (λr=>r.length<=2):=by
  unfold n0v;refine tI (λ_=>tI (λ_=>tR dB) (λ_=>tR dB)) (λ_=> ?_);refine tJ (Tot.mono (p:=λx=>match x with| .inl _=>True| .inr r=>(r:List Int).length<=2) ?_ (λx hx=> ?_));show Tot (jB _ _) _;refine tJ (Tot.mono (u0D (p:=λx:Unit⊕List Int=>match x with| .inl _=>False| .inr r=>r.length<=2) (λe=> ?_) _ (λa ha c hc h1 h2=> ?_)) (λx hx=> ?_));by_cases h:e.2=t.ao_;rw[dT h];exact .inr ⟨_,rfl,dB⟩;rw[dF h];exact .inl rfl
  have f1:a.2=t.ao_:=by
    by_cases h:a.2=t.ao_;exact h;rw[dF h]at h1;exact absurd rfl h1
  have f2:c.2=t.ao_:=by
    by_cases h:c.2=t.ao_;exact h;rw[dF h]at h2;exact absurd rfl h2
  have:a=c:=by
    have key: ∀a∈([(45,1),(43,2),(37,3),(164,4)]:List (Int×Int)),∀c∈([(45,1),(43,2),(37,3),(164,4)]:List (Int×Int)),a.2=c.2->a=c:=by decide+kernel
    exact key a ha c hc (f1.trans f2.symm)
  rw[this]
  match x,hx with
  | .inl _,_=>exact tR trivial
  | .inr (.inr r),h=>exact h.1
  match x,hx with
  | .inl _,_=>exact tR dB
  | .inr r,h=>exact h
theorem s0m {o:List Int} {q:List a0b} (ho:o.length<=50000)(hq:q.length<=1000):Tot (i0M o q) (λr=>r.length<=o.length+3001):=by
  unfold i0M;refine tB (p:=λs:Bool×List Int=>s.2.length<=o.length+3000) (tW (λs:Bool×Int×List Int=>s.2.1) q.length (λs=>(s.2.2.length:Int)<=o.length+3*s.2.1) cV ⟨dB,az _,dB⟩ (λs hs g0 g1=> ?_) (λs hs e=> ?_)) (λs hs=>tB (p:=λr:List Int=>r.length<=o.length+3001) (tI (λ_=>tY (a0f dA) (tR dA)) (λ_=>tR cV)) (λ_ h=>tR h))
  · rw[dT g1,w64 (n:=s.2.1+1) cV cV]
    refine tB (p:=λr:Bool×List Int=>(r.2.length:Int)<=s.2.2.length+3) (tY (a0c g0 g1) (zC (tI cX cX) (λu _=>zC ?_ (λv _=>tB (p:=λr:Bool×List Int=>(r.2.length:Int)<=s.2.2.length+1) (tI (λ_=>tY (a0f dA) (tR dB)) (λ_=>tR cZ)) (λw hw=>tB (I0p _) (λz hz=>tY (a0f cV) (tR dA))))))) (λr hr=>tR ⟨?_,rfl⟩)
    · repeat' (first|exact tR trivial|refine tI (λ_=> ?_) (λ_=> ?_)|exact tB (w0B _) dD)
    simp only;omega
  rw[dF (show¬s.2.1<(q.length:Int) by omega)];exact tR cZ
theorem A0B (hp:j0f p 1000):Tot (k0e p) (λr=>r.length<=20000):=by
  unfold k0e;obtain⟨p1,p2,p3,p4⟩:=hp;refine tB (w0p p) (λn hn=>tB (z0z dB) (λa ha=> ?_));simp only[bY]at ha;refine tB (s0m cV p1) (λb hb=>tB (z0z cV) (λc hc=>tY (a0f cV) ?_));refine tB (z0z dA) (λd hd=> ?_);simp only[aA]at hd;refine tB (s0m cV p2) (λe he=>tB (z0z cV) (λf hf=>tB (p:=λr:List Int=>r.length<=20000) (tI (λ_=>tY (a0f dA) (tB (s0m dA p3) (λg hg=> ?_))) (λ_=>tR cV)) (λ_ h=>tR h)));simp only[aA,aW,bY]at hg;exact tY (a0f cV) (tB (s0m dA p4) (λi hi=>tR (by simp only[aA]at hi;omega)))
theorem E0o(r:Int):(yI r).data.toList.length<=4:=by
  unfold yI;simp only
  repeat' (first|(split)|simp)
theorem w0H: ∀l:List Int,(q0b l).length<=4*l.length
  | []=>by simp[q0b]
  |x::l=>by
    have h1:=E0o x;have h2:=w0H l;have:q0b (x::l)=(yI x).data.toList++q0b l:=rfl;rw[this,aA,aW];omega
theorem F0h {x:List a0b} (hx:x.length<=1000):Tot (i0y x y) (λ_=>True):=by
  unfold i0y;refine tI cX (λh=>tJ (tW (λs:Int=>s) x.length (λ_=>True) cV ⟨trivial,az _,dB⟩ (λs _ g0 g1=> ?_) (λs _ e=> ?_)));have h:=dFF h;exact tY (dT g1)<|tY (a0c g0 g1) (tY (a0c g0 cV) (tI cX (λ_=>tR ⟨trivial,w64 cV cV⟩)))
  rw[dF (show¬s<(x.length:Int) by omega)];exact tR (tR trivial)
theorem K0j {x y:a0h} (hx:j0f x 1000):Tot (q0q x y) (λ_=>True):=by
  unfold q0q k0f;obtain⟨p1,p2,p3,p4⟩:=hx;refine zC (show Tot (bif _ then _ else _) _ from ?_) dD;refine tI (λ_=>tI (λ_=>tI (λ_=>tB (F0h p1) (λ_ _=>tI (λ_=>tB (F0h p2) (λ_ _=>tI (λ_=>tB (F0h p3) (λ_ _=>tI (λ_=>tB (F0h p4) dD) cX)) cX)) cX)) cX) cX) cX
theorem I0f (hp:j0f p 1000):Tot (n0x p) (λ_=>True):=by
  unfold n0x
  refine tB (p:=λt:List UInt8=>t.length<=100000) (by
    unfold s0s;refine tB (A0B hp) (λr hr=>tR ?_)
    have:=w0H r;omega) (λt ht=>tB (D0a ht) (λq _=>zC (tI (λ_=>tB (K0j hp) dD) cX) dD))
/-! What is read of rules, classes, signs and affixes: it answers. -/
theorem v0O {x y:List T} {k:Int->Option (Int⊕(Unit⊕Bool))} (hx:x.length<=4294967296)(hk: ∀s:Int,0<=s->s<x.length->x.length=y.length->Tot (k s) (λo=>o= .inl (oA .i64 (s+1))\/ ∃b,o= .inr (.inr b))):
    Tot (bif wB (¬(x.length:Int)=(y.length:Int))then qB vB else jB (a0n (λs=>bif wB (s<(x.length:Int))then k s else qB (.inr (.inl ()))) big 0) (a0j fun(_:Unit)=>qB yB)) (λ_=>True):=by
  refine tI cX (λh=>tJ (tW (λs:Int=>s) x.length (λ_=>True) hx ⟨trivial,az _,dB⟩ (λs _ g0 g1=>tY (dT g1) ?_) (λs _ e=>tN (dF cV) (tR (tR trivial)))));have h:=dFF h;refine(hk s g0 g1 cV).mono (λo ho=> ?_);rcases ho with rfl|⟨b,rfl⟩;exact⟨trivial,w64 cV cV⟩;trivial
theorem L0n {x y:List Int} (hx:x.length<=4294967296):Tot (h0d x y) (λ_=>True):=by
  unfold h0d;exact v0O hx (λs g0 g1 e=>tY (a0c g0 g1) (tY (a0c g0 cV) (tI (λ_=>tR (.inr ⟨_,rfl⟩)) (λ_=>tR (.inl rfl)))))
theorem C0a(x:Int):Tot (f0Y x) (λ_=>True):=by
  unfold f0Y;refine tJ (tW (λs:Int=>s) 20 (λ_=>True) dC ⟨trivial,az _,dC⟩ (λs _ g0 g1=>tY (dT cV) (tJ (tY (a0c g0 g1) (zC (tI cX cX) (λ_ _=>tI cX (λ_=>tR (show Tot _ _ from tR ⟨trivial,w64 cV cV⟩))))))) (λs _ e=>tN (dF cV) (tR (tR trivial))))
theorem M0C(x:Int):Tot (r0C x) (λ_=>True):=by
  unfold r0C;refine zC ?_ dD
  repeat' (first|exact tR trivial|refine tI (λ_=> ?_) (λ_=> ?_))
theorem C0r(x:Int):Tot (a0B x r0Z) (λr=>r.2=r0Z):=by
  rw[s0H (List.Perm.refl _)];exact tB (M0C x) (λ_ _=>tI (λ_=>tR rfl) (λ_=>tI (λ_=>tR rfl) (λ_=>tI (λ_=>tR rfl) (λ_=>tB (C0a x) (λ_ _=>tI (λ_=>tR rfl) (λ_=>tR rfl))))))
theorem N0o(x:Int):Tot (k0P x) (λ_=>True):=by
  unfold k0P;refine tB (p:=λy=>y=r0Z) ⟨_,rfl,rfl⟩ (λy hy=> ?_);subst hy;exact tB (C0r x) (λ_ _=>tR trivial)
theorem J0A (hl:l.length<=4294967296):Tot (l0B l) (λ_=>True):=by
  unfold l0B;refine tB (p:=λy=>y=r0Z) ⟨_,rfl,rfl⟩ (λy hy=> ?_);subst hy
  refine tJ (tW (λs:Int×List (a0p×Int)=>s.1) l.length (λs=>s.2=r0Z) hl ⟨rfl,az _,dB⟩ (λs hs g0 g1=>tY (dT g1) (tJ (tY (a0c g0 g1) (by
    rw[hs]
    exact tB (C0r _) (λy hy=>zC (by repeat' (first|exact tR trivial|refine tI (λ_=> ?_) (λ_=> ?_))) (λ_ _=>tI (λ_=>tR (show Tot _ _ from tR ⟨hy,w64 cV cV⟩)) cX)))))) (λs _ e=>tN (dF cV) (tR (tR trivial))))
theorem H0N (hl:l.length<=4294967296):Tot (k0p l) (λ_=>True):=by
  unfold k0p;refine tJ (tW (λs:Int×Int=>s.2) l.length (λ_=>True) hl ⟨trivial,az _,dB⟩ (λs _ g0 g1=>tY (dT g1) (tJ (tY (a0c g0 g1) ?_))) (λs _ e=>tN (dF cV) (tR (tR trivial))));have e:oA .i64 (s.2+1)=s.2+1:=w64 cV cV;have two: ∀b c:Bool,Tot (bif b then qB c else qB vB) (λ_=>True):=λb c=>tI cX cX
  exact tB (two _ _) (λ_ _=>tI cX (λ_=>tB (two _ _) (λ_ _=>tI (λ_=>tR (show Tot _ _ from tR ⟨trivial,e⟩)) (λ_=>tB (two _ _) (λ_ _=>tI cX (λ_=>tI (λ_=>tR (show Tot _ _ from tR ⟨trivial,e⟩)) (λ_=>tR (show Tot _ _ from tR ⟨trivial,e⟩))))))))
theorem H0B(s:c0J)(x:Int):Tot (i0d s x) (λ_=>True):=by
  unfold i0d;exact zC (tI cX (λ_=>tI cX cX)) dD
theorem C0B (hl:l.length<=4294967296):Tot (l0N s l) (λ_=>True):=by
  unfold l0N;refine tJ (tW (λs:Int=>s) l.length (λ_=>True) hl ⟨trivial,az _,dB⟩ (λi _ g0 g1=>tY (dT g1) (tJ (tY (a0c g0 g1) (tB (C0a _) (λ_ _=>zC (tI cX (λ_=>tB (H0B _ _) dD)) (λ_ _=>tI cX (λ_=>tR (show Tot _ _ from tR ⟨trivial,w64 cV cV⟩)))))))) (λi _ e=>tN (dF cV) (tR (show Tot _ _ from ?_))));exact zC (tB (J0A hl) (λ_ _=>tI (λ_=>tB (H0N hl) dD) cX)) dD
theorem J0y (hl:l.length<=4294967296):Tot (i0B l) (λr=>r.length<=l.length):=by
  unfold i0B;refine tI (λh=> ?_) (λ_=>tY (a0f hl) (tR (aj _)));obtain rfl:=av (ae h);exact⟨[],by show o0h (qB []) (qB [])=_;simp[o0h],dB⟩
theorem A0v {l:List a0b} (hl:l.length<=4294967296):Tot (h0m l) (λr=>r.length<=l.length):=by
  unfold h0m;refine tI (λh=> ?_) (λ_=>tY (a0f hl) (tR (aj _)));obtain rfl:=av (ae h);exact⟨[],by show o0h (qB []) (qB [])=_;simp[o0h],dB⟩
def B0P(a:g0K):Prop:=a.h_.length<=10000000/\a.i_.length<=10000000
theorem J0K {a:g0K} (ha:B0P a):Tot (h0o s a) (λ_=>True):=by
  unfold h0o;obtain⟨h1,h2⟩:=ha;exact tB (J0y cV) (λc hc=>tY (a0f cV) (tB (C0B dA) dD))
theorem E0H {a c:g0K} (ha:B0P a):Tot (g0m a c) (λ_=>True):=by
  unfold g0m;exact zC (tB (L0n (aG ha.1 dC)) (λ_ _=>tI (λ_=>tB (L0n (aG ha.2 dC)) dD) cX)) dD
theorem v0V {l:List a0b} (hl:l.length<=4294967296):Tot (f0Z l k) (λ_=>True):=by
  unfold f0Z;refine zC (tW (λs:Int×Int=>s.2) l.length (λ_=>True) hl ⟨trivial,az _,dB⟩ (λs _ g0 g1=>tY (dT g1) (zC (tY (a0c g0 g1) (tI cX cX)) (λ_ _=>tR ⟨trivial,w64 cV cV⟩))) (λs _ e=>zE e trivial)) dD
theorem K0S {l put:List a0b} (hl:l.length<=1000)(hp:put.length<=1):Tot (e0w l put) (λr=>r.length<=1001):=by
  unfold e0w;exact tB (A0v cV) (λc hc=>tY (a0f cV) (tR dA))
theorem p0X (l:List T)(i:Int)(x:T):(b0c l i x).length=l.length:=by simp[b0c]
theorem z0B {l:List a0b} (hl:l.length<=1000):Tot (h0n l) (λr=>r.length<=1001):=by
  unfold h0n;refine tB (A0v cV) (λc hc=>tB (p:=λr:List a0b=>r.length<=1001) (tW (λs:Int×List a0b=>s.1) c.length (λs=>s.2.length=c.length) cV ⟨rfl,az _,dB⟩ (λs hs g0 g1=>tY (dT g1) ?_) (λs hs e=>tN (dF cV) (tR cZ))) (λ_ h=>tR h));have hi:inR s.1 s.2.length=true:=a0c g0 cV;refine tB (p:=λr:List a0b=>r.length=c.length) (tY hi (tY hi (tI (λ_=>tY hi (tY hi (tR (by rw[p0X];exact hs)))) (λ_=>tR hs)))) (λr hr=>tR ⟨hr,w64 cV cV⟩)
theorem F0q (hp:j0f p 1000)(s:Int):Tot (j0a p s) (λr=>r.1.length<=1001/\r.2.length<=1001):=by
  unfold j0a;obtain⟨p1,p2,p3,p4⟩:=hp;have c1:([]:List a0b).length<=1:=by simp
  have c2: ∀t:a0b,([t]:List a0b).length<=1:=λt=>by simp
  have two: ∀ {x y:List a0b} {a:List a0b},x.length<=1000->y.length<=1000->a.length<=1->Tot (jB (e0w x a) λy0=>jB (e0w y []) λy1=>qB (y0,y1)) (λr=>r.1.length<=1001/\r.2.length<=1001):=λhx hy ha=>tB (K0S hx ha) (λa ha=>tB (K0S hy c1) (λc hc=>tR ⟨ha,hc⟩))
  refine tI (λ_=>tI (λ_=>two p3 p4 c1) (λ_=>two p1 p2 (c2 _))) (λ_=>tI (λ_=> ?_) (λ_=>two p1 p2 c1));refine tJ (zC (tI (λ_=>tB (v0V cV) (λ_ _=>tB (v0V cV) dD)) cX) (λ_ _=>tI (λ_=>tB (z0B p3) (λa ha=>tB (z0B p4) (λc hc=>tR ⟨ha,hc⟩))) (λ_=>tR (two p1 p2 (c2 _)))))
theorem w0R {l:List a0b} (hl:l.length<=1001)(hc:cur.length<=6100):Tot (g0n l s cur) (λr=>r.length<=10000000):=by
  unfold g0n;refine tB (show Tot (g0l s cur) (λ_=>True)from tR trivial) (λ_ _=>tB (p:=λr:List Int=>r.length<=10000000) (tW (λs:Int×List Int=>s.1) l.length (λs=>(s.2.length:Int)<=6100*s.1) cV ⟨dB,az _,dB⟩ (λu hu g0 g1=>tY (dT g1) ?_) (λu hu e=>tN (dF cV) (tR cZ))) (λ_ h=>tR h));have one: ∀x:Int,Tot (bif room (u.2.length+([x]:List Int).length)then qB (u.2++ [x])else none) (λr:List Int=>(r.length:Int)<=u.2.length+6100):=λx=>tY (a0f dA) (tR (by simp<;>omega))
  refine tB (p:=λr:List Int=>(r.length:Int)<=u.2.length+6100) (tY (a0c g0 g1) (tI (λ_=>one _) (λ_=>tI (λ_=>one _) (λ_=>tI (λ_=>one _) (λ_=>tI (λ_=>one _) (λ_=>tI (λ_=>tY (a0f cV) (tR dA)) (λ_=>tY (a0f dA) (tR dA)))))))) (λr hr=>tR ⟨?_,w64 cV cV⟩);rw[w64 (n:=u.1+1) cV cV];simp only;omega
theorem z0t (hp:j0f p 1000)(hc:cur.length<=6100):Tot (e0x p s g cur) B0P:=by
  unfold e0x;exact tB (F0q hp g) (λa ha=>tB (w0R ha.1 hc) (λc hc1=>tB (w0R ha.2 hc) (λd hd=>tR ⟨hc1,hd⟩)))
/-! The check of a locale: it answers. -/
theorem v0v {a c:List a0b} {s:Int} (ha:a.length<=1000)(hc:c.length<=1000):Tot (i0m a c s m) (λ_=>True):=by
  have one: ∀k:Int,Tot (d0d k a c) (λ_=>True):=λk=>by
    unfold d0d;exact tB (v0V cV) (λ_ _=>tB (v0V cV) dD)
  unfold i0m;refine zC (tI cX (λ_=>tI cX cX)) (λ_ _=>zC (tB (one _) (λ_ _=>tI (λ_=>tB (one _) (λ_ _=>tI (λ_=>tB (one _) (λ_ _=>tI (λ_=>tB (one _) dD) cX)) cX)) cX)) dD)
def O0l(a:B0K):Prop:=B0P a.d_/\B0P a.f_/\B0P a.m_
theorem A0y (hp:j0f p 1000)(hc:cur.length<=6100):Tot (i0n s p cur) O0l:=by
  unfold i0n;exact tB (z0t hp hc) (λa ha=>tB (z0t hp hc) (λc hc1=>tB (z0t hp hc) (λd hd=>tR ⟨ha,hc1,hd⟩)))
theorem C0d (hp:j0f p 1000)(hc:cur.length<=6100):Tot (d0Z s p cur) (λ_=>True):=by
  unfold d0Z;refine tB (A0y hp hc) (λa ha=>tJ (tL (λi:Int=>0<=i/\i<=3) (λi=>(3-i).toNat) cV dC (λi hi=> ?_)));have st: ∀ {a:g0K} (k:Int),B0P a->0<=k/\k<3/\i=k->oA .i64 (k+1)=k+1->Tot (jB (h0o s a) λy1=>bif !y1 then qB (.inr (.inr vB))else qB (.inl (oA .i64 (k+1)))) (λx:Int⊕(Unit⊕Bool)=>match x with| .inl s'=>(0<=s'/\s'<=3)/\(3-s').toNat<(3-i).toNat| .inr o=>True):=λ{a} k ha hk e=>tB (J0K ha) (λ_ _=>tI cX (λ_=>tR (by rw[e];simp only;omega)))
  have fin:Tot (jB (jB (g0m a.d_ a.f_) λy4=>bif !y4 then jB (g0m a.f_ a.m_) λy5=>qB (!y5)else qB vB) λs1=>qB s1) (λ_=>True):=zC (tB (E0H ha.1) (λ_ _=>tI (λ_=>tB (E0H ha.2.1) dD) cX)) dD;refine Tot.mono (p:=λx:Int⊕(Unit⊕Bool)=>match x with| .inl s'=>(0<=s'/\s'<=3)/\(3-s').toNat<(3-i).toNat| .inr o=>True) ?_ (λx hx=> ?_);refine tI (λh=>tI (λh0=>st 0 ha.1 ⟨cV,cV,dTT h0⟩ dC) (λh0=>tI (λh1=>st 1 ha.2.1 ⟨cV,cV,dTT h1⟩ dC) (λh1=>tI (λh2=>st 2 ha.2.2 ⟨cV,cV,dTT h2⟩ dC) (λh2=> ?_)))) cX;have:=dTT h;have:=dFF h0;have:=dFF h1;have:=dFF h2;omega
  match x,hx with
  | .inl _,h=>exact h
  | .inr (.inl _),_=>exact fin
  | .inr (.inr _),_=>trivial
theorem E0v (hl:l.length<=4294967296):Tot (a0X l x) (λ_=>True):=by
  unfold a0X k0C;exact zC (tJ (tW (λs:Int=>s) l.length (λ_=>True) hl ⟨trivial,az _,dB⟩ (λi _ g0 g1=>tY (dT g1) (tY (a0c g0 g1) (tI cX (λ_=>tR ⟨trivial,w64 cV cV⟩)))) (λi _ e=>tN (dF cV) (tR (tR trivial))))) dD
theorem D0R(s:c0J)(x:Int):Tot (h0c s x) (λ_=>True):=by
  unfold h0c;refine zC ?_ (λ_ _=>zC (tI cX (λ_=>tB (H0B _ _) dD)) dD);unfold p0U;exact tJ (zC (tI cX cX) (λ_ _=>tI cX (λ_=>tR (tR trivial))))
theorem F0O (hp:j0f p 1000):Tot (l0w s p) (λ_=>True):=by
  unfold l0w;refine tI cX (λ_=>tB (N0o _) (λ_ _=>tJ (zC (tI (λ_=>tI cX (λ_=>tB (D0R _ _) dD)) (λ_=>tB (D0R _ _) dD)) (λ_ _=>tI cX (λ_=>tR (show Tot _ _ from ?_))))));refine tJ (tB (A0y hp dB) (λa ha=>tL (λi:Int=>0<=i/\i<=3) (λi=>(3-i).toNat) cV dC (λi hi=> ?_)));have st: ∀ {a:g0K},B0P a->Tot (jB (a0X a.h_ p.O_) λy4=>bif y4 then qB yB else jB (a0X a.i_ p.O_) λy5=>qB y5) (λ_=>True):=λha=>tB (E0v (aG ha.1 dC)) (λ_ _=>tI cX (λ_=>tB (E0v (aG ha.2 dC)) dD))
  refine tI (λh=>tJ (Tot.mono (p:=λx:Int⊕(Int⊕(Unit⊕Bool))=>match x with| .inl s'=>s'=i| .inr (.inl _)=>False| .inr (.inr (.inl _))=>False| .inr (.inr (.inr _))=>True) ?_ (λx hx=> ?_))) (λ_=>tR (tR trivial));refine tI (λh0=>tB (st ha.1) (λ_ _=>tI cX (λ_=>tR (dTT h0).symm))) (λh0=>tI (λh1=>tB (st ha.2.1) (λ_ _=>tI cX (λ_=>tR (dTT h1).symm))) (λh1=>tI (λh2=>tB (st ha.2.2) (λ_ _=>tI cX (λ_=>tR (dTT h2).symm))) (λh2=> ?_)));have:=dTT h;have:=dFF h0;have:=dFF h1;have:=dFF h2;omega
  match x,hx with
  | .inl s',e=>
    have:=dTT h;subst e;refine tR ?_;rw[w64 (n:=s'+1) cV cV];exact⟨cV,cV⟩
  | .inr (.inr (.inr _)),_=>trivial
theorem D0r (ht:t.length<=100000):Tot (o0r t) (λr=>j0f r.1 1000):=by
  unfold o0r;refine tB (D0a ht) (λy hy=> ?_)
  have hy:j0f y.1 1000:=⟨by have:=hy.1;omega,by have:=hy.2.1;omega,by have:=hy.2.2.1;omega,by have:=hy.2.2.2;omega⟩
  exact zC (tI (λ_=>tB (I0f hy) dD) cX) (λ_ _=>tR hy)
theorem K0G(p:a0h)(s:Int):Tot (i0O p s) (λ_=>True):=by
  unfold i0O
  repeat' (first|exact tR trivial|refine zI ?_ ?_|refine zB ?_ λ_=> ?_)
theorem K0Q: ∀ {a c d e:List a0b},a=[]->c=[]->d=[]->e=[]->j0f (⟨a,c,d,e,vB,0,0,0,0,0,0,0,0,0,vB,0,0⟩:a0h) 1000:=by
  rintro _ _ _ _ rfl rfl rfl rfl;exact⟨dB,dB,dB,dB⟩
theorem f0N (ht:t.length<=100000):Tot (c0K s k t) (λr=>j0f r.1 1000):=by
  have z:=K0Q rfl rfl rfl rfl;unfold c0K;refine tB (D0r ht) (λy hy=> ?_);obtain⟨h1,h2,h3,h4⟩:=id hy;refine tJ (zC (tI cX (λ_=>tI cX cX)) (λ_ _=>tI (λ_=>tR z) (λ_=>tR (show Tot _ _ from ?_))));refine tJ (zC (tB (K0G _ _) (λ_ _=>tI cX (λ_=>tB (v0v h1 h2) (λ_ _=>tI cX (λ_=>tI (λ_=>tB (v0v h3 h4) dD) cX))))) (λ_ _=>tI (λ_=>tR z) (λ_=>tR (show Tot _ _ from ?_))));exact tJ (zC (tB (C0d hy dB) (λ_ _=>tI cX (λ_=>tB (F0O hy) dD))) (λ_ _=>tI (λ_=>tR z) (λ_=>tR (show Tot _ _ from tR hy))))
theorem K0K(c:Int):Tot (n0r c) (λ_=>True):=by
  unfold n0r;refine zC (by unfold j0I;exact tR trivial) (λ_ _=>tJ (tB (p:=λb=>b=vB->0<=c/\c<6) (tI (λ_=>tR cW) (λh=>tR (λh2=> ?_))) (λb hb=>tI cX (λe=>tR (show Tot _ _ from ?_)))));have:=dFF h;have:=dFF h2;omega;have:=hb e;refine tI cX (λh0=>tI cX (λh1=>tI cX (λh2=>tI cX (λh3=>tI cX (λh4=>tI cX (λh5=> ?_))))));have:=dFF h0;have:=dFF h1;have:=dFF h2;have:=dFF h3;have:=dFF h4;have:=dFF h5;omega
theorem v0g {c:k0A} (ht:c.ad_.length<=100000):Tot (f0Q s c) (λr=>j0f r.1 1000):=by
  have z:=K0Q rfl rfl rfl rfl;unfold f0Q;refine tB (D0r ht) (λy hy=> ?_);obtain⟨h1,h2,h3,h4⟩:=id hy;refine tJ (zC (tI cX (λ_=>tI cX (λ_=>tI cX (λ_=>tB (K0K _) dD)))) (λ_ _=>tI (λ_=>tR z) (λ_=>tR (show Tot _ _ from ?_))));refine tJ (zC (tI cX (λ_=>tI cX (λ_=>tI cX cX))) (λ_ _=>tI (λ_=>tR z) (λ_=>tR (show Tot _ _ from tI (λ_=>tR z) (λ_=> ?_)))));exact tJ (zC (tB (v0v h1 h2) (λ_ _=>tI cX (λ_=>tB (C0d hy dB) dD))) (λ_ _=>tI (λ_=>tR z) (λ_=>tR (show Tot _ _ from tR hy))))
/-! Rules are read, and written: it answers. -/
def inI(n:Int):Prop:= -9223372036854775808<=n/\n<=9223372036854775807
theorem z0y(n:Int):inI (oA .i64 n):=by
  have h:oA .i64 n=if n%18446744073709551616≥9223372036854775808 then n%18446744073709551616-18446744073709551616 else n%18446744073709551616:=by
    unfold oA;simp[wH,jI]
  unfold inI;rw[h];split<;>omega
theorem N0u:inI 0:=⟨cV,cV⟩
def rb(t:List UInt8)(i:Int):Prop:=0<=i/\i<=(t.length:Int)
def N0m(k:Int->Option Bool)(x0:List UInt8)(x1:Int):Option ((List UInt8)×Int):=
  (jB (a0n (fun(s1:Int)=>(jB (jB (bif(wB (s1<(x0.length:Int)))then(bif inR s1 x0.length then(qB ((wB (((((x0.getD (s1:Int).toNat 0).toNat:Nat):Int))=32))))else none)else(qB vB)) fun(s2:Bool)=>(bif s2 then(qB (.inl ()))else(qB (.inr (.inr s1))))) (a0j fun(s3:Unit)=>(qB (.inl (oA .i64 (s1+1))))))) big x1) fun(s4:Int)=>(jB (a0n (fun(s5:Int)=>(jB (jB (bif(wB (s5<(x0.length:Int)))then(bif inR s5 x0.length then(jB (k ((((x0.getD (s5:Int).toNat 0).toNat:Nat):Int))) λy0=>(qB y0))else none)else(qB vB)) fun(s6:Bool)=>(bif s6 then(qB (.inl ()))else(qB (.inr (.inr s5))))) (a0j fun(s7:Unit)=>(qB (.inl (oA .i64 (s5+1))))))) big s4) fun(s8:Int)=>(bif inS s4 s8 x0.length then(qB ((cut x0 s4 s8),s4))else none)))
section
variable {t : List UInt8} (ht : t.length <= 400)
include ht
theorem G0N {k:Int->Option Bool} (hk: ∀x,Tot (k x) (λ_=>True)) (h:rb t i):Tot (a0n (fun(s5:Int)=>(jB (jB (bif(wB (s5<(t.length:Int)))then(bif inR s5 t.length then(k ((((t.getD (s5:Int).toNat 0).toNat:Nat):Int)))else none)else(qB vB)) fun(s6:Bool)=>(bif s6 then(qB (.inl ()))else(qB (.inr (.inr s5))))) (a0j fun(s7:Unit)=>(qB (.inl (oA .i64 (s5+1))))))) big i) (λr=>rb t r/\i<=r):=by
  refine tL (λs=>rb t s/\i<=s) (λs=>((t.length:Int)-s).toNat) ⟨h,az _⟩ (by have:=h.1;omega) (λs hs=> ?_);obtain⟨⟨g0,g1⟩,g2⟩:=hs;refine tJ (tB (p:=λr=>r=yB->s<t.length) (tI (λe=>tY (a0c g0 (dTT e)) ((hk _).mono (λ_ _ _=>dTT e))) (λ_=>tR cW)) (λr hr=>tI (λe=>tR (show Tot _ _ from tR ?_)) (λ_=>tR ⟨⟨g0,g1⟩,g2⟩)));have:=hr e;rw[w64 (n:=s+1) cV cV];exact⟨⟨⟨cV,cV⟩,cV⟩,cV⟩
theorem H0X {k:Int->Option Bool} (hk: ∀x,Tot (k x) (λ_=>True)) (h:rb t i):Tot (N0m k t i) (λr=>rb t r.2/\i<=r.2/\r.2+r.1.length<=t.length):=by
  unfold N0m;have hk2: ∀x,Tot (jB (k x) λy0=>qB y0) (λ_=>True):=λx=>tB (hk x) dD
  refine tB (G0N ht (k:=λx=>qB (wB (x=32))) cX h) (λa ha=>tB (G0N ht hk2 ha.1) (λb hb=>tY (k0K ha.1.1 hb.2 hb.1.2) (tR ⟨ha.1,ha.2, ?_⟩)));have h1:=ha.1.1;have h2:=hb.2;have h3:=hb.1.2;unfold cut;simp;omega
theorem x0R {q:List UInt8} (h:rb t i)(hq:q.length<=3):Tot (b0f q t i) (λr=>rb t r.2/\i<=r.2):=by
  unfold b0f;refine tB (H0X ht (k:=f0B) cX h) (λa ha=>tY (k0K ha.1.1 ha.1.2 (az _)) (tB (p:=λr=>r=yB->a.2+q.length<=t.length) ?_ (λy hy=>tI (λ_=>tR ⟨ha.1,ha.2.1⟩) (λe=>tR ?_))));unfold g0b d0S;refine tB (p:=λr=>r=yB->a.2+q.length<=t.length) (tB (p:=λr=>r=yB->a.2+q.length<=t.length) (tI (λe=> ?_) (λ_=>tR cW)) (λ_ h=>tR h)) (λ_ h=>tR h);have e:=dTT e;refine tY (k0K (az _) cV e) (tR (λ_=> ?_));have h1:=ha.1.1;have h2:=ha.1.2;unfold cut at e;simp at e;omega;have:=hy (by simpa using e);have h1:=ha.1.1;have h2:=ha.2.1;rw[w64 (n:=a.2+q.length) cV cV];exact⟨⟨cZ,cZ⟩,cZ⟩
theorem B0Z (h:rb t i):Tot (c0r t i) (λr=>rb t r.2/\i<=r.2/\r.2+r.1.length<=t.length):=by
  unfold c0r;refine tB (H0X ht (k:=d0J) (λx=> ?_) h) (λa ha=>tR ha);unfold d0J;refine zC ?_ dD
  repeat' (first|exact tR trivial|refine tI (λ_=> ?_) (λ_=> ?_))
theorem D0j {v:Int} (h:rb t i):Tot (b0p v t i) (λr=>rb t r.2.2/\i<=r.2.2/\inI r.1/\(r.2.1=yB->i<r.2.2)):=by
  unfold b0p;have z:=N0u;refine tB (H0X ht (k:=c0V) (λx=> ?_) h) (λa ha=>tJ (tB (p:=λr=>r=vB->0<a.1.length) ?_ (λr hr=>tI (λ_=>tR ⟨ha.1,ha.2.1,z,λh=>by cases h⟩) (λe=>tR (show Tot _ _ from ?_)))));unfold c0V;exact zC (tI cX cX) dD;refine tI (λ_=>tR cW) (λe=> ?_);have e:=dFF e;refine tI (λ_=>tR cW) (λ_=>tI (λ_=>tY (a0c (az _) cV) (tR (λ_=>cV))) (λ_=>tR (λ_=>cV)));have:=hr e;obtain⟨⟨h0,h1⟩,h2,h3⟩:=ha;have hL:(b0o a.1).length=a.1.length:=d0I _;refine tB (p:=inI) (tW (λs:Int×Int=>s.2) (b0o a.1).length (λs=>inI s.1) cV ⟨z,az _,dB⟩ (λs hs g0 g1=> ?_) (λs hs e=> ?_)) (λn hn=>tI (λ_=>tR ⟨⟨h0,h1⟩,h2,z,λh=>by cases h⟩) (λ_=>tR ?_));exact tY (dT g1)<|tY (a0c g0 g1) (tR ⟨z0y _,w64 cV cV⟩)
  rw[dF (show¬s.2<((b0o a.1).length:Int) by omega)];exact tR hs;have:=h.1;rw[w64 (n:=a.2+a.1.length) cV cV];exact⟨⟨cZ,cZ⟩,cZ,hn,λ_=>cZ⟩
theorem K0B (h:rb t i) {x2 x3 x4} :Tot (c0j t i x2 x3 x4) (λr=>r.1=yB->rb t r.2.1/\i<r.2.1):=by
  unfold c0j;refine tB (B0Z ht h) (λa ha=>tJ (tB (p:=λr=>r=vB->a.1.length=1) ?_ (λr hr=>tI (λ_=>tR cW) (λe=>tR (show Tot _ _ from ?_)))));refine tI (λ_=>tR cW) (λe=>zC ?_ (λ_ _=>tR (λ_=> ?_)));unfold g0N j0q g0a stringslite_IndexByte;have e:(a.1.length:Int)=1:=by have:=dFF e;omega
  rw[dF (show¬(a.1.length:Int)=0 by omega),dT e];refine zC (zC (zC (tR trivial) (λ_ _=>tI cX (λ_=>tY rfl (tY (a0c (az _) cV) (tR trivial))))) dD) dD;have:=dFF e;omega;have:=hr e;obtain⟨⟨h0,h1⟩,h2,h3⟩:=ha;refine tY (a0c (az _) cV) (tR (λ_=> ?_));rw[w64 (n:=a.2+1) cV cV];exact⟨⟨cZ,cZ⟩,cZ⟩
theorem K0L (h:rb t i) {x2 x4} :Tot (d0K t i x2 0 x4) (λr=>rb t r.2.1/\i<=r.2.1/\inI r.2.2):=by
  unfold d0K;exact tB (x0R ht h dB) (λa ha=>tI (λ_=>tR ⟨ha.1,ha.2,N0u⟩) (λ_=>tB (D0j ht ha.1) (λc hc=>tR ⟨hc.1,bE ha.2 hc.2.1,hc.2.2.1⟩)))
theorem H0S (h:rb t i) {x2 x3 x4} :Tot (d0m t i x2 x3 x4) (λr=>rb t r.2.1/\i<=r.2.1):=by
  unfold d0m;exact tB (x0R ht h dB) (λa ha=>tI (λ_=>tR ha) (λ_=>tB (x0R ht ha.1 dB) (λc hc=>tR ⟨hc.1,bE ha.2 hc.2⟩)))
def I0c(l:List a0v):Prop:=l.length<=400/\ ∀x∈l,inI x.d_/\inI x.f_
theorem F0I (h:rb t i) {x2 x3 x4} :Tot (c0C t i x2 x3 x4) (λr=>rb t r.2.1/\i<=r.2.1/\I0c r.2.2):=by
  unfold c0C;refine tL (λs:Int×List a0v=>rb t s.1/\i<=s.1/\(s.2.length:Int)<=s.1/\ ∀x∈s.2,inI x.d_/\inI x.f_) (λs=>((t.length:Int)-s.1).toNat) ⟨h,az _,by have:=h.1;simpa using this,dB⟩ (by have:=h.1;simp only;omega) (λs hs=> ?_);obtain⟨g1,g2,g3,g4⟩:=hs;refine tB (D0j ht g1) (λa ha=>tB (p:=λr:Bool×Int×Int=>rb t r.2.2/\a.2.2<=r.2.2/\inI r.2.1/\(r.1=yB->a.2.1=yB)) ?_ (λc hc=> ?_));refine tB (p:=λr:Bool×Int=>rb t r.2/\a.2.2<=r.2/\(r.1=yB->a.2.1=yB)) (tI (λe=>tB (x0R ht ha.1 dB) (λc hc=>tR ⟨hc.1,hc.2,λ_=>e⟩)) (λ_=>tR ⟨ha.1,az _,λh=>by cases h⟩)) (λc hc=> ?_);exact tI (λe=>tB (D0j ht hc.1) (λd hd=>tR ⟨hd.1,bE hc.2.1 hd.2.1,hd.2.2.1,λ_=>hc.2.2 e⟩)) (λ_=>tR ⟨hc.1,hc.2.1,ha.2.2.1,id⟩);obtain⟨⟨c0,c1⟩,c2,c3,c4⟩:=hc;have a2:=ha.2.1
  have hall: ∀x∈s.2++ [(⟨a.1,c.2.1⟩:a0v)],inI x.d_/\inI x.f_:=λx hx=>by
    rcases au.1 hx with hx|hx;exact g4 x hx;obtain rfl:=aR.1 hx;exact⟨ha.2.2.1,c3⟩
  have g1':=g1.2;refine tI (λ_=>tR ⟨⟨c0,c1⟩,cZ,cZ,g4⟩) (λe=>tY (a0f dA) (tB (x0R ht ⟨c0,c1⟩ dB) (λd hd=> ?_)));have:=ha.2.2.2 (c4 (by simpa using e));obtain⟨⟨d0,d1⟩,d2⟩:=hd;exact tI (λ_=>tR ⟨⟨d0,d1⟩,cZ,dA,hall⟩) (λ_=>tR ⟨⟨⟨d0,d1⟩,cZ,dA,hall⟩,cZ⟩)
def A0X(r:a0u):Prop:=inI r.au_/\I0c r.R_
theorem A0W (h:rb t i):Tot (b0Z t i) (λr=>r.2.1=yB->rb t r.2.2/\i<r.2.2/\A0X r.1):=by
  unfold b0Z;refine tJ (tB (p:=λs:Bool×Int×Int×Int×Bool×List a0v=>s.1=yB->rb t s.2.1/\i<s.2.1/\inI s.2.2.2.1/\I0c s.2.2.2.2.2) ?_ (λs hs=>tI (λe=>tR (λ_=>⟨(hs e).1,(hs e).2.1,(hs e).2.2.1,(hs e).2.2.2⟩)) (λ_=>tR (show Tot _ _ from tR cW))));refine tB (K0B ht h) (λa ha=>tI (λe=> ?_) (λ_=>tR cW));have ha:=ha e;refine tB (K0L ht ha.1) (λc hc=>tI (λ_=>tB (H0S ht hc.1) (λd hd=>tI (λ_=>tB (F0I ht hd.1) (λf hf=>tR (λ_=>⟨hf.1, ?_,hc.2.2,hf.2.2⟩))) (λ_=>tR cW))) (λ_=>tR cW));exact Int.lt_of_lt_of_le ha.2 (bE hc.2.1 (bE hd.2 hf.2.1))
def C0H(l:List a0u):Prop:=l.length<=400/\ ∀r∈l,A0X r
def o0a(c:List (List a0u)):Prop:=c.length<=401/\ ∀l∈c,C0H l
theorem K0o:Tot (d0n t 0) (λr=>o0a r.1):=by
  unfold d0n;refine tJ (Tot.mono (p:=λx=>match x with| .inl s=>(s.2.1.length:Int)<=400/\(∀l∈s.2.1,C0H l)/\C0H s.2.2| .inr r=>o0a r.1) (tL (λs:Int×List (List a0u)×List a0u=>rb t s.1/\(s.2.1.length:Int)<=s.1/\(s.2.2.length:Int)<=s.1/\(∀l∈s.2.1,C0H l)/\ ∀r∈s.2.2,A0X r) (λs=>((t.length:Int)-s.1).toNat) ⟨⟨az _,cZ⟩,dB,dB,dB,dB⟩ cZ (λs hs=> ?_)) (λx hx=> ?_));obtain⟨g1,g2,g3,g4,g5⟩:=hs;refine tB (A0W ht g1) (λa ha=>tI (λ_=>tR ⟨dB,dB⟩) (λe=> ?_));obtain⟨a1,a2,a3⟩:=ha (by simpa using e);have g1':=g1.2;have a1':=a1.2
  have hall: ∀r∈s.2.2++ [a.1],A0X r:=λx hx=>by
    rcases au.1 hx with hx|hx;exact g5 x hx;obtain rfl:=aR.1 hx;exact a3
  have hrow:C0H (s.2.2++ [a.1]):=⟨dA,hall⟩
  refine tY (a0f dA) (tB (B0Z ht a1) (λw hw=> ?_));obtain⟨⟨w0,w1⟩,w2,w3⟩:=hw;have ew:oA .i64 (w.2+w.1.length)=w.2+w.1.length:=w64 cV cV;rw[ew];refine tI (λ_=>tR ⟨⟨⟨cZ,cZ⟩,cZ,dA,g4,hall⟩,cZ⟩) (λ_=>tI (λ_=>tY (a0f dA) (tR ⟨⟨⟨cZ,cZ⟩,dA,dA,λl hl=> ?_,dB⟩,cZ⟩)) (λ_=>tR ⟨cZ,g4,hrow⟩));rcases au.1 hl with hl|hl;exact g4 l hl;obtain rfl:=aR.1 hl;exact hrow
  cases x with
  |inr r=>exact hx
  |inl s=>
    obtain⟨s1,s2,s3⟩:=hx;refine show Tot _ _ from tY (a0f dA) (tR ⟨dA,λl hl=> ?_⟩)
    rcases au.1 hl with hl|hl;exact s2 l hl;obtain rfl:=aR.1 hl;exact s3
end
theorem d0c [Inhabited T] {l:List T} (h0:0<=i)(h1:i<l.length):nth l i∈l:=by
  obtain⟨k,rfl⟩:=Int.eq_ofNat_of_zero_le h0;rw[t0p cV];exact cz _
theorem C0c {c:List (List a0u)} (hc:o0a c):Tot (i0F c) (λ_=>True):=by
  unfold i0F;have hn:=hc.1;refine tJ (tW (λs:Int×Int=>s.2) c.length (λ_=>True) cV ⟨trivial,az _,dB⟩ (λs _ g0 g1=> ?_) (λs _ e=> ?_));rw[dT g1];have hm:=(hc.2 _ (d0c g0 g1)).1;refine tJ (tY (a0c g0 g1) (tW (λs:Int=>s) (nth c s.2).length (λ_=>True) cV ⟨trivial,az _,dB⟩ (λu _ f0 f1=> ?_) (λu _ e=> ?_)));exact tY (dT f1)<|tY (a0c f0 f1) (tI cX (λ_=>tR ⟨trivial,w64 cV cV⟩))
  rw[dF (show¬u<((nth c s.2).length:Int) by omega)];exact tR (tR ⟨trivial,w64 cV cV⟩);rw[dF (show¬s.2<(c.length:Int) by omega)];exact tR (tR trivial)
theorem z0H(t:List UInt8):Tot (j0G t) (λr=>o0a r.1):=by
  unfold j0G
  have z:o0a []:=⟨dB,dB⟩
  refine tI (λ_=>tR z) (λe=> ?_);have e:=dFF e;exact tB (K0o cV) (λa ha=>tI (λ_=>tR z) (λ_=>tB (C0c ha) (λ_ _=>tI (λ_=>tR z) (λ_=>tR ha))))
/-! Decimal numerals: what the library's functions lay. -/
def dgs(u:Nat):Nat->List Int
  |0=> []
  |n+1=>dgs (u/10) n++ [((48+u%10:Nat):Int)]
theorem E0r: ∀(n u:Nat),(dgs u n).length=n
  |0,u=>rfl
  |n+1,u=>by simp[dgs,E0r n]
theorem J0q(u n:Nat):dgs u (n+2)=dgs (u/100) n++ [((48+u/10%10:Nat):Int),((48+u%10:Nat):Int)]:=by
  show dgs (u/10) (n+1)++_=_;show(dgs (u/10/10) n++_)++_=_;rw[cL,aO];rfl
theorem L0s: ∀(u:Nat),dgs u (Lib.nDigits u)=b0o (Lib.decDigits u):=by
  intro u
  induction u using Nat.strongRecOn with
  |_ u ih=>
    by_cases h:u<10;rw[Lib.nDigits_small h,Lib.decDigits,dif_pos h];simp only[dgs,b0o,al,aE,bk];rw[UInt8.toNat_ofNat_of_lt' (by simp only[UInt8.size];omega),cN h];rw[Lib.nDigits_big h,Lib.decDigits,dif_neg h];show dgs (u/10) (Lib.nDigits (u/10))++_=_;rw[ih (u/10) cV];simp only[b0o,cm,al,aE];rw[UInt8.toNat_ofNat_of_lt' (by simp only[UInt8.size];omega)]
theorem M0A(p:Nat)(h:p<100):(k1_.getD (p*2) 0).toNat=48+p/10:=by
  have: ∀q:Fin 100,(k1_.getD (q.val*2) 0).toNat=48+q.val/10:=by decide+kernel
  exact this ⟨p,h⟩
theorem M0z(p:Nat)(h:p<100):(k1_.getD (p*2+1) 0).toNat=48+p%10:=by
  have: ∀q:Fin 100,(k1_.getD (q.val*2+1) 0).toNat=48+q.val%10:=by decide+kernel
  exact this ⟨p,h⟩
theorem tm8(a:Nat):jC (a:Int) 100000000=((a%100000000:Nat):Int):=by rw[cC cV];omega
theorem tm4(a:Nat):jC (a:Int) 10000=((a%10000:Nat):Int):=by rw[cC cV];omega
theorem tm2(a:Nat):jC (a:Int) 100=((a%100:Nat):Int):=by rw[cC cV];omega
theorem td8(a:Nat):wD (a:Int) 100000000=((a/100000000:Nat):Int):=by rw[bw cV];omega
theorem td4(a:Nat):wD (a:Int) 10000=((a/10000:Nat):Int):=by rw[bw cV];omega
theorem td2(a:Nat):wD (a:Int) 100=((a/100:Nat):Int):=by rw[bw cV];omega
theorem B0W (h:a<4294967296):IntKind.u32.wrap (a:Int)=(a:Int):=N0A cV cV
theorem M0c (h:a<18446744073709551616):IntKind.u64.wrap (a:Int)=(a:Int):=J0O cV cV
theorem I0y(a:Nat):(a:Int)*2=((a*2:Nat):Int):=by omega
theorem K0W:k1_.length=200:=by kernel_rfl
theorem M0F (h:a<200):inR (a:Int) k1_.length=true:=m0f (by rw[K0W];exact h)
theorem s0O (xs:List T)(j:Int)(y:T):(b0c xs j y).length=xs.length:=by simp[b0c]
theorem E0X(x:Int):((0:Nat):Int)+x=x:=by simp
theorem C0A (p l:List T)(k:Nat)(v:T):b0c (p++l) (((p.length+k:Nat):Int)) v=p++l.set k v:=by
  unfold b0c;rw[bA,List.set_append_right _ _ cV];congr 2;omega
theorem M0H {o j n:Nat} (h:o+j<n):inP o (j:Int) n=true:=by simp[inP];omega
theorem w0o {b:Nat} (h:b<=a)(h2:a<1000):oA .i64 ((a:Int)-(b:Int))=((a-b:Nat):Int):=by rw[w64 cV cV];omega
theorem H0H (h:1<=a)(h2:a<1000):oA .i64 ((a:Int)-1)=((a-1:Nat):Int):=w0o h h2
theorem H0G (h:2<=a)(h2:a<1000):oA .i64 ((a:Int)-2)=((a-2:Nat):Int):=w0o h h2
theorem J0Z (h:3<=a)(h2:a<1000):oA .i64 ((a:Int)-3)=((a-3:Nat):Int):=w0o h h2
theorem J0Y (h:4<=a)(h2:a<1000):oA .i64 ((a:Int)-4)=((a-4:Nat):Int):=w0o h h2
theorem M0g (h:5<=a)(h2:a<1000):oA .i64 ((a:Int)-5)=((a-5:Nat):Int):=w0o h h2
theorem M0f (h:6<=a)(h2:a<1000):oA .i64 ((a:Int)-6)=((a-6:Nat):Int):=w0o h h2
theorem M0e (h:7<=a)(h2:a<1000):oA .i64 ((a:Int)-7)=((a-7:Nat):Int):=w0o h h2
theorem M0d (h:8<=a)(h2:a<1000):oA .i64 ((a:Int)-8)=((a-8:Nat):Int):=w0o h h2
def FB(R:List Int)(x0:Nat)(s:Int×Int×List Int):Prop:= ∃(v n:Nat) (p q:List Int),s=((v:Int),(n:Int),p++q)/\p.length=n/\v<10^n/\v<18446744073709551616/\p.length+q.length=24/\n<=x0/\dgs v n++q=R
theorem M0u {p:List Int} {k:Nat} (h:p.length=k+8): ∃p' a b c d e f g i,p=p'++ [a,b,c,d,e,f,g,i]/\p'.length=k:=by
  refine⟨p.take k, ?_⟩;have h2:(p.drop k).length=8:=by simp;omega
  match hd:p.drop k,h2 with
  | [a,b,c,d,e,f,g,i],_=>exact⟨a,b,c,d,e,f,g,i,by rw[<-hd,bp],dA⟩
theorem O0h(u n:Nat):dgs u (n+8)=dgs (u/100000000) n++ [((48+u%100000000/10000/100/10:Nat):Int),((48+u%100000000/10000/100%10:Nat):Int),((48+u%100000000/10000%100/10:Nat):Int),((48+u%100000000/10000%100%10:Nat):Int),
    ((48+u%100000000%10000/100/10:Nat):Int),((48+u%100000000%10000/100%10:Nat):Int),((48+u%100000000%10000%100/10:Nat):Int),((48+u%100000000%10000%100%10:Nat):Int)]:=by
  rw[J0q,J0q,J0q,J0q];simp only[aO,be,bk,cL];congr 1;congr 1;omega;congr 1;omega;congr 1;omega;congr 1;omega;congr 1;omega;congr 1;omega;congr 1;omega;congr 1;omega
theorem J0J(a:Nat):(a:Int)+1=((a+1:Nat):Int):=by omega
theorem D0M(p:Nat)(h:p<100):(((k1_.getD (((p*2:Nat):Int)).toNat 0).toNat:Nat):Int)=((48+p/10:Nat):Int):=by rw[bA,M0A p h]
theorem D0L(p:Nat)(h:p<100):(((k1_.getD (((p*2+1:Nat):Int)).toNat 0).toNat:Nat):Int)=((48+p%10:Nat):Int):=by rw[bA,M0z p h]
theorem w8c (h:a<256):IntKind.u8.wrap (a:Int)=(a:Int):=w8 cV cV
theorem M0X(a:Nat):(48:Int)+(a:Int)=((48+a:Nat):Int):=by omega
theorem J0X:((0:Nat):Int)+0=((0:Nat):Int):=rfl
theorem M0I {n:Nat} (h:0<n):inP 0 0 n=true:=by simp[inP];omega
theorem M0G {n:Nat} (hx:x.toNat=n)(h:0<n):inR 0 x.toNat=true:=a0c cV cV
theorem H0T (p:List T)(k:Nat)(v:T):b0c p ((k:Nat):Int) v=p.set k v:=by simp[b0c]
def FA(R:List Int)(x0 b:Nat)(s:Int×Int×List Int):Prop:= ∃(v n:Nat) (p q:List Int),s=((n:Int),(v:Int),p++q)/\p.length=n/\v<4294967296/\v<10^n/\n<b/\p.length+q.length=24/\n<=x0/\dgs v n++q=R
theorem M0v {p:List Int} {k:Nat} (h:p.length=k+4): ∃p' a b c d,p=p'++ [a,b,c,d]/\p'.length=k:=by
  refine⟨p.take k, ?_⟩;have h2:(p.drop k).length=4:=by simp;omega
  match hd:p.drop k,h2 with
  | [a,b,c,d],_=>exact⟨a,b,c,d,by rw[<-hd,bp],dA⟩
theorem M0w {p:List Int} {k:Nat} (h:p.length=k+2): ∃p' a b,p=p'++ [a,b]/\p'.length=k:=by
  refine⟨p.take k, ?_⟩;have h2:(p.drop k).length=2:=by simp;omega
  match hd:p.drop k,h2 with
  | [a,b],_=>exact⟨a,b,by rw[<-hd,bp],dA⟩
theorem O0i(u n:Nat):dgs u (n+4)=dgs (u/10000) n++ [((48+u%10000/100/10:Nat):Int),((48+u%10000/100%10:Nat):Int),((48+u%10000%100/10:Nat):Int),((48+u%10000%100%10:Nat):Int)]:=by
  rw[J0q,J0q];simp only[aO,be,bk,cL];congr 1;congr 1;omega;congr 1;omega;congr 1;omega;congr 1;omega
set_option maxHeartbeats 4000000 in
theorem M0K {v n:Nat} {a:List Int} (hn:n<=24)(ha:a.length=24)(hv:v<10^n)(hv2:v<18446744073709551616):c0h (n:Int) (v:Int) a=qB (dgs v n++a.drop n):=by
  unfold c0h;have tn:((n:Int)).toNat=n:=by omega
  refine r0B (λs=>FB (dgs v n++a.drop n) n s/\s.2.1<8) (D0t (FB (dgs v n++a.drop n) n) (λs=>s.2.1.toNat) _ (λs hs=> ?_) _ _ ?_ ?_) ?_;obtain⟨w,k,p,q,rfl,hp,hw,hw2,hl,hk,hR⟩:=hs;by_cases h8:8<=k;left
  obtain⟨j,rfl⟩: ∃j,k=j+8:=⟨k-8,cV⟩
  obtain⟨p,a0,a1,a2,a3,a4,a5,a6,a7,rfl,hp'⟩:=M0u hp;have hpl:p.length+8+q.length=24:=by simp at hl;omega
  refine⟨(((w/100000000:Nat):Int),((j:Nat):Int),p++([((48+w%100000000/10000/100/10:Nat):Int),((48+w%100000000/10000/100%10:Nat):Int),((48+w%100000000/10000%100/10:Nat):Int),((48+w%100000000/10000%100%10:Nat):Int),
    ((48+w%100000000%10000/100/10:Nat):Int),((48+w%100000000%10000/100%10:Nat):Int),((48+w%100000000%10000%100/10:Nat):Int),((48+w%100000000%10000%100%10:Nat):Int)]++q)), ?_,⟨w/100000000,j,p,_,rfl,hp', ?_,cV, ?_,cV, ?_⟩,by simp only[bA];omega⟩
  simp only[];have d8:wB (((j+8:Nat):Int)≥8)=true:=dT cV;rw[d8];have hlen0:(p++ [a0,a1,a2,a3,a4,a5,a6,a7]++q).length=24:=by simp;omega
  have e1:j+8-1=p.length+7:=by omega
  have e2:j+8-2=p.length+6:=by omega
  have e3:j+8-3=p.length+5:=by omega
  have e4:j+8-4=p.length+4:=by omega
  have e5:j+8-5=p.length+3:=by omega
  have e6:j+8-6=p.length+2:=by omega
  have e7:j+8-7=p.length+1:=by omega
  have e8:j+8-8=p.length+0:=by omega
  simp(disch:=omega) only[tm8,tm4,tm2,td8,td4,td2,B0W,M0c,I0y,J0J,M0F,H0H,H0G,J0Z,J0Y,M0g,M0f,M0e,M0d,e1,e2,e3,e4,e5,e6,e7,e8,tn,m0f,oC];simp(disch:=omega) only[s0O,hlen0,M0H,oC,D0M,D0L,E0X];simp only[aO,C0A,be,bk,cG,cH]
  try simp only[cq,hp']
  rw[Nat.pow_add]at hw;exact cA (by rw[cU];exact hw);simp;omega;rw[<-hR,O0h,aO];right;refine⟨((w:Int),(k:Int),p++q), ?_,⟨w,k,p,q,rfl,hp,hw,hw2,hl,hk,hR⟩,cZ⟩;rw[dF cZ];rfl;exact⟨v,n,a.take n,a.drop n,by rw[bp,tn],dA,hv,hv2,dA,aj _,rfl⟩;simp only[bA];exact J0D cV;rintro s ⟨⟨w,k,p,q,rfl,hp,hw,hw2,hl,hk,hR⟩,h8⟩;simp only at h8;have hk8:k<8:=by omega
  have hw7:w<10000000:=ba hw (aG (Nat.pow_le_pow_right dC (show k<=7 by omega)) dC);simp only;refine r0B (FA (dgs v n++a.drop n) n 4) ?_ (λs hs=> ?_);by_cases h4:4<=k
  obtain⟨j,rfl⟩: ∃j,k=j+4:=⟨k-4,cV⟩
  obtain⟨p,a0,a1,a2,a3,rfl,hp'⟩:=M0v hp;have hpl:p.length+4+q.length=24:=by simp at hl;omega
  refine⟨((j:Int),((w/10000:Nat):Int),p++([((48+w%10000/100/10:Nat):Int),((48+w%10000/100%10:Nat):Int),((48+w%10000%100/10:Nat):Int),((48+w%10000%100%10:Nat):Int)]++q)), ?_,⟨w/10000,j,p,_,rfl,hp',cV, ?_,cV, ?_,cV, ?_⟩⟩;rw[dT (show((j+4:Nat):Int)≥4 by omega)];have hlen0:(p++ [a0,a1,a2,a3]++q).length=24:=by simp;omega
  have e1:j+4-1=p.length+3:=by omega
  have e2:j+4-2=p.length+2:=by omega
  have e3:j+4-3=p.length+1:=by omega
  have e4:j+4-4=p.length+0:=by omega
  simp(disch:=omega) only[tm4,tm2,td4,td2,B0W,I0y,J0J,M0F,H0H,H0G,J0Z,J0Y,e1,e2,e3,e4,tn,m0f,oC];simp(disch:=omega) only[s0O,hlen0,M0H,oC,D0M,D0L,E0X];simp only[aO,C0A,be,bk,cG,cH]
  try simp only[cq,hp']
  rw[Nat.pow_add]at hw;exact cA (by rw[cU];exact hw);simp;omega;rw[<-hR,O0i,aO];refine⟨((k:Int),(w:Int),p++q), ?_,⟨w,k,p,q,rfl,hp,cV,hw,cV,hl,hk,hR⟩⟩;rw[dF cV,B0W cV];rfl;obtain⟨w,k,p,q,rfl,hp,hw7,hw,hk4,hl,hk,hR⟩:=hs;simp only;refine r0B (FA (dgs v n++a.drop n) n 2) ?_ (λs hs=> ?_);by_cases h2:2<=k
  obtain⟨j,rfl⟩: ∃j,k=j+2:=⟨k-2,cV⟩
  obtain⟨p,a0,a1,rfl,hp'⟩:=M0w hp;have hpl:p.length+2+q.length=24:=by simp at hl;omega
  refine⟨((j:Int),((w/100:Nat):Int),p++([((48+w%100/10:Nat):Int),((48+w%100%10:Nat):Int)]++q)), ?_,⟨w/100,j,p,_,rfl,hp',cV, ?_,cV, ?_,cV, ?_⟩⟩;rw[dT (show((j+2:Nat):Int)≥2 by omega)];have hlen0:(p++ [a0,a1]++q).length=24:=by simp;omega
  have e1:j+2-1=p.length+1:=by omega
  have e2:j+2-2=p.length+0:=by omega
  simp(disch:=omega) only[tm2,td2,B0W,I0y,J0J,M0F,H0H,H0G,e1,e2,tn,m0f,oC];simp(disch:=omega) only[s0O,hlen0,M0H,oC,D0M,D0L,E0X];simp only[aO,C0A,be,bk,cG,cH]
  try simp only[cq,hp']
  rw[Nat.pow_add]at hw;exact cA (by rw[cU];exact hw);simp;omega;rw[<-hR,J0q,aO];congr 2;congr 1;omega;congr 1;omega;refine⟨((k:Int),(w:Int),p++q), ?_,⟨w,k,p,q,rfl,hp,cV,hw,cV,hl,hk,hR⟩⟩;rw[dF cV];rfl;obtain⟨w,k,p,q,rfl,hp,hw7,hw,hk2,hl,hk,hR⟩:=hs;simp only;rw[<-hR];by_cases h1:1<=k;obtain rfl:k=1:=by omega
  obtain⟨a0,rfl⟩:=List.length_eq_one_iff.1 hp;have hw10:w<10:=by simpa using hw
  rw[dT cV,M0G tn cV,M0I dB];simp only[oC,J0X,H0T,be,bk,cH,dgs,M0X];rw[B0W cV,w8c cV,cN hw10];obtain rfl:k=0:=by omega
  obtain rfl:=av hp;rw[dF cV];rfl
theorem M0y: ∀q:Fin 256,(k2_.getD q.val 0).toNat=Lib.bitLen q.val:=by decide+kernel
theorem K0V:k2_.length=256:=by kernel_rfl
def M0Z(u b m:Nat)(s:Int×Int):Prop:= ∃x k:Nat,s=((x:Int),(k:Int))/\x<b/\x<18446744073709551616/\Lib.bitLen u=k+Lib.bitLen x/\k<=m
theorem fd(a b:Nat):vF (a:Int) (b:Int)=((a/b:Nat):Int):=by rw[cD _ cV];rfl
theorem G0c (h:u<18446744073709551616):l0E (u:Int)=qB (Lib.bitLen u:Int):=by
  unfold l0E;refine r0B (M0Z u 4294967296 32) ?_ (λs hs=> ?_);by_cases c:4294967296<=u;refine⟨_,by rw[dT cV];rfl,u/4294967296,32, ?_,cV,cV,Lib.bitLen_shift32 u c h,cV⟩;rw[show(4294967296:Int)=((4294967296:Nat):Int)from rfl,fd];rfl;exact⟨((u:Int),0),by rw[dF cV];rfl,u,0,rfl,cV,h,cV,cV⟩;obtain⟨x,k,rfl,hx,hx2,hb,hk⟩:=hs;simp only;refine r0B (M0Z u 65536 48) ?_ (λs hs=> ?_);by_cases c:65536<=x;refine⟨_,by rw[dT cV];rfl,x/65536,k+16, ?_,cV,cV,by rw[hb,Lib.bitLen_shift16 x c hx2];omega,cV⟩;rw[show(65536:Int)=((65536:Nat):Int)from rfl,fd,w64 cV cV];rfl;exact⟨((x:Int),(k:Int)),by rw[dF cV];rfl,x,k,rfl,cV,hx2,hb,cV⟩;obtain⟨x,k,rfl,hx,hx2,hb,hk⟩:=hs;simp only;refine r0B (M0Z u 256 56) ?_ (λs hs=> ?_);by_cases c:256<=x;refine⟨_,by rw[dT cV];rfl,x/256,k+8, ?_,cV,cV,by rw[hb,Lib.bitLen_shift8 x c hx2];omega,cV⟩;rw[show(256:Int)=((256:Nat):Int)from rfl,fd,w64 cV cV];rfl;exact⟨((x:Int),(k:Int)),by rw[dF cV];rfl,x,k,rfl,cV,hx2,hb,cV⟩;obtain⟨x,k,rfl,hx,hx2,hb,hk⟩:=hs;simp only;have h8:=Lib.bitLen_le8 ⟨x,hx⟩;simp only at h8;rw[w8c hx,m0f (by rw[K0V];omega),bA,M0y ⟨x,hx⟩];simp only[oC];rw[w64 (n:=(Lib.bitLen x:Int)) cV cV,w64 cV cV,hb];rfl
theorem M0x: ∀q:Fin 20,nth k3_ (q.val:Int)=((10^q.val:Nat):Int):=by decide+kernel
theorem numDigits_eq (h1:1<=u)(h:u<18446744073709551616):e0J (u:Int)=qB (Lib.nDigits u:Int):=by
  unfold e0J;rw[G0c h];have hb:Lib.bitLen u<=64:=Lib.bitLen_le u 64 cV h;obtain⟨e1,e2⟩:=Lib.numDigits_eq u h1 h;simp only[ai];unfold g0d
  have e3:vF (oA .i64 ((Lib.bitLen u:Int)*78913)) 262144=(Lib.l10 (Lib.bitLen u):Int):=by
    rw[w64 cV cV,show(262144:Int)=((262144:Nat):Int)from rfl,show(Lib.bitLen u:Int)*78913=((Lib.bitLen u*78913:Nat):Int) by omega,fd];rfl
  rw[e3];simp only[ai];rw[m0f cV,M0x ⟨Lib.l10 (Lib.bitLen u),cV⟩];simp only[oC];rw[<-e1];unfold j0r;by_cases c:10^Lib.l10 (Lib.bitLen u)<=u;rw[dT cV,qC c];simp only[oC,ai];rw[w64 cV cV];rfl;rw[dF cV,wC c];simp only[oD,ai];rw[w64 cV cV];rfl
theorem K0f (h:u<100):g0c (u:Int)=qB (Lib.decDigits u):=by
  have: ∀q:Fin 100,g0c (q.val:Int)=qB (Lib.decDigits q.val):=by
    intro q;have e: ∀q:Fin 100,g0c (q.val:Int)=qB (if q.val<10 then [oI (48+q.val)]else [oI (48+q.val/10),oI (48+q.val%10)]):=by decide+kernel
    rw[e q];split;rename_i c;rw[Lib.decDigits_one c];rename_i c;rw[Lib.decDigits_two c q.isLt]
  exact this ⟨u,h⟩
theorem u0N {x0:List Int} (hu:u<18446744073709551616)(hl:x0.length<=4000000000):d0T x0 (u:Int) 10=qB (x0++b0o (Lib.decDigits u)):=by
  have hd:=Lib.nDigits_le20 u hu;unfold d0T;rw[dT rfl];simp only[oC];by_cases c:u<100;rw[dT cV,w64 cV cV,K0f c];simp only[oC,ai];rw[a0f (by rw[Lib.decDigits_length];omega)];rfl;rw[dF cV,numDigits_eq cV hu];simp only[oD,ai];rw[k0K cV cV cV];simp only[oC];rw[M0K cV rfl (Lib.lt_pow_nDigits u) hu];simp only[ai];rw[k0K cV cV (by simp[E0r,rep];omega),F0C cV];simp only[Bool.and_self,oC];congr 2;rw[E0X,cut,L0s];simp only[bA,Int.toNat_zero,cJ];rw[List.take_append_of_le_length (by simp[b0o,Lib.decDigits_length])];exact List.take_of_length_le (by simp[b0o,Lib.decDigits_length])
theorem B0G {x0:List Int} (h0: -9223372036854775808<=n)(h1:n<=9223372036854775807)(hl:x0.length<=3000000000):b0W x0 n 10=qB (x0++b0o (Lib.itoa n)):=by
  unfold b0W d0U;by_cases c:n<0;rw[dT c,a0f dA];simp only[oC,ai]
  have e:oA .u64 (0-oA .u64 n)=((n.natAbs:Nat):Int):=by
    unfold oA;simp only[wH,jI,cw,aF,if_false];omega
  rw[e,u0N cV dA];simp only[ai];unfold Lib.itoa;rw[qC c,aO];rfl;rw[dF c];simp only[oD,ai];have e:oA .u64 n=((n.toNat:Nat):Int):=by rw[J0O cV cV];omega
  rw[e,u0N cV cV];simp only[ai];unfold Lib.itoa;rw[wC c]
theorem J0F {x:List Int} (hn:inI n)(hl:x.length<=2999999000):Tot (b0W x n 10) (λr=>r.length<=x.length+21):=by
  rw[B0G hn.1 hn.2 cV];have:=Lib.itoa_length_le n hn.1 hn.2;exact tR (by simp[b0o];omega)
theorem K0n {x:List Int} {r:a0u} (hr:A0X r)(hx:x.length<=2950000000):Tot (h0t x r) (λo=>o.length<=x.length+18100):=by
  obtain⟨h1,h2,h3⟩:=hr;unfold h0t;refine tY (a0f dA) (tB (p:=λo:List Int=>o.length<=x.length+25) ?_ (λa ha=>tB (p:=λo:List Int=>o.length<=x.length+29) ?_ (λc hc=>tB (p:=λo:List Int=>o.length<=x.length+18100) ?_ (λ_ h=>tR h))));refine tI (λ_=>tY (a0f dA) (tB (J0F h1 (by simp[b0o];omega)) (λa ha=>tR (by simp[b0o]at ha;omega)))) (λ_=>tR dB);refine tI (λ_=>tY (a0f dA) (tR (by simp[b0o];omega))) (λ_=>tY (a0f dA) (tR (by simp[b0o];omega)));refine tW (λs:Int×List Int=>s.1) r.R_.length (λs=>(s.2.length:Int)<=x.length+29+45*s.1) cV ⟨cZ,az _,dB⟩ (λs hs g0 g1=> ?_) (λs hs e=> ?_);obtain⟨m1,m2⟩:=h3 _ (d0c g0 g1);refine tY (dT g1) (tB (p:=λo:List Int=>(o.length:Int)<=s.2.length+45) (tY (a0c g0 g1) (tB (p:=λo:List Int=>(o.length:Int)<=s.2.length+1) (tI (λ_=>tY (a0f dA) (tR dB)) (λ_=>tR cV)) (λa ha=>tB (J0F m1 cV) (λc hc=>tI (λ_=>tY (a0f dA) (tB (J0F m2 (by simp[b0o];omega)) (λd hd=>tR (by simp[b0o]at hd;omega)))) (λ_=>tR cV))))) (λa ha=>tR ⟨?_,w64 cV cV⟩));rw[w64 (n:=s.1+1) cV cV];simp only;omega;refine tN (dF cV) (tR cV)
theorem H0Y {c:List (List a0u)} (hc:o0a c):Tot (n0h c) (λ_=>True):=by
  unfold n0h;have hn:=hc.1;refine zC (tW (λs:Int×List Int=>s.1) c.length (λs=>(s.2.length:Int)<=7242000*s.1) cV ⟨dB,az _,dB⟩ (λs hs g0 g1=> ?_) (λs hs e=>zE e trivial)) dD;obtain⟨m1,m2⟩:=hc.2 _ (d0c g0 g1);refine tY (dT g1) (tB (p:=λo:List Int=>(o.length:Int)<=s.2.length+7242000) (tY (a0c g0 g1) (tW (λu:Int×List Int=>u.1) (nth c s.1).length (λu=>(u.2.length:Int)<=s.2.length+18105*u.1) cV ⟨dB,az _,dB⟩ (λu hu f0 f1=> ?_) (λu hu e=>tN (dF cV) (tR cV)))) (λo ho=>tR ⟨?_,w64 cV cV⟩))
  · refine tY (dT f1) (tB (p:=λo:List Int=>(o.length:Int)<=u.2.length+18105) (tY (a0c f0 f1) (tB (p:=λo:List Int=>(o.length:Int)<=u.2.length+5) (tI (λ_=>tR cV) (λ_=>tI (λ_=>tY (a0f dA) (tR (by simp[b0o]<;>omega))) (λ_=>tY (a0f dA) (tR (by simp[b0o]<;>omega))))) (λa ha=>tB (K0n (m2 _ (d0c f0 f1)) cV) (λd hd=>tR cV)))) (λo ho=>tR ⟨?_,w64 cV cV⟩))
    rw[w64 (n:=u.1+1) cV cV];simp only;omega
  rw[w64 (n:=s.1+1) cV cV];simp only;omega
theorem M0N {x y:List a0v} (hx:x.length<=4294967296):Tot (f0o x y) (λ_=>True):=by
  unfold f0o;exact v0O hx (λs g0 g1 e=>tY (a0c g0 g1) (tY (a0c g0 cV) (tI (λ_=>tR (.inr ⟨_,rfl⟩)) (λ_=>tR (.inl rfl)))))
theorem H0Z {c d:List (List a0u)} (hc:o0a c):Tot (n0i c d) (λ_=>True):=by
  unfold n0i m0u;refine tB (v0O (aG hc.1 dC) (λs g0 g1 e=>tY (a0c g0 g1) (tY (a0c g0 cV) (zC ?_ (λ_ _=>tI (λ_=>tR (.inr ⟨_,rfl⟩)) (λ_=>tR (.inl rfl))))))) dD;have hm:=hc.2 _ (d0c g0 g1);unfold l0Q h0S;refine tB (v0O (aG hm.1 dC) (λu f0 f1 e=>tY (a0c f0 f1) (tY (a0c f0 cV) (zC ?_ (λ_ _=>tI (λ_=>tR (.inr ⟨_,rfl⟩)) (λ_=>tR (.inl rfl))))))) dD;have hr:=(hm.2 _ (d0c f0 f1)).2.1;unfold k0D;refine zC (tI (λ_=>tI (λ_=>tI (λ_=>tB (M0N (aG hr dC)) dD) cX) cX) cX) dD
theorem F0A {c:List (List a0u)} (hc:o0a c):Tot (l0n c) (λ_=>True):=by
  unfold l0n;exact tB (H0Y hc) (λt _=>tB (z0H t) (λd _=>zC (tI (λ_=>tB (H0Z hc) dD) cX) dD))
theorem I0A {g:List Int} (hp:j0f p 1000)(hg:g.length<=100000):Tot (n0E s p g) (λ_=>True):=by
  unfold n0E;refine tJ (tB (p:=λb=>b=vB->g.length<=20) (tI (λ_=>tR cW) (λ_=>tI (λ_=>tR cW) (λh=>tB (C0B cV) (λ_ _=>tR (λ_=>by have:=dFF h;omega))))) (λb hb=>tI cX (λe=>tR (show Tot _ _ from ?_))));exact tJ (zC (tI (λ_=>tB (E0v cV) dD) cX) (λ_ _=>tI cX (λ_=>tR (show Tot _ _ from tB (C0d hp (by have:=hb e;omega)) dD))))
/-! The certificate of a locale: it answers. -/
def inB(x:Int):Prop:=0<=x/\x<=20000000
theorem K0b (hp:j0f p 1000):Tot (l0t p) inB:=by
  unfold l0t;obtain⟨p1,p2,_⟩:=hp;refine tB (w0p p) (λn hn=>tR ?_);rw[w64 (n:=(n.length:Int)+p.h_.length) cV cV,w64 cV cV];exact⟨cV,cV⟩
theorem H0A {l:f0x} (hk:0<=k/\k<=4)(h:l.b_.d_.length<=100000/\l.b_.f_.length<=100000/\l.b_.m_.length<=100000/\l.b_.t_.length<=100000):Tot (h0l l k) (λr=>j0f r 1000):=by
  unfold h0l;refine tB (p:=λs:Int=>0<=s/\s<=3) (tI (λ_=>tR cV) (λe=>tR (by have:=dFF e;omega))) (λs hs=> ?_);refine tI (λ_=>tB (f0N h.1) (λ_ hr=>tR hr)) (λe0=>tI (λ_=>tB (f0N h.2.1) (λ_ hr=>tR hr)) (λe1=>tI (λ_=>tB (f0N h.2.2.1) (λ_ hr=>tR hr)) (λe2=>tI (λ_=>tB (f0N h.2.2.2) (λ_ hr=>tR hr)) (λe3=> ?_))));have:=dFF e0;have:=dFF e1;have:=dFF e2;have:=dFF e3;omega
theorem N0F {a b:Int} (ha:inB a)(hb:inB b):inB (s0e a b):=by unfold s0e;split<;>assumption
theorem E0J {c:List Int} (hp:j0f p 1000)(hc:c.length<=6100) {x2 x3 x4 x5 x6 x7 x8 x9 x10 x11 x12 x13 x14 x15 x16 x17} (hx:inB x17):Tot (d0l p c x2 x3 x4 x5 x6 x7 x8 x9 x10 x11 x12 x13 x14 x15 x16 x17) inB:=by
  unfold d0l;refine tW (λs:Int×Int=>s.1) 3 (λs=>inB s.2) cV ⟨hx,dB⟩ (λs hs h0 h1=>tY (dT h1) (tB (z0t hp hc) (λa ha=>tR ⟨N0F hs ?_, ?_⟩))) (λs hs e=>tN (dF cV) (tR hs));obtain⟨a1,a2⟩:=ha;rw[w64 cV cV];exact⟨cV,cV⟩;exact w64 (n:=s.1+1) cV cV
theorem r0D(s:ByteArray): ∀(n i:Nat) (acc:Array Value),(wF s n i acc).size<=acc.size+n
  |0,i,acc=>by simp[wF]
  |n+1,i,acc=>by
    simp only[wF];split;have:=r0D s n (i+(Utf8.decode s i).2) (acc.push (.int .i32 (Int.ofNat (Utf8.decode s i).1)));simp at this;simp only[Int.ofNat_eq_natCast]at this⊢;omega;omega
theorem w0G(t:List UInt8):(g0A t).length<=t.length:=by
  unfold g0A;have:=r0D ⟨t.toArray⟩ t.length 0 #[];simp at this;simpa using this
theorem M0W {l:f0x} (hk:0<=k/\k<=4)(h:l.b_.d_.length<=100000/\l.b_.f_.length<=100000/\l.b_.m_.length<=100000/\l.b_.t_.length<=100000)(hc:l.j_.length<=105)(hs: ∀c∈l.j_,c.x_.length<=6000)(hm:l.c_.length<=95)(ht: ∀c∈l.c_,c.ad_.length<=6000):Tot (k0q l k) inB:=by
  unfold k0q;refine tB (H0A hk h) (λp hp=>tB (E0J hp dB ⟨dC,dC⟩) (λa ha=>tB (p:=inB) ?_ (λ_ h=>tR h)));refine tI (λ_=> ?_) (λ_=>tI (λ_=> ?_) (λ_=>tR ha));refine tW (λs:Int×Int=>s.1) l.j_.length (λs=>inB s.2) cV ⟨ha,dB⟩ (λs hi h0 h1=>tY (dT h1) (tY (a0c h0 h1) (tB (E0J hp ?_ hi) (λ_ h=>tR ⟨h, ?_⟩)))) (λs hi e=>tN (dF cV) (tR hi));have:=hs _ (d0c h0 h1);have:=w0G (nth l.j_ s.1).x_;omega;exact w64 (n:=s.1+1) cV cV;refine tW (λs:Int×Int=>s.1) l.c_.length (λs=>inB s.2) cV ⟨ha,dB⟩ (λs hi h0 h1=>tY (dT h1) (tY (a0c h0 h1) (tB (v0g ?_) (λq hq=>tB (E0J hq dB hi) (λ_ h=>tR ⟨h, ?_⟩))))) (λs hi e=>tN (dF cV) (tR hi));have:=ht _ (d0c h0 h1);omega;exact w64 (n:=s.1+1) cV cV
theorem w0q {l:f0x} (hk:0<=k/\k<=4)(h:l.b_.d_.length<=100000/\l.b_.f_.length<=100000/\l.b_.m_.length<=100000/\l.b_.t_.length<=100000):Tot (h0R l k) inB:=by
  unfold h0R;refine tB (H0A hk h) (λp hp=> ?_);refine tJ (Tot.mono (p:=λx:Unit⊕Int=>match x with| .inl _=>True| .inr o=>inB o) (zC (tI cX cX) (λb _=>tI (λ_=>tR ⟨dC,dC⟩) cX)) (λx hx=> ?_))
  cases x with
  |inl u=>exact tB (K0b hp) (λ_ h=>tR h)
  |inr u=>exact hx
theorem v0X [DecidableEq T] {x:List T} (h:x.length<=4294967296):(bif(vC x.length 0)then o0h (qB ([]:List T)) (bif room x.length then(qB x)else none)else(bif room x.length then(qB x)else none))=qB x:=by
  rw[a0f h];simp only[oC]
  cases x with
  |nil=>simp[o0h]
  |cons a r=>simp[vC]
def ofB(r:G0F):Prop:=(inB r.at_.d_/\inB r.at_.f_/\inB r.at_.m_/\inB r.at_.t_/\inB r.at_.a4_)/\inB r.av_.d_/\inB r.av_.f_/\inB r.av_.m_/\inB r.av_.t_/\inB r.av_.a4_
def stB(s:Int×Int×Int×Int×Int×Int×Int×Int×Int×Int):Prop:=(inB s.1/\inB s.2.1/\inB s.2.2.1/\inB s.2.2.2.1/\inB s.2.2.2.2.1)/\inB s.2.2.2.2.2.1/\inB s.2.2.2.2.2.2.1/\inB s.2.2.2.2.2.2.2.1/\inB s.2.2.2.2.2.2.2.2.1/\inB s.2.2.2.2.2.2.2.2.2
theorem M0S {l:f0x} (h:l.b_.d_.length<=100000/\l.b_.f_.length<=100000/\l.b_.m_.length<=100000/\l.b_.t_.length<=100000)(hr:l.K_.length<=8)(hc:l.j_.length<=105)(hs: ∀c∈l.j_,c.x_.length<=6000)(hm:l.c_.length<=95)(ht: ∀c∈l.c_,c.ad_.length<=6000):Tot (r0A l) (λr=>ofB r/\r.L_=l):=by
  unfold r0A q0N s0A q0Q;rw[v0X cV,v0X cV,v0X cV];simp only[ai]
  have z:inB 0:=⟨dC,dC⟩
  refine tB (p:=stB) (tW (λs:Int×Int×Int×Int×Int×Int×Int×Int×Int×Int×Int=>s.1) 5 (λs=>stB s.2) cV ⟨⟨⟨z,z,z,z,z⟩,z,z,z,z,z⟩,dB⟩ (λs hi h0 h1=> ?_) (λs hi e=>tN (dF cV) (tR hi))) (λ_ h=>tR ⟨h,rfl⟩)
  have hk:0<=s.1/\s.1<=4:=⟨h0,cV⟩
  obtain⟨⟨b0,b1,b2,b3,b4⟩,b5,b6,b7,b8,b9⟩:=hi;refine tY (dT h1) (tB (M0W hk h hc hs hm ht) (λ_ a=> ?_));refine tI (λe=>tB (w0q ⟨cV,cV⟩ h) (λ_ w=>tR ⟨⟨⟨a,b1,b2,b3,b4⟩,w,b6,b7,b8,b9⟩, ?_⟩)) (λe0=>tI (λe=>tB (w0q ⟨cV,cV⟩ h) (λ_ w=>tR ⟨⟨⟨b0,a,b2,b3,b4⟩,b5,w,b7,b8,b9⟩, ?_⟩)) (λe1=>tI (λe=>tB (w0q ⟨cV,cV⟩ h) (λ_ w=>tR ⟨⟨⟨b0,b1,a,b3,b4⟩,b5,b6,w,b8,b9⟩, ?_⟩)) (λe2=>tI (λe=>tB (w0q ⟨cV,cV⟩ h) (λ_ w=>tR ⟨⟨⟨b0,b1,b2,a,b4⟩,b5,b6,b7,w,b9⟩, ?_⟩)) (λe3=>tI (λe=>tB (w0q ⟨cV,cV⟩ h) (λ_ w=>tR ⟨⟨⟨b0,b1,b2,b3,a⟩,b5,b6,b7,b8,w⟩, ?_⟩)) (λe4=> ?_)))));have:=dTT e;show oA .i64 (0+1)=s.1+1;rw[this];decide;have:=dTT e;show oA .i64 (1+1)=s.1+1;rw[this];decide;have:=dTT e;show oA .i64 (2+1)=s.1+1;rw[this];decide;have:=dTT e;show oA .i64 (3+1)=s.1+1;rw[this];decide;have:=dTT e;show oA .i64 (4+1)=s.1+1;rw[this];decide;have:=dFF e0;have:=dFF e1;have:=dFF e2;have:=dFF e3;have:=dFF e4;omega
theorem L0l {S:Type} [Inhabited T] [DecidableEq T] {xs ys:List T} (hlen:xs.length=ys.length)(hb:xs.length<=4611686018427387904)(ok bad:O) {step:Int->Option (Int⊕O)}
    (hs: ∀i:Nat,i<xs.length->step (i:Int)=qB (if nth xs (i:Int)=nth ys (i:Int)then .inl ((i:Int)+1)else .inr bad)) (he:step (xs.length:Int)=qB (.inr ok)):
    a0n step big 0=qB (if xs=ys then ok else bad):=by
  obtain⟨o,h1,h2⟩:=B0o (step:=step) xs.length (λi=>(i:Int)) (λi=> ∀j,j<i->nth xs (j:Int)=nth ys (j:Int)) (λo=>o=if xs=ys then ok else bad) rfl (λj hj=>cV) (λi hi hI=>by
    rw[hs i hi];by_cases c:nth xs (i:Int)=nth ys (i:Int);left;rw[qC c];refine⟨dB,λj hj=> ?_⟩;by_cases e:j=i;subst e;exact c;exact hI j cV;right;rw[wC c];refine⟨bad,rfl, ?_⟩
    rw[wC (λe=>c (by rw[e]))]) (λhI=>⟨ok,he,by
    rw[qC];apply List.ext_getElem hlen;intro i h1 h2;have:=hI i h1
    rwa [t0p h1,t0p h2]at this⟩) cV
  have h1':a0n step big 0=qB o:=h1;rw[h1',h2]
/-! Two patterns are compared. -/
theorem K0e {x:List a0b} (hl:x.length<=4611686018427387904):i0y x y=qB (wB (x=y)):=by
  unfold i0y;by_cases h:x.length=y.length
  · rw[dF cV]
    simp only[oD];rw[L0l (S:=Unit) h cV (.inl ():Unit⊕Bool) (.inr vB)];by_cases e:x=y;rw[qC e,dT e];rfl;rw[wC e,dF e];rfl
    · intro i hi
      rw[dT cV,m0f hi,m0f cV,w64 cV cV];simp only[oC];generalize nth x (i:Int)=a;generalize nth y (i:Int)=b;obtain⟨a1,a2⟩:=a;obtain⟨b1,b2⟩:=b;by_cases h1:a1=b1<;>by_cases h2:a2=b2<;>simp[h1,h2]
    rw[A0c];rfl
  rw[dT cV,dF (by rintro rfl;exact h rfl)];rfl
def N0G(a:a0h):Prop:=a.h_.length<=4611686018427387904/\a.i_.length<=4611686018427387904/\a.T_.length<=4611686018427387904/\a.N_.length<=4611686018427387904
/-! Parsers that always answer. -/
theorem x0A(x:Int):Tot (b0y x) (λ_=>True):=by
  unfold b0y;refine zC ?_ dD
  repeat' (first|exact tR trivial|refine tI (λ_=> ?_) (λ_=> ?_))
theorem v0d(x:Int):Tot (d0H x) (λn=>0<=n/\n<=4/\(b0y x=qB yB->1<=n)):=by
  unfold d0H;obtain⟨b,hb,_⟩:=x0A x;rw[hb]
  cases b with
  |false=>exact⟨0,rfl,cV,cV,λh=>by cases h⟩
  |true=>
    show Tot (bif _ then _ else _) _
    repeat' (first|exact tR ⟨cV,cV,λ_=>cV⟩|refine tI (λ_=> ?_) (λ_=> ?_))
theorem E0D(x:Int):Tot (e0p x) (λl=>l.length<=4):=by
  unfold e0p;refine tB (v0d x) (λ_ _=> ?_)
  repeat' (first|exact tR dB|refine tI (λ_=> ?_) (λ_=> ?_))
theorem v0a(x:Int):Tot (c0O x) (λl=>l.length<=4):=by
  unfold c0O;exact tB (E0D x) (λo h=>tR (by simpa [e0u]using h))
theorem p0n(x:Int):Tot (c0w x) (λ_=>True):=by
  unfold c0w;refine tJ (zC ?_ (λb _=> ?_))
  · repeat' (first|exact tR trivial|refine tI (λ_=> ?_) (λ_=> ?_))
  refine tI cX (λ_=>tR ?_);refine tJ (tL (λs=>0<=s/\s<=11) (λs=>(11-s).toNat) cV cV (λs hs=> ?_));refine tI (λh=> ?_) (λ_=>tR (tR trivial));have h:=dTT h;refine tY (a0c cV (by simpa using h)) (tI cX (λ_=>tR ?_));rw[w64 cV cV];omega
theorem z0D(x:Int):Tot (c0Q x) (λ_=>True):=by
  unfold c0Q
  repeat' (first|exact tR trivial|refine tI (λ_=> ?_) (λ_=> ?_))
def atV(l:List Int)(i:Int):Int:=if i<l.length then nth l i else-1
theorem k0R (h:0<=i):a0L l i=qB (atV l i):=by
  unfold a0L atV;by_cases hi:i<l.length;rw[dT hi,qC hi,a0c h hi];rfl;rw[dF hi,wC hi];rfl
theorem s0i (hc:atV l i=c)(h:c≠ -1):i<l.length:=by
  unfold atV at hc;split at hc
  assumption
  exact absurd hc.symm h
theorem q0w (hl:l.length<=10000)(h:0<=i)(hi:i<=l.length)(hc:c≠ -1):Tot (b0D l i c) (λn=>0<=n/\i+n<=l.length):=by
  unfold b0D;refine tB (p:=λn=>0<=n/\i+n<=l.length) ?_ (λ_ h=>tR h);refine tL (λs=>0<=s/\i+s<=l.length) (λs=>(l.length-i-s).toNat) cV cV (λs hs=> ?_);rw[w64 (n:=i+s) cV cV,k0R cV];show Tot (bif _ then _ else _) _;refine tI (λhh=>tR ?_) (λ_=>tR hs);have:=s0i (dTT hh) hc;rw[w64 cV cV];omega
def B0m(p:a0h):Int×Int×Int×Int×Int×Int×Int×Int×Int×Bool:=(p.V_,p.H_,p.P_,p.A_,p.z_,p.M_,p.J_,p.G_,p.e_,p.ah_)
theorem p0x {w:Int} (hl:l.length<=10000)(h:0<=i)(hi:i<=l.length):Tot (b0B p l i w) (λo=>0<=o.2.1/\(o.2.2=yB->o.2.1<=l.length)/\B0m o.1=B0m p):=by
  unfold b0B;refine tJ (zC ?_ (λb _=> ?_));refine tI cX (λ_=> ?_);rw[k0R h];exact tR trivial;refine tI (λ_=>tR ⟨h,λ_=>hi,rfl⟩) (λ_=>tR ?_);show Tot _ _;rw[w64 (n:=i+1) cV cV];refine tI (λ_=>tR ⟨cZ,λh=>(by cases h),rfl⟩) (λhh=> ?_);have:=dFF hh;refine tY (a0c cV cV) (tR ⟨?_,λ_=> ?_,rfl⟩);simp only;rw[w64 cV cV];omega;simp only;rw[w64 cV cV];omega
theorem k0r (hl:l.length<=10000)(h:0<=i)(hi:i<=l.length):Tot (a0y l i) (λo=>0<=o.2.1/\o.2.1<=l.length):=by
  unfold a0y;refine tJ (tL (λs:Int×List a0b=>0<=s.1/\s.1<=(l.length:Int)/\(s.2.length:Int)<=s.1) (λs=>((l.length:Int)-s.1).toNat) ⟨h,hi,by simpa using h⟩ cZ (λs hs=> ?_));refine tI (λhh=> ?_) (λhh=>tR (tR ⟨hs.1,hs.2.1⟩));have hlt:=dTT hh;refine tY (a0c hs.1 hlt) (tB (z0D _) (λy _=>tB (p0n _) (λy2 _=> ?_)));have e1:oA .i64 (s.1+1)=s.1+1:=w64 cV cV;rw[e1];refine tI (λ_=>tY (a0f dA) (tR ⟨⟨cZ,cZ,dA⟩,cZ⟩)) (λ_=> ?_);refine tI (λ_=>tI (λ_=>tR ⟨hs.1,hs.2.1⟩) (λ_=>tY (a0f dA) (tR ⟨⟨cZ,cZ,dA⟩,cZ⟩))) (λ_=> ?_);rw[k0R cV];show Tot (bif _ then _ else _) _;refine tI (λhq=> ?_) (λhq=> ?_);have:=s0i (dTT hq) cV;refine tY (a0f dA) (tR ?_);have e2:oA .i64 (s.1+2)=s.1+2:=w64 cV cV;rw[e2];exact⟨⟨cZ,cZ,dA⟩,cZ⟩;refine tB (p:=λo:Int×List a0b=>s.1+1<=o.1/\o.1<=(l.length:Int)/\(o.2.length:Int)<=o.1) ?_ (λo ho=> ?_);refine tL (λt:Int×List a0b=>s.1+1<=t.1/\t.1<=(l.length:Int)/\(t.2.length:Int)<=t.1) (λt=>((l.length:Int)-t.1).toNat) ⟨cZ,cZ,cZ⟩ cZ (λt ht=> ?_);have f1:oA .i64 (t.1+1)=t.1+1:=w64 cV cV;rw[f1];refine tJ (tB (p:=λb=>b=yB->t.1<l.length/\(nth l t.1=39->t.1+1<l.length)) ?_ (λb hb=> ?_));refine tI (λhh=> ?_) (λ_=>tR cW);have h3:=dTT hh;refine tY (a0c cV h3) (tI (λhn=>tR (λ_=>⟨h3,λhe=>absurd he (dTT hn)⟩)) (λ_=> ?_));rw[k0R cV];exact tR (λhb=>⟨h3,λ_=>s0i (dTT hb) cV⟩)
  cases b with
  |false=>exact tR ht
  |true=>
    obtain⟨g1,g2⟩:=hb rfl;refine tR (show Tot _ _ from ?_);refine tY (a0c cV g1) (tY (a0f dA) ?_);refine tB (p:=λv=>t.1<=v/\v<l.length) (tY (a0c cV g1) (tI (λhh=>tR ⟨cV,g2 (dTT hh)⟩) (λ_=>tR ⟨cV,g1⟩))) (λv hv=>tR ?_);have f2:oA .i64 (v+1)=v+1:=w64 cV cV;rw[f2];exact⟨⟨cZ,cZ,dA⟩,cZ⟩
  refine tI (λ_=>tR ⟨hs.1,hs.2.1⟩) (λhh=>tR ?_);have h3:=dFF hh;have f1:oA .i64 (o.1+1)=o.1+1:=w64 cV cV;rw[f1];exact⟨⟨cZ,cZ,cZ⟩,cZ⟩
theorem Tot.joinQ {x:Option (A⊕O)} {k:A->Option O} {q:O->Prop} (h:Tot x (λy=>match y with| .inl _=>True| .inr r=>q r))(hk: ∀a,Tot (k a) q):Tot (jB x (a0j k)) q:=by
  refine tJ (h.mono (λy hy=> ?_))
  cases y with
  |inl a=>exact hk a
  |inr r=>exact hy
/-! Patterns that are read: where the reader stands. -/
def stP (I:S->Prop)(μ:S->Nat)(m:Nat)(q:O->Prop)(x:S⊕O):Prop:=match x with
  | .inl s'=>I s'/\μ s'<m
  | .inr o=>q o
theorem Tot.loopS {step:S->Option (S⊕O)} (I:S->Prop)(μ:S->Nat) {q:O->Prop} {s0:S} (h0:I s0)(hb:μ s0<18446744073709551616)(hs: ∀s,I s->Tot (step s) (stP I μ (μ s) q)):Tot (a0n step big s0) q:=by
  refine tL I μ h0 hb (λs hi=>(hs s hi).mono (λx hx=> ?_));cases x<;>exact hx
theorem B0g (hl:l.length<=10000)(h:0<=i)(hi:i<=l.length):Tot (b0U p l i) (λo=>0<=o.2.1/\o.2.1<=l.length):=by
  unfold b0U;refine Tot.loopS (λs:Int×Int×Int×Int×List Int=>0<=s.1/\s.1<=(l.length:Int)/\(s.2.2.2.2.length:Int)<=s.1) (λs=>((l.length:Int)-s.1).toNat) ⟨h,hi,by simpa using h⟩ cZ (λs hs=> ?_);obtain⟨s1,n,ha,mi,gr⟩:=s;obtain⟨q1,q2,q3⟩:=hs;simp only at q1 q2 q3⊢;have e1:oA .i64 (s1+1)=s1+1:=w64 cV cV;rw[e1,k0R q1,k0R (l:=l) (i:=s1+1) cV];simp only[ai]
  have go: ∀ {c:Int} (a b d:Int) (g:List Int),atV l s1=c->c≠ -1->g.length<=gr.length+1->stP (λs:Int×Int×Int×Int×List Int=>0<=s.1/\s.1<=(l.length:Int)/\(s.2.2.2.2.length:Int)<=s.1) (λs=>((l.length:Int)-s.1).toNat) ((l.length:Int)-s1).toNat (λo:a0h×Int×Bool=>0<=o.2.1/\o.2.1<=l.length) (.inl (s1+1,a,b,d,g)):=λa b d g hc hn hg=>by
    have:=s0i hc hn;exact⟨⟨cZ,cZ,cZ⟩,cZ⟩
  refine Tot.joinQ (tB (p:=λb=>b=yB->atV l s1=35) (tI (λe=>tR (λ_=>dTT e)) (λ_=>tR (λe=>by cases e))) (λb hb=>tI (λe=>tR (go _ _ _ _ (hb e) cV dB)) cX)) (λ_=> ?_);refine tI (λe=>tR (go _ _ _ _ (dTT e) cV dB)) (λ_=> ?_);refine Tot.joinQ (tB (p:=λb=>b=yB->atV l s1=44) ?_ (λb hb=>tI (λe=> ?_) cX)) (λ_=> ?_)
  · refine tI (λe=> ?_) (λ_=>tR (λe=>by cases e))
    have e:=dTT e
    repeat' (first|exact tR (λ_=>e)|refine tI (λ_=> ?_) (λ_=> ?_))
  have hin:=s0i (hb e) cV;refine Tot.joinQ (zC (tI (λe=> ?_) cX) (λb _=>tI (λ_=>tR ⟨q1,q2⟩) cX)) (λ_=>tY (a0f dA) (tR (go _ _ _ _ (hb e) cV dB)));have e:=dTT e;exact tY (a0c cV cV) (tY (a0c cV cV) (tR trivial));refine zC (tI cX cX) (λa _=>zC (tI (λe=> ?_) cX) (λb _=>tR ⟨q1,q2⟩));have e:=dTT e;exact tY (a0c cV cV) (tY (a0c cV cV) (tR trivial))
theorem u0A (hl:l.length<=10000)(h:0<=i)(hi:i<=l.length):Tot (b0V p l i) (λo=>0<=o.2.1/\o.2.1<=l.length):=by
  unfold b0V;refine tB (q0w hl h hi cV) (λn hn=> ?_);have e1:oA .i64 (i+n)=i+n:=w64 cV cV;rw[e1]
  refine tJ (Tot.mono (p:=λx=>match x with
    | .inl s=>0<=s.1/\s.1<=l.length
    | .inr r=>0<=r.2.1/\r.2.1<=l.length) ?_ (λx hx=> ?_))
  refine tI (λhq=> ?_) (λhq=> ?_);refine tB (q0w hl (i:=i+n) cV cV cV) (λm hm=>tR ?_);rw[w64 (n:=i+n+m) cV cV];exact⟨cZ,cZ⟩;refine tB (B0g hl h hi) (λy hy=> ?_);obtain⟨y1,y2⟩:=hy;refine tI (λ_=>tR ⟨y1,y2⟩) (λ_=> ?_);rw[k0R y1];show Tot (bif _ then _ else _) _;refine tI (λhq=> ?_) (λ_=>tR ⟨y1,y2⟩);have hin:=s0i (dTT hq) cV;have f1:oA .i64 (y.2.1+1)=y.2.1+1:=w64 cV cV;rw[f1];refine tB (q0w hl (i:=y.2.1+1) cV cV cV) (λa ha=> ?_);have f2:oA .i64 (y.2.1+1+a)=y.2.1+1+a:=w64 cV cV;rw[f2];refine tB (q0w hl (i:=y.2.1+1+a) cV cV cV) (λb hb=> ?_);have f3:oA .i64 (y.2.1+1+a+b)=y.2.1+1+a+b:=w64 cV cV;rw[f3];exact tI (λ_=>tR ⟨cZ,cZ⟩) (λ_=>tR ⟨cZ,cZ⟩)
  cases x with
  |inr r=>exact hx
  |inl s=>
    obtain⟨s1,s2⟩:=hx;show Tot (jB _ _) _;rw[k0R s1];show Tot (bif _ then _ else _) _;refine tI (λ_=>tR ⟨s1,s2⟩) (λhq=> ?_);have hq:atV l s.1=69:=by have:=dFF hq;omega
    have hin:=s0i hq cV;have f1:oA .i64 (s.1+1)=s.1+1:=w64 cV cV;rw[f1,k0R cV];refine tB (p:=λt:Int×Bool=>0<=t.1/\t.1<=(l.length:Int)) ?_ (λt ht=> ?_);show Tot (bif _ then _ else _) _;refine tI (λhq=> ?_) (λ_=>tR ⟨cZ,cZ⟩);have:=s0i (dTT hq) cV;rw[w64 (n:=s.1+1+1) cV cV];exact tR ⟨cZ,cZ⟩;refine tB (q0w hl ht.1 ht.2 cV) (λn hn=>tR ?_);rw[w64 (n:=t.1+n) cV cV];exact⟨cZ,cZ⟩
theorem x0H (hl:l.length<=10000):Tot (b0s l) (λo=>o.2.2.2.2=yB->0<=o.2.1/\o.2.2.1<=l.length/\0<=o.2.2.2.1/\o.2.2.2.1<=l.length):=by
  unfold b0s;refine tB (p0x hl cV cV) (λa ha=>tI (λ_=>tR cW) (λh1=> ?_));have h1:a.2.2=true:=by simpa using h1
  refine tB (k0r hl ha.1 (ha.2.1 h1)) (λb hb=>tI (λ_=>tR cW) (λh2=> ?_));refine tB (p0x hl hb.1 hb.2) (λc hc=>tI (λ_=>tR cW) (λh3=> ?_));have h3:c.2.2=true:=by simpa using h3
  refine tB (u0A hl hc.1 (hc.2.1 h3)) (λd hd=>tI (λ_=>tR cW) (λh4=> ?_));refine tB (p0x hl hd.1 hd.2) (λe he=>tI (λ_=>tR cW) (λh5=> ?_));have h5:e.2.2=true:=by simpa using h5
  refine tB (k0r hl he.1 (he.2.1 h5)) (λf hf=>tI (λ_=>tR cW) (λh6=> ?_));exact tB (p0x hl hf.1 hf.2) (λg hg=>tR (λh7=>⟨hc.1,hd.2,hg.1,hg.2.1 h7⟩))
/-! Patterns that are read. -/
theorem E0L (hl:l.length<=10000)(h:0<=i):Tot (a0y l i) (λ_=>True):=by
  by_cases hi:i<=l.length;exact(k0r hl h hi).any;unfold a0y;refine tJ (tL (λs:Int×List a0b=>(l.length:Int)<s.1) (λ_=>0) cZ dC (λs hs=> ?_));rw[dF (show¬s.1<(l.length:Int) by omega)];exact tR (tR trivial)
theorem A0N {a b:Int} (hl:l.length<=10000)(h:0<=i)(hi:i<=l.length)(ha:0<=a)(hb:b<=l.length):
    Tot (b0j p l i a b) (λo=>B0m o.1=B0m p):=by
  unfold b0j;refine tB (k0r hl h hi) (λc hc=>tI (λ_=>tR rfl) (λ_=> ?_));refine tJ (Tot.mono (p:=λx=>match x with| .inl s=>0<=s| .inr r=>B0m r.1=B0m p) ?_ (λx hx=> ?_));refine tL (λs:Int×Int=>0<=s.1/\s.1<=(l.length:Int)+s.2/\0<=s.2) (λs=>(b-s.2).toNat) ⟨hc.1,cZ,ha⟩ cZ (λs hs=> ?_);refine tI (λhh=> ?_) (λ_=>tR hs.1);have hh:=dTT hh;rw[k0R hs.1];show Tot (bif _ then _ else _) _;refine tY (a0c hs.2.2 cV) (tI (λ_=>tR rfl) (λhq=>tR ?_));have e1:oA .i64 (s.1+1)=s.1+1:=w64 cV cV;have e2:oA .i64 (s.2+1)=s.2+1:=w64 cV cV;rw[e1,e2];exact⟨⟨cZ,cZ,cZ⟩,cZ⟩
  cases x with
  |inr r=>exact hx
  |inl s=>
    show Tot _ _;exact tB (E0L hl hx) (λd hd=>tR rfl)
/-! Texts of patterns, read: there is an answer. -/
theorem C0q {b:List Int} {at':Int} (hl:b.length<=100000)(h:0<=at')(ha:at'<=b.length)(hk:0<=k)(hk2:k<=3):Tot (b0Q b at' k n) (λ_=>True):=by
  unfold b0Q;rw[w64 (n:=at'+k) cV cV];refine tI cX (λhh=> ?_);have hh:=dFF hh;refine tJ (tL (λs:Int×Int=>1<=s.2/\s.2<=k+1) (λs=>(k+1-s.2).toNat) ⟨cZ,cZ⟩ cZ (λs hs=> ?_));refine tI (λhq=> ?_) (λ_=>tR (tR trivial));have hq:=dTT hq;have e1:oA .i64 (at'+s.2)=at'+s.2:=w64 cV cV;have e2:oA .i64 (s.2+1)=s.2+1:=w64 cV cV;rw[e1,e2];refine tJ (tY (a0c cV cV) ?_);refine tJ (zC ?_ (λc _=> ?_));exact tI cX cX
  cases c with
  |true=>exact tR trivial
  |false=>exact tR (tR (tR ⟨⟨cZ,cZ⟩,cZ⟩))
theorem D0i {b:List Int} {at':Int} (hl:b.length<=100000)(h:0<=at')(ha:at'<b.length):Tot (f0t b at') (λn=>n<0\/b0y (oA .i32 n)=qB yB):=by
  unfold f0t;refine tY (a0c h ha) ?_;have ht: ∀k n,0<=k->k<=3->Tot (b0Q b at' k n) (λ_=>True):=λk n h1 h2=>C0q hl h cV h1 h2
  refine zC (tI cX cX) (λa _=> ?_);refine zC ?_ (λa _=>zC ?_ (λa _=>zC ?_ (λa _=> ?_)));refine zC (tI cX cX) (λ_ _=>tI (λ_=>tB (ht 1 _ cV cV) dD) cX);refine zC (tI cX cX) (λ_ _=>tI (λ_=>tB (ht 2 _ cV cV) dD) cX);refine zC (tI cX cX) (λ_ _=>tI (λ_=>tB (ht 3 _ cV cV) dD) cX);obtain⟨v,hv,_⟩:=x0A (oA .i32 a.1);rw[hv];show Tot (jB _ _) _;refine tJ (tB (p:=λc=>c=vB->v=yB) (tI (λ_=>tR cW) (λ_=>tR (λh=>by simpa using h))) (λc hc=> ?_))
  cases c with
  |true=>exact tR (.inl dC)
  |false=>exact tR (tR (.inr (by rw[hv,hc rfl])))
theorem B0y {b:List Int} (hl:b.length<=100000):Tot (b0z b) (λ_=>True):=by
  unfold b0z;refine tJ (tL (λs:Int×List Int=>0<=s.1/\s.1<=(b.length:Int)+4/\(s.2.length:Int)<=s.1) (λs=>((b.length:Int)+4-s.1).toNat) ⟨cZ,cZ,dB⟩ cZ (λs hs=> ?_));refine tI (λhq=> ?_) (λ_=>tR (tR trivial));have hq:=dTT hq;refine tB (D0i hl hs.1 hq) (λn hn=>tI cX (λhneg=> ?_));have hneg:=dFF hneg;have his:=hn.resolve_left hneg;refine tY (a0f dA) (tB (v0d _) (λz hz=>tR ?_));have h1:=hz.2.2 his;have e1:oA .i64 (s.1+z)=s.1+z:=w64 cV cV;rw[e1];exact⟨⟨cZ,cZ,dA⟩,cZ⟩
theorem n0a (ht:t.length<=1)(hn:n<=1000):Tot (b0r t n) (λl=>l.length<=1000):=by
  unfold b0r;refine tB (p:=λl=>l.length<=1000) ?_ (λ_ h=>tR h);refine tL (λs:List UInt8×Int=>0<=s.2/\s.2<=1000/\(s.1.length:Int)<=s.2) (λs=>(1000-s.2).toNat) ⟨cZ,cZ,dB⟩ cZ (λs hs=> ?_);refine tI (λhq=> ?_) (λ_=>tR cZ);have hq:=dTT hq;refine tY (a0f cV) (tR ?_);have e1:oA .i64 (s.2+1)=s.2+1:=w64 cV cV;rw[e1];exact⟨⟨cZ,cZ,dA⟩,cZ⟩
def M0T(p:a0h):Prop:=(0<=p.V_/\p.V_<=40)/\(0<=p.H_/\p.H_<=40)/\(0<=p.P_/\p.P_<=40)/\(0<=p.A_/\p.A_<=40)/\(0<=p.z_/\p.z_<=40)/\(0<=p.M_/\p.M_<=40)/\(0<=p.J_/\p.J_<=40)/\(0<=p.G_/\p.G_<=40)/\(0<=p.e_/\p.e_<=40)
theorem t0n (hp:M0T p):Tot (c0R p) (λl=>l.length<=8000):=by
  obtain⟨c1,c2,c3,c4,c5,c6,c7,c8,c9⟩:=hp;unfold c0R;have e0:oA .i64 (p.V_+p.H_)=p.V_+p.H_:=w64 cV cV;have e1:oA .i64 (p.G_-p.J_)=p.G_-p.J_:=w64 cV cV;have e2:oA .i64 (p.A_-p.P_)=p.A_-p.P_:=w64 cV cV;rw[e0,e1,e2];refine tB (p:=λl=>l.length<=200) ?_ (λa ha=> ?_);refine tL (λs:List UInt8×Int=>0<=s.2/\s.2<=80/\(s.1.length:Int)<=2*s.2) (λs=>(80-s.2).toNat) ⟨cZ,cZ,dB⟩ cZ (λs hs=> ?_);refine tI (λhq=> ?_) (λ_=>tR cZ);have hq:=dTT hq;have f1:oA .i64 (s.2+1)=s.2+1:=w64 cV cV;rw[f1];refine tB (p:=λl=>(l.length:Int)<=s.1.length+2) ?_ (λb hb=>tR ⟨⟨cZ,cZ,cZ⟩,cZ⟩);refine tB (p:=λl=>(l.length:Int)<=s.1.length+1) ?_ (λb hb=> ?_);refine zC ?_ (λg _=>tI (λ_=>tY (a0f dA) (tR dB)) (λ_=>tR cV));refine tI (λ_=>tI cX (λ_=>tI (λ_=>tI (λhg=> ?_) cX) cX)) cX;have hg:=dTT hg;exact tY (by unfold nz;rw[dF cV];rfl) (tR trivial);exact tI (λ_=>tY (a0f dA) (tR dA)) (λ_=>tY (a0f dA) (tR dA));refine tB (n0a dB cV) (λb hb=>tB (n0a dB cV) (λc hc=> ?_));refine tY (a0f cV) (tY (a0f dA) ?_);refine tB (p:=λl=>l.length<=5000) ?_ (λd hd=> ?_);refine tI (λ_=>tY (a0f dA) (tB (n0a dB cV) (λe he=>tY (a0f dA) (tB (n0a dB cV) (λf hf=>tY (a0f dA) (tR dA)))))) (λ_=>tR dA);refine tB (p:=λl=>l.length<=8000) ?_ (λd hd=>tR hd);refine tI (λ_=>tY (a0f dA) (tB (p:=λl=>l.length<=5002) ?_ (λe he=>tB (n0a dB cV) (λf hf=>tY (a0f cV) (tR dA))))) (λ_=>tR cV);exact tI (λ_=>tY (a0f dA) (tR dA)) (λ_=>tR dA)
theorem l0H {l:List a0b} (hl:l.length<=300):Tot (b0n l) (λt=>t.length<=3000):=by
  unfold b0n;refine tB (p:=λs=>s.1.length<=2999) ?_ (λs hs=>tB (p:=λt=>t.length<=3000) (tI (λ_=>tY (a0f dA) (tR dA)) (λ_=>tR cV)) (λ_ h=>tR h));refine tL (λs:List UInt8×Bool×Int=>0<=s.2.2/\s.2.2<=(l.length:Int)/\(s.1.length:Int)<=8*s.2.2) (λs=>((l.length:Int)-s.2.2).toNat) ⟨cZ,cZ,dB⟩ cZ (λs hs=> ?_);refine tI (λhq=> ?_) (λ_=>tR cZ);have hq:=dTT hq;have hin:=a0c hs.1 hq;have f1:oA .i64 (s.2.2+1)=s.2.2+1:=w64 cV cV;rw[f1];refine tB (p:=λt=>(t.1.length:Int)<=s.1.length+8) ?_ (λt ht=>tR ⟨⟨cZ,cZ,cZ⟩,cZ⟩);refine tY hin (tB (p0n _) (λsp _=>zC ?_ (λap _=>zC ?_ (λqu _=>tB (p:=λt=>(t.1.length:Int)<=s.1.length+1) ?_ (λt ht=> ?_)))));exact tY hin (tI (λ_=>tY hin (tR trivial)) cX);exact tY hin (tI cX cX);exact zC (tI cX cX) (λ_ _=>tI (λ_=>tY (a0f dA) (tR dB)) (λ_=>tR cZ));have sgn: ∀c:UInt8,Tot (bif room (t.1.length+([c]:List UInt8).length)then(qB ((t.1++([c]:List UInt8)),t.2))else none) (λu=>(u.1.length:Int)<=s.1.length+8):=λc=>tY (a0f dA) (tR dA)
  refine tY hin (tI (λ_=>tY hin (tB (v0a _) (λx hx=>tY (a0f cV) (tI (λ_=>tY (a0f dA) (tR dA)) (λ_=>tR dA))))) (λ_=>tI (λ_=>sgn _) (λ_=>tI (λ_=>sgn _) (λ_=>tI (λ_=>sgn _) (λ_=>tI (λ_=> ?_) (λ_=>tR cZ))))));exact tB (v0a _) (λx hx=>tY (a0f cV) (tR dA))
theorem o0q(p:a0h)(w:Int):Tot (b0x p w) (λt=>t.length<=5):=by
  unfold b0x;exact tI (λ_=>tB (v0a _) (λx hx=>tY (a0f dA) (tR dA))) (λ_=>tR dB)
theorem C0U (hp:M0T p)(h1:p.h_.length<=300)(h2:p.i_.length<=300)(h3:p.T_.length<=300)(h4:p.N_.length<=300):Tot (e0U p) (λt=>t.length<=50000):=by
  unfold e0U;refine tB (o0q p 1) (λa ha=>tB (l0H h1) (λb hb=>tY (a0f cV) ?_));refine tB (o0q p 2) (λc hc=>tY (a0f dA) (tB (t0n hp) (λd hd=>tY (a0f dA) ?_)));refine tB (o0q p 3) (λe he=>tY (a0f dA) (tB (l0H h2) (λf hf=>tY (a0f dA) ?_)));refine tB (o0q p 4) (λg hg=>tY (a0f dA) ?_);refine tB (p:=λt=>t.length<=50000) ?_ (λ_ h=>tR h);refine tI (λ_=> ?_) (λ_=>tR dA);refine tY (a0f dA) (tB (l0H h3) (λi hi=>tY (a0f dA) (tB (t0n hp) (λj hj=>tY (a0f dA) (tB (l0H h4) (λk hk=>tY (a0f dA) (tR dA)))))))
theorem x0e (ht:t.length<=100000):Tot (a0D t) (λ_=>True):=by
  unfold a0D;refine tB (B0y (by rw[d0I];exact ht)) (λd _=>tI cX (λ_=>tI cX (λh1=> ?_)));have h1:=dFF h1;have hl:d.1.length<=10000:=by omega
  refine tB (x0H hl) (λf hf=> ?_);refine zC ?_ (λs _=> ?_);refine tB (p:=λb=>b=yB->f.2.2.2.2=yB/\f.2.2.2.1<d.1.length) ?_ (λb hb=> ?_);refine tI (λhq=> ?_) (λ_=>tR cW);rw[k0R (hf hq).2.2.1];exact tR (λh=>⟨hq,s0i (dTT h) cV⟩);refine tI (λhq=> ?_) cX;obtain⟨g1,g2⟩:=hb hq;have g:=hf g1;have f1:oA .i64 (f.2.2.2.1+1)=f.2.2.2.1+1:=w64 cV cV;rw[f1];exact tB (A0N hl cV cV g.1 g.2.1) (λo ho=>tR trivial)
  · refine Tot.joinQ (zC (tI cX cX) (λb _=>tI cX cX)) (λ_=> ?_)
    refine Tot.joinQ (zC ?_ (λb _=>tI cX cX)) cX
    repeat' (first|exact tR trivial|refine tI (λ_=> ?_) (λ_=> ?_))
theorem u0Z {x:List a0b} (hl:x.length<=4611686018427387904):c0P x y=qB (wB (x=y)):=K0e hl
theorem F0z {a b:a0h} (hl:N0G a):e0V a b=qB (wB (a=b)):=by
  obtain⟨l1,l2,l3,l4⟩:=hl;unfold e0V;rw[u0Z l1,u0Z l2,u0Z l3,u0Z l4];simp only[ai];obtain⟨p1,p2,p3,p4,p5,p6,p7,p8,p9,p10,p11,p12,p13,p14,p15,p16,p17⟩:=a;obtain⟨q1,q2,q3,q4,q5,q6,q7,q8,q9,q10,q11,q12,q13,q14,q15,q16,q17⟩:=b;simp only[a0h.mk.injEq];by_cases h1:p1=q1
  · by_cases h2:p2=q2
    · by_cases h3:p3=q3
      · by_cases h4:p4=q4
        · by_cases h16:p16=q16
          · by_cases h17:p17=q17
            · by_cases h6:p6=q6<;>by_cases h7:p7=q7<;>by_cases h10:p10=q10<;>by_cases h11:p11=q11<;>cases p5<;>cases q5<;>cases p15<;>cases q15<;>simp[h1,h2,h3,h4,h6,h7,h10,h11,h16,h17,a0j]<;>(by_cases h8:p8=q8<;>by_cases h9:p9=q9<;>by_cases h12:p12=q12<;>by_cases h13:p13=q13<;>simp[h8,h9,h12,h13])
            · cases p5<;>cases q5<;>simp[h1,h2,h3,h4,h16,h17,a0j]
          · cases p5<;>cases q5<;>simp[h1,h2,h3,h4,h16,a0j]
        simp[h1,h2,h3,h4,a0j]
      simp[h1,h2,h3,a0j]
    · by_cases h3:p3=q3<;>simp[h1,h2,h3,a0j]
  · by_cases h3:p3=q3<;>simp[h1,h3,a0j]
theorem q0a {l:List a0b} (hl:l.length<=1000):Tot (b0O l) (λ_=>True):=by
  unfold b0O;refine tJ (tL (λs:Int=>0<=s/\s<=(l.length:Int)) (λs=>((l.length:Int)-s).toNat) ⟨cV,cV⟩ cV (λs hs=> ?_));refine tI (λhq=> ?_) (λ_=>tR (tR trivial));have hq:=dTT hq;have f1:oA .i64 (s+1)=s+1:=w64 cV cV;rw[f1];exact tY (a0c hs.1 hq) (tB (x0A _) (λ_ _=>tI cX (λ_=>tR ⟨⟨cV,cV⟩,cV⟩)))
theorem B0b (h1:p.h_.length<=300)(h2:p.i_.length<=300)(h3:p.T_.length<=300)(h4:p.N_.length<=300):Tot (b0P p) (λ_=>True):=by
  unfold b0P;generalize hL:([p.V_,p.H_,p.P_,p.A_,p.z_,p.M_,p.J_,p.G_,p.e_]:List Int)=L;have hlen:L.length=9:=by rw[<-hL];rfl
  refine tJ (tL (λs:Int=>0<=s/\s<=(L.length:Int)/\ ∀j:Nat,(j:Int)<s->0<=nth L j/\nth L j<=40) (λs=>((L.length:Int)-s).toNat) ⟨cV,cV,λj hj=>cV⟩ cV (λs hs=> ?_));refine tI (λhq=> ?_) (λhq=>tR (show Tot _ _ from ?_));have hq:=dTT hq;have hin:=a0c hs.1 hq;refine tJ (tB (p:=λb=>b=vB->0<=nth L s/\nth L s<=40) ?_ (λb hb=> ?_));refine tY hin (tY hin (tI (λ_=>tR cW) (λg1=>tY hin (tY hin (tR (λg2=> ?_))))));have g1:=dFF g1;have g2:=dFF g2;omega
  cases b with
  |true=>exact tR trivial
  |false=>
    have hb:=hb rfl;refine tR (show Tot _ _ from tR ?_);have f1:oA .i64 (s+1)=s+1:=w64 cV cV;rw[f1];refine⟨⟨cV,cV,λj hj=> ?_⟩,cV⟩;by_cases hjs:(j:Int)<s;exact hs.2.2 j hjs;have:(j:Int)=s:=by omega
    rw[this];exact hb
  · have hq:=dFF hq
    have hall:=hs.2.2;have hs9:s=9:=by omega
    subst hs9;subst hL
    have hc:M0T p:=⟨hall 0 cV,hall 1 cV,hall 2 cV,hall 3 cV,hall 4 cV,hall 5 cV,hall 6 cV,hall 7 cV,hall 8 cV⟩
    have r1:=q0a (l:=p.h_) cV;have r2:=q0a (l:=p.i_) cV;have r3:=q0a (l:=p.T_) cV;have r4:=q0a (l:=p.N_) cV;refine tB (x0A _) (λ_ _=> ?_);refine zC (tB r1 (λ_ _=>tI (λ_=>tB r2 dD) cX)) (λ_ _=> ?_);refine zC (tB r3 (λ_ _=>tI (λ_=>tB r4 dD) cX)) (λ_ _=> ?_);refine tJ (zC ?_ (λb _=> ?_))
    · repeat' (first|exact tR trivial|refine tI (λ_=> ?_) (λ_=> ?_))
    cases b with
    |true=>exact tR trivial
    |false=>
      obtain⟨t,ht,htl⟩:=C0U hc h1 h2 h3 h4;rw[ht];refine tR (show Tot _ _ from ?_);show Tot (jB (a0D t) _) _;refine tB (x0e (t:=t) cV) (λo _=> ?_);refine zC (tI (λg=> ?_) cX) (λ_ h=>tR h);rw[F0z ⟨cV,cV,cV,cV⟩];exact tR trivial
/-! What is read of a pattern is no longer than its runes. -/
def Im (x:Option α)(p:α->Prop):Prop:= ∀o,x=qB o->p o
theorem Im.ret {a:α} {p:α->Prop} (h:p a):Im (qB a) p:=λo e=>by cases e;exact h
theorem Im.none {p:α->Prop} :Im (Option.none:Option α) p:=λo e=>by cases e
theorem Im.bind {x:Option α} {k:α->Option β} {p:α->Prop} {q:β->Prop} (h:Im x p)(hk: ∀o,p o->Im (k o) q):Im (jB x k) q:=by
  intro o e
  cases x with
  |none=>cases e
  |some a=>exact hk a (h a rfl) o e
theorem Im.bindT {x:Option α} {k:α->Option β} {q:β->Prop} (hk: ∀o,Im (k o) q):Im (jB x k) q:=Im.bind (p:=λ_=>True) (λ_ _=>trivial) (λo _=>hk o)
theorem Im.ite {t e:Option α} {p:α->Prop} (ht:Im t p)(he:Im e p):Im (bif b then t else e) p:=by cases b<;>assumption
theorem Im.join {x:Option (S⊕X)} {k:S->Option X} {q:X->Prop} (P:S->Prop)(h:Im x (λy=>match y with| .inl s=>P s| .inr r=>q r))(hk: ∀s,P s->Im (k s) q):Im (jB x (a0j k)) q:=by
  refine Im.bind h (λy hy=> ?_)
  cases y with
  |inl s=>exact hk s hy
  |inr r=>exact Im.ret hy
theorem Im.loop {step:S->Option (S⊕O)} {q:O->Prop} (I:S->Prop) {s0:S} (h0:I s0)(hs: ∀s,I s->Im (step s) (λy=>match y with| .inl s=>I s| .inr o=>q o)): ∀(n:Nat),Im (a0n step n s0) q:=by
  intro n
  induction n generalizing s0 with
  |zero=>intro o e;cases e
  |succ n ih=>
    intro o e;simp only[a0n]at e
    cases hx:step s0 with
    |none=>rw[hx]at e;cases e
    |some y=>
      rw[hx]at e;have:=hs s0 h0 y hx
      cases y with
      |inl s=>exact ih this o e
      |inr r=>cases e;exact this
theorem Im.of {x:Option α} {p:α->Prop} (h:Tot x p):Im x p:=by
  obtain⟨o,e,hp⟩:=h;intro o' e';rw[e]at e';cases e';exact hp
theorem Im.and {x:Option α} {p q:α->Prop} (h:Im x p)(h2:Im x q):Im x (λo=>p o/\q o):=λo e=>⟨h o e,h2 o e⟩
theorem Im.iteC {t e:Option α} {p:α->Prop} (ht:b=yB->Im t p)(he:b=vB->Im e p):Im (bif b then t else e) p:=by
  cases b with
  |true=>exact ht rfl
  |false=>exact he rfl
def keepP(p q:a0h):Prop:=q.h_=p.h_/\q.i_=p.i_/\q.T_=p.T_/\q.N_=p.N_
theorem keepP.refl(p:a0h):keepP p p:=⟨rfl,rfl,rfl,rfl⟩
theorem k0H(p:a0h)(l:List Int)(i w:Int):Im (b0B p l i w) (λo=>keepP p o.1):=by
  unfold b0B;refine Im.join (λ_=>True) (Im.bindT (λb=>Im.ite (Im.ret (keepP.refl p)) (Im.ret trivial))) (λ_ _=> ?_);exact Im.ite (Im.ret (keepP.refl p)) (Im.ite (Im.ret ⟨rfl,rfl,rfl,rfl⟩) Im.none)
theorem y0A(p:a0h)(l:List Int)(i:Int):Im (b0U p l i) (λo=>keepP p o.1):=by
  unfold b0U;refine Im.loop (λ_=>True) trivial (λs _=>Im.bindT (λy0=>Im.bindT (λy1=> ?_))) _;refine Im.join (λ_=>True) (Im.bindT (λb=>Im.ite (Im.ret trivial) (Im.ret trivial))) (λ_ _=>Im.ite (Im.ret trivial) ?_);refine Im.join (λ_=>True) (Im.bindT (λb=>Im.ite ?_ (Im.ret trivial))) (λ_ _=>Im.bindT (λs1=>Im.bindT (λs2=>Im.ret ⟨rfl,rfl,rfl,rfl⟩)));exact Im.join (λ_=>True) (Im.bindT (λb=>Im.ite (Im.ret (show keepP p _ from⟨rfl,rfl,rfl,rfl⟩)) (Im.ret trivial))) (λ_ _=>Im.ite (Im.ret trivial) Im.none)
theorem t0o(p:a0h)(l:List Int)(i:Int):Im (b0V p l i) (λo=>keepP p o.1):=by
  unfold b0V;refine Im.bindT (λy2=>Im.join (λs=>s.2.1=p.h_/\s.2.2.1=p.i_/\s.2.2.2.1=p.T_/\s.2.2.2.2.1=p.N_) ?_ (λs hs=>Im.bindT (λy7=> ?_)));refine Im.ite (Im.bindT (λ_=>Im.ret ⟨rfl,rfl,rfl,rfl⟩)) (Im.bind (y0A p l i) (λy0 hk=>Im.ite (Im.ret (keepP.refl p)) (Im.bindT (λ_=>Im.ite (Im.bindT (λ_=>Im.bindT (λ_=>Im.ite (Im.ret ⟨hk.1,hk.2.1,hk.2.2.1,hk.2.2.2⟩) (Im.ret ⟨hk.1,hk.2.1,hk.2.2.1,hk.2.2.2⟩)))) (Im.ret ⟨hk.1,hk.2.1,hk.2.2.1,hk.2.2.2⟩)))))
  · obtain⟨a,b,c,d⟩:=hs
    repeat' (first|exact Im.ret ⟨a,b,c,d⟩|refine Im.bindT (λ_=> ?_)|refine Im.ite ?_ ?_|exact Im.none)
theorem B0J (hl:l.length<=10000)(h:0<=i)(hi:i<=l.length):Tot (a0y l i) (λo=>(o.1.length:Int)<=l.length):=by
  unfold a0y;refine tJ (tL (λs:Int×List a0b=>0<=s.1/\s.1<=(l.length:Int)/\(s.2.length:Int)<=s.1) (λs=>((l.length:Int)-s.1).toNat) ⟨h,hi,by simpa using h⟩ cZ (λs hs=> ?_));refine tI (λhh=> ?_) (λhh=>tR (tR (by have:=hs.2;simp only;omega)));have hlt:=dTT hh;refine tY (a0c hs.1 hlt) (tB (z0D _) (λy _=>tB (p0n _) (λy2 _=> ?_)));have e1:oA .i64 (s.1+1)=s.1+1:=w64 cV cV;rw[e1];refine tI (λ_=>tY (a0f dA) (tR ⟨⟨cZ,cZ,dA⟩,cZ⟩)) (λ_=> ?_);refine tI (λ_=>tI (λ_=>tR (show((s.2.length:Nat):Int)<=l.length by omega)) (λ_=>tY (a0f dA) (tR ⟨⟨cZ,cZ,dA⟩,cZ⟩))) (λ_=> ?_);rw[k0R cV];show Tot (bif _ then _ else _) _;refine tI (λhq=> ?_) (λhq=> ?_);have:=s0i (dTT hq) cV;refine tY (a0f dA) (tR ?_);have e2:oA .i64 (s.1+2)=s.1+2:=w64 cV cV;rw[e2];exact⟨⟨cZ,cZ,dA⟩,cZ⟩;refine tB (p:=λo:Int×List a0b=>s.1+1<=o.1/\o.1<=(l.length:Int)/\(o.2.length:Int)<=o.1) ?_ (λo ho=> ?_);refine tL (λt:Int×List a0b=>s.1+1<=t.1/\t.1<=(l.length:Int)/\(t.2.length:Int)<=t.1) (λt=>((l.length:Int)-t.1).toNat) ⟨cZ,cZ,cZ⟩ cZ (λt ht=> ?_);have f1:oA .i64 (t.1+1)=t.1+1:=w64 cV cV;rw[f1];refine tJ (tB (p:=λb=>b=yB->t.1<l.length/\(nth l t.1=39->t.1+1<l.length)) ?_ (λb hb=> ?_));refine tI (λhh=> ?_) (λ_=>tR cW);have h3:=dTT hh;refine tY (a0c cV h3) (tI (λhn=>tR (λ_=>⟨h3,λhe=>absurd he (dTT hn)⟩)) (λ_=> ?_));rw[k0R cV];exact tR (λhb=>⟨h3,λ_=>s0i (dTT hb) cV⟩)
  cases b with
  |false=>exact tR ht
  |true=>
    obtain⟨g1,g2⟩:=hb rfl;refine tR (show Tot _ _ from ?_);refine tY (a0c cV g1) (tY (a0f dA) ?_);refine tB (p:=λv=>t.1<=v/\v<l.length) (tY (a0c cV g1) (tI (λhh=>tR ⟨cV,g2 (dTT hh)⟩) (λ_=>tR ⟨cV,g1⟩))) (λv hv=>tR ?_);have f2:oA .i64 (v+1)=v+1:=w64 cV cV;rw[f2];exact⟨⟨cZ,cZ,dA⟩,cZ⟩
  refine tI (λ_=>tR (show((([]:List a0b).length:Nat):Int)<=l.length by simp)) (λhh=>tR ?_);have h3:=dFF hh;have f1:oA .i64 (o.1+1)=o.1+1:=w64 cV cV;rw[f1];exact⟨⟨cZ,cZ,cZ⟩,cZ⟩
theorem q0R (hl:l.length<=10000)(h:0<=i):Im (a0y l i) (λo=>(o.1.length:Int)<=l.length):=by
  by_cases hi:i<=l.length;obtain⟨o,e,h1⟩:=B0J hl h hi;intro o' e';rw[e]at e';cases e';exact h1;unfold a0y;refine Im.join (λs=>s.2=[]) (Im.loop (λs:Int×List a0b=>(l.length:Int)<s.1/\s.2=[]) ⟨cZ,rfl⟩ (λs hs=> ?_) _) (λs hs=>Im.ret (by rw[hs];simp));rw[dF (show¬s.1<(l.length:Int) by omega)];exact Im.ret hs.2
theorem nb (h:(!b)=vB):b=true:=by simpa using h
theorem E0a (hl:l.length<=10000):Im (b0s l) (λo=>j0f o.1 l.length):=by
  unfold b0s;refine Im.bind ((Im.of (p0x hl cV cV)).and (k0H _ _ _ _)) (λa ha=> ?_);obtain⟨ha,k1,k2,k3,k4⟩:=ha;have z1:a.1.h_.length<=l.length:=by rw[k1];simp
  have z2:a.1.i_.length<=l.length:=by rw[k2];simp
  have z3:a.1.T_.length<=l.length:=by rw[k3];simp
  have z4:a.1.N_.length<=l.length:=by rw[k4];simp
  refine Im.iteC (λ_=>Im.ret ⟨z1,z2,z3,z4⟩) (λh1=>Im.bind ((Im.of (k0r hl ha.1 (ha.2.1 (nb h1)))).and (q0R hl ha.1)) (λb hb=> ?_));obtain⟨hb,kb⟩:=hb;have kb:b.1.length<=l.length:=by omega
  refine Im.iteC (λ_=>Im.ret ⟨z1,z2,z3,z4⟩) (λh2=>Im.bind ((Im.of (p0x hl hb.1 hb.2)).and (k0H _ _ _ _)) (λc hc=> ?_));obtain⟨hc,c1,c2,c3,c4⟩:=hc;refine Im.iteC (λ_=>Im.ret ⟨kb,z2,z3,z4⟩) (λh3=>Im.bind ((Im.of (u0A hl hc.1 (hc.2.1 (nb h3)))).and (t0o _ _ _)) (λd hd=> ?_));obtain⟨hd,d1,d2,d3,d4⟩:=hd;refine Im.iteC (λ_=>Im.ret ⟨kb,z2,z3,z4⟩) (λh4=>Im.bind ((Im.of (p0x hl hd.1 hd.2)).and (k0H _ _ _ _)) (λe he=> ?_));obtain⟨he,e1,e2,e3,e4⟩:=he;refine Im.iteC (λ_=>Im.ret ⟨kb,z2,z3,z4⟩) (λh5=>Im.bind ((Im.of (k0r hl he.1 (he.2.1 (nb h5)))).and (q0R hl he.1)) (λf hf=> ?_));obtain⟨hf,kf⟩:=hf;have kf:f.1.length<=l.length:=by omega
  refine Im.iteC (λ_=>Im.ret ⟨kb,z2,z3,z4⟩) (λh6=>Im.bind (k0H _ _ _ _) (λg hg=>Im.ret ?_));obtain⟨g1,g2,g3,g4⟩:=hg;refine⟨?_, ?_, ?_, ?_⟩;rw[g1];show e.1.h_.length<=_;rw[e1,d1,c1];exact kb;rw[g2];exact kf;rw[g3];show e.1.T_.length<=_;rw[e3,d3,c3];exact z3;rw[g4];show e.1.N_.length<=_;rw[e4,d4,c4];exact z4
theorem A0O {a b:Int} (hl:l.length<=10000)(h:0<=i)(hi:i<=l.length)(ha:0<=a)(hb:b<=l.length)(hp:j0f p l.length):Im (b0j p l i a b) (λo=>j0f o.1 l.length):=by
  unfold b0j;obtain⟨p1,p2,p3,p4⟩:=hp;refine Im.bind ((Im.of (k0r hl h hi)).and (q0R hl h)) (λc hc=>Im.ite (Im.ret ⟨p1,p2,p3,p4⟩) ?_);obtain⟨hc,kc⟩:=hc;have kc:c.1.length<=l.length:=by omega
  refine Im.join (λs=>0<=s) (Im.loop (λs:Int×Int=>0<=s.1/\s.1<=(l.length:Int)+s.2/\0<=s.2) ⟨hc.1,cZ,ha⟩ (λs hs=> ?_) _) (λs hs=> ?_);refine Im.iteC (λhh=>Im.bindT (λy=>Im.ite (Im.ite (Im.ret ⟨p1,p2,kc,p4⟩) (Im.ret ?_)) Im.none)) (λ_=>Im.ret hs.1);have hh:=dTT hh;have e1:oA .i64 (s.1+1)=s.1+1:=w64 cV cV;have e2:oA .i64 (s.2+1)=s.2+1:=w64 cV cV;rw[e1,e2];exact⟨cZ,cZ,cZ⟩;refine Im.bind (q0R hl hs) (λd hd=>Im.ret ⟨p1,p2,kc, ?_⟩);show d.1.length<=l.length;omega
theorem D0b (ht:t.length<=100000):Im (a0D t) (λo=>j0f o.1 120):=by
  unfold a0D;refine Im.bindT (λd=>Im.ite (Im.ret ⟨dB,dB,dB,dB⟩) (Im.iteC (λ_=>Im.ret ⟨dB,dB,dB,dB⟩) (λh1=> ?_)));have h1:=dFF h1;have hl:d.1.length<=10000:=by omega
  have hw: ∀p:a0h,j0f p d.1.length->j0f p 120:=λp h=>⟨by have:=h.1;omega,by have:=h.2.1;omega,by have:=h.2.2.1;omega,by have:=h.2.2.2;omega⟩
  refine Im.bind ((Im.of (x0H hl)).and (E0a hl)) (λf hf=> ?_);obtain⟨hf,kf⟩:=hf;refine Im.bind (p:=λs=>s.2.2.1.length<=120/\s.2.2.2.1.length<=120/\s.2.2.2.2.1.length<=120/\s.2.2.2.2.2.1.length<=120) ?_ (λs hs=> ?_);refine Im.bind (p:=λb=>b=yB->f.2.2.2.2=yB/\f.2.2.2.1<d.1.length) ?_ (λb hb=> ?_);refine Im.iteC (λhq=> ?_) (λ_=>Im.ret cW);rw[k0R (hf hq).2.2.1];exact Im.ret (λh=>⟨hq,s0i (dTT h) cV⟩);refine Im.iteC (λhq=> ?_) (λ_=>Im.ret (hw _ kf));obtain⟨g1,g2⟩:=hb hq;have g:=hf g1;have f1:oA .i64 (f.2.2.2.1+1)=f.2.2.2.1+1:=w64 cV cV;rw[f1];exact Im.bind (A0O hl cV cV g.1 g.2.1 kf) (λo ho=>Im.ret (hw _ ho));refine Im.join (λ_=>True) (Im.bindT (λb=>Im.ite (Im.ret ⟨dB,dB,dB,dB⟩) (Im.ret trivial))) (λ_ _=> ?_);refine Im.join (λ_=>True) (Im.bindT (λb=>Im.ite (Im.ret ⟨dB,dB,dB,dB⟩) (Im.ret trivial))) (λ_ _=> ?_);exact Im.ret hs
theorem N0D (ht:t.length<=100000):Tot (a0D t) (λo=>j0f o.1 120/\Tot (b0P o.1) (λ_=>True)):=by
  obtain⟨o,e,_⟩:=x0e ht;have h:=D0b ht o e;exact⟨o,e,h,B0b (by have:=h.1;omega) (by have:=h.2.1;omega) (by have:=h.2.2.1;omega) (by have:=h.2.2.2;omega)⟩
/-! The reference's classes, signs and affixes: they answer. -/
def goP (s:Int)(x:Int⊕O):Prop:=match x with
  | .inl s'=>s'=s+1
  | .inr _=>True
def N0L (x:Int⊕O):Prop:=match x with
  | .inl _=>False
  | .inr _=>True
theorem Tot.srch {step:Int->Option (Int⊕O)} (n:Nat)(hn:n<=4294967296)(h: ∀s:Int,0<=s->s<(n:Int)->Tot (step s) (goP s))(he: ∀s:Int,s=n->Tot (step s) N0L):Tot (a0n step big 0) (λ_=>True):=by
  refine tW (λs:Int=>s) n (λ_=>True) hn ⟨trivial,cV,cV⟩ (λs _ h0 h1=>(h s h0 h1).mono (λo ho=> ?_)) (λs _ e=>(he s e).mono (λo ho=> ?_))
  cases o with
  |inl s'=>exact⟨trivial,ho⟩
  |inr r=>trivial
  cases o with
  |inl s'=>exact ho.elim
  |inr r=>trivial
def y0e (s:Int)(x:A⊕(Int⊕O)):Prop:=match x with
  | .inl _=>True
  | .inr y=>goP s y
theorem Tot.joinG {x:Option (A⊕(Int⊕O))} {k:A->Option (Int⊕O)} {s:Int} (h:Tot x (y0e s))(hk: ∀a,Tot (k a) (goP s)):Tot (jB x (a0j k)) (goP s):=by
  refine tJ (h.mono (λy hy=> ?_))
  cases y with
  |inl a=>exact hk a
  |inr r=>exact hy
theorem Tot.joinT {x:Option (A⊕O)} {k:A->Option O} (h:Tot x (λ_=>True))(hk: ∀a,Tot (k a) (λ_=>True)):Tot (jB x (a0j k)) (λ_=>True):=by
  refine tJ (h.mono (λy _=> ?_))
  cases y with
  |inl a=>exact hk a
  |inr r=>trivial
theorem nx {s:Int} (h0:0<=s)(h1:s<=4294967296):oA .i64 (s+1)=s+1:=w64 cV cV
theorem z0J:Tot d0v (λl=>l.length=20):=tR rfl
theorem H0V(x:Int):Tot (e0X x) (λ_=>True):=by
  unfold e0X;refine tB z0J (λl hl=>Tot.joinT (Tot.srch l.length cV (λs h0 h1=>tY (dT h1) (tY (a0c h0 h1) (tI cX (λ_=>tR (nx h0 cV))))) (λs e=>zE e trivial)) cX)
theorem F0t(x:Int):Tot (e0m x) (λ_=>True):=by
  unfold e0m;refine tB z0J (λl hl=>Tot.joinT (Tot.srch l.length cV (λs h0 h1=>tY (dT h1) (Tot.joinG ?_ (λ_=>tR (nx h0 cV)))) (λs e=>zE e trivial)) cX);refine Tot.mono (p:=λy=>y0e s y) ?_ (λ_ h=>h);refine tW (λs:Int=>s) 10 (λ_=>True) cV ⟨trivial,cV,cV⟩ (λu _ g0 g1=>tY (dT g1) (tY (a0c h0 h1) (tI cX (λ_=>tR ⟨trivial,nx g0 cV⟩)))) (λu _ e=>zE e trivial)
theorem F0D(x:Int):Tot (d0f x) (λ_=>True):=by
  unfold d0f;refine tB (x0A x) (λ_ _=>zC ?_ (λ_ _=>zC ?_ (λ_ _=>tB (F0t x) (λ_ _=>tI cX (λ_=>Tot.joinT ?_ (λ_=>tI cX (λ_=>Tot.joinT ?_ (λ_=> ?_))))))))
  · unfold e0I;repeat' (first|exact tR trivial|refine zI ?_ ?_|refine zB ?_ λ_=> ?_)
  · unfold f0G;repeat' (first|exact tR trivial|refine zI ?_ ?_|refine zB ?_ λ_=> ?_)
  · repeat' (first|exact tR trivial|refine zI ?_ ?_|refine zB ?_ λ_=> ?_)
  · repeat' (first|exact tR trivial|refine zI ?_ ?_|refine zB ?_ λ_=> ?_)
  · repeat' (first|exact tR trivial|refine zI ?_ ?_|refine zB ?_ λ_=> ?_)
theorem I0m (hl:l.length<=4294967296):Tot (e0Y l) (λ_=>True):=by
  unfold e0Y;refine Tot.joinT (Tot.srch l.length hl (λs h0 h1=>tY (dT h1) (Tot.joinG (tY (a0c h0 h1) (tB (F0D _) (λ_ _=> ?_))) (λ_=>tR (nx h0 cV)))) (λs e=>zE e trivial)) cX
  repeat' (first|exact tR trivial|refine zI ?_ ?_|refine zB ?_ λ_=> ?_)
theorem F0x (hl:l.length<=4294967296):Tot (e0n l) (λ_=>True):=by
  unfold e0n;refine Tot.joinT (tW (λs:Int×Int=>s.2) l.length (λ_=>True) hl ⟨trivial,dB⟩ (λs _ h0 h1=>tY (dT h1) ?_) (λs _ e=>zE e trivial)) cX;refine tJ (Tot.mono (p:=λx:Int⊕((Int×Int)⊕(Int⊕Bool))=>match x with| .inl _=>True| .inr (.inl _)=>False| .inr (.inr _)=>True) (tY (a0c h0 h1) (tJ (Tot.mono (p:=λx:Unit⊕(Int⊕((Int×Int)⊕(Int⊕Bool)))=>match x with| .inl _=>True| .inr (.inl _)=>True| .inr (.inr (.inl _))=>False| .inr (.inr (.inr _))=>True) ?_ (λx hx=> ?_)))) (λx hx=> ?_))
  · repeat' (first|exact tR trivial|refine zI ?_ ?_|refine zB ?_ λ_=> ?_)
  · cases x with
    |inl u=>
      show Tot _ _;refine zC ?_ (λ_ _=> ?_)<;>repeat' (first|exact tR trivial|refine zI ?_ ?_|refine zB ?_ λ_=> ?_)
    |inr r=>
      cases r with
      |inl s=>trivial
      |inr q=>
        cases q with
        |inl _=>exact hx.elim
        |inr _=>trivial
  cases x with
  |inl u=>exact tR ⟨trivial,nx h0 cV⟩
  |inr r=>
    cases r with
    |inl _=>exact hx.elim
    |inr _=>trivial
theorem F0u(s:c0J)(x:Int):Tot (e0h s x) (λ_=>True):=by
  unfold e0h;exact Tot.joinT (Tot.srch 10 cV (λs h0 h1=>tY (dT h1) (tI cX (λ_=>tR (nx h0 cV)))) (λs e=>zE e trivial)) cX
theorem G0P(s:c0J)(x:Int):Tot (c0f s x) (λ_=>True):=by
  unfold c0f;refine tB (F0u s x) (λ_ _=> ?_)
  repeat' (first|exact tR trivial|refine zI ?_ ?_|refine zB ?_ λ_=> ?_)
theorem w0U (hl:l.length<=4294967296):Tot (d0F s l) (λ_=>True):=by
  unfold d0F;refine tB (I0m hl) (λ_ _=>tB (F0x hl) (λ_ _=>Tot.joinT dE (λ_=>Tot.joinT (Tot.srch l.length hl (λs h0 h1=>tY (dT h1) (Tot.joinG (tY (a0c h0 h1) (tB (G0P _ _) (λ_ _=>zC (tI cX (λ_=>tY (a0c h0 h1) (tB (F0D _) dD))) (λ_ _=> ?_)))) (λ_=>tR (nx h0 cV)))) (λs e=>zE e trivial)) cX)))
  repeat' (first|exact tR trivial|refine zI ?_ ?_|refine zB ?_ λ_=> ?_)
theorem t0g {a:g0K} (ha:B0P a):Tot (c0N s a) (λ_=>True):=by
  obtain⟨h1,h2⟩:=ha;unfold c0N;exact tY (a0f cV) (tY (a0f cV) (tB (w0U dA) dD))
theorem z0G {x y:List Int} (hl:x.length<=4294967296):Tot (b0E x y) (λ_=>True):=by
  unfold b0E;refine tI cX (λh=>Tot.joinT (Tot.srch x.length hl (λs h0 h1=>tY (dT h1) (tY (a0c h0 h1) (tY (a0c h0 ?_) (tI cX (λ_=>tR (nx h0 cV)))))) (λs e=>zE e trivial)) cX);have:=dFF h;omega
theorem s0U {a c:g0K} (ha:B0P a):Tot (c0M a c) (λ_=>True):=by
  obtain⟨h1,h2⟩:=ha;unfold c0M;refine tB (z0G cV) (λ_ _=>zC (tI (λ_=>tB (z0G cV) dD) cX) dD)
theorem z0P {l:List a0b} (hl:l.length<=4294967296):Tot (d0j l k) (λ_=>True):=by
  unfold d0j;refine zC (tW (λs:Int×Int=>s.2) l.length (λ_=>True) hl ⟨trivial,dB⟩ (λs _ h0 h1=>tY (dT h1) (zC (tY (a0c h0 h1) ?_) (λ_ _=>tR ⟨trivial,nx h0 cV⟩))) (λs _ e=>zE e trivial)) dD
  repeat' (first|exact tR trivial|refine zI ?_ ?_|refine zB ?_ λ_=> ?_)
theorem C0D {l:List a0b} (hl:l.length<=1000):Tot (d0E l) (λr=>r.length<=1001):=by
  unfold d0E;refine tB (p:=λr:List a0b=>r.length<=1001) (tW (λs:Int×List a0b=>s.1) l.length (λs=>(s.2.length:Int)<=s.1) cV ⟨dB,dB⟩ (λs hs h0 h1=>tY (dT h1) (tB (p:=λr:List a0b=>(r.length:Int)<=s.2.length+1) (tY (a0c h0 h1) (tI (λ_=>tY (a0f dA) (tR dB)) (λ_=>tY (a0c h0 h1) (tY (a0f dA) (tR dB))))) (λr hr=>tR ⟨?_,nx h0 cV⟩))) (λs hs e=>tN (dF cV) (tR cZ))) (λ_ h=>tR h);rw[nx h0 cV];simp only;omega
theorem C0E (hp:j0f p 1000)(g:Int):Tot (d0P p g) (λr=>r.1.length<=1001/\r.2.length<=1001):=by
  obtain⟨p1,p2,p3,p4⟩:=hp;unfold d0P;refine tJ (zC dE (λb _=>tI (λ_=>tR ⟨cZ,cZ⟩) (λ_=>tR (show Tot _ _ from ?_))));refine tJ (zC dE (λb _=>tI (λ_=>tR ⟨cZ,cZ⟩) (λ_=>tR (show Tot _ _ from ?_))));refine tJ (zC (tI (λ_=>tB (z0P cV) (λ_ _=>tB (z0P cV) dD)) cX) (λb _=>tI (λ_=>tB (C0D p3) (λa ha=>tB (C0D p4) (λc hc=>tR ⟨ha,hc⟩))) (λ_=>tR (show Tot _ _ from ?_))));exact tY (a0f dA) (tR ⟨dA,cZ⟩)
theorem G0O {l:List a0b} (hl:l.length<=1001)(hc:cur.length<=6100):Tot (c0v l s cur) (λr=>r.length<=10000000):=by
  unfold c0v;refine tB (p:=λr:List Int=>r.length<=10000000) (tW (λs:Int×List Int=>s.1) l.length (λs=>(s.2.length:Int)<=6100*s.1) cV ⟨dB,dB⟩ (λu hu g0 g1=>tY (dT g1) ?_) (λu hu e=>tN (dF cV) (tR cZ))) (λ_ h=>tR h);have one: ∀x:Int,Tot (bif room (u.2.length+([x]:List Int).length)then qB (u.2++ [x])else none) (λr:List Int=>(r.length:Int)<=u.2.length+6100):=λx=>tY (a0f dA) (tR (by simp<;>omega))
  refine tB (p:=λr:List Int=>(r.length:Int)<=u.2.length+6100) (tY (a0c g0 g1) (tI (λ_=>tY (a0c g0 g1) (one _)) (λ_=>tI (λ_=>one _) (λ_=>tI (λ_=>one _) (λ_=>tI (λ_=>one _) (λ_=>tI (λ_=>tY (a0f cV) (tR dA)) (λ_=>tR cV))))))) (λr hr=>tR ⟨?_,nx g0 cV⟩);rw[nx g0 cV];simp only;omega
theorem r0e (hp:j0f p 1000)(hc:cur.length<=6100):Tot (b0R p s g cur) B0P:=by
  unfold b0R;exact tB (C0E hp g) (λa ha=>tB (G0O ha.1 hc) (λc hc1=>tB (G0O ha.2 hc) (λd hd=>tR ⟨hc1,hd⟩)))
theorem K0m (ht:t.length<=4294967296):Tot (f0s t) (λ_=>True):=by
  unfold f0s;refine Tot.joinT (Tot.srch t.length ht (λs h0 h1=>tY (dT h1) (Tot.joinG (tY (a0c h0 h1) (zC ?_ (λ_ _=> ?_))) (λ_=>tR (nx h0 cV)))) (λs e=>zE e trivial)) (λ_=> ?_)
  · repeat' (first|exact tR trivial|refine zI ?_ ?_|refine zB ?_ λ_=> ?_)
  · repeat' (first|exact tR trivial|refine zI ?_ ?_|refine zB ?_ λ_=> ?_)
  · repeat' (first|exact tR trivial|refine zI ?_ ?_|refine zB ?_ λ_=> ?_)
theorem C0K(s:c0J):Tot (e0Q s) (λ_=>True):=by
  unfold e0Q;generalize hL:([s.k_,s.v_,s.s_,s.n_,s.u_,s.e_]:List Int)=L;have hl:L.length=6:=by rw[<-hL];rfl
  refine Tot.joinT (Tot.srch L.length cV (λi h0 h1=>tY (dT h1) (Tot.joinG (tY (a0c h0 h1) (tY (a0c h0 h1) (tB (F0D _) (λ_ _=> ?_)))) (λ_=>tR (nx h0 cV)))) (λs e=>zE e trivial)) (λ_=>tB (H0V _) dD);refine tJ (Tot.mono (p:=λx:Unit⊕(Unit⊕(Int⊕(Unit⊕Bool)))=>match x with| .inl _=>True| .inr y=>y0e i y) ?_ (λx hx=> ?_))
  · refine zC dE (λb _=>tI cX cX)
  cases x with
  |inr y=>exact hx
  |inl u=>
    show Tot _ (y0e i);exact tW (λs:Int=>s) i.toNat (λ_=>True) cV ⟨trivial,cV,cV⟩ (λu _ g0 g1=>tY (dT cV) (tY (a0c g0 cV) (tY (a0c g0 cV) (tY (a0c h0 h1) (tY (a0c h0 h1) (tI cX (λ_=>tR ⟨trivial,nx g0 cV⟩))))))) (λu _ e=>tN (dF cV) (tR trivial))
theorem z0q {l:List a0b} (hl:l.length<=4294967296)(hk: ∀x∈l,0<=x.ao_/\x.ao_<=4):Tot (c0m k l n) (λ_=>True):=by
  unfold c0m;refine zC (tW (λs:Int×Int×Int×Int×Int×Int=>s.1) l.length (λ_=>True) hl ⟨trivial,dB⟩ (λs _ h0 h1=>tY (dT h1) (tY (a0c h0 h1) (tY (a0c h0 h1) ?_))) (λs _ e=>zE e trivial)) (λ_ _=> ?_)
  · have hk:=hk _ (d0c h0 h1)
    repeat' (first|exact tR ⟨trivial,nx h0 cV⟩|(refine tI (λe=> ?_) (λe=> ?_)))
    all_goals(exfalso;simp only[decide_eq_false_iff_not,decide_eq_true_eq]at*;omega)
  · repeat' (first|exact tR trivial|refine zI ?_ ?_|refine zB ?_ λ_=> ?_)
theorem E0M {c:List Int} (hp:j0f p 1000)(hc:c.length<=6100):Tot (d0O s p c x) (λ_=>True):=by
  unfold d0O;refine Tot.joinT (Tot.srch 3 cV (λi h0 h1=>tY (dT h1) (Tot.joinG (tB (r0e hp hc) (λa ha=> ?_)) (λ_=>tR (nx h0 cV)))) (λs e=>zE e trivial)) cX;obtain⟨h1',h2'⟩:=ha;refine tY (a0f cV) (tY (a0f cV) (Tot.mono (p:=λy=>y0e i y) ?_ (λ_ h=>h)));exact tW (λs:Int=>s) (a.h_++a.i_).length (λ_=>True) dA ⟨trivial,cV,cV⟩ (λu _ g0 g1=>tY (dT g1) (tY (a0c g0 g1) (tY (a0c g0 g1) (tI cX (λ_=>tR ⟨trivial,nx g0 (by simp at g1;omega)⟩))))) (λu _ e=>zE e trivial)
theorem w0P {c:List Int} (hp:j0f p 1000)(hc:c.length<=6100):Tot (c0L s p c) (λ_=>True):=by
  unfold c0L;refine tB (F0D _) (λ_ _=>tB (G0P _ _) (λ_ _=>tB (E0M hp hc) (λ_ _=> ?_)))
  repeat' (first|exact tR trivial|refine zI ?_ ?_|refine zB ?_ λ_=> ?_)
theorem v0r {c:List Int} (hp:j0f p 1000)(hc:c.length<=6100):Tot (c0o s p c) (λ_=>True):=by
  unfold c0o;refine tB (r0e hp hc) (λa ha=>tB (r0e hp hc) (λb hb=>tB (r0e hp hc) (λd hd=>zC (tB (t0g ha) (λ_ _=>tI (λ_=>tB (t0g hb) (λ_ _=>tI (λ_=>tB (t0g hd) dD) cX)) cX)) (λ_ _=>tB (s0U ha) (λ_ _=>tB (s0U hb) (λ_ _=> ?_))))))
  repeat' (first|exact tR trivial|refine zI ?_ ?_|refine zB ?_ λ_=> ?_)
theorem F0E {c:List Int} (hp:j0f p 1000)(hc:c.length<=6100):Tot (e0e s p c) (λ_=>True):=by
  unfold e0e;refine tB (w0U cV) (λ_ _=>tB (v0r hp hc) (λ_ _=>tB (w0P hp hc) (λ_ _=> ?_)))
  repeat' (first|exact tR trivial|refine zI ?_ ?_|refine zB ?_ λ_=> ?_)
theorem I0l(a b:List UInt8):Tot (e0O a b) (λ_=>True):=by
  unfold e0O;refine tJ (Tot.mono (p:=λx:Unit⊕Bool=>match x with| .inl _=>a.length=3| .inr _=>True) (tB (p:=λb=>b=vB->a.length=3) (tI (λ_=>tR cW) (λh=>tR (λ_=>by have:=dFF h;omega))) (λb hb=>tI cX (λe=>tR (hb e)))) (λx hx=> ?_))
  cases x with
  |inr r=>trivial
  |inl u=>
    have hx:a.length=3:=hx;have i0:inR 0 a.length=true:=a0c cV cV;have i1:inR 1 a.length=true:=a0c cV cV;have i2:inR 2 a.length=true:=a0c cV cV;show Tot _ _;rw[i0,i1,i2];simp only[oC]
    repeat' (first|exact tR trivial|refine zI ?_ ?_|refine zB ?_ λ_=> ?_)
/-! Of what kinds the pieces of a pattern are. -/
def okK(l:List a0b):Prop:= ∀x∈l,0<=x.ao_/\x.ao_<=4
theorem okK.nil:okK []:=λx h=>by cases h
theorem okK.snoc {l:List a0b} {x:a0b} (h:okK l)(hx:0<=x.ao_/\x.ao_<=4):okK (l++ [x]):=by
  intro y hy;rcases au.1 hy with hy|hy;exact h y hy;rw[aR.1 hy];exact hx
theorem okK.app {l m:List a0b} (h:okK l)(h2:okK m):okK (l++m):=by
  intro y hy;rcases au.1 hy with hy|hy;exact h y hy;exact h2 y hy
theorem C0y(x:Int):Im (c0Q x) (λr=>0<=r/\r<=4):=by
  unfold c0Q
  repeat' (first|exact Im.ret ⟨cV,cV⟩|refine Im.ite ?_ ?_|refine Im.bindT (λ_=> ?_))
theorem o0y(l:List Int)(i:Int):Im (a0y l i) (λo=>okK o.1):=by
  unfold a0y
  have z: ∀r:Int,(0:Int)<=(⟨0,r⟩:a0b).ao_/\(⟨0,r⟩:a0b).ao_<=4:=λr=>⟨dB,dB⟩
  refine Im.join (λs=>okK s.2) (Im.loop (λs:Int×List a0b=>okK s.2) okK.nil (λs hs=> ?_) _) (λs hs=>Im.ret hs);refine Im.ite (Im.ite (Im.bind (C0y _) (λy hy=>Im.bindT (λy2=> ?_))) Im.none) (Im.ret hs);refine Im.ite (Im.ite (Im.ret (hs.snoc hy)) Im.none) (Im.ite (Im.ite (Im.ret hs) (Im.ite (Im.ret (hs.snoc (z _))) Im.none)) (Im.bindT (λy3=>Im.ite (Im.ite (Im.ret (hs.snoc (z _))) Im.none) (Im.bind (p:=λo=>okK o.2) ?_ (λo ho=>Im.ite (Im.ret okK.nil) (Im.ret ho))))));refine Im.loop (λt:Int×List a0b=>okK t.2) (s0:=(oA .i64 (s.1+1),s.2)) hs (λt ht=> ?_) _;refine Im.join (λ_=>True) (Im.bindT (λb=>Im.ite (Im.ret trivial) (Im.ret ht))) (λ_ _=> ?_);exact Im.ite (Im.ite (Im.bindT (λv=>Im.ret (ht.snoc (z _)))) Im.none) Im.none
def G0h(p:a0h):Prop:=okK p.h_/\okK p.i_/\okK p.T_/\okK p.N_
theorem q0y {q:a0h} (h:G0h p)(k:keepP p q):G0h q:=by
  obtain⟨a,b,c,d⟩:=h;obtain⟨k1,k2,k3,k4⟩:=k;exact⟨by rw[k1];exact a,by rw[k2];exact b,by rw[k3];exact c,by rw[k4];exact d⟩
theorem B0v(l:List Int):Im (b0s l) (λo=>G0h o.1):=by
  unfold b0s;refine Im.bind (k0H _ _ _ _) (λa ka=> ?_);have ka:G0h a.1:=q0y ⟨okK.nil,okK.nil,okK.nil,okK.nil⟩ ka;obtain⟨a1,a2,a3,a4⟩:=id ka;refine Im.ite (Im.ret ka) (Im.bind (o0y _ _) (λb kb=>Im.ite (Im.ret ka) (Im.bind (k0H _ _ _ _) (λc kc=> ?_))))
  have z:G0h (⟨b.1,a.1.i_,a.1.T_,a.1.N_,a.1.o_,a.1.V_,a.1.H_,a.1.P_,a.1.A_,a.1.z_,a.1.M_,a.1.J_,a.1.G_,a.1.e_,a.1.ah_,a.1.O_,a.1.ab_⟩:a0h):=⟨kb,a2,a3,a4⟩
  have kc:=q0y z kc;refine Im.ite (Im.ret z) (Im.bind (t0o _ _ _) (λd kd=>Im.ite (Im.ret z) (Im.bind (k0H _ _ _ _) (λe ke=>Im.ite (Im.ret z) (Im.bind (o0y _ _) (λf kf=>Im.ite (Im.ret z) (Im.bind (k0H _ _ _ _) (λg kg=>Im.ret ?_))))))));obtain⟨e1,e2,e3,e4⟩:=q0y (q0y kc kd) ke;exact q0y (p:=⟨e.1.h_,f.1,e.1.T_,e.1.N_,e.1.o_,e.1.V_,e.1.H_,e.1.P_,e.1.A_,e.1.z_,e.1.M_,e.1.J_,e.1.G_,e.1.e_,e.1.ah_,e.1.O_,e.1.ab_⟩) ⟨e1,kf,e3,e4⟩ kg
theorem y0t (l:List Int)(i a b:Int)(hp:G0h p):Im (b0j p l i a b) (λo=>G0h o.1):=by
  unfold b0j;obtain⟨p1,p2,p3,p4⟩:=hp;refine Im.bind (o0y _ _) (λc kc=>Im.ite (Im.ret ⟨p1,p2,p3,p4⟩) ?_);refine Im.join (λ_=>True) (Im.loop (λ_:Int×Int=>True) trivial (λs hs=> ?_) _) (λs _=>Im.bind (o0y _ _) (λd kd=>Im.ret ⟨p1,p2,kc,kd⟩));exact Im.ite (Im.bindT (λy=>Im.ite (Im.ite (Im.ret ⟨p1,p2,kc,p4⟩) (Im.ret trivial)) Im.none)) (Im.ret trivial)
theorem B0h(t:List UInt8):Im (a0D t) (λo=>G0h o.1):=by
  unfold a0D;have z:okK ([]:List a0b):=okK.nil;refine Im.bindT (λd=>Im.ite (Im.ret ⟨z,z,z,z⟩) (Im.ite (Im.ret ⟨z,z,z,z⟩) ?_));refine Im.bind (B0v _) (λf kf=> ?_);refine Im.bind (p:=λs=>okK s.2.2.1/\okK s.2.2.2.1/\okK s.2.2.2.2.1/\okK s.2.2.2.2.2.1) ?_ (λs hs=> ?_);exact Im.bindT (λb=>Im.ite (Im.bind (y0t _ _ _ _ kf) (λo ho=>Im.ret ho)) (Im.ret kf));refine Im.join (λ_=>True) (Im.bindT (λb=>Im.ite (Im.ret ⟨z,z,z,z⟩) (Im.ret trivial))) (λ_ _=> ?_);refine Im.join (λ_=>True) (Im.bindT (λb=>Im.ite (Im.ret ⟨z,z,z,z⟩) (Im.ret trivial))) (λ_ _=> ?_);exact Im.ret hs
theorem K0u (ht:t.length<=100000):Tot (a0D t) (λo=>(j0f o.1 120/\G0h o.1)/\Tot (b0P o.1) (λ_=>True)):=by
  obtain⟨o,e,h1,h2⟩:=N0D ht;exact⟨o,e,⟨h1,B0h t o e⟩,h2⟩
theorem K0R (h:j0f p 120):j0f p 1000:=by
  obtain⟨a,b,c,d⟩:=h;exact⟨cV,cV,cV,cV⟩
theorem H0f:j0f (⟨([]:List a0b),([]:List a0b),([]:List a0b),([]:List a0b),vB,0,0,0,0,0,0,0,0,0,vB,0,0⟩:a0h) 1000:=⟨dB,dB,dB,dB⟩
theorem w0O (ht:t.length<=100000):Tot (a0W s k t) (λr=>j0f r.1 1000):=by
  unfold a0W;refine tB (K0u ht) (λy hy=>tB hy.2 (λ_ _=> ?_));obtain⟨⟨hl,hk1,hk2,hk3,hk4⟩,_⟩:=hy;have l12:=K0R hl;obtain⟨l1,l2,l3,l4⟩:=hl;refine Tot.joinQ (zC dE (λb _=>tI (λ_=>tR H0f) cX)) (λ_=> ?_);refine Tot.joinQ (zC dE (λb _=>tI (λ_=>tR H0f) cX)) (λ_=> ?_);refine Tot.joinQ (zC dE (λb _=>tI (λ_=>tR H0f) cX)) (λ_=> ?_);refine tY (a0f cV) (tY (a0f cV) (tB (z0q dA (okK.app hk1 hk2)) (λ_ _=>tY (a0f cV) (tY (a0f cV) (tB (z0q dA (okK.app hk3 hk4)) (λ_ _=> ?_))))));refine Tot.joinQ (zC dE (λb _=>tI (λ_=>tR H0f) cX)) (λ_=> ?_);refine tB (v0r l12 dB) (λ_ _=>tB (w0P l12 dB) (λ_ _=> ?_));exact Tot.joinQ (zC dE (λb _=>tI (λ_=>tR H0f) cX)) (λ_=>tR l12)
theorem s0q {c:k0A} (ht:c.ad_.length<=100000):Tot (b0M s c) (λr=>j0f r.1 1000):=by
  unfold b0M;refine tB (K0u ht) (λy hy=>tB hy.2 (λ_ _=> ?_));obtain⟨⟨hl,hk1,hk2,hk3,hk4⟩,_⟩:=hy;have l12:=K0R hl;obtain⟨l1,l2,l3,l4⟩:=hl;refine Tot.joinQ (zC dE (λb _=>tI (λ_=>tR H0f) cX)) (λ_=> ?_);refine Tot.joinQ (zC dE (λb _=>tI (λ_=>tR H0f) cX)) (λ_=> ?_);refine tY (a0f cV) (tY (a0f cV) (tB (z0q dA (okK.app hk1 hk2)) (λ_ _=>tB (v0r l12 dB) (λ_ _=> ?_))));exact Tot.joinQ (zC dE (λb _=>tI (λ_=>tR H0f) cX)) (λ_=>tR l12)
theorem C0S {q:a0h} {a b:Int} (hp:j0f p 1000)(hq:j0f q 1000):Tot (c0e s p a q b) (λ_=>True):=by
  unfold c0e;generalize hL:([(⟨0,0⟩:a0v),(⟨0,1⟩:a0v),(⟨1,0⟩:a0v),(⟨1,1⟩:a0v),(⟨1,2⟩:a0v),(⟨2,1⟩:a0v),(⟨2,2⟩:a0v)]:List a0v)=L;have hl:L.length=7:=by rw[<-hL];rfl
  refine Tot.joinT (Tot.srch L.length cV (λi h0 h1=>tY (dT h1) (Tot.joinG (tY (a0c h0 h1) (tY (a0c h0 h1) (tB (r0e hp dB) (λx hx=>tB (r0e hq dB) (λy hy=>tB (s0U hx) (λ_ _=>zC dE (λ_ _=> ?_))))))) (λ_=>tR (nx h0 cV)))) (λs e=>zE e trivial)) cX
  repeat' (first|exact tR trivial|refine zI ?_ ?_|refine zB ?_ λ_=> ?_)
theorem F0U {l:List k0A} (h: ∀c∈l,c.ad_.length<=6000) (h0:0<=i)(h1:i<l.length):(nth l i).ad_.length<=100000:=by
  have:=h _ (d0c h0 h1);omega
theorem C0L {l:List k0A} (hl:l.length<=1000)(h0:0<=i)(h1:i<l.length):Tot (e0f l (nth l i).al_) (λr=>0<=r/\r<l.length):=by
  unfold e0f;refine tJ (Tot.mono (p:=λx:Unit⊕Int=>match x with| .inl _=>False| .inr r=>0<=r/\r<l.length) (tL (λs:Int=>0<=s/\s<=i) (λs=>(i-s).toNat) cV cV (λs hs=>tY (dT cV) (tY (a0c hs.1 cV) (tI (λ_=>tR ⟨hs.1,cV⟩) (λe=> ?_))))) (λx hx=> ?_));have e:=dFF e;have hne:s≠i:=λh=>e (by rw[h])
  rw[nx hs.1 cV];exact tR ⟨⟨cV,cV⟩,cV⟩
  cases x with
  |inl u=>exact hx.elim
  |inr r=>exact hx
theorem I0k {l:f0x} (hm:l.c_.length<=95)(ht: ∀c∈l.c_,c.ad_.length<=6000):Tot (d0s l) (λ_=>True):=by
  unfold d0s;refine Tot.joinT (Tot.srch l.c_.length cV (λi h0 h1=>tY (dT h1) (Tot.joinG (tY (a0c h0 h1) (tB (s0q (F0U ht h0 h1)) (λy hy=> ?_))) (λ_=>tR (nx h0 cV)))) (λs e=>zE e trivial)) cX;refine tJ (Tot.mono (p:=λx:Unit⊕(Unit⊕(Int⊕(Unit⊕Int)))=>match x with| .inl _=>True| .inr z=>y0e i z) (zC dE (λb _=>tI cX cX)) (λx hx=> ?_))
  cases x with
  |inr z=>exact hx
  |inl u=>
    show Tot _ (y0e i);refine tJ (Tot.mono (p:=λx:Unit⊕(Unit⊕(Int⊕(Unit⊕Int)))=>match x with| .inl _=>True| .inr z=>y0e i z) (zC ?_ (λb _=>tI cX cX)) (λx hx=> ?_))
    · refine tI (λe=> ?_) cX
      have e:=dTT e;have w:oA .i64 (i-1)=i-1:=w64 cV cV;rw[w];have i1:inR (i-1) l.c_.length=true:=a0c cV cV;rw[i1];simp only[oC]
      repeat' (first|exact tR trivial|refine zI ?_ ?_|refine zB ?_ λ_=> ?_)
    · cases x with
      |inr z=>exact hx
      |inl u=>
        show Tot _ (y0e i);refine tB (C0L cV h0 h1) (λf hf=> ?_);refine tJ (Tot.mono (p:=λx:Unit⊕(Unit⊕(Int⊕(Unit⊕Int)))=>match x with| .inl _=>True| .inr z=>y0e i z) (zC dE (λb _=>tI cX cX)) (λx hx=> ?_))
        cases x with
        |inr z=>exact hx
        |inl u=>
          show Tot _ (y0e i);exact tY (a0c hf.1 hf.2) (tB (s0q (F0U ht hf.1 hf.2)) (λz hz=>tB (show Tot (b0d _ _) (λ_=>True)from tR trivial) (λ_ _=>tY (a0c hf.1 hf.2) (tB (show Tot (b0d _ _) (λ_=>True)from tR trivial) (λ_ _=>tI cX cX)))))
theorem K0k {l:f0x} (hp:l.b_.d_.length<=100000)(hm:l.c_.length<=95)(ht: ∀c∈l.c_,c.ad_.length<=6000):Tot (d0N l) (λ_=>True):=by
  unfold d0N;refine tB (w0O hp) (λp hp=>Tot.joinT (Tot.srch l.c_.length cV (λi h0 h1=>tY (dT h1) (Tot.joinG (tY (a0c h0 h1) (tB (s0q (F0U ht h0 h1)) (λy hy=>tY (a0c h0 h1) (tB (show Tot (b0d _ _) (λ_=>True)from tR trivial) (λ_ _=>tB (C0S hp hy) (λ_ _=>tI cX (λ_=> ?_))))))) (λ_=>tR (nx h0 cV)))) (λs e=>zE e trivial)) cX);refine Tot.mono (p:=λy=>y0e i y) ?_ (λ_ h=>h);exact tW (λs:Int=>s) (i.toNat+1) (λ_=>True) cV ⟨trivial,cV,cV⟩ (λu _ g0 g1=>tY (dT cV) (tY (a0c g0 cV) (tB (s0q (F0U ht g0 cV)) (λz hz=>tY (a0c g0 cV) (tB (show Tot (b0d _ _) (λ_=>True)from tR trivial) (λ_ _=>tB (C0S hz hy) (λ_ _=>tI cX (λ_=>tR ⟨trivial,nx g0 cV⟩)))))))) (λu _ e=>tN (dF cV) (tR trivial))
theorem F0G {b:List Int} (hl:b.length<=100000):Tot (b0z b) (λo=>(o.1.length:Int)<=b.length+4):=by
  unfold b0z;refine tJ (tL (λs:Int×List Int=>0<=s.1/\s.1<=(b.length:Int)+4/\(s.2.length:Int)<=s.1) (λs=>((b.length:Int)+4-s.1).toNat) ⟨cZ,cZ,dB⟩ cZ (λs hs=> ?_));refine tI (λhq=> ?_) (λ_=>tR (tR (show((s.2.length:Nat):Int)<=b.length+4 by omega)));have hq:=dTT hq;refine tB (D0i hl hs.1 hq) (λn hn=>tI (λ_=>tR (show((([]:List Int).length:Nat):Int)<=b.length+4 by simp;omega)) (λhneg=> ?_));have hneg:=dFF hneg;have his:=hn.resolve_left hneg;refine tY (a0f dA) (tB (v0d _) (λz hz=>tR ?_));have h1:=hz.2.2 his;have e1:oA .i64 (s.1+z)=s.1+z:=w64 cV cV;rw[e1];exact⟨⟨cZ,cZ,dA⟩,cZ⟩
theorem K0p {l:f0x} (hp:j0f p 1000)(hc:l.j_.length<=105)(hs: ∀c∈l.j_,c.x_.length<=6000):Tot (e0a l p) (λ_=>True):=by
  unfold e0a;refine Tot.joinT (tW (λs:List UInt8×Int=>s.2) l.j_.length (λ_=>True) cV ⟨trivial,dB⟩ (λs _ h0 h1=>tY (dT h1) ?_) (λs _ e=>zE e trivial)) cX;have hsl:=hs _ (d0c h0 h1);have hbl:(b0o (nth l.j_ s.2).x_).length<=6000:=by rw[d0I];exact hsl
  refine tJ (Tot.mono (p:=λx:Unit⊕((List UInt8×Int)⊕(Unit⊕Int))=>match x with| .inl _=>True| .inr (.inl _)=>False| .inr (.inr _)=>True) (tY (a0c h0 h1) (tB (F0G cV) (λd hd=>tB (F0E hp cV) (λ_ _=>tB (I0l _ _) (λ_ _=> ?_))))) (λx hx=> ?_))
  · refine tJ (Tot.mono (p:=λx:Unit⊕(Unit⊕((List UInt8×Int)⊕(Unit⊕Int)))=>match x with| .inl _=>True| .inr (.inl _)=>True| .inr (.inr (.inl _))=>False| .inr (.inr (.inr _))=>True) (zC dE (λb _=>tI cX cX)) (λx hx=> ?_))
    cases x with
    |inl u=>exact tR trivial
    |inr r=>
      cases r with
      |inl _=>trivial
      |inr q=>
        cases q with
        |inl _=>exact hx.elim
        |inr _=>trivial
  cases x with
  |inl u=>exact tR ⟨trivial,nx h0 cV⟩
  |inr r=>
    cases r with
    |inl _=>exact hx.elim
    |inr _=>trivial
def txt(s:List UInt8)(i:Int):Prop:=0<=i/\i<=s.length
def K0X(s:List UInt8)(i a:Int)(l:List a0v):(Int×Int)⊕((Int×List a0v)⊕(List a0v×Int×Bool))->Prop
  | .inl w=>a<w.1/\w.1<=s.length
  | .inr (.inl _)=>False
  | .inr (.inr o)=>txt s o.2.1/\i<=o.2.1/\o.1.length<=s.length
theorem j0V {s:List UInt8} (hl:s.length<=1000000)(h:txt s i):Tot (b0a s i) (λo=>i<=o/\o<=s.length):=by
  obtain⟨h0,h1⟩:=h;unfold b0a;refine tB (tL (λq=>i<=q/\q<=s.length) (λq=>(s.length-q).toNat) ⟨cV,cV⟩ cV (λq hq=> ?_)) (λo ho=>tR ho);refine tJ (tB (p:=λb=>b=yB->q<s.length) ?_ (λb hb=> ?_));refine tI (λh=> ?_) (λ_=>tR dB);have h:=dTT h;exact tY (a0c cV h) (tR λ_=>h);refine tI (λh=>tR ?_) (λ_=>tR hq);have:=hb h;refine tR ?_;simp only;rw[w64 cV cV];omega
theorem w0F {s:List UInt8} (hl:s.length<=1000000)(h:txt s i):Tot (d0G s i) (λo=>i<=o/\o<=s.length):=by
  obtain⟨h0,h1⟩:=h;unfold d0G;refine tB (tL (λq=>i<=q/\q<=s.length) (λq=>(s.length-q).toNat) ⟨cV,cV⟩ cV (λq hq=> ?_)) (λo ho=>tR ho);refine tJ (tB (p:=λb=>b=yB->q<s.length) ?_ (λb hb=> ?_));refine tI (λh=> ?_) (λ_=>tR dB);have h:=dTT h;refine tY (a0c cV h) (tI (λ_=> ?_) (λ_=>tR λ_=>h));exact tY (a0c cV h) (tR λ_=>h);refine tI (λh=>tR ?_) (λ_=>tR hq);have:=hb h;refine tR ?_;simp only;rw[w64 cV cV];omega
theorem n0j {s:List UInt8} {x:List UInt8} (hl:s.length<=1000000)(h:txt s i)(hx:x.length<=10):Tot (b0C s i x) (λb=>b=yB->i+x.length<=s.length):=by
  obtain⟨h0,h1⟩:=h;unfold b0C;rw[w64 (n:=i+(x.length:Int)) cV cV];refine tB (p:=λb=>b=yB->i+x.length<=s.length) ?_ (λb hb=>tR hb);refine tI (λh=> ?_) (λ_=>tR dB);have h:=dTT h;exact tY (k0K cV cV cV) (tR λ_=>h)
theorem p0v {s:List UInt8} {l:Int} (hl:s.length<=1000000)(h:txt s i):Tot (b0i s i l) (λo=>txt s o.2/\i<=o.2/\(0<=o.1->i<o.2)):=by
  unfold b0i;refine tB (j0V hl h) (λy hy=> ?_);obtain⟨h0,h1⟩:=h;refine tB (tL (λq:Int×Int=>y<=q.1/\q.1<=s.length) (λq:Int×Int=>((s.length:Int)-q.1).toNat) (post:=λq:Int×Int=>y<=q.1/\q.1<=s.length) ⟨cZ,cZ⟩ cZ (λq hq=> ?_)) (λo ho=> ?_);refine tJ (tB (p:=λb=>b=yB->q.1<s.length) ?_ (λb hb=> ?_));refine tI (λh=> ?_) (λ_=>tR dB);have h:=dTT h;refine tY (a0c cV h) (tI (λ_=> ?_) (λ_=>tR λ_=>h));exact tY (a0c cV h) (tR λ_=>h);refine tI (λh=>tR ?_) (λ_=>tR hq);have:=hb h;refine zC ?_ (λv _=>tR ?_);refine tI (λ_=> ?_) cX;exact tY (a0c cV this) (tR trivial);simp only;rw[w64 (n:=q.1+1) cV cV];omega;refine tJ (tB (p:=λb=>b=vB->y<o.1) ?_ (λb hb=> ?_));refine tI (λ_=>tR dB) (λh=> ?_);have h:=dFF h;have hlt:y<o.1:=by omega
  refine tI (λ_=>tR dB) (λ_=> ?_);refine tY (a0c cV cV) (tI (λ_=> ?_) (λ_=>tR λ_=>hlt));exact tI (λ_=>tR dB) (λ_=>tR λ_=>hlt);refine tI (λ_=>tR ?_) (λh=>tR ?_);exact⟨⟨cZ,cZ⟩,cZ,cZ⟩;have:=hb h;exact tR ⟨⟨cZ,cZ⟩,cZ,λ_=>cZ⟩
theorem y0u {s:List UInt8} (hl:s.length<=1000000)(h:txt s i):Tot (b0T s i) (λo=>txt s o.2.1/\i<=o.2.1/\o.1.length<=s.length):=by
  unfold b0T;obtain⟨h0,h1⟩:=h;refine tL (λq:Int×List a0v=>i<=q.1/\q.1<=s.length/\(q.2.length:Int)<=q.1) (λq:Int×List a0v=>((s.length:Int)-q.1).toNat) ⟨cZ,cZ,dA⟩ cZ (λq hq=> ?_)
  have tq:txt s q.1:=⟨cV,cV⟩
  refine tB (p0v hl tq) (λy hy=> ?_);obtain⟨⟨y1,y2⟩,y3,y4⟩:=hy;refine tI (λ_=>tR ?_) (λhn=> ?_);exact⟨⟨y1,y2⟩,cZ,dB⟩;have hn:=dFF hn;have y4:=y4 cV;refine tB (j0V hl ⟨y1,y2⟩) (λz hz=> ?_);refine tJ (Tot.mono (p:=K0X s i q.1 q.2) ?_ (λw hw=> ?_));refine tB (n0j (x:=[46,46]) hl ⟨cV,hz.2⟩ dB) (λb hb=> ?_);refine tI (λh=> ?_) (λ_=>tR ⟨cZ,cZ⟩);have hb:=hb h;simp at hb;rw[w64 (n:=z+2) cV cV];refine tB (p0v hl ⟨cV,cV⟩) (λv hv=> ?_);obtain⟨⟨v1,v2⟩,v3,v4⟩:=hv;refine tI (λ_=>tR ⟨⟨v1,v2⟩,cZ,dB⟩) (λhn=>tR ⟨cZ,cZ⟩)
  cases w with
  |inr r=>
    cases r with
    |inl x=>exact hw.elim
    |inr o=>exact hw
  |inl w=>
    obtain⟨w1,w2⟩:=hw;refine tY (a0f dA) ?_;refine tB (j0V hl ⟨cV,w2⟩) (λc hc=> ?_);refine tB (n0j (x:=[44]) hl ⟨cV,hc.2⟩ dB) (λb hb=> ?_);refine tI (λ_=>tR ?_) (λh=>tR ?_);exact⟨⟨cZ,cZ⟩,cZ,dA⟩;have hb:=hb (by simpa using h);simp at hb;simp only;rw[w64 (n:=c+1) cV cV];simp;omega
theorem I0b(x:Int):Tot (f0U x) (λ_=>True):=by
  unfold f0U;refine zC ?_ dD
  repeat' (first|exact tR trivial|refine tI (λ_=> ?_) (λ_=> ?_))
def N0n(s:List UInt8)(i:Int)(o:a0u×Int×Bool):Prop:=txt s o.2.1/\(o.2.2=yB->i<o.2.1)/\o.1.R_.length<=s.length
theorem F0B {s:List UInt8} (hl:s.length<=1000000)(h:txt s i):Tot (d0k s i) (N0n s i):=by
  unfold d0k;obtain⟨h0,h1⟩:=h;refine tB (j0V hl ⟨h0,h1⟩) (λy hy=> ?_);refine tJ (tB (p:=λb=>b=vB->y<s.length) ?_ (λb hb=> ?_));refine tB (w0F hl ⟨cV,hy.2⟩) (λw hw=> ?_);refine tI (λ_=>tR dB) (λh=> ?_);have h:=dFF h;rw[w64 (n:=y+1) cV cV]at h;have hlt:y<s.length:=by omega
  refine tY (a0c cV hlt) ?_;exact tB (I0b _) (λ_ _=>tR λ_=>hlt);refine tI (λ_=>tR ?_) (λh=>tR ?_);exact⟨⟨cZ,hy.2⟩,dB,dB⟩;have hlt:=hb h;refine tY (a0c cV hlt) ?_;rw[w64 (n:=y+1) cV cV];refine tB (j0V hl ⟨cV,cV⟩) (λz hz=> ?_);refine tJ (Tot.mono (p:=λx:(Int×Int)⊕(a0u×Int×Bool)=>match x with| .inl w=>y<w.1/\w.1<=s.length| .inr o=>N0n s i o) ?_ (λw hw=> ?_));refine tB (n0j (x:=[37]) hl ⟨cV,hz.2⟩ dB) (λb2 hb2=> ?_);refine tI (λh=> ?_) (λ_=>tR ⟨cZ,hz.2⟩);have hb2:=hb2 h;simp at hb2;rw[w64 (n:=z+1) cV cV];refine tB (p0v hl ⟨cV,cV⟩) (λv hv=> ?_);obtain⟨⟨v1,v2⟩,v3,v4⟩:=hv;refine tI (λ_=>tR ⟨⟨v1,v2⟩,dB,dB⟩) (λ_=> ?_);exact tB (j0V hl ⟨v1,v2⟩) (λu hu=>tR ⟨cZ,hu.2⟩)
  cases w with
  |inr o=>exact hw
  |inl w=>
    obtain⟨w1,w2⟩:=hw;refine tB (p:=λu:Int×Bool=>y<u.1/\u.1<=s.length) ?_ (λu hu=> ?_);refine tB (n0j (x:=[33,61]) hl ⟨cV,w2⟩ dB) (λb3 hb3=> ?_);refine tI (λh=>tR ?_) (λ_=>tR ⟨w1,w2⟩);have hb3:=hb3 h;simp at hb3;rw[w64 (n:=w.1+1) cV cV];exact⟨cZ,cZ⟩;refine tB (n0j (x:=[61]) hl ⟨cV,hu.2⟩ dB) (λb4 hb4=> ?_);refine tI (λ_=>tR ⟨⟨cZ,hu.2⟩,dB,dB⟩) (λh=> ?_);have hb4:=hb4 (by simpa using h);simp at hb4;rw[w64 (n:=u.1+1) cV cV];refine tB (y0u hl ⟨cV,cV⟩) (λo ho=>tR ?_);obtain⟨⟨o1,o2⟩,o3,o4⟩:=ho;exact⟨⟨o1,o2⟩,λ_=>cZ,o4⟩
/-! Rules: what is read of them, and that it answers. -/
theorem H0J(n:Int):oA .i64 n<=9223372036854775807:=by
  have h:oA .i64 n=if n%18446744073709551616≥9223372036854775808 then n%18446744073709551616-18446744073709551616 else n%18446744073709551616:=by
    unfold oA;simp[wH,jI]
  rw[h];split<;>omega
theorem r0l(s:List UInt8)(i l:Int):Im (b0i s i l) (λo=>o.1<=9223372036854775807):=by
  unfold b0i;refine Im.bindT (λy=>Im.bind (p:=λq:Int×Int=>q.2<=9223372036854775807) (Im.loop (λq:Int×Int=>q.2<=9223372036854775807) dB (λq hq=> ?_) _) (λq hq=> ?_));refine Im.join (λ_=>True) (Im.bindT (λb=>Im.ite (Im.ret trivial) (Im.ret hq))) (λ_ _=>Im.bind (p:=λv:Int=>v<=9223372036854775807) (Im.ite (Im.ite (Im.ret (H0J _)) Im.none) (Im.ret hq)) (λv hv=>Im.ret hv));exact Im.join (λ_=>True) (Im.bindT (λb=>Im.ite (Im.ret dB) (Im.ret trivial))) (λ_ _=>Im.ret hq)
def G0Y(n:Int):Prop:=0<=n/\n<=9223372036854775807
def z0w(g:a0v):Prop:=G0Y g.d_/\G0Y g.f_
def s0D(r:a0u):Prop:=G0Y r.au_/\ ∀g∈r.R_,z0w g
theorem A0Z(s:List UInt8)(i:Int):Im (b0T s i) (λo=> ∀g∈o.1,z0w g):=by
  unfold b0T;refine Im.loop (λq:Int×List a0v=> ∀g∈q.2,z0w g) (λg h=>by cases h) (λq hq=> ?_) _;refine Im.bind (r0l _ _ _) (λy hy=>Im.iteC (λ_=>Im.ret (λg h=>by cases h)) (λhn=>Im.bindT (λz=> ?_)));have hn:=dFF hn;refine Im.join (λw:Int×Int=>G0Y w.2) (Im.bindT (λb=>Im.ite (Im.bind (r0l _ _ _) (λv hv=>Im.iteC (λ_=>Im.ret (λg h=>by cases h)) (λhn=>Im.ret ⟨by have:=dFF hn;simp only;omega,hv⟩))) (Im.ret ⟨cZ,hy⟩))) (λw hw=> ?_)
  have hs: ∀g∈q.2++ [(⟨y.1,w.2⟩:a0v)],z0w g:=by
    intro g hg;rcases au.1 hg with h|h;exact hq g h;rw[aR.1 h];exact⟨⟨cZ,hy⟩,hw⟩
  exact Im.ite (Im.bindT (λ_=>Im.bindT (λ_=>Im.ite (Im.ret hs) (Im.ret hs)))) Im.none
theorem I0i(s:List UInt8)(i:Int):Im (d0k s i) (λo=>s0D o.1):=by
  unfold d0k
  have z:G0Y 0:=⟨cV,cV⟩
  have e: ∀ {a b:Int} {c:Bool},G0Y b->s0D (⟨a,b,c,[]⟩:a0u):=λh=>⟨h,λg hg=>by cases hg⟩
  refine Im.bindT (λy=>Im.join (λ_=>True) (Im.bindT (λb=>Im.ite (Im.ret (e z)) (Im.ret trivial))) (λ_ _=>Im.ite (Im.bindT (λz2=> ?_)) Im.none));refine Im.join (λw:Int×Int=>G0Y w.2) (Im.bindT (λb=>Im.ite (Im.bind (r0l _ _ _) (λv hv=>Im.iteC (λ_=>Im.ret (e z)) (λhn=>Im.bindT (λ_=>Im.ret ⟨by have:=dFF hn;simp only;omega,hv⟩)))) (Im.ret z))) (λw hw=> ?_);refine Im.bindT (λu=>Im.bindT (λb=>Im.ite (Im.ret (e hw)) (Im.bind (A0Z _ _) (λo ho=>Im.ret ⟨hw,ho⟩))))
def F0e(c:List (List a0u)):Prop:= ∀x∈c,∀r∈x,s0D r
theorem C0Z(s:List UInt8):Im (b0N s) (λo=>F0e o.1):=by
  unfold b0N;have z:F0e []:=λx hx=>by cases hx
  refine Im.ite (Im.ret z) (Im.join (λq:Bool×List (List a0u)×List a0u=>F0e q.2.1/\ ∀r∈q.2.2,s0D r) (Im.loop (λq:Int×Bool×Int×List (List a0u)×List a0u=>F0e q.2.2.2.1/\ ∀r∈q.2.2.2.2,s0D r) ⟨z,λr h=>by cases h⟩ (λq hq=> ?_) _) (λq hq=> ?_));refine Im.bind (I0i _ _) (λy hy=>Im.ite (Im.ret z) (Im.bindT (λf=>Im.ite (Im.bindT (λzz=> ?_)) Im.none)))
  have h2: ∀r∈q.2.2.2.2++ [y.1],s0D r:=by
    intro r hr;rcases au.1 hr with h|h;exact hq.2 r h;rw[aR.1 h];exact hy
  have h3:F0e (q.2.2.2.1++ [q.2.2.2.2++ [y.1]]):=by
    intro x hx;rcases au.1 hx with h|h;exact hq.1 x h;rw[aR.1 h];exact h2
  refine Im.ite (Im.ret ⟨hq.1,h2⟩) (Im.bindT (λw=>Im.join (λ_=>True) (Im.bindT (λb=>Im.ite (Im.ret z) (Im.ret trivial))) (λ_ _=> ?_)));refine Im.bind (p:=λu:List (List a0u)×List a0u=>F0e u.1/\ ∀r∈u.2,s0D r) (Im.ite (Im.ite (Im.ite (Im.ret ⟨h3,λr h=>by cases h⟩) Im.none) (Im.ret ⟨hq.1,h2⟩)) Im.none) (λu hu=>Im.ret hu);refine Im.ite (Im.ret z) (Im.ite (Im.ret ?_) Im.none);intro x hx;rcases au.1 hx with h|h;exact hq.1 x h;rw[aR.1 h];exact hq.2
def fewC(c:List (List a0u)):Prop:=c.length<=401/\ ∀x∈c,x.length<=401/\ ∀r∈x,r.R_.length<=400
theorem fewC.nil:fewC []:=⟨dB,λx h=>by cases h⟩
theorem w0n(s:List UInt8):Tot (b0N s) (λo=>fewC o.1):=by
  unfold b0N;refine tI (λ_=>tR fewC.nil) (λhs4=> ?_);have hs4:=dFF hs4;have hl:s.length<=1000000:=by omega
  have hl4:s.length<=400:=by omega
  refine tJ (tL (λq:Int×Bool×Int×List (List a0u)×List a0u=>txt s q.2.2.1/\((q.2.2.2.1.length:Int)<=q.2.2.1/\(q.2.2.2.2.length:Int)<=q.2.2.1)/\(∀x∈q.2.2.2.1,x.length<=401/\ ∀r∈x,r.R_.length<=400)/\ ∀r∈q.2.2.2.2,r.R_.length<=400) (λq:Int×Bool×Int×List (List a0u)×List a0u=>((s.length:Int)-q.2.2.1).toNat) ⟨⟨dB,dB⟩,⟨dB,dB⟩,dB,dB⟩ cZ (λq hq=> ?_));obtain⟨⟨q1,q2⟩,⟨q3,q4⟩,q5,q6⟩:=hq;refine tB (F0B hl ⟨q1,q2⟩) (λy hy=> ?_);obtain⟨⟨y1,y2⟩,y3,y4⟩:=hy;refine tI (λ_=>tR (show fewC _ from fewC.nil)) (λhok=> ?_);have y3:=y3 (by simpa using hok)
  have h2: ∀r∈q.2.2.2.2++ [y.1],r.R_.length<=400:=by
    intro r hr;rcases au.1 hr with h|h;exact q6 r h;rw[aR.1 h];omega
  have h3: ∀x∈q.2.2.2.1++ [q.2.2.2.2++ [y.1]],x.length<=401/\ ∀r∈x,r.R_.length<=400:=by
    intro x hx;rcases au.1 hx with h|h;exact q5 x h;rw[aR.1 h];exact⟨dA,h2⟩
  refine zC ?_ (λf _=> ?_)
  · repeat' (first|exact tR trivial|refine zI ?_ ?_|refine zB ?_ λ_=> ?_)
  refine tY (a0f dA) ?_;refine tB (j0V hl ⟨y1,y2⟩) (λz hz=> ?_);refine tI (λ_=>tR ?_) (λhne=> ?_);show Tot (bif f then _ else _) _;refine tI (λ_=>tR fewC.nil) (λ_=> ?_);exact tY (a0f dA) (tR ⟨dA,h3⟩)
  · refine tB (w0F hl ⟨cV,hz.2⟩) (λw hw=> ?_)
    have hin:inS z w s.length=true:=k0K cV cV cV;rw[hin];simp only[oC];refine tJ (zC ?_ (λb _=> ?_))
    · repeat' (first|exact tR trivial|refine zI ?_ ?_|refine zB ?_ λ_=> ?_)
    refine tI (λ_=>tR (show fewC _ from fewC.nil)) (λ_=>tR ?_);refine tB (p:=λu:List (List a0u)×List a0u=>((u.1.length:Int)<=z/\(u.2.length:Int)<=z)/\(∀x∈u.1,x.length<=401/\ ∀r∈x,r.R_.length<=400)/\ ∀r∈u.2,r.R_.length<=400) ?_ (λu hu=>tR ?_);refine tI (λ_=>tY (a0f dA) (tR ⟨⟨dA,dA⟩,h3,λr h=>by cases h⟩)) (λ_=>tR ⟨⟨dA,dA⟩,q5,h2⟩);obtain⟨⟨u1,u2⟩,u3,u4⟩:=hu;refine⟨⟨⟨cZ,cZ⟩,⟨cZ,cZ⟩,u3,u4⟩,cZ⟩
theorem O0k: ∃m,big=m+1:=⟨big-1,by unfold big;omega⟩
theorem I0t (h:G0Y x):Tot (a0T big x) (λr=>r.length<=20):=by
  obtain⟨h0,h1⟩:=h;obtain⟨m,hm⟩:=O0k;rw[show a0T big x=a0T (m+1) x by rw[<-hm]];simp only[a0T];refine tN (dF cV) (tB (p:=λr:List UInt8=>r.length<=20) ?_ (λ_ h=>tR h));refine tL (λq:Int×List UInt8=>(0<=q.1/\q.1<=9223372036854775807)/\q.2.length<=20/\q.1<10^(20-q.2.length)) (λq=>q.1.toNat) ⟨⟨h0,h1⟩,by simp[e0u],by simp[e0u];omega⟩ cZ (λq hq=> ?_);obtain⟨⟨q0,q0'⟩,q1,q2⟩:=hq;refine tI (λe=> ?_) (λ_=>tR q1);have e:=dTT e
  have hlen:q.2.length<=18:=by
    rcases bL q.2.length 19 with h|h;omega;have:20-q.2.length<=1:=by omega
    have h5:(10:Int)^(20-q.2.length)<=10^1:=by
      have:=Nat.pow_le_pow_right (show 0<10 by omega) this
      exact_mod_cast this
    omega
  have hq10:wD q.1 10=q.1/10:=bw q0;have w1:oA .i64 (wD q.1 10)=q.1/10:=by rw[hq10];exact w64 cV cV
  rw[w1];refine tY (a0f (by simp[e0u];omega)) (tR ⟨⟨⟨cZ,cZ⟩,by simp[e0u];omega, ?_⟩,cZ⟩);have e1:20-q.2.length=(20-(q.2.length+1))+1:=by omega
  rw[e1,Int.pow_succ]at q2;have l1:(e0u [oA .u8 (oA .i64 (48+jC (q.1/10) 10))]++q.2).length=q.2.length+1:=by simp[e0u]
  show q.1/10<10^(20-(e0u [oA .u8 (oA .i64 (48+jC (q.1/10) 10))]++q.2).length);rw[l1];generalize(10:Int)^(20-(q.2.length+1))=K at q2⊢;omega
theorem E0Y {c:List (List a0u)} (hc:fewC c)(hv:F0e c):Tot (e0S c) (λ_=>True):=by
  obtain⟨c1,c2⟩:=hc;unfold e0S;refine zC (tW (λs:List UInt8×Int=>s.2) c.length (λs=>(s.1.length:Int)<=7000000*s.2) cV ⟨dB,dB⟩ (λs hs h0 h1=>tY (dT h1) ?_) (λs _ e=>zE e trivial)) dD;have i0:inR s.2 c.length=true:=a0c h0 h1;have hm:=d0c h0 h1;obtain⟨d1,d2⟩:=c2 _ hm;have hv1:=hv _ hm;generalize hd:nth c s.2=d at d1 d2 hv1⊢;refine tB (p:=λr:List UInt8=>(r.length:Int)<=7000000*s.2+7000000) ?_ (λr hr=>tR ⟨by rw[nx h0 cV];simp only;omega,nx h0 cV⟩);refine tB (p:=λr:List UInt8=>(r.length:Int)<=7000000*s.2+4) (tI (λ_=>tY (a0f dA) (tR dA)) (λ_=>tR cV)) (λa ha=> ?_);refine tW (λt:List UInt8×Int=>t.2) d.length (λt=>(t.1.length:Int)<=7000000*s.2+4+17300*t.2) cV ⟨cZ,dB⟩ (λt ht g0 g1=>tY i0 (tY (dT g1) ?_)) (λt ht e=>tY i0 (tN (dF cV) (tR cZ)));have i1:inR t.2 d.length=true:=a0c g0 g1;have hm2:=d0c g0 g1;have e1:=d2 _ hm2;obtain⟨e2,e3⟩:=hv1 _ hm2;generalize nth d t.2=q at e1 e2 e3⊢;refine tB (p:=λr:List UInt8=>(r.length:Int)<=7000000*s.2+4+17300*t.2+17300) (tY i0 (tY i1 ?_)) (λr hr=>tR ⟨by rw[nx g0 cV];simp only;omega,nx g0 cV⟩);refine tB (p:=λr:List UInt8=>(r.length:Int)<=7000000*s.2+4+17300*t.2+5) (tI (λ_=>tY (a0f dA) (tR dA)) (λ_=>tR cV)) (λu hu=> ?_);have lo: ∀o:Int,(e0u ([o]:List Int)).length=1:=λo=>by simp[e0u]
  refine tY (a0f (by rw[lo];omega)) ?_;refine tB (p:=λr:List UInt8=>(r.length:Int)<=7000000*s.2+4+17300*t.2+29) (tI (λ_=>tY (a0f (by simp[lo];omega)) (tB (I0t e2) (λn hn=>tY (a0f (by simp[lo];omega)) (tR (by simp[lo];omega))))) (λ_=>tR (by simp[lo];omega))) (λv hv=> ?_);refine tB (p:=λr:List UInt8=>(r.length:Int)<=7000000*s.2+4+17300*t.2+33) (tI (λ_=>tY (a0f dA) (tR dA)) (λ_=>tY (a0f dA) (tR dA))) (λw hw=> ?_);refine tW (λz:List UInt8×Int=>z.2) q.R_.length (λz=>(z.1.length:Int)<=7000000*s.2+4+17300*t.2+33+43*z.2) cV ⟨cZ,dB⟩ (λz hz k0 k1=>tY (dT k1) ?_) (λz hz e=>tN (dF cV) (tR cZ));have i2:inR z.2 q.R_.length=true:=a0c k0 k1;obtain⟨r1,r2⟩:=e3 _ (d0c k0 k1);refine tB (p:=λr:List UInt8=>(r.length:Int)<=z.1.length+43) ?_ (λr hr=>tR ⟨by rw[nx k0 cV];simp only;omega,nx k0 cV⟩);refine tB (p:=λr:List UInt8=>(r.length:Int)<=z.1.length+1) (tI (λ_=>tY (a0f dA) (tR dB)) (λ_=>tR cV)) (λx hx=> ?_);refine tY i2 (tB (I0t r1) (λn hn=>tY (a0f cV) (tY i2 (tY i2 (tI (λ_=> ?_) (λ_=>tR dA))))));refine tY (a0f dA) (tY i2 (tB (I0t r2) (λn2 hn2=>tY (a0f dA) (tR dA))))
theorem C0G {x y:List (List a0u)} (hx:x.length<=401)(hx2: ∀c∈x,c.length<=401/\ ∀r∈c,r.R_.length<=400):Tot (e0T x y) (λ_=>True):=by
  unfold e0T;refine tI cX (λhl=> ?_);have hl:=dFF hl;refine Tot.joinT (Tot.srch x.length cV (λs h0 h1=>tY (dT h1) (Tot.joinG (tY (a0c h0 h1) (tY (a0c h0 cV) (tI cX (λhl2=> ?_)))) (λ_=>tR (nx h0 cV)))) (λs e=>zE e trivial)) cX;have hl2:=dFF hl2;have i0:inR s x.length=true:=a0c h0 h1;have i0':inR s y.length=true:=a0c h0 cV;obtain⟨d1,d2⟩:=hx2 _ (d0c h0 h1);generalize nth x s=a at d1 d2 hl2⊢;generalize nth y s=b at hl2⊢;refine tW (λt:Int=>t) a.length (λ_=>True) cV ⟨trivial,cV,cV⟩ (λt _ g0 g1=>tY i0 (tY (dT g1) ?_)) (λt _ e=>tY i0 (tN (dF cV) (tR trivial)));have i1:inR t a.length=true:=a0c g0 g1;have i1':inR t b.length=true:=a0c g0 cV;have e1:=d2 _ (d0c g0 g1);generalize nth a t=q at e1⊢;generalize nth b t=p;refine tJ (Tot.mono (p:=λz:Unit⊕(Int⊕(Unit⊕(Int⊕(Unit⊕Bool))))=>match z with| .inl _=>True| .inr (.inl _)=>False| .inr (.inr o)=>y0e s o) (tY i0 (tY i1 (tY i0' (tY i1' ?_)))) (λz hz=> ?_));refine tJ (Tot.mono (p:=λw:Unit⊕(Unit⊕(Int⊕(Unit⊕(Int⊕(Unit⊕Bool)))))=>match w with| .inl _=>q.R_.length=p.R_.length| .inr (.inl _)=>True| .inr (.inr (.inl _))=>False| .inr (.inr (.inr o))=>y0e s o) (tB (p:=λb=>b=vB->q.R_.length=p.R_.length) ?_ (λb hb=>tI cX (λe=>tR (hb e)))) (λw hw=> ?_));exact tI (λ_=>tR cW) (λ_=>tI (λ_=>tR cW) (λ_=>tI (λ_=>tR cW) (λ_=>tR (λh=>by have:=dFF h;omega))))
  cases w with
  |inl u=>
    have hw:q.R_.length=p.R_.length:=hw;exact tW (λz:Int=>z) q.R_.length (λ_=>True) cV ⟨trivial,cV,cV⟩ (λz _ k0 k1=>tY (dT k1) (tY (a0c k0 k1) (tY (a0c k0 cV) (tI cX (λ_=>tR ⟨trivial,nx k0 cV⟩))))) (λz _ e=>zE e trivial)
  |inr r=>
    cases r with
    |inl _=>trivial
    |inr r=>
      cases r with
      |inl _=>exact hw.elim
      |inr o=>exact hw
  cases z with
  |inl u=>exact tR ⟨trivial,nx g0 cV⟩
  |inr r=>
    cases r with
    |inl _=>exact hz.elim
    |inr o=>exact hz
theorem B0U {c:List (List a0u)} (hc:fewC c)(hv:F0e c):Tot (e0i c) (λ_=>True):=by
  unfold e0i;refine tB (E0Y hc hv) (λt _=>tB (w0n t) (λo ho=> ?_));exact zC (tI (λ_=>tB (C0G hc.1 hc.2) dD) cX) dD
theorem I0a {x:List p0i} (hx:x.length<=1000):Tot (e0R x) (λ_=>True):=by
  unfold e0R;refine Tot.joinT (tW (λs:Int×List c0q=>s.1) x.length (λs=>(s.2.length:Int)<=s.1) cV ⟨dB,dB⟩ (λs hs h0 h1=>tY (dT h1) ?_) (λs _ e=>zE e trivial)) cX;have i0:inR s.1 x.length=true:=a0c h0 h1;refine tJ (Tot.mono (p:=λy:List c0q⊕((Int×List c0q)⊕(List c0q⊕(List c0q×Int×Int)))=>match y with| .inl l=>(l.length:Int)<=s.1+1| .inr (.inl _)=>False| .inr (.inr _)=>True) ?_ (λy hy=> ?_))
  · refine tJ (Tot.mono (p:=λw:Unit⊕(List c0q⊕((Int×List c0q)⊕(List c0q⊕(List c0q×Int×Int))))=>match w with| .inl _=>True| .inr (.inl _)=>False| .inr (.inr (.inl _))=>False| .inr (.inr (.inr _))=>True) (zC ?_ (λb _=>tI cX cX)) (λw hw=> ?_))
    refine tY i0 (tI cX (λ_=>tY i0 (tI cX (λ_=>tI (λe=> ?_) cX))));have e:=dTT e;have w1:oA .i64 (s.1-1)=s.1-1:=w64 cV cV;rw[w1];exact tY i0 (tY (a0c cV cV) (tR trivial))
    · cases w with
      |inr r=>
        cases r with
        |inl _=>exact hw.elim
        |inr r=>
          cases r with
          |inl _=>exact hw.elim
          |inr _=>trivial
      |inl u=>
        refine tY i0 (tB (p:=λo=>fewC o.1/\F0e o.1) ?_ (λo ho=>tB (B0U ho.1 ho.2) (λ_ _=> ?_)));obtain⟨o,e,h⟩:=w0n (nth x s.1).ax_;exact⟨o,e,h,C0Z _ o e⟩
        · refine tJ (Tot.mono (p:=λw:Unit⊕(List c0q⊕((Int×List c0q)⊕(List c0q⊕(List c0q×Int×Int))))=>match w with| .inl _=>True| .inr (.inl _)=>False| .inr (.inr (.inl _))=>False| .inr (.inr (.inr _))=>True) (zC dE (λb _=>tI cX cX)) (λw hw=> ?_))
          cases w with
          |inr r=>
            cases r with
            |inl _=>exact hw.elim
            |inr r=>
              cases r with
              |inl _=>exact hw.elim
              |inr _=>trivial
          |inl u=>exact tY i0 (tY (a0f dA) (tR (show((_:List c0q).length:Int)<=_ by simp;omega)))
  cases y with
  |inl l=>exact tR ⟨by rw[nx h0 cV];exact hy,nx h0 cV⟩
  |inr r=>
    cases r with
    |inl _=>exact hy.elim
    |inr _=>trivial
theorem F0H {l:f0x} (h0:l.B_.length<=4294967296)(h:l.b_.d_.length<=100000/\l.b_.f_.length<=100000/\l.b_.m_.length<=100000/\l.b_.t_.length<=100000)(hr:l.K_.length<=8)(hc:l.j_.length<=105)(hs: ∀c∈l.j_,c.x_.length<=6000)(hm:l.c_.length<=95)(ht: ∀c∈l.c_,c.ad_.length<=6000):Tot (e0g l) (λ_=>True):=by
  unfold e0g;obtain⟨p0,p1,p2,p3⟩:=h;refine tB (K0m h0) (λ_ _=>tI cX (λ_=>tB (C0K _) (λ_ _=>tI cX (λ_=> ?_))));refine tJ (Tot.mono (p:=λx=>match x with| .inl s=>s.1.length<=1000/\s.2.1.length<=1000/\s.2.2.1.length<=1000/\s.2.2.2.1.length<=1000| .inr _=>True) (tW (λs:Int×(List a0b)×(List a0b)×(List a0b)×(List a0b)×Bool×Int×Int×Int×Int×Int×Int×Int×Int×Int×Bool×Int×Int=>s.1) 4 (λs=>s.2.1.length<=1000/\s.2.2.1.length<=1000/\s.2.2.2.1.length<=1000/\s.2.2.2.2.1.length<=1000) cV ⟨⟨dB,dB,dB,dB⟩,dB⟩ (λs hs' g0 g1=>tY (dT g1) ?_) (λs hs' e=>tN (dF cV) (tR hs'))) (λx hx=> ?_));have st:oA .i64 (s.1+1)=s.1+1:=nx g0 cV;refine tI (λ_=>tB (w0O p0) (λy hy=>tI cX (λ_=>tR ⟨hy,st⟩))) (λe0=>tI (λ_=>tB (w0O p1) (λy hy=>tI cX (λ_=>tR ⟨hy,st⟩))) (λe1=>tI (λ_=>tB (w0O p2) (λy hy=>tI cX (λ_=>tR ⟨hy,st⟩))) (λe2=>tI (λ_=>tB (w0O p3) (λy hy=>tI cX (λ_=>tR ⟨hy,st⟩))) (λe3=> ?_))));have:=dFF e0;have:=dFF e1;have:=dFF e2;have:=dFF e3;omega
  cases x with
  |inr _=>trivial
  |inl s=>
    show Tot _ _;refine tB (I0a cV) (λ_ _=>tI cX (λ_=>tB (K0p hx hc hs) (λ_ _=>tI cX (λ_=>tB (I0k hm ht) (λ_ _=>tI cX (λ_=>tB (K0k p0 hm ht) (λ_ _=>tI cX cX)))))))
/-! Decimals, rounded: they answer. -/
def m0W(d:b0v):Prop:=d.D_.length<=1000/\ -1000<=d.E_/\d.E_<=1000
theorem o0v(n:Int):Tot (e0y n) (λr=>0<=r/\r<=1000):=by
  unfold e0y;refine tR ?_;unfold s0e L0Q;constructor<;>(repeat' split)<;>omega
theorem H0z (hl:l.length<=4294967296):Tot (i0r l) (λ_=>True):=by
  unfold i0r;refine tJ (tW (λs:Int=>s) l.length (λ_=>True) hl ⟨trivial,dB⟩ (λs _ h0 h1=>tY (dT h1) (tY (a0c h0 h1) (tI cX (λ_=>tR ⟨trivial,w64 (n:=s+1) cV cV⟩)))) (λs _ e=>tN (dF cV) (tR (tR trivial))))
theorem s0y (hl:d.D_.length<=4294967296):Tot (i0W d) (λr=>r=yB->m0W d):=by
  unfold i0W;refine tI (λe=>tR (λh=> ?_)) (λe0=> ?_);have:=dTT h;have:=dTT e;exact⟨cV,cV,cV⟩;have e0:=dFF e0;refine tJ (tB (p:=λc=>c=vB->m0W d) (tI (λ_=>tR cW) (λe1=>tI (λ_=>tR cW) (λe2=>tR (λe3=>⟨by have:=dFF e1;omega,by have:=dFF e2;omega,by have:=dFF e3;omega⟩)))) (λc hc=>tI (λ_=>tR cW) (λe=>tR ?_)));have hd:=hc e;refine zC (tY (a0c cV cV) (tI (λ_=> ?_) cX)) (λ_ _=>tR (λ_=>hd));rw[w64 (n:=(d.D_.length:Int)-1) cV cV];exact tY (a0c cV cV) (tI (λ_=>tB (H0z hl) dD) cX)
theorem z0e(d:s0j):Tot (f0m d) (λr=>m0W d.k_-> -1000<=r/\r<=2000):=by
  unfold f0m;refine tI (λ_=>tR (λ_=>cV)) (λe=>tR (λh=> ?_));obtain⟨h1,h2,h3⟩:=h;have:=dFF e;rw[w64 (n:=d.k_.E_+d.k_.D_.length) cV cV,w64 cV cV];omega
theorem t0K(d:b0v):Tot (k0n d) (λr=>m0W d-> -1000<=r/\r<=2000):=by
  unfold k0n;exact tB (z0e ⟨d⟩) (λ_ h=>tR h)
theorem E0y (h:l.length<=4294967296):b0A l=qB l:=v0X h
theorem z0g (hl:l.length<=100000):Tot (m0m b l e) (λr=>m0W r.1):=by
  have z:m0W (⟨vB,([]:List Int),0⟩:b0v):=⟨dB,dC,dC⟩
  unfold m0m;refine tB (H0z cV) (λ_ _=>tI (λ_=>tR z) (λ_=> ?_));refine tJ (zC (tI cX cX) (λc _=>tI (λ_=>tR z) (λ_=>tR ?_)));refine tB (p:=λi:Int=>0<=i/\i<=l.length) (tL (λs:Int=>0<=s/\s<=l.length) (λs=>((l.length:Int)-s).toNat) ⟨cV,cV⟩ cV (λs hs=> ?_)) (λi hi=> ?_);refine tJ (tB (p:=λc=>c=yB->s<l.length) (tI (λe=>tY (a0c hs.1 (dTT e)) (tR (λ_=>dTT e))) (λ_=>tR cW)) (λc hc=>tI (λe=>tR (tR ?_)) (λ_=>tR hs)));have:=hc e;rw[w64 (n:=s+1) cV cV];exact⟨⟨cV,cV⟩,cV⟩;refine tB (p:=λj:Int=>i<=j/\j<=l.length) (tL (λs:Int=>i<=s/\s<=l.length) (λs=>(s-i).toNat) ⟨cV,cV⟩ cV (λs hs=> ?_)) (λj hj=> ?_);refine tJ (tB (p:=λc=>c=yB->i<s) (tI (λe=> ?_) (λ_=>tR cW)) (λc hc=>tI (λe=>tR (tR ?_)) (λ_=>tR hs)));have:=dTT e;rw[w64 (n:=s-1) cV cV];exact tY (a0c cV cV) (tR (λ_=>this));have:=hc e;rw[w64 (n:=s-1) cV cV];exact⟨⟨cV,cV⟩,cV⟩;refine tI (λ_=>tR ⟨dB,by show(-1000:Int)<=0;decide,by show(0:Int)<=1000;decide⟩) (λ_=>tY (k0K hi.1 hj.1 hj.2) ?_);have hc:=E0t l i j;rw[E0y cV,ai];refine tB (s0y (by show(cut l i j).length<=_;omega)) (λr hr=>tI (λ_=>tR z) (λe=>tR (hr (by cases r<;>simp_all))))
theorem J0r(d:s0j)(i:Int):Tot (f0u d i) (λ_=>True):=by
  unfold f0u;refine tJ (tB (p:=λc=>c=vB->0<=i/\i<d.k_.D_.length) (tI (λ_=>tR cW) (λe=>tR (λh=>⟨by have:=dFF e;omega,by have:=dFF h;omega⟩))) (λc hc=>tI cX (λe=>tR ?_)));exact tY (a0c (hc e).1 (hc e).2) (tR trivial)
theorem J0u(d:b0v)(i:Int):Tot (t0M d i) (λ_=>True):=by
  unfold t0M;refine tJ (zC (tI cX (λ_=>tB (z0e ⟨d⟩) (λ_ _=>tR trivial))) (λc _=>tI cX (λ_=>tR ?_)));exact tB (z0e ⟨d⟩) (λ_ _=>tB (J0r _ _) dD)
theorem H0W(k p:Int):Tot (l0o k p) (λr=>r=yB->1<=k/\ -1000<=p/\p<=1000):=by
  unfold l0o;refine tB (p:=λr=>r=yB->1<=k/\ -1000<=p/\p<=1000) (tI (λe1=>tI (λ_=>tI (λe3=>tR (λe4=>⟨by have:=dTT e1;omega,by have:=dTT e3;omega,dTT e4⟩)) (λ_=>tR cW)) (λ_=>tR cW)) (λ_=>tR cW)) (λ_ h=>tR h)
theorem F0y {p:Int} (hd:m0W d)(hk:1<=k)(hp: -1000<=p/\p<=1000):Tot (j0X d k p) (λr=>r.1.length<=3001):=by
  unfold j0X;refine tB (p:=λr:Int×List Int=>r.2.length<=3001) (tB (t0K d) (λm hm=> ?_)) (λ_ h=>tR h);have hm:=hm hd;refine tL (λs:Int×Int×List Int=>s.2.1<=2000/\(s.2.2.length:Int)+s.2.1<=2000/\ -1001<=s.2.1) (λs=>(s.2.1+1001).toNat) ⟨hm.2,dA,by show-1001<=m;omega⟩ (by show(m+1001).toNat<_;omega) (λs hs=>tI (λe=> ?_) (λ_=>tR (by show s.2.2.length<=3001;omega)));have e:=dTT e;have hz:nz k=true:=by simp[nz];omega
  refine tB (J0u _ _) (λy _=>tY hz (tY (a0f dA) (tY hz (tR ?_))));rw[w64 (n:=s.2.1-1) cV cV];simp only[aA,aW,bY];exact⟨⟨cV,cV,cV⟩,cV⟩
theorem z0Q(d:b0v)(p:Int):Tot (i0i d p) (λ_=>True):=by
  unfold i0i;exact zC (tI cX cX) dD
theorem K0q(d:b0v)(l k p:Int):Tot (i0G d l k p) (λ_=>True):=by
  unfold i0G;refine tB (J0u _ _) (λy _=>zC (tI cX cX) (λs _=>tJ ?_));refine tI cX (λ_=>zC (tI cX (λ_=>tI cX (λ_=>tB (z0Q _ _) dD))) (λc _=>tI cX (λ_=>tR (tR trivial))))
theorem I0d (hl:l.length<=100000):Tot (d0C l) (λr=>r.length<=l.length+1):=by
  unfold d0C;rw[w64 (n:=(l.length:Int)-1) cV cV];refine tJ (Tot.mono (p:=λx:List Int⊕List Int=>match x with| .inl r=>r.length=l.length| .inr r=>r.length=l.length) (tL (λs:Int×List Int=> -1<=s.1/\s.1<l.length/\s.2.length=l.length) (λs=>(s.1+1).toNat) ⟨by show(-1:Int)<=l.length-1;omega,by show(l.length:Int)-1<_;omega,rfl⟩ (by show((l.length:Int)-1+1).toNat<_;omega) (λs hs=> ?_)) (λx hx=> ?_));refine tI (λe=> ?_) (λ_=>tR hs.2.2);have e:=dTT e;have hr:inR s.1 s.2.length=true:=a0c cV cV;refine tY hr (tY hr (tI (λ_=>tY hr (tY hr (tY hr (tY hr (tR ((p0X _ _ _).trans hs.2.2)))))) (λ_=>tY hr (tY hr (tR ?_)))));rw[w64 (n:=s.1-1) cV cV];exact⟨⟨by show-1<=s.1-1;omega,by show s.1-1<_;omega,(p0X _ _ _).trans hs.2.2⟩,by show(s.1-1+1).toNat<_;omega⟩
  cases x with
  |inl r=>exact tY (a0f dA) (tR dA)
  |inr r=>show r.length<=_;omega
theorem K0r (hl:l.length<=100000):Tot (d0B l) (λr=>r.length=l.length):=by
  unfold d0B;rw[w64 (n:=(l.length:Int)-1) cV cV];refine tL (λs:Int×Int×List Int=>0<=s.1/\s.2.1<l.length/\s.2.2.length=l.length/\ -1<=s.2.1/\s.1<=l.length) (λs=>(s.2.1-s.1+1+100002).toNat) ⟨by show(0:Int)<=0;omega,by show(l.length:Int)-1<_;omega,rfl,by show-1<=(l.length:Int)-1;omega,by show(0:Int)<=_;omega⟩ (by show((l.length:Int)-1-0+1+100002).toNat<_;omega) (λs hs=>tI (λe=> ?_) (λ_=>tR hs.2.2.1));have e:=dTT e;have h1:inR s.1 s.2.2.length=true:=a0c cV cV;have h2:inR s.2.1 s.2.2.length=true:=a0c cV cV;refine tY h2 (tY h2 (tY h1 (tY h1 (tY h1 (tY h1 ?_)))));rw[p0X];refine tY h2 (tY h2 (tR ?_));rw[w64 (n:=s.1+1) cV cV,w64 (n:=s.2.1-1) cV cV];simp only[p0X];exact⟨⟨by show 0<=s.1+1;omega,by show s.2.1-1<_;omega,hs.2.2.1,by show-1<=s.2.1-1;omega,by show s.1+1<=_;omega⟩,by show(s.2.1-1-(s.1+1)+1+100002).toNat<(s.2.1-s.1+1+100002).toNat;omega⟩
theorem wle(n:Int): -9223372036854775808<=oA .i64 n/\oA .i64 n<9223372036854775808:=by have h:=z0y n;unfold inI at h;omega
theorem A0t (hl:l.length<=100000)(hc:c<9223372036854775808):Tot (a0n (fun(s1:Int×(List Int))=>(bif(wB (s1.1>0))then(bif room (s1.2.length+(([(oA .u8 (jC s1.1 10))]:List Int)).length)then(qB (.inl ((oA .i64 (wD s1.1 10)),(s1.2++(([(oA .u8 (jC s1.1 10))]:List Int))))))else none)else(qB (.inr s1.2)))) big (c,l)) (λr=>r.length<=l.length+19):=by
  refine tL (λs:Int×List Int=> ∃j:Nat,s.1<(10:Int)^j/\s.2.length+j<=l.length+19/\s.1<9223372036854775808) (λs=>s.1.toNat) ⟨19,by show c<_;omega,dB,hc⟩ (by show c.toNat<_;omega) (λs hs=> ?_);obtain⟨j,h1,h2,h3⟩:=hs;refine tI (λe=> ?_) (λ_=>tR cV);have e:0<s.1:=dTT e;refine tY (a0f dA) (tR ?_);have hd:wD s.1 10=s.1/10:=bw cV;rw[hd,w64 (n:=s.1/10) cV cV];refine⟨?_,by show(s.1/10).toNat<s.1.toNat;omega⟩
  cases j with
  |zero=>simp at h1;omega
  |succ j=>
    refine⟨j, ?_,dA,by show s.1/10<_;omega⟩;show s.1/10<_;rw[Int.pow_succ]at h1;omega
theorem H0O (hl:l.length<=5000):Tot (j0W l k) (λr=>r.length<=l.length+19):=by
  unfold j0W;rw[w64 (n:=(l.length:Int)-1) cV cV];refine tB (p:=λr:Int×List Int=>r.1<9223372036854775808/\r.2.length<=l.length) (tL (λs:Int×Int×List Int=>s.1<9223372036854775808/\ -1<=s.2.1/\s.2.1<l.length/\(s.2.2.length:Int)+s.2.1+1=l.length) (λs=>(s.2.1+1).toNat) ⟨by show(0:Int)<_;decide,by show(-1:Int)<=l.length-1;omega,by show(l.length:Int)-1<_;omega,dB⟩ (by show((l.length:Int)-1+1).toNat<_;omega) (λs hs=> ?_)) (λs hs=>tB (A0t cV hs.1) (λr hr=>tB (K0r cV) (λq hq=>tR cV)));refine tI (λe=> ?_) (λ_=>tR ⟨hs.1,by show s.2.2.length<=_;omega⟩);have e:=dTT e;refine tY (a0c cV cV) (tY (a0f dA) (tR ?_));rw[w64 (n:=s.2.1-1) cV cV];refine⟨⟨(wle _).2,by show-1<=s.2.1-1;omega,by show s.2.1-1<_;omega,dA⟩,by show(s.2.1-1+1).toNat<(s.2.1+1).toNat;omega⟩
theorem I0e(m:Int):Tot (l0R m) (λr=>r=yB->0<=m/\m<=7):=by
  unfold l0R;exact tB (p:=λr=>r=yB->0<=m/\m<=7) (tI (λe=>tR (λh=>⟨by have:=dTT e;omega,dTT h⟩)) (λ_=>tR cW)) (λ_ h=>tR h)
theorem w0r (hl:l.length<=3001):Tot (bif b then(jB (d0C l) λy=>qB y)else qB l) (λr=>r.length<=3002):=
  tI (λ_=>tB (I0d cV) (λ_ h=>tR cV)) (λ_=>tR cV)
theorem z0A(a b c:Bool)(n:Int):Tot (c0W a b c n) (λ_=>True):=by
  unfold c0W;exact zC (tI cX (λ_=>tI cX cX)) dD
theorem G0Q {p:Int} (hl:d.D_.length<=4294967296):Tot (l0p d k p m) (λr=>m0W r.1):=by
  have z:m0W (⟨vB,([]:List Int),0⟩:b0v):=⟨dB,dC,dC⟩
  unfold l0p;refine tJ (tB (p:=λc=>c=vB->(0<=m/\m<=7)/\(1<=k/\ -1000<=p/\p<=1000)/\m0W d) ?_ (λc hc=>tI (λ_=>tR z) (λe=>tR ?_)))
  · refine tB (I0e m) (λa ha=>tI (λ_=>tR cW) (λe1=>tB (H0W k p) (λb hb=>tI (λ_=>tR cW) (λe2=>tB (s0y hl) (λc hc=>tR (λe3=>⟨ha (by cases a<;>simp_all),hb (by cases b<;>simp_all),hc (by cases c<;>simp_all)⟩))))))
  obtain⟨hm,hk,hd⟩:=hc e;refine tB (F0y hd hk.1 hk.2) (λy hy=>tJ (zC (tI (λ_=>tB (z0Q _ _) dD) cX) (λc _=>tI (λ_=>tB (z0g (by have:=hd.1;omega)) (λ_ h=>tR h)) (λ_=>tR ?_))));refine zC (tI (λe=> ?_) cX) (λs _=>tB (K0q _ _ _ _) (λh _=>tB (p:=λr:List Int=>r.length<=3002) ?_ (λr hr=>tB (H0O cV) (λt ht=>tB (z0g cV) (λ_ h=>tR h)))));have e:=dTT e;rw[w64 (n:=(y.1.length:Int)-1) cV cV];have hr:inR ((y.1.length:Int)-1) y.1.length=true:=a0c cV cV;exact tY hr (tY hr (tR trivial));unfold j0u k0G k0F h0A h0z h0y h0x h0w h0v;simp only[ai];refine tI (λ_=>w0r hy) (λe0=>tI (λ_=>w0r hy) (λe1=>tI (λ_=>w0r hy) (λe2=>tI (λ_=>w0r hy) (λe3=>tI (λ_=>tB (tB (z0A _ _ _ _) dD) (λ_ _=>w0r hy)) (λe4=>tI (λ_=>tB (tB (z0A _ _ _ _) dD) (λ_ _=>w0r hy)) (λe5=>tI (λ_=>tB (tB (z0A _ _ _ _) dD) (λ_ _=>w0r hy)) (λe6=>tI (λ_=>tB (tB (z0A _ _ _ _) dD) (λ_ _=>w0r hy)) (λe7=> ?_))))))));have:=dFF e0;have:=dFF e1;have:=dFF e2;have:=dFF e3;have:=dFF e4;have:=dFF e5;have:=dFF e6;have:=dFF e7;omega
theorem C0F (hl:d.D_.length<=100000):Tot (j0Y d n m) (λr=>m0W r.1):=by
  have z:m0W (⟨vB,([]:List Int),0⟩:b0v):=⟨dB,dC,dC⟩
  unfold j0Y;refine tJ (zC (tI cX (λ_=>tB (I0e m) (λa _=>tI cX (λ_=>tB (s0y cV) (λ_ _=>tR trivial))))) (λc _=>tI (λ_=>tR z) (λ_=>tR ?_)));refine tJ (zC (tI cX (λ_=>tB (t0K _) (λ_ _=>tR trivial))) (λc _=>tI (λ_=>tB (z0g hl) (λ_ h=>tR h)) (λ_=>tR ?_)));exact tB (t0K _) (λ_ _=>tB (G0Q cV) (λ_ h=>tR h))
theorem K0l {p:Int} (hl:d.D_.length<=100000):Tot (o0o d p m) (λr=>m0W r.1):=by
  unfold o0o;exact tB (G0Q cV) (λ_ h=>tR h)
theorem F0l (hl:d.D_.length<=100000):Tot (j0R p g d m) (λr=>m0W r.1):=by
  unfold j0R;exact tI (λ_=>tB (o0v _) (λ_ _=>tB (C0F hl) (λ_ h=>tR h))) (λ_=>tI (λ_=>tB (C0F hl) (λ_ h=>tR h)) (λ_=>tI (λ_=>tB (K0l hl) (λ_ h=>tR h)) (λ_=>tB (K0l hl) (λ_ h=>tR h))))
theorem s0L (hd:m0W d):Tot (h0Q d n) (λr=>m0W r.1):=by
  have z:m0W (⟨vB,([]:List Int),0⟩:b0v):=⟨dB,dC,dC⟩
  have hd0:=hd;obtain⟨h1,h2,h3⟩:=hd;unfold h0Q;refine tJ (zC (tI cX cX) (λc _=>tI (λ_=>tR z) (λ_=>tR ?_)));rw[E0y cV,ai];refine tI (λ_=>tR ⟨h1,h2,h3⟩) (λ_=>tJ (tB (p:=λc=>c=vB-> -1000<=oA .i64 (d.E_+n)/\oA .i64 (d.E_+n)<=1000) (tI (λ_=>tR cW) (λe=>tR (λh=>⟨by have:=dFF e;omega,by have:=dFF h;omega⟩))) (λc hc=>tI (λ_=>tR z) (λe=>tR (tR ⟨h1,hc e⟩)))))
/-! Numbers, spelled in a pattern's shape: they answer, and are not long. -/
theorem L0B (hd:m0W d):Tot (l0l p d) (λr=>m0W r.1/\ -1000<=r.2/\r.2<=2000):=by
  unfold l0l;refine tI (λ_=>tR ⟨hd,by show(-1000:Int)<=0;decide,by show(0:Int)<=2000;decide⟩) (λ_=>tB (t0K d) (λm hm=>tB (s0L hd) (λr hr=>tR ⟨hr,hm hd⟩)))
theorem A0a {a b:Int} (h1:a<=c)(h2:b<=c):s0e a b<=c:=by unfold s0e;split<;>omega
theorem H0a {a b:Int} (h1:c<=a):c<=s0e a b:=by unfold s0e;split<;>omega
theorem J0I (hd:m0W d):Tot (j0P p d) (λr=>0<=r/\r<=2001):=by
  unfold j0P;refine tB (o0v _) (λy hy=>tB (p:=λs:Int=>0<=s/\s<=1000) (zC (tI cX cX) (λb _=>tI (λ_=>tR ⟨dC,dC⟩) (λ_=>tR hy))) (λs hs=>tI (λ_=>tR ⟨hs.1,cV⟩) (λ_=>tB (t0K d) (λm hm=>tR ?_))));have:=hm hd;rw[w64 (n:=m+1) cV cV];exact⟨H0a hs.1,A0a cV cV⟩
theorem E0e {x0:Int} (h1:x1<=5000):Tot (d0g x0 x1 b l e) (λr=>r.length<=5000):=by
  unfold d0g;refine tB (tL (λs:Int×List Int=>0<=s.1/\(s.1<=x1\/s.2.length=0)/\(s.2.length:Int)=s.1) (λs=>(x1-s.1).toNat) ⟨by show(0:Int)<=0;decide, .inr rfl,rfl⟩ (by show(x1-0).toNat<_;omega) (λs hs=>tI (λc=> ?_) (λc=>tR cV))) (λr hr=>tR hr);have c:=dTT c;refine tB (J0u _ _) (λy _=>tY (a0f dA) (tR ?_));rw[w64 (n:=s.1+1) cV cV];exact⟨⟨by show 0<=s.1+1;omega, .inl (by show s.1+1<=x1;omega),by show((s.2++ [y]).length:Int)=s.1+1;simp;omega⟩,by show(x1-(s.1+1)).toNat<(x1-s.1).toNat;omega⟩
theorem G0D (hd:m0W d):Tot (i0D p x1 d) (λr=>r<=3000):=by
  unfold i0D;refine tB (o0v _) (λy0 h0=>tB (p:=λs:Int=>s<=3000) (tI (λ_=>tR cV) (λ_=>tI (λ_=>tB (o0v _) (λy1 h1=>tB (t0K d) (λm hm=>tR ?_))) (λ_=>tI (λ_=>tB (o0v _) (λy3 h3=>tR cV)) (λ_=>tR cV)))) (λs hs=>tR ?_));have:=hm hd;rw[w64 (n:=y1-1) cV cV,w64 (n:=y1-1-m) cV cV];omega;obtain⟨_,h2,h3⟩:=hd;rw[w64 (n:=0-d.E_) cV cV];exact A0a (A0a dC hs) cV
theorem x0J (hl:d.D_.length<=4294967296):Tot (g0e p x1 d) (λr=>r.1.length<=5000/\r.2.1.length<=5000/\ -1000<=r.2.2/\r.2.2<=2000):=by
  unfold g0e;refine tB (s0y hl) (λy5 h5=>tI (λ_=>tR ⟨dB,dB,dC,dC⟩) (λe=> ?_));have hd:m0W d:=h5 (by cases y5<;>simp_all);exact tB (L0B hd) (λy0 h0=>tB (J0I h0.1) (λy1 h1=>tB (E0e cV) (λy3 h3=>tB (G0D h0.1) (λy2 h2=>tB (E0e cV) (λy4 h4=>tR ⟨h3,h4,h0.2.1,h0.2.2⟩)))))
theorem M0P(a b c:Int):Tot (s0I a b c) (λ_=>True):=by
  unfold s0I;refine tJ (zC (tI cX cX) (λs _=>tI cX (λ_=>tR (zC (tI cX (λ_=>tI (λe=>tY (z0X.2 (by have:=dTT e;omega)) (tR trivial)) cX)) dD))))
theorem z0E {a b:Int} (hl:l.length<=5000):Tot (i0e s l a b) (λr=>r.length<=10000):=by
  unfold i0e;refine tB (tW (λs:Int×List Int=>s.1) l.length (λs=>(s.2.length:Int)<=2*s.1) cV ⟨dB,dB,dB⟩ (λs hs h0 h1=>tY (dT h1) (tB (p:=λr:List Int=>(r.length:Int)<=2*s.1+2) (tB (p:=λr:List Int=>(r.length:Int)<=2*s.1+1) (zC (tI (λ_=>tB (M0P _ _ _) dD) cX) (λc _=>tI (λ_=>tY (a0f dA) (tR dA)) (λ_=>tR cV))) (λr hr=>tY (a0c h0 h1) (tY (a0f dA) (tR dA)))) (λr hr=>tR ⟨?_,w64 (n:=s.1+1) cV cV⟩))) (λs hs e=>tN (dF cV) (tR cV))) (λr hr=>tR hr);show(r.length:Int)<=2*oA .i64 (s.1+1);rw[w64 (n:=s.1+1) cV cV];omega
theorem E0q (hl:l.length<=5000):Tot (i0f s l) (λr=>r.length<=5000):=by
  unfold i0f;refine tB (tW (λs:Int×List Int=>s.1) l.length (λs=>(s.2.length:Int)=s.1) cV ⟨dB,dB,dB⟩ (λs hs h0 h1=>tY (dT h1) (tY (a0c h0 h1) (tY (a0f dA) (tR ⟨?_,w64 (n:=s.1+1) cV cV⟩)))) (λs hs e=>tN (dF cV) (tR cV))) (λr hr=>tR hr);rw[w64 (n:=s.1+1) cV cV];simp;omega
theorem H0R: ∀(m n:Nat) (x0 x1:Int),m<n->m<=4000->0<=x0-> -10000<=x1-x0->x0+s0e x1 0<=m->Tot (f0K n x0 x1) (λr=>r.length<=m):=by
  intro m
  induction m with
  |zero=>
    intro n x0 x1 hn hm h0 hd hs
    obtain⟨n,rfl⟩: ∃k,n=k+1:=⟨n-1,cV⟩
    unfold f0K;have e:x0=0/\x1<1:=by unfold s0e at hs;split at hs<;>omega
    rw[e.1];exact tJ (tB (p:=λr=>r=yB) (tY rfl (tR (dT e.2))) (λs h=>tY h (tR (by show([]:List Int).length<=0;simp))))
  |succ m ih=>
    intro n x0 x1 hn hm h0 hd hs
    obtain⟨n,rfl⟩: ∃k,n=k+1:=⟨n-1,cV⟩
    unfold f0K;refine tJ (tB (p:=λr=>r=vB->x0≠0\/1<=x1) (tI (λe=>tR (λh=>by have:=dFF h;omega)) (λe=>tR (λ_=> .inl (dFF e)))) (λs h=>tI (λ_=>tR (by show([]:List Int).length<=_;simp)) (λe=>tR ?_)));have h:=h e;have hb:x0<=4001/\x1<=4001:=by unfold s0e at hs;split at hs<;>omega
    have ht:wD x0 10=x0/10:=bw h0;show Tot (jB (f0K n _ _) _) _;rw[ht,w64 (n:=x0/10) cV cV,w64 (n:=x1-1) cV cV];refine tB (ih n (x0/10) (x1-1) cV cV cV cV (by unfold s0e at hs⊢;split at hs<;>split<;>omega)) (λy hy=>tY (a0f dA) (tR dA))
theorem L0h (h1: -1000<=e)(h2:e<=2000):Tot (g0z s p e) (λr=>r.length<=6000):=by
  unfold g0z;refine tB (p:=λr:Int×List Int=>0<=r.1/\r.1<=2000/\r.2.length<=1) (tI (λc=>tY (a0f dB) (tR ?_)) (λc=>tI (λ_=>tY (a0f dB) (tR ⟨by have:=dFF c;show 0<=e;omega,h2,dB⟩)) (λ_=>tR ⟨by have:=dFF c;show 0<=e;omega,h2,dB⟩))) (λr hr=>tB (o0v _) (λk hk=>tB (H0R 4000 big r.1 k (by unfold big;omega) cV hr.1 cV (by unfold s0e;split<;>omega)) (λy hy=>tB (E0q cV) (λz hz=>tY (a0f cV) (tR dA)))));have c:=dTT c;rw[w64 (n:=0-e) cV cV];exact⟨by show 0<=0-e;omega,by show 0-e<=2000;omega,dB⟩
theorem H0I (hl:d.D_.length<=4294967296):Tot (j0Q s p g d) (λr=>r.length<=30000):=by
  unfold j0Q;refine tB (x0J hl) (λy0 h0=>tB (z0E h0.1) (λy1 h1=>tB (p:=λr:List Int=>r.length<=15001) (tI (λ_=>tY (a0f dA) (tB (E0q h0.2.1) (λy2 h2=>tY (a0f dA) (tR dA)))) (λ_=>tR cV)) (λr hr=>tB (p:=λr:List Int=>r.length<=30000) (tI (λ_=>tY (a0f dA) (tB (L0h h0.2.2.1 h0.2.2.2) (λy3 h3=>tY (a0f dA) (tR dA)))) (λ_=>tR cV)) (λq hq=>tR hq))))
/-! Rows of pads, and rows put together. -/
theorem L0D(x:Int):0<=bits .and .u64 x 4294967295/\bits .and .u64 x 4294967295<=4294967295:=by
  have h:(BitVec.ofInt 64 x&&&BitVec.ofInt 64 4294967295).toNat<=4294967295:=by
    rw[BitVec.toNat_and];exact aG Nat.and_le_right dC
  show 0<=oA .u64 ((BitVec.ofInt 64 x&&&BitVec.ofInt 64 4294967295).toNat:Int)/\oA .u64 ((BitVec.ofInt 64 x&&&BitVec.ofInt 64 4294967295).toNat:Int)<=4294967295;rw[J0O cV cV];omega
theorem I0z (h0:0<=k)(h1:k<=4294967295):l0D 1 k=qB (0,k):=by
  have ha:bits .and .u64 1 4294967295=1:=by decide+kernel
  have hz:bits .and .u64 0 4294967295=0:=by decide+kernel
  have f1:vF 1 4294967296=0:=by decide
  have fz:vF 0 4294967296=0:=by decide
  have fk:vF k 4294967296=0:=by rw[cD _ dC];omega
  have hb:=L0D k;have fb:vF (bits .and .u64 k 4294967295) 4294967296=0:=by rw[cD _ dC];omega
  have z:oA .u64 0=0:=by decide
  unfold l0D;simp only[f1,fk,ha,Int.zero_mul,Int.mul_zero,z,Int.one_mul,J0O hb.1 cV,fb,Int.add_zero,hz,fz,J0O h0 cV]
theorem M0k (h0:0<=k)(h1:k<=4000000000):Tot (h0q [x] k) (λr=>(r.length:Int)=k):=by
  unfold h0q;have z:oA .u64 (([x]:List Int).length:Int)=1:=by show oA .u64 1=1;decide
  rw[z,J0O h0 cV];have hm:q0M 1 k=qB (0,k):=by unfold q0M;rw[I0z h0 cV];rfl
  rw[hm];refine zC (tN (dF cV) (tR trivial)) (λ_ _=>tB (p:=λy=>y=((0:Int),k)) (tR rfl) (λy hy=> ?_));subst hy;refine zC (tB (p:=λb=>b=vB) (tN (dF (by show¬(0:Int)>0;decide)) (tR (dF (by show¬k>_;omega)))) (λb hb=>tN hb (tR trivial))) (λ_ _=> ?_);show Tot (bif mk (oA .i64 k) (oA .i64 k)then _ else none) _;rw[w64 (n:=k) cV cV];refine tY (K0M h0 cV cV) (tB (tL (λs:Int×List Int=>(s.2.length:Int)=k/\s.1<=k/\(k=0/\0<=s.1\/1<=s.1)) (λs=>(k-s.1).toNat) ?_ ?_ (λs hs=>tI (λe=> ?_) (λe=>tR hs.1))) (λr hr=>tR hr));have hr:((rep k (0:Int)).length:Int)=k:=by simp[rep];omega
  refine⟨?_, ?_, ?_⟩;show((v0w (rep k (0:Int)) [x]).length:Int)=k;simp[v0w,rep];omega;show((min 1 (rep k (0:Int)).length:Nat):Int)<=k;omega;show k=0/\0<=((min 1 (rep k (0:Int)).length:Nat):Int)\/1<=((min 1 (rep k (0:Int)).length:Nat):Int);omega;show(k-((min 1 (rep k (0:Int)).length:Nat):Int)).toNat<_;omega;have e:=dTT e;obtain⟨g1,g2,g3⟩:=hs;have g1:(s.2.length:Int)=k:=g1;have g3:k=0/\0<=s.1\/1<=s.1:=g3;have g5:s.1<(s.2.length:Int):=e;have g4:1<=s.1:=by omega
  have c2:(wB (s.1.toNat<=s.2.length)&&wB (s.1.toNat<=s.2.length))=true:=by simp;omega
  refine tY (a0c cV cV) (tY (by simp[cQ];omega) (tY c2 (tR ?_)));have hl:=E0s c2;have hw:((min s.1.toNat (s.2.length-s.1.toNat):Nat):Int)<=k-s.1/\1<=((min s.1.toNat (s.2.length-s.1.toNat):Nat):Int):=by omega
  rw[w64 cV cV];exact⟨⟨by rw[hl];exact g1,by show s.1+_<=k;omega, .inr (by show 1<=s.1+_;omega)⟩,by show(k-(s.1+_)).toNat<(k-s.1).toNat;omega⟩
theorem I0U (h0:0<=k)(h1:k<=4000000000):j0O [] k=qB []:=by
  unfold j0O;have z:oA .i64 (0-0)=0:=by decide
  rw[z,w64 (n:=k-0) cV cV,dF (cV: ¬k<0)];by_cases c:k-0>0;rw[dT c,dT (cV:(0:Int)<=k-0),a0f (cV:(k-0).toNat<=4294967296)];have hb:qE 0 (rep (k-0) (0:Int)).length=true:=by simp[rep,cQ];omega
  rw[hb];rfl;rw[dF c];rfl
theorem G0y {l:List (List Int)} {m:Nat} (hn:l.length<=10)(hm:m<=100000000)(hl: ∀x∈l,x.length<=m):Tot (h0r l) (λr=>r.length<=10*m):=by
  unfold h0r;refine tB (tW (λs:Int×Int=>s.2) l.length (λs:Int×Int=>0<=s.1/\s.1<=(m:Int)*s.2) (post:=λr:Int=>0<=r/\r<=10*(m:Int)) cV ⟨⟨by show(0:Int)<=0;decide,by show(0:Int)<=m*0;simp⟩,by show(0:Int)<=0;decide,by show(0:Int)<=_;omega⟩ (λs hs h0 h1=>tY (dT h1) ?_) (λs hs e=>tN (dF cV) (tR ⟨hs.1, ?_⟩))) (λk hk=>tB (p:=λr=>r=[]) ⟨[],I0U hk.1 cV,rfl⟩ (λy hy=> ?_));have hx:=hl _ (d0c h0 h1);have:(m:Int)*s.2<=m*10:=bT cV cV;have w:=w64 (n:=s.1+((nth l s.2).length:Int)) cV cV;rw[w];refine zC (tY (a0c h0 h1) (tN (dF cV) (tR trivial))) (λ_ _=>tR ?_);rw[w64 (n:=s.2+1) cV cV];exact⟨⟨by show 0<=s.1+_;omega,by show s.1+_<=m*(s.2+1);rw[Int.mul_add];omega⟩,rfl⟩;have:(m:Int)*s.2<=m*10:=bT cV cV;omega;subst hy;refine tB (tW (λs:Int×List Int=>s.1) l.length (λs=>(s.2.length:Int)<=m*s.1) (post:=λr=>r.length<=10*m) cV ⟨dB,dB,dB⟩ (λs hs h0 h1=>tY (dT h1) (tY (a0c h0 h1) ?_)) (λs hs e=>tN (dF cV) (tR ?_))) (λr hr=>tR hr);have hx:=hl _ (d0c h0 h1);have:(m:Int)*s.1<=m*10:=bT cV cV;refine tY (a0f cV) (tR ?_);rw[w64 (n:=s.1+1) cV cV];exact⟨by show((s.2++nth l s.1).length:Int)<=m*(s.1+1);rw[Int.mul_add];simp;omega,rfl⟩;have:(m:Int)*s.1<=m*10:=bT cV cV;omega
/-! Plural operands and rules: they answer. -/
theorem nxn {s:Int} {n:Nat} (h0:0<=s)(h1:s<=n)(hn:n<=4294967296):oA .i64 (s+1)=s+1:=w64 (n:=s+1) cV cV
theorem z0V (hl:l.length<=4294967296):Tot (f0c l) (λ_=>True):=by
  unfold f0c;exact Tot.joinT (Tot.srch l.length hl (λs h0 h1=>tY (dT h1) (tY (a0c h0 h1) (tI cX (λ_=>tR (nxn h0 cV hl))))) (λs e=>zE e trivial)) cX
theorem v0c (hl:l.length<=4294967296):Tot (h0f l) (λr=>r.length<=l.length):=by
  unfold h0f;refine tB (tL (λs:List Int=>s.length<=l.length) (λs=>s.length) (post:=λr:List Int=>r.length<=l.length) (aj _) cV (λs hs=>tJ (tB (p:=λb=>b=yB->0<s.length) (tI (λe=>tY (a0c dC (by have:=dTT e;omega)) (tR (λ_=>by have:=dTT e;omega))) (λ_=>tR cW)) (λb hb=>tI (λe=>tR (show Tot _ _ from ?_)) (λ_=>tR hs))))) (λs hs=>tB (p:=λr=>r=s) ⟨s,E0y cV,rfl⟩ (λr hr=>tR (by rw[hr];exact hs)));have h1:=hb e;refine tY (k0K dC cV cV) (tR ?_);have hc:(cut s 1 (s.length:Int)).length=s.length-1:=by simp[cut]
  exact⟨by show(cut s 1 (s.length:Int)).length<=_;omega,by show(cut s 1 (s.length:Int)).length<_;omega⟩
theorem z0T (hl:l.length<=4294967296):Tot (j0K l) (λr=>0<=r/\r<=l.length):=by
  unfold j0K;refine tB (tL (λs:Int=>0<=s/\s<=l.length) (λs=>s.toNat) (post:=λr:Int=>0<=r/\r<=l.length) ⟨cV,cV⟩ cV (λs hs=>tJ (tB (p:=λb=>b=yB->0<s) (tI (λe=> ?_) (λ_=>tR cW)) (λb hb=>tI (λe=>tR (show Tot _ _ from tR ?_)) (λ_=>tR hs))))) (λs hs=>tR hs);have:=dTT e;rw[w64 (n:=s-1) cV cV];exact tY (a0c cV cV) (tR (λ_=>this));have:=hb e;rw[w64 (n:=s-1) cV cV];exact⟨⟨cV,cV⟩,cV⟩
def x0g(o:g0x):Prop:=o.I_.length<=5000/\o.F_.length<=5000/\(0<=o.W_/\o.W_<=o.F_.length)/\0<=o.C_/\o.C_<=1000
theorem M0n {i f:List Int} (hi:i.length<=5000)(hf:f.length<=5000):Tot (t0k i f c) (λr=>x0g r.1):=by
  have z:x0g ⟨[],[],0,0⟩:=⟨dB,dB,⟨dC,dB⟩,dC,dC⟩
  unfold t0k;refine tJ (tB (p:=λb=>b=vB->0<=c/\c<=1000) (tB (z0V cV) (λa _=>tI (λ_=>tR cW) (λ_=>tB (z0V cV) (λb _=>tI (λ_=>tR cW) (λ_=>tI (λ_=>tR cW) (λe=>tR (λh=>⟨by have:=dFF e;omega,by have:=dFF h;omega⟩))))))) (λb hb=>tI (λ_=>tR z) (λe=>tR (show Tot _ _ from ?_))));exact tB (v0c cV) (λs hs=>tB (p:=λr=>r=f) ⟨f,E0y cV,rfl⟩ (λr hr=>tB (z0T cV) (λw hw=>tR ⟨by show s.length<=5000;omega,by show r.length<=5000;rw[hr];exact hf,⟨hw.1,by show w<=r.length;rw[hr];exact hw.2⟩,hb e⟩)))
theorem F0Q (h:x0g o):Tot (l0v o) (λ_=>True):=by
  obtain⟨h1,h2,_⟩:=h;unfold l0v;refine Tot.joinT (zC (tB (z0V cV) (λa _=>tI cX (λ_=>tB (z0V cV) (λb _=>tI cX (λ_=>tI (λe=>tY (a0c dC (by have:=dTT e;omega)) (tR trivial)) cX))))) (λ_ _=>tI cX cX)) (λ_=>zC (tB (z0T cV) (λw _=>tI (λ_=>tI cX cX) cX)) dD)
theorem s0t (h:n<9223372036854775808):Tot (i0l n) (λr=>r.length<=5000):=by
  unfold i0l;exact tB (A0t dB h) (λr hr=>tB (K0r (by simp at hr;omega)) (λq hq=>tR (by simp at hr;omega)))
theorem z0W (h:l.length<=5000):Tot (b0A l) (λr=>r.length<=5000):=⟨l,E0y cV,h⟩
theorem D0d (h:x0g o):Tot (i0N o c) (λr=>r.1.length<=5000):=by
  have hr:=F0Q h;obtain⟨h1,h2,h3,h4⟩:=h;have z:([]:List Int).length<=5000:=by simp
  unfold i0N d0y f0E g0i g0P g0j g0O h0H e0M;refine tB hr (λy _=>tI (λ_=>tR z) (λ_=>zC (tR trivial) (λ_ _=>tI (λ_=>tB (p:=λr:List Int×Bool=>r.1.length<=5000) (tI (λ_=>tR z) (λ_=>tB (z0W h1) (λ_ h=>tR h))) (λ_ h=>tR h)) (λ_=>tI (λ_=>tB (p:=λr:List Int×Bool=>r.1.length<=5000) (tB (z0W h1) (λ_ h=>tR h)) (λ_ h=>tR h)) (λ_=>tI (λ_=>tB (p:=λr:List Int×Bool=>r.1.length<=5000) (tB (s0t (by show(o.F_.length:Int)<_;omega)) (λ_ h=>tR h)) (λ_ h=>tR h)) (λ_=>tI (λ_=>tB (p:=λr:List Int×Bool=>r.1.length<=5000) (tB (s0t (by show o.W_<_;omega)) (λ_ h=>tR h)) (λ_ h=>tR h)) (λ_=>tI (λ_=>tB (p:=λr:List Int×Bool=>r.1.length<=5000) (tB (v0c (by show o.F_.length<=_;omega)) (λr h=>tR (by show r.length<=5000;have:r.length<=o.F_.length:=h;omega))) (λ_ h=>tR h)) (λ_=>tI (λ_=>tB (p:=λr:List Int×Bool=>r.1.length<=5000) (tY (k0K dC h3.1 h3.2) (tB (v0c ?_) (λr h=>tR ?_))) (λ_ h=>tR h)) (λ_=>tI (λ_=>tB (p:=λr:List Int×Bool=>r.1.length<=5000) (tB (s0t (by show o.C_<_;omega)) (λ_ h=>tR h)) (λ_ h=>tR h)) (λ_=>tI (λ_=>tB (p:=λr:List Int×Bool=>r.1.length<=5000) (tB (s0t (by show o.C_<_;omega)) (λ_ h=>tR h)) (λ_ h=>tR h)) (λ_=>tR z)))))))))));simp[cut];omega;have:(cut o.F_ 0 o.W_).length<=o.F_.length:=by simp[cut];omega
  show r.length<=5000;have h:r.length<=(cut o.F_ 0 o.W_).length:=h;omega
theorem K0F (hl:l.length<=4294967296):Tot (q0t l m) (λ_=>True):=by
  unfold q0t;refine tJ (tB (p:=λb=>b=vB->1<=m) (tI (λ_=>tR cW) (λe=>tR (λ_=>by have:=dFF e;omega))) (λb hb=>tI cX (λe=>tR (show Tot _ _ from ?_))));have:=hb e;exact zC (tW (λs:Int×Int=>s.2) l.length (λ_=>True) hl ⟨trivial,by show(0:Int)<=0;decide,by show(0:Int)<=_;omega⟩ (λs _ h0 h1=>tY (dT h1) (tY (a0c h0 h1) (tY (z0X.2 cV) (tR ⟨trivial,nxn h0 cV hl⟩)))) (λs _ e=>zE e trivial)) dD
theorem M0q {a b:Int} (hl:l.length<=4294967296):Tot (t0m l a b) (λ_=>True):=by
  unfold t0m;refine tB (v0c hl) (λq hq=>Tot.joinT (zC (tI cX cX) (λ_ _=>tI cX cX)) (λ_=>zC (tW (λs:Int×Int=>s.2) q.length (λ_=>True) cV ⟨trivial,by show(0:Int)<=0;decide,by show(0:Int)<=_;omega⟩ (λs _ h0 h1=>tY (dT h1) (tY (a0c h0 h1) (tR ⟨trivial,nxn h0 (bu h1) cV⟩))) (λs _ e=>zE e trivial)) (λ_ _=>zC (tI cX cX) dD)))
theorem L0c {r:List a0v} (hr:r.length<=400)(hl:l.length<=4294967296):Tot (b0G r l) (λ_=>True):=by
  unfold b0G d0x g0g;exact zC (Tot.joinT (Tot.srch r.length cV (λs h0 h1=>tY (dT h1) (tY (a0c h0 h1) (zC (tB (M0q hl) dD) (λ_ _=>tI cX (λ_=>tR (nxn h0 (bu h1) cV)))))) (λs e=>zE e trivial)) cX) dD
theorem L0b {r:List a0v} (hr:r.length<=400):Tot (b0F r n) (λ_=>True):=by
  unfold b0F d0w g0f;exact zC (Tot.joinT (Tot.srch r.length cV (λs h0 h1=>tY (dT h1) (tY (a0c h0 h1) (zC (zC (tI cX cX) dD) (λ_ _=>tI cX (λ_=>tR (nxn h0 (bu h1) cV)))))) (λs e=>zE e trivial)) cX) dD
theorem L0C {r:a0u} (hr:A0X r)(ho:x0g o):Tot (g0B r o.I_ o.F_ o.W_ o.C_) (λ_=>True):=by
  unfold g0B e0K;refine tB (D0d ho) (λy hy=>zC (tI (λ_=> ?_) cX) dD);refine zC (tI cX (λ_=>tB (K0F cV) dD)) (λx _=> ?_);exact tM (λ_ _=>tB (L0c hr.2.1 cV) dD) (λ_ _=>tB (L0b hr.2.1) dD)
theorem I0S {c:List (List a0u)} (hc:o0a c)(ho:x0g o):Tot (j0H c o) (λ_=>True):=by
  obtain⟨c1,c2⟩:=hc;unfold j0H k0E;refine zC (tR trivial) (λ_ _=>Tot.joinT (Tot.srch c.length cV (λs h0 h1=>tY (dT h1) (Tot.joinG (tY (a0c h0 h1) (Tot.mono (p:=y0e s) ?_ (λ_ h=>h))) (λ_=>tR (nxn h0 (bu h1) cV)))) (λs e=>zE e trivial)) cX);obtain⟨r1,r2⟩:=c2 _ (d0c h0 h1);refine tJ (tW (λs:Int=>s) (nth c s).length (λ_=>True) cV ⟨trivial,dC,cV⟩ (λq _ g0 g1=>tY (dT g1) (tY (a0c g0 g1) (tB (L0C (r2 _ (d0c g0 g1)) ho) (λ_ _=>tI cX (λ_=>tR ⟨trivial,nxn g0 (bu g1) cV⟩))))) (λq _ e=>tN (dF cV) (tR (show Tot _ _ from tR trivial))))
def C0Q(l:List c0q):Prop:=l.length<=1000/\ ∀x∈l,o0a x.C_
theorem K0w {l:List c0q} (hl:C0Q l)(ho:x0g o):Tot (t0h l o) (λ_=>True):=by
  obtain⟨l1,l2⟩:=hl;unfold t0h;exact Tot.joinT (Tot.srch l.length cV (λs h0 h1=>tY (dT h1) (tY (a0c h0 h1) (tB (I0S (l2 _ (d0c h0 h1)) ho) (λ_ _=>tI cX (λ_=>tR (nxn h0 (bu h1) cV)))))) (λs e=>zE e trivial)) cX
theorem F0L {l:List p0i} (hl:l.length<=1000):Tot (n0q l) (λr=>C0Q r.1):=by
  have z:C0Q []:=⟨dB,λx h=>by cases h⟩
  unfold n0q;refine tJ (tW (λs:Int×Int×List c0q=>s.2.1) l.length (λs=>(s.2.2.length:Int)<=s.2.1/\ ∀x∈s.2.2,o0a x.C_) cV ⟨⟨dB,λx h=>by cases h⟩,az _,dB⟩ (λs hs g0 g1=>tY (dT g1) ?_) (λs hs e=>tN (dF cV) (tR (show Tot _ _ from tR ⟨by show s.2.2.length<=1000;omega,hs.2⟩))));have e1:oA .i64 (s.2.1+1)=s.2.1+1:=w64 cV cV;rw[e1];refine tJ (tY (a0c g0 g1) ?_);refine zC ?_ (λy _=> ?_);unfold o0p j0I;exact zC (tI cX cX) dD;refine tI (λ_=>tR z) (λ_=> ?_);refine tB (z0H _) (λc hc=> ?_);refine tJ (zC (tI cX (λ_=>tB (F0A hc) dD)) (λ_ _=> ?_));refine tI (λ_=>tR z) (λ_=>tR (show Tot _ _ from ?_));refine tY (a0f dA) (tR (show Tot _ _ from tR ⟨⟨dA,λx hx=> ?_⟩,rfl⟩));rcases au.1 hx with h|h;exact hs.2 x h;rw[aR]at h;rw[h];exact hc
/-! What is written of a number: it answers. -/
def H0c(l:f0x):Prop:=(l.b_.d_.length<=100000/\l.b_.f_.length<=100000/\l.b_.m_.length<=100000/\l.b_.t_.length<=100000)/\l.K_.length<=8/\l.j_.length<=105/\(∀c∈l.j_,c.x_.length<=6000)/\l.c_.length<=95/\ ∀c∈l.c_,c.ad_.length<=6000
def u0T(w:e0E):Prop:=(0<=w.ac_.X_/\w.ac_.X_<=4)/\H0c w.l_/\j0f w.p_ 1000/\w.az_.length<=6100
theorem A0f (hl:l.length<=4294967296):Tot (a0z l) (λ_=>True):=by
  unfold a0z f0g e0F;exact zC (Tot.joinT (Tot.srch l.length hl (λs h0 h1=>tY (dT h1) (tY (a0c h0 h1) (zC (tB (N0o _) dD) (λ_ _=>tI cX (λ_=>tR (nxn h0 (bu h1) hl)))))) (λs e=>zE e trivial)) cX) dD
theorem z0p {s3:Int} {c:List Int} (hp:j0f p 1000)(hc:c.length<=6100)(hg:s3=g) {Z:Type} (z:Z):Tot (jB (e0x p s g c) λy1=>(jB (jB (a0z y1.h_) λy4=>(bif y4 then(qB yB)else(jB (a0z y1.i_) λy5=>(qB y5)))) fun(s4:Bool)=>(bif s4 then(qB (.inr z))else(qB (.inl g))))) (λx:Int⊕Z=>match x with| .inl s'=>s'=s3| .inr q=>q=z):=
  tB (z0t hp hc) (λa ha=>zC (tB (A0f (by have:=ha.1;omega)) (λ_ _=>tI cX (λ_=>tB (A0f (by have:=ha.2;omega)) dD))) (λ_ _=>tI (λ_=>tR rfl) (λ_=>tR hg.symm)))
theorem z0x (h:u0T w):Tot (d0h w) (λ_=>True):=by
  obtain⟨_,⟨_,_,_,_,hm,ht⟩,hp,hc⟩:=h;have h1: ∀x∈ [w.p_],j0f x 1000:=λx hx=>by rw[aR]at hx;rw[hx];exact hp
  unfold d0h;refine tB (p:=λq:List a0h=>q.length<=96/\ ∀x∈q,j0f x 1000) (tI (λ_=> ?_) (λ_=>tR ⟨dB,h1⟩)) (λq hq=>Tot.joinT (Tot.srch q.length cV (λs h0 h1=>tY (dT h1) (Tot.joinG (tY (a0c h0 h1) (tY (a0c h0 h1) (Tot.mono (p:=y0e s) ?_ (λ_ h=>h)))) (λ_=>tR (nxn h0 (bu h1) cV)))) (λs e=>zE e trivial)) cX);refine tW (λs:Int×List a0h=>s.1) w.l_.c_.length (λs=>(s.2.length:Int)<=s.1+1/\ ∀x∈s.2,j0f x 1000) cV ⟨⟨dB,h1⟩,by show(0:Int)<=0;decide,by show(0:Int)<=_;omega⟩ (λs hs h0 h1=>tY (dT h1) (tY (a0c h0 h1) (tB (v0g (by have:=ht _ (d0c h0 h1);omega)) (λy hy=>tY (a0f dA) (tR ?_))))) (λs hs e=>tN (dF cV) (tR ⟨cV,hs.2⟩));rw[nxn h0 (bu h1) cV];refine⟨⟨by show((s.2++ [y.1]).length:Int)<=s.1+1+1;simp;omega,λx hx=> ?_⟩,rfl⟩;rcases au.1 hx with h|h;exact hs.2 x h;rw[aR]at h;rw[h];exact hy
  · have hx:=hq.2 _ (d0c h0 h1)
    refine tW (λs:Int=>s) 3 (λ_=>True) cV ⟨trivial,dC,cV⟩ (λs3 _ g0 g1=>tY (dT g1) (tJ (tI (λe=>Tot.mono (z0p hx hc (dTT e) _) (λo ho=> ?_)) (λe0=>tI (λe=>Tot.mono (z0p hx hc (dTT e) _) (λo ho=> ?_)) (λe1=>tI (λe=>Tot.mono (z0p hx hc (dTT e) _) (λo ho=> ?_)) (λe2=>by have:=dFF e0;have:=dFF e1;have:=dFF e2;omega)))))) (λs3 _ e=>zE e trivial)
    all_goals
      cases o with
      |inl s'=>have ho:s'=s3:=ho;rw[ho];exact tR ⟨trivial,nxn g0 (bu g1) cV⟩
      |inr q=>have ho:q=_:=ho;rw[ho];trivial
theorem M0Q {l:f0x} {k:Int} (hl:H0c l)(hp:j0f p 1000)(hq:q.x_.length<=50) {x0:Int} {x2:List UInt8} {x4 x5 x6:Bool} {x7 x15 x16 x17 x18:List UInt8} {x8 x9 x10 x11 x12 x13 x14:Int} {x19 x21 x26 x27 x28 x29 x30 x31 x32 x33 x34 x35 x36 x37 x38 x39} {x22 x23 x24 x25:List a0b} (g1:x22.length<=1000)(g2:x23.length<=1000)(g3:x24.length<=1000)(g4:x25.length<=1000):Tot (c0b x0 x1 x2 q.x_ x4 x5 x6 x7 x8 x9 x10 x11 x12 x13 x14 x15 x16 x17 x18 x19 l.j_ x21 x22 x23 x24 x25 x26 x27 x28 x29 x30 x31 x32 x33 x34 x35 x36 x37 x38 x39) (λr=>r.2.1.length<=6100):=by
  obtain⟨_,_,hc,hs,_,_⟩:=hl;unfold c0b h0T c0A;refine tB (p:=λy:Int=>y<l.j_.length) (tJ (tW (λs:Int=>s) l.j_.length (λ_=>True) cV ⟨trivial,dC,cV⟩ (λs _ h0 h1=>tY (dT h1) (tY (a0c h0 h1) (zC (tR trivial) (λ_ _=>tI (λ_=>tR (show s<_ from h1)) (λ_=>tR ⟨trivial,nxn h0 (bu h1) cV⟩))))) (λs _ e=>tN (dF cV) (tR (show Tot _ _ from tR cV))))) (λy hy=>tI (λ_=>tR dB) (λe=> ?_));have e:=dFF e;refine tY (a0c cV hy) (tI (λ_=>tY (a0c cV hy) (tR ?_)) (λ_=>tB (I0A ⟨g1,g2,g3,g4⟩ cV) (λ_ _=>tR (by show q.x_.length<=6100;omega))));have:=hs _ (d0c (cV:(0:Int)<=y) hy);have:=w0G (nth l.j_ y).x_;show(g0A (nth l.j_ y).x_).length<=6100;omega
abbrev T17:=(List a0b)×(List a0b)×(List a0b)×(List a0b)×Bool×Int×Int×Int×Int×Int×Int×Int×Int×Int×Bool×Int×Int
def N0j(s:T17):Prop:=s.1.length<=1000/\s.2.1.length<=1000/\s.2.2.1.length<=1000/\s.2.2.2.1.length<=1000
theorem J0E {l:f0x} (hl:H0c l)(hq:q.x_.length<=50):Tot (i0J l q) (λr=>r.2=0->u0T r.1):=by
  have hl':=hl;obtain⟨⟨p0,p1,p2,p3⟩,_,hc,hs,_,_⟩:=hl;unfold i0J;refine tJ (tB (p:=λb=>b=vB->0<=q.X_/\q.X_<=4) (tI (λ_=>tR cW) (λe0=>tI (λ_=>tR cW) (λe1=>tB (I0e _) (λ_ _=>tR (λ_=>⟨by have:=dFF e0;omega,by have:=dFF e1;omega⟩))))) (λb hb=>tI (λ_=>tR (λh=>by have h:(9:Int)=0:=h;omega)) (λe=>tR (show Tot _ _ from ?_))));have hst:=hb e;refine tB (p:=λs:Int=>0<=s/\s<=3) (tI (λ_=>tR ⟨dC,dC⟩) (λe=>tR ⟨hst.1,by have:=dFF e;omega⟩)) (λk hk=>tB (p:=N0j) ?_ (λs hs=> ?_));refine tI (λ_=>tB (f0N p0) (λ_ h=>tR h)) (λe0=>tI (λ_=>tB (f0N p1) (λ_ h=>tR h)) (λe1=>tI (λ_=>tB (f0N p2) (λ_ h=>tR h)) (λe2=>tI (λ_=>tB (f0N p3) (λ_ h=>tR h)) (λe3=> ?_))));have:=dFF e0;have:=dFF e1;have:=dFF e2;have:=dFF e3;omega;obtain⟨s1,s2,s3,s4⟩:=hs;refine tJ (tB (p:=λr:Bool×List Int×Int=>r.2.1.length<=6100) (tI (λ_=>tB (M0Q hl' (p:=⟨s.1,s.2.1,s.2.2.1,s.2.2.2.1,vB,0,0,0,0,0,0,0,0,0,vB,0,0⟩) (k:=0) ⟨s1,s2,s3,s4⟩ hq s1 s2 s3 s4) (λy hy=>tI (λ_=>tR hy) (λ_=>tI (λ_=>tB (z0x ⟨hst,hl',⟨s1,s2,s3,s4⟩,hy⟩) (λ_ _=>tR hy)) (λ_=>tR hy)))) (λ_=>tI (λ_=>tB (z0x ⟨hst,hl',⟨s1,s2,s3,s4⟩,dB⟩) (λ_ _=>tR dB)) (λ_=>tR dB))) (λr hr=>tI (λ_=>tR (λh=>by have h:(9:Int)=0:=h;omega)) (λ_=>tR (show Tot _ _ from tR (λ_=>⟨hst,hl',⟨s1,s2,s3,s4⟩,hr⟩)))))
theorem w0b (hd:m0W d):Tot (a0V w d) (λr=>m0W r.1):=by
  unfold a0V;exact tB (F0l (by have:=hd.1;omega)) (λ_ h=>tR h)
theorem N0x:m0W ⟨vB,[],0⟩:=⟨dB,dC,dC⟩
theorem L0d (hd:m0W d):Tot (c0E w d) (λr=>m0W r.1):=by
  unfold c0E;exact tB (s0L hd) (λy hy=>tI (λ_=>tR N0x) (λ_=>tB (w0b hy) (λz hz=>tI (λ_=>tR N0x) (λ_=>tB (s0L hz) (λ_ h=>tR h)))))
theorem I0D :Tot (i0j d) (λ_=>True):=by
  unfold i0j;exact tB (t0K d) (λ_ _=>tR trivial)
theorem C0V {l:f0x} (hl:H0c l):Tot (h0e l n) (λ_=>True):=by
  obtain⟨_,_,_,_,hm,ht⟩:=hl;unfold h0e l0x;rw[w64 (n:=(l.c_.length:Int)-1) cV cV];refine Tot.joinT (tL (λs:Int=> -1<=s/\s<l.c_.length) (λs=>(s+1).toNat) ⟨cV,cV⟩ cV (λs hs=>tI (λe=> ?_) cX)) cX;have e:=dTT e;refine tY (a0c cV cV) (tI (λ_=>tB (v0g (by have:=ht _ (d0c (cV:(0:Int)<=s) cV);omega)) (λ_ _=>zC (tR trivial) dD)) (λ_=>tR ?_));rw[w64 (n:=s-1) cV cV];exact⟨⟨cV,cV⟩,cV⟩
theorem J0C (hw:u0T w)(hd:m0W d):Tot (c0c w d) (λr=>m0W r.1):=by
  unfold c0c;exact tB I0D (λ_ _=>tB (C0V hw.2.1) (λ_ _=>tB I0D (λ_ _=>tB (C0F (by have:=hd.1;omega)) (λ_ h=>tR h))))
theorem C0I (hw:u0T w)(hd:m0W d):Tot (d0p w d) (λr=>m0W r.1):=by
  unfold d0p;refine tI (λ_=>tB (w0b hd) (λ_ h=>tR h)) (λe0=>tI (λ_=>tB (L0d hd) (λ_ h=>tR h)) (λe1=>tI (λ_=>tB (w0b hd) (λ_ h=>tR h)) (λe2=>tI (λ_=>tB (w0b hd) (λ_ h=>tR h)) (λe3=>tI (λ_=>tB (J0C hw hd) (λ_ h=>tR h)) (λe4=> ?_)))));have:=dFF e0;have:=dFF e1;have:=dFF e2;have:=dFF e3;have:=dFF e4;have:=hw.1;omega
theorem G0L :Tot (d0D w d) (λ_=>True):=by
  unfold d0D;exact tI cX (λ_=>tI cX cX)
theorem K0y {a:g0K} {o:List Int} (hp:j0f p 1000)(ha:B0P a)(ho:o.length<=20000000):Tot (k0c p a o) (λr=>r.length<=200000000):=by
  obtain⟨a1,a2⟩:=ha;unfold k0c;refine tB (p:=inB) (tI (λ_=>tB (K0b hp) (λy hy=>tR ?_)) (λ_=>tR ⟨dC,dC⟩)) (λk hk=>tB (M0k hk.1 (by have:=hk.2;omega)) (λy hy=>tB (p:=λs:List Int×List Int×List Int×List Int=>s.1.length<=20000000/\s.2.1.length<=20000000/\s.2.2.1.length<=20000000/\s.2.2.2.length<=20000000) ?_ (λs hs=>tB (G0y (m:=20000000) dB cV (λx hx=> ?_)) (λ_ h=>tR cV))));obtain⟨y1,y2⟩:=hy;rw[w64 (n:=y-a.h_.length) cV cV,w64 (n:=y-a.h_.length-o.length) cV cV,w64 (n:=y-a.h_.length-o.length-a.i_.length) cV cV];exact⟨H0a cV,A0a cV cV⟩;have hy:y.length<=20000000:=by have:=hk.2;omega
  have z:([]:List Int).length<=20000000:=by simp
  exact tI (λ_=>tR ⟨hy,z,z,z⟩) (λ_=>tI (λ_=>tR ⟨z,hy,z,z⟩) (λ_=>tI (λ_=>tR ⟨z,z,hy,z⟩) (λ_=>tI (λ_=>tR ⟨z,z,z,hy⟩) (λ_=>tR ⟨z,z,z,z⟩))))
  · obtain⟨h1,h2,h3,h4⟩:=hs
    simp only[aS,cB,or_false]at hx;rcases hx with rfl|rfl|rfl|rfl|rfl|rfl|rfl<;>omega
theorem u0U (hw:u0T w)(hd:m0W d):Tot (b0L w d) (λr=>r.1.length<=200000000):=by
  unfold b0L;exact tB G0L (λ_ _=>tB (z0t hw.2.2.1 hw.2.2.2) (λa ha=>tB (H0I (by have:=hd.1;omega)) (λo ho=>tB (K0y hw.2.2.1 ha cV) (λ_ h=>tR h))))
theorem L0M:([]:List Int).length<=200000000:=by simp
theorem I0R (hw:u0T w)(hd:m0W d):Tot (c0Y w d) (λr=>r.1.length<=200000000):=by
  unfold c0Y;exact tB (s0L hd) (λy hy=>tI (λ_=>tR L0M) (λ_=>tB (u0U hw hy) (λ_ h=>tR h)))
theorem E0w (hw:u0T w)(ho:x0g o):Tot (d0q w n o) (λr=>j0f r 1000):=by
  obtain⟨_,⟨_,hr,_,_,hm,ht⟩,_,_⟩:=hw;unfold d0q;refine tB (F0L cV) (λy hy=>tB (K0w hy ho) (λc _=>tB (p:=λs:Int×Int×List UInt8=>s.2.2.length<=6000) ?_ (λs hs=>tB (v0g (by show s.2.2.length<=_;omega)) (λ_ h=>tR h))));refine tW (λs:Int×Int×Int×List UInt8=>s.1) w.l_.c_.length (λs=>s.2.2.2.length<=6000) cV ⟨dB,by show(0:Int)<=0;decide,by show(0:Int)<=_;omega⟩ (λs hs h0 h1=>tY (dT h1) (tB (p:=λr:Int×Int×List UInt8=>r.2.2.length<=6000) (tY (a0c h0 h1) (zC (tI (λ_=>tI cX cX) cX) (λ_ _=>tI (λ_=>tR (ht _ (d0c h0 h1))) (λ_=>tR hs)))) (λr hr=>tR ⟨hr,nxn h0 (bu h1) cV⟩))) (λs hs e=>tN (dF cV) (tR hs))
theorem E0Z (hw:u0T w)(hd:m0W d):Tot (d0W w d) (λr=>r.1.length<=200000000):=by
  have hw':=hw;obtain⟨_,hl,hp,hc⟩:=hw;unfold d0W;refine tB I0D (λ_ _=>tB (C0V hl) (λp _=>tB (s0L hd) (λy hy=>tI (λ_=>tR L0M) (λ_=>tB (x0J (by have:=hy.1;omega)) (λf hf=>tB (z0E hf.1) (λg hg=>tB (p:=λr:List Int=>r.length<=15001) (tI (λ_=>tY (a0f dA) (tB (E0q hf.2.1) (λy2 h2=>tY (a0f dA) (tR dA)))) (λ_=>tR cV)) (λo ho=>tB (p:=N0j) (tI (λ_=>tB (M0n hf.1 hf.2.1) (λq hq=>tB (E0w hw' hq) (λ_ h=>tR h))) (λ_=>tR hp)) (λt ht=>tB G0L (λ_ _=>tB (z0t ht hc) (λa ha=> ?_))))))))));obtain⟨a1,a2⟩:=ha;exact tY (a0f cV) (tY (a0f dA) (tR (by show((a.h_++o)++a.i_).length<=_;simp;omega)))
theorem B0X (hw:u0T w)(hd:m0W d):Tot (d0o w d) (λr=>r.1.length<=200000000):=by
  unfold d0o;refine tI (λ_=>tB (u0U hw hd) (λ_ h=>tR h)) (λe0=>tI (λ_=>tB (I0R hw hd) (λ_ h=>tR h)) (λe1=>tI (λ_=>tB (u0U hw hd) (λ_ h=>tR h)) (λe2=>tI (λ_=>tB (u0U hw hd) (λ_ h=>tR h)) (λe3=>tI (λ_=>tB (E0Z hw hd) (λ_ h=>tR h)) (λe4=> ?_)))));have:=dFF e0;have:=dFF e1;have:=dFF e2;have:=dFF e3;have:=dFF e4;have:=hw.1;omega
theorem I0o {l:f0x} (hl:H0c l)(hq:q.x_.length<=50)(hd:m0W d):Tot (i0K l q d) (λr=>r.1.length<=200000000):=by
  unfold i0K;refine tB (J0E hl hq) (λw hw=>tI (λ_=>tR L0M) (λe=> ?_));have hw:=hw (by have:=dFF e;omega);exact tB (C0I hw hd) (λy hy=>tI (λ_=>tR L0M) (λ_=>tB (B0X hw hy) (λ_ h=>tR h)))
theorem G0q (hl:l.length<=200000000):Tot (l0z l) (λr=>r.length<=1200000000):=by
  unfold l0z k0L;refine zC (tR trivial) (λ_ _=>tB (tW (λs:Int×List Int=>s.1) l.length (λs=>(s.2.length:Int)<=6*s.1) cV ⟨dB,by show(0:Int)<=0;decide,by show(0:Int)<=_;omega⟩ (λs hs h0 h1=>tY (dT h1) (tB (p:=λr:List Int=>(r.length:Int)<=6*s.1+6) (tY (a0c h0 h1) ?_) (λr hr=>tR ?_))) (λs hs e=>tN (dF cV) (tR cV))) (λ_ h=>tR h))
  · repeat' (first|refine tI (λ_=>tY (a0f dA) (tR dA)) (λ_=> ?_)|exact tY (a0f dA) (tR dA))
  rw[nxn h0 (bu h1) cV];exact⟨by show(r.length:Int)<=6*(s.1+1);omega,rfl⟩
theorem G0o {l:f0x} (hl:H0c l)(hq:q.x_.length<=50)(hd:m0W d):Tot (f0h l q d) (λr=>r.1.length<=1200000000):=by
  unfold f0h;exact tB (I0o hl hq hd) (λy hy=>tB (p:=λr:List Int=>r.length<=1200000000) (zC (tI cX cX) (λ_ _=>tI (λ_=>tB (G0q hy) (λ_ h=>tR h)) (λ_=>tR cV))) (λ_ h=>tR h))
end Go.Proofs.YtafbfodcilkgmaaGreatDoor
