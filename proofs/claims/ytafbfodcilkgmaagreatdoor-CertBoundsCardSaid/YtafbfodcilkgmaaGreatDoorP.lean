import Derived.Test.YtafbfodcilkgmaaGreatDoorGg
set_option linter.all false
namespace Go.Proofs.YtafbfodcilkgmaaGreatDoor
open Go Go.Sy Go.RowKit Go.ChangeShapes Go.WideShapes Go.ChangeAt
open Go.Conv renaming runesFrom->zF
open _root_.Int renaming fdiv->oF,tdiv->wE,tmod->jD
open Go.IntKind renaming bits->yH,signed->oG,wrap->wA
open _root_.Nat renaming beq->oB,blt->oD
open _root_.Option renaming bind->jA,some->vA
open _root_.Sum renaming elim->zG
open _root_.UInt8 renaming ofNat->wJ
open Go.Utf8 renaming encode->jJ
open _root_.Decidable renaming decide->yA
open _root_.Bool renaming false->oA,true->jB
set_option maxRecDepth 100000
set_option maxHeartbeats 4000000
variable {S O α β X T:Type}{b:Bool}{x c i m k n g e x1:Int}{y:List a0b}{p:a0h}{w:c0Z}{o:g0b}{q:m0o}{l cur:List Int}{d:a0V}{t:List UInt8}{s:b0I}{a u:Nat}
def dH{p:Prop}{a b:Bool}(n:(a==b)=Bool.false:=by rfl)(h:a=b):p:=by subst h;cases a<;>cases n
/-! What always answers. -/
theorem H0f{step:S->Option (S⊕O)}(I:S->Prop)(μ:S->Nat)(post:O->Prop){s0:S}(h0:I s0)(hb:μ s0<18446744073709551616)
    (hs: ∀s,I s->(∃s',step s=vA (.inl s')/\I s'/\μ s'<μ s)\/ ∃o,step s=vA (.inr o)/\post o): ∃o,a0m step big s0=vA o/\post o:=by
  have key: ∀m s,I s->μ s<m-> ∃o,a0m step m s=vA o/\post o:=by
    intro m
    induction m with
    |zero=>intro s _ h;omega
    |succ m ih=>
      intro s hi hm;rcases hs s hi with⟨s',h1,h2,h3⟩|⟨o,h1,h2⟩;rw[g0W h1];exact ih s' h2 dA;exact⟨o,j0Z h1,h2⟩
  exact key big s0 h0 hb
def Tot(x:Option α)(p:α->Prop):Prop:= ∃o,x=vA o/\p o
def tR{a:α}{p:α->Prop}(h:p a):Tot (vA a) p:=⟨a,rfl,h⟩
def dI{α:Type}{β:Sort _}{f:β->α}{p:α->Prop}(t:∀x,p (f x):=by intros;exact True.intro)(x:β):Tot (vA<|f x) p:=tR<|t x
def dJ{α:Type}{β γ:Sort _}{f:β->γ->α}{p:α->Prop}(t:∀x y,p (f x y):=by intros;exact True.intro)(x:β)(y:γ):Tot (vA<|f x y) p:=tR<|t x y
def tB{x:Option α}{k:α->Option β}{p:α->Prop}{q:β->Prop}(h:Tot x p)(hk: ∀o,p o->Tot (k o) q):Tot (jA x k) q:=by
  obtain⟨o,rfl,h⟩:=h;exact hk o h
def zC{x:Option α}{k:α->Option β}{q:β->Prop}(h:Tot x λ_=>True)(g:∀ o,True->Tot (k o) q):Tot (jA x k) q:=tB h g
def tI{t e:Option α}{p:α->Prop}(ht:b=jB->Tot t p)(he:b=oA->Tot e p):Tot (bif b then t else e) p:=by
  cases b with
  |true=>exact ht rfl
  |false=>exact he rfl
def zI{t e:Option α}{p:α->Prop}(h:Tot t p)(g:Tot e p):Tot (bif b then t else e) p:=tI (λ_=>h) λ_=>g
def zB{x:Option α}{k:α->Option β}{q:β->Prop}(h:Tot x λ_=>True)(g:∀ o,Tot (k o) q):Tot (jA x k) q:=tB h λo _=>g o
def dK{α:Type}{x:Option α}(h:Tot x (λ_=>True):=by repeat' (first|exact tR trivial|refine zI ?_ ?_|refine zB ?_ λ_=> ?_)):Tot x (λ_=>True):=h
def tY{t e:Option α}{p:α->Prop}(h:b=jB)(ht:Tot t p):Tot (bif b then t else e) p:=by subst h;exact ht
def tN{t e:Option α}{p:α->Prop}(h:b=oA)(he:Tot e p):Tot (bif b then t else e) p:=by subst h;exact he
def zE{y:Int}{t:Option α}{o:α}{p:α->Prop}(e:x=y)(h:p o):Tot (bif yA (x<y) then t else vA o) p:=tN (dF dA)<|tR h
def Tot.mono{x:Option α}{p q:α->Prop}(h:Tot x p)(hq: ∀o,p o->q o):Tot x q:=by obtain⟨o,h1,h2⟩:=h;exact⟨o,h1,hq o h2⟩
def O0f(k:S->Option X)(p:X->Prop):S⊕X->Prop
  | .inl s=>Tot (k s) p
  | .inr r=>p r
theorem tJ{x:Option (S⊕X)}{k:S->Option X}{p:X->Prop}(h:Tot x<|O0f k p):Tot (jA x<|a0j k) p:=by
  obtain⟨o,rfl,h⟩:=h
  cases o with
  |inl s=>exact h
  |inr r=>exact⟨r,rfl,h⟩
def tL{step:S->Option (S⊕O)}(I:S->Prop)(μ:S->Nat){post:O->Prop}{s0:S}(h0:I s0)(hb:μ s0<18446744073709551616)
    (hs: ∀s,I s->Tot (step s) (λx=>match x with| .inl s'=>I s'/\μ s'<μ s| .inr o=>post o)):Tot (a0m step big s0) post:=by
  refine H0f I μ post h0 hb λs hi=> ?_;obtain⟨x,h1,h2⟩:=hs s hi
  cases x with
  |inl s'=>exact .inl ⟨s',h1,h2⟩
  |inr o=>exact .inr ⟨o,h1,h2⟩
def Tot.any{x:Option α}{p:α->Prop}(h:Tot x p):Tot x (λ_=>True):=h.mono λ_ _=>trivial
def dTT{p:Prop}[Decidable p](h:yA p=jB):p:=jF h
def dFF{p:Prop}[Decidable p](h:yA p=oA): ¬p:=of_decide_eq_false h
def tM{γ:Type}{x:α⊕β}{f:α->Option γ}{g:β->Option γ}{p:γ->Prop}(hf: ∀a,x= .inl a->Tot (f a) p)(hg: ∀b,x= .inr b->Tot (g b) p):Tot (zG f g x) p:=by
  cases x with
  |inl a=>exact hf a rfl
  |inr b=>exact hg b rfl
def B0U(p:α->Prop):α⊕β->Prop
  | .inl a=>p a
  | .inr _=>True
theorem tS{γ:Type}{x:Option (α⊕β)}{f:α->Option γ}{g:β->Option γ}{p:α->Prop}{q:γ->Prop}(h:Tot x<|B0U p)(hf: ∀a,p a->Tot (f a) q)(hg: ∀b,Tot (g b) q):Tot (jA x λy=>zG f g y) q:=by
  obtain⟨o,rfl,h⟩:=h
  cases o with
  |inl a=>exact hf a h
  |inr b=>exact hg b
def tW{step:S->Option (S⊕O)}(ix:S->Int)(n:Nat)(I:S->Prop){post:O->Prop}{s0:S}(hn:n<=4294967296)(h0:I s0/\0<=ix s0/\ix s0<=n)
    (hs: ∀s,I s->0<=ix s->ix s<n->Tot (step s) (λx=>match x with| .inl s'=>I s'/\ix s'=ix s+1| .inr o=>post o)) (he: ∀s,I s->ix s=n->Tot (step s) (λx=>match x with| .inl _=>False| .inr o=>post o)):Tot (a0m step big s0) post:=by
  refine tL (λs=>I s/\0<=ix s/\ix s<=n) (λs=>((n:Int)-ix s).toNat) h0 dA λs hi=> ?_;by_cases h:ix s=n;refine Tot.mono (he s hi.1 h) (λo ho=> ?_)
  cases o with
  |inl _=>exact absurd ho id
  |inr _=>exact ho
  refine Tot.mono (hs s hi.1 hi.2.1 dA) (λo ho=> ?_)
  cases o with
  |inl s'=>exact⟨⟨ho.1,by rw[ho.2];omega,by rw[ho.2];omega⟩,by rw[ho.2];omega⟩
  |inr _=>exact ho
def jp{R E:Type}(p:S->Prop):S⊕(R⊕E)->Prop
  | .inl s=>p s
  | .inr (.inl _)=>False
  | .inr (.inr _)=>True
theorem tE{R E:Type}{x:Option (S⊕(R⊕E))}{k:S->Option (R⊕E)}{p:S->Prop}{q:R->Prop}(h:Tot x<|jp p)(hk: ∀s,p s->Tot (k s) (B0U q)):Tot (jA x<|a0j k) (B0U q):=by
  obtain⟨o,rfl,h⟩:=h
  match o,h with
  | .inl s,h=>exact hk s h
  | .inr (.inr e),_=>exact⟨_,rfl,trivial⟩
/-! Patterns are read, or not: it answers. -/
def ra(l:List Int)(i:Int):Prop:=0<=i/\i<=(l.length:Int)
section
variable {l : List Int}(hl : l.length <= 100000){b m p k d : Int}
include hl
theorem J0X{on:Int}(h:ra l i)(ho:0<=on/\on<=1):Tot (b0f c on l i b m p k d) (λr=>r=jB->i+on<l.length):=by
  obtain⟨h0,h1⟩:=h;unfold b0f;rw[w64 (n:=i+on) dA dA];refine tB (p:=λr=>r=jB->i+on<l.length) ?_ λ_ h=>tR h;refine tI (λh=> ?_) λ_=>tR dH;exact tY (a0c dA<|dTT h)<|tR λ_=>dTT h
theorem F0f(h:ra l i):Tot (a0t c l i b m p k d) (λr=>(r.1=jB/\r.2=i+1/\i<l.length)\/(r.1=oA/\r.2=i)):=by
  unfold a0t;refine tB (J0X hl h dA) λy hy=> ?_;obtain⟨h0,h1⟩:=h
  cases y with
  |false=>exact tR (.inr ⟨rfl,rfl⟩)
  |true=>
    have:=hy rfl;exact tR<|.inl ⟨rfl,w64 dA dA,dA⟩
theorem C0a(h:ra l i):Tot (a0t c l i b m p k d) (λr=>ra l r.2/\i<=r.2):=by
  refine(F0f hl h).mono λr hr=> ?_;obtain⟨h0,h1⟩:=h;rcases hr with⟨_,e,e2⟩|⟨_,e⟩;exact⟨⟨dA,dA⟩,dA⟩;exact⟨⟨dA,dA⟩,dA⟩
theorem x0D(h:ra l i):Tot (b0s c l i b m p k d) (λr=>ra l r.2/\i<=r.2/\r.1=r.2-i):=by
  unfold b0s;refine tB (p:=λs:Int×Int=>ra l s.2/\i<=s.2/\s.1=s.2-i) (tL (λs:Int×Int=>ra l s.2/\i<=s.2/\s.1=s.2-i) (λs=>((l.length:Int)-s.2).toNat) ⟨h,ai _,dE⟩ (by have:=h.1;simp only;omega) λs hs=> ?_) λ_ h=>tR h;refine tB (F0f hl hs.1) λy hy=> ?_;have hi:=h.1;obtain⟨⟨h0,h1⟩,h2,h3⟩:=hs;rcases hy with⟨e1,e2,e3⟩|⟨e1,e2⟩;rw[e1,e2,w64 (n:=s.1+1) dA dA];exact tR ⟨⟨⟨dC,dC⟩,dC,dC⟩,dC⟩;rw[e1,e2];exact tR ⟨⟨h0,h1⟩,h2,h3⟩
theorem D0R{w:Int}(h:ra l i){x8 x18 x9 x10 x11 x12 x13 x14 x15 x16 x17 x19 x20}:Tot (d0Q w l i b m p k d x8 x9 x10 x11 x12 x13 x14 x15 x16 x17 x18 x19 x20) (B0U λr=>ra l r.1/\i<=r.1):=by
  unfold d0Q;refine tJ<|tB (p:=λr:Bool×Int=>ra l r.2/\i<=r.2) (tI (λ_=>tR ⟨h,ai _⟩) λ_=>tB (C0a hl h) λy hy=>tR hy) λs hs=>tI (λ_=>tR hs) λ_=>tR (show Tot _ _ from ?_);refine tJ<|tI dI λhd=>tR (show Tot _ _ from ?_);have:=dFF hd;obtain⟨⟨h0,h1⟩,h2⟩:=hs;have e:wA .i64 (s.2+1)=s.2+1:=w64 dA dA;refine tY (a0c h0 dA)<|tR ?_;rw[e];exact⟨⟨dC,dC⟩,dC⟩
theorem I0f{w:Int}(h:ra l i){x8 x9 x19 x10 x11 x12 x13 x14 x15 x16 x17 x18 x20 x21}:Tot (d0P w l i b m p k d x8 x9 x10 x11 x12 x13 x14 x15 x16 x17 x18 x19 x20 x21) (B0U λr=>ra l r.1/\i<=r.1):=
  D0R (x8:=x9) (x9:=x10) (x10:=x11) (x11:=x12) (x12:=x13) (x13:=x14) (x14:=x15) (x15:=x16) (x16:=x17) (x17:=x18) (x18:=x19) (x19:=x20) (x20:=x21) hl h
theorem L0T{w:Int}(h:ra l i){x8 x9 x10 x20 x11 x12 x13 x14 x15 x16 x17 x18 x19 x21 x22}:Tot (f0h w l i b m p k d x8 x9 x10 x11 x12 x13 x14 x15 x16 x17 x18 x19 x20 x21 x22) (B0U λr=>ra l r.1/\i<=r.1):=
  D0R (x8:=x10) (x9:=x11) (x10:=x12) (x11:=x13) (x12:=x14) (x13:=x15) (x14:=x16) (x15:=x17) (x16:=x18) (x17:=x19) (x18:=x20) (x19:=x21) (x20:=x22) hl h
theorem C0G(h:ra l i):Tot (d0c l i b m p k d) (λr=>(r.1=jB/\r.2=i+2/\i+1<l.length)\/(r.1=oA/\r.2=i)):=by
  unfold d0c;refine tJ (tB (p:=λr=>r=oA->i+1<l.length) (tB (J0X hl h dA) λy _=>tI (λ_=>tR dH) λ_=>tB (J0X hl h dA) λz hz=>tR λe=>hz<|by simpa using e) λs hs=> ?_);obtain⟨h0,h1⟩:=h
  cases s with
  |true=>exact tR (.inr ⟨rfl,rfl⟩)
  |false=>
    have:=hs rfl;exact tR<|tR<|.inl ⟨rfl,w64 dA dA,this⟩
theorem G0Q{o:List a0b}(h:ra l i)(hi:i<l.length)(ho:(o.length:Int)<=i):Tot (c0K l i b m p k d o) (B0U λr=>ra l r.1/\i<r.1/\(r.2.length:Int)<=r.1):=by
  unfold c0K;refine tB (C0G hl h) λy hy=> ?_;obtain⟨h0,h1⟩:=h;rcases hy with⟨e1,e2,e3⟩|⟨e1,e2⟩;rw[e1,e2];exact tY rfl<|tY (a0f dD)<|tR ⟨⟨dC,dC⟩,dC,dD⟩;rw[e1,e2,w64 (n:=i+1) dA dA];refine tJ<|tL (λs:Int×List a0b=>ra l s.1/\i<s.1/\(s.2.length:Int)<=s.1) (λs=>((l.length:Int)-s.1).toNat) ⟨⟨dC,dC⟩,dC,dC⟩ dC λs hs=> ?_;refine tI (λhlt=> ?_) λ_=>tR<|tR trivial;have hlt:=dTT hlt;refine tB (C0G hl hs.1) λy hy=> ?_;obtain⟨⟨g0,g1⟩,g2,g3⟩:=hs;rcases hy with⟨e1,e2,e3⟩|⟨e1,e2⟩;rw[e1,e2];exact tY rfl<|tY (a0f dD)<|tR ⟨⟨⟨dC,dC⟩,dC,dD⟩,dC⟩;rw[e1,e2];refine tB (F0f hl ⟨g0,g1⟩) λy hy=> ?_;rcases hy with⟨e1,e2,e3⟩|⟨e1,e2⟩;rw[e1,e2];exact tR ⟨⟨dC,dC⟩,dC,dC⟩;rw[e1,e2,w64 (n:=s.1+1) dA dA];exact tN rfl<|tY (a0c g0 hlt)<|tY (a0f dD)<|tR ⟨⟨⟨dC,dC⟩,dC,dD⟩,dC⟩
omit hl in
def w0O(x:Int):Tot (i0f x) (λ_=>True):=by
  unfold i0f;refine tJ (zC ?_ λs _=>tI dI λ_=>tR<|zC ?_ dJ)
  · repeat' (first|exact tR trivial|refine tI (λ_=> ?_) λ_=> ?_)
  exact tI dI dI
theorem w0s(h:ra l i):Tot (b0h l i b m p k d) (B0U λr=>ra l r.2/\i<=r.2/\(r.1.length:Int)<=r.2):=by
  unfold b0h;refine tJ (tL (λs:Int×List a0b=>ra l s.1/\i<=s.1/\(s.2.length:Int)<=s.1) (λs=>((l.length:Int)-s.1).toNat) ⟨h,ai _,by have:=h.1;simpa using this⟩ (by have:=h.1;simp only;omega) λs hs=> ?_);refine tI (λhlt=> ?_) λ_=>tR<|tR hs;have hlt:=dTT hlt;obtain⟨⟨g0,g1⟩,g2,g3⟩:=hs;have e:wA .i64 (s.1+1)=s.1+1:=w64 dA dA;rw[e];refine tY (a0c g0 hlt) ?_
  have step: ∀t:a0b,(ra l (s.1+1)/\i<=s.1+1/\((s.2++ [t]).length:Int)<=s.1+1)/\((l.length:Int)-(s.1+1)).toNat<((l.length:Int)-s.1).toNat:=λt=>⟨⟨⟨dA,dA⟩,dA,dD⟩,dA⟩
  have rm: ∀t:a0b,room (s.2.length+([t]:List a0b).length)=true:=λt=>a0f dD
  iterate 4 refine tI (λ_=>zC (tY (rm _)<|tR trivial) λ_ _=>tR<|step _) (λ_=> ?_)
  refine tJ<|tB (J0X hl ⟨g0,g1⟩ dA) λy hy=>tI (λ_=> ?_) λ_=>tB (w0O _) λ_ _=>tI (λ_=>tR ⟨⟨g0,g1⟩,g2,g3⟩) λ_=>tY (rm _)<|tR<|tR<|step _;exact tS (G0Q hl ⟨g0,g1⟩ hlt g3) (λa ha=>tR ⟨⟨ha.1,by have:=ha.2.1;simp only;omega,ha.2.2⟩,by have:=ha.2.1;have:=ha.1.2;simp only;omega⟩) λa=>tR trivial
theorem D0N{w:Int}(h:ra l i)(ho:0<=w/\w<=1){x8 x9 x10 x11 x12 x13 x14 x15 x16 x17 x18 x19 x20 x21}:Tot (d0d w l i b m p k d x8 x9 x10 x11 x12 x13 x14 x15 x16 x17 x18 x19 x20 x21) (λr=>r=jB->i+w<l.length):=by
  unfold d0d;refine tB (p:=λr=>r=jB->i+w<l.length) (tB (J0X hl h ho) λy hy=> ?_) λ_ h=>tR h;refine tI (λe=>tR λ_=>hy e) λ_=>tI (λ_=>tB (J0X hl h ho) λy hy=>tR hy) λ_=>tR dH
theorem F0r{w:Int}(h:ra l i){x8 x9 x10 x11 x12 x13 x14 x15 x16 x17 x18 x19 x20 x21}:Tot (d0e w l i b m p k d x8 x9 x10 x11 x12 x13 x14 x15 x16 x17 x18 x19 x20 x21) (λr=>r=jB->i<l.length):=by
  unfold d0e;refine tB (p:=λr=>r=jB->i<l.length) ?_ λ_ h=>tR h;refine tI (λ_=>tB (J0X hl h dA) λy hy=>tI (λe=>tB (D0N hl h dA) λz _=>tR λ_=> ?_) λ_=>tR dH) λ_=>tR dH;have:=hy e;omega
theorem F0y{w v:Int}(h:ra l i){x9 x10 x11 x12 x13 x14 x15 x16 x17 x18 x19 x20 x21 x22}:Tot (c0y w v l i b m p k d x9 x10 x11 x12 x13 x14 x15 x16 x17 x18 x19 x20 x21 x22) (λ_=>True):=by
  unfold c0y;refine tJ<|zC (tI dI λ_=>tB (F0r hl h) (λ_ _=>tR trivial)) λ_ _=>tI dI λ_=>tR (show Tot _ _ from ?_);exact tJ<|zC (tI dI dI) λ_ _=>tI dI λ_=>tR<|tR trivial
theorem G0T(h:ra l i){x7 x8 x11 x12 x13 x14 x15 x16 x17 x18 x19 x20}:Tot (c0L l i b m p k d x7 x8 0 0 x11 x12 x13 x14 x15 x16 x17 x18 x19 x20) (B0U λr=>ra l r.1/\i<=r.1/\0<=r.2.1/\0<=r.2.2.1/\r.2.1+r.2.2.1<=r.1):=by
  unfold c0L;refine tJ (tL (λs:Int×Int×Int×Int×Int×Int=>ra l s.2.2.1/\i<=s.2.2.1/\0<=s.2.2.2.1/\0<=s.2.2.2.2.1/\s.2.2.2.1+s.2.2.2.2.1<=s.2.2.1) (λs=>((l.length:Int)-s.2.2.1).toNat) ⟨h,ai _,ai _,ai _,h.1⟩ (by have:=h.1;simp only;omega) λs hs=> ?_);refine tJ (tB (p:=λr=>r=jB->s.2.2.1<l.length) (tB (D0N hl hs.1 dA) λy hy=>tI (λe=>tR λ_=>by have:=hy e;omega) λ_=>tB (F0r hl hs.1) λy hy=>tR hy) λr hr=>tI (λe=>tR (show Tot _ _ from ?_)) λ_=>tR<|tJ<|tI dI λ_=>tR (show Tot _ _ from tI (λ_=>tR hs) λ_=>tI (λ_=>tR hs) λ_=>tR hs));have hlt:=hr e;refine tB (F0f hl hs.1) λy hy=> ?_;obtain⟨⟨g0,g1⟩,g2,g3,g4,g5⟩:=hs;rcases hy with⟨e1,e2,e3⟩|⟨e1,e2⟩;rw[e1,e2];exact tR ⟨⟨⟨dC,dC⟩,dC,g3,g4,dC⟩,dC⟩;rw[e1,e2];refine tB (p:=λt:Int×Int×Int=>t.1=s.2.2.1+1/\0<=t.2.1/\0<=t.2.2/\t.2.1+t.2.2<=s.2.2.1+1) (tB (F0f hl ⟨g0,g1⟩) λz hz=> ?_) λt ht=> ?_;rcases hz with⟨e1,e2,e3⟩|⟨e1,e2⟩;rw[e1,e2,w64 (n:=s.2.2.2.2.1+1) dA dA];exact tR ⟨rfl,g3,dC,dC⟩;rw[e1,e2,w64 (n:=s.2.2.1+1) dA dA,w64 (n:=s.2.2.2.1+1) dA dA];exact tR ⟨rfl,dC,g4,dC⟩;obtain⟨t1,t2,t3,t4⟩:=ht;rw[t1];refine tB (F0y hl ⟨dA,dA⟩) λy _=>tM (λa _=>tR ⟨⟨⟨dC,dC⟩,dC,t2,t3,t4⟩,dC⟩) λa _=>tR trivial
theorem B0X(h:ra l i){x7 x8 x9 x10 x13 x14 x15 x16 x17 x18 x19 x20}:Tot (b0Z l i b m p k d x7 x8 x9 x10 0 0 x13 x14 x15 x16 x17 x18 x19 x20) (B0U λr=>ra l r.1/\i<=r.1/\0<=r.2.1/\r.2.1<=r.2.2):=by
  unfold b0Z;refine tB (C0a hl h) λy hy=>tI (λ_=>tR ⟨hy.1,hy.2,ai _,ai _⟩) λ_=>tB (x0D hl hy.1) λz hz=>tB (x0D hl hz.1) λw hw=>tI dI λ_=>tR ⟨hw.1, ?_, ?_, ?_⟩;have:=hy.2;have:=hz.2;have:=hw.2;simp only;omega;obtain⟨_,_,_⟩:=hz;show 0<=z.1;omega;obtain⟨⟨_,_⟩,_,_⟩:=hz;obtain⟨⟨_,_⟩,_,_⟩:=hw;obtain⟨⟨_,_⟩,_⟩:=hy;show z.1<=wA .i64 (z.1+w.1);rw[w64 (n:=z.1+w.1) dA dA];omega
theorem G0Z(h:ra l i){x7 x8 x13 x14 x18 x19 x20}:Tot (c0M l i b m p k d x7 x8 0 0 0 0 x13 x14 0 0 0 x18 x19 x20) (B0U λr=>ra l r.1/\i<=r.1/\0<=r.2.1/\0<=r.2.2.1/\r.2.1+r.2.2.1<=(l.length:Int)/\0<=r.2.2.2.1/\r.2.2.2.1<=r.2.2.2.2.1/\r.2.2.2.2.2.2.2.1<=r.2.2.2.2.2.2.2.2.1):=by
  unfold c0M;refine tB (x0D hl h) λy hy=> ?_;obtain⟨⟨y1,y2⟩,y3,y4⟩:=id hy;have hi:=h.1;refine tE (p:=λs:Int×Int×Int×Int×Int×Int×Int×Int=>ra l s.1/\i<=s.1/\0<=s.2.1/\0<=s.2.2.1/\s.2.1+s.2.2.1<=(l.length:Int)/\0<=s.2.2.2.1/\s.2.2.2.1<=s.2.2.2.2.1/\y.1<=s.2.2.2.2.2.2.2) (tI (λ_=>tB (x0D hl hy.1) λz hz=>tR ⟨hz.1,bf y3 hz.2.1,ai _,ai _,dE,ai _,ai _, ?_⟩) λe=>tS (G0T hl hy.1) (λa ha=>tS (B0X hl ha.1) (λc hc=>tR ⟨hc.1,bf y3<|bf ha.2.1 hc.2.1,ha.2.2.1,ha.2.2.2.1,bf ha.2.2.2.2 ha.1.2,hc.2.2.1,hc.2.2.2,by have:=dFF e;simp only;omega⟩) λc=>tR trivial) λa=>tR trivial) λs hs=> ?_;obtain⟨⟨_,_⟩,_,_⟩:=hz;show y.1<=wA .i64 (y.1+z.1);rw[w64 (n:=y.1+z.1) dA dA];omega;obtain⟨s1,s2,s3⟩:=hs;refine tB (C0a hl s1) λz hz=>tI (λ_=>tR ⟨hz.1,bf s2 hz.2,s3⟩) λ_=>tB (C0a hl hz.1) λu hu=>tB (x0D hl hu.1) λv hv=>tI dI λ_=>tR ⟨hv.1,bf s2<|bf hz.2<|bf hu.2 hv.2.1,s3⟩
theorem B0N{q:List Int}(hq:q.length<=100000)(h:ra l i){x8 x9 x10 x11 x12 x13 x14 x15 x16 x17 x18 x19 x20 x21 x22}:Tot (b0Y q l i b m p k d x8 x9 x10 x11 x12 x13 x14 x15 x16 x17 x18 x19 x20 x21 x22) (B0U λr=>ra l r.1/\r.2.1.length<=l.length/\r.2.2.length<=l.length):=by
  unfold b0Y;refine tS (w0s hl h) (λa ha=>tJ<|tW (λs:Int×Int=>s.1) q.length (λs=>ra l s.2) dA ⟨ha.1,ai _,dE⟩ (λs hs g0 g1=> ?_) λs hs e=> ?_) λa=>tR trivial;rw[dT g1];refine tJ<|tY (a0c g0 g1)<|tB (C0a hl hs) λy hy=>tI dI λ_=>tR<|tR ⟨hy.1,w64 dA dA⟩;rw[dF (show¬s.1<(q.length:Int) by omega)];refine tR<|tS (w0s hl hs) (λc hc=>tR ⟨hc.1, ?_, ?_⟩) λc=>tR trivial;have:=ha.2.2;have:=ha.1.2;simp only;omega;have:=hc.2.2;have:=hc.1.2;simp only;omega
end
def g0C(x:a0h)(n:Nat):Prop:=x.e_.length<=n/\x.i_.length<=n/\x.K_.length<=n/\x.G_.length<=n
def F0j(l:List Int)(a b:Int):(cut l a b).length<=l.length:=by unfold cut;simp;omega
def O0X(p:a0h):Prop:=0<=p.ah_/\0<=p.w_/\p.ah_+p.w_<=100000/\0<=p.ab_/\p.ab_<=p.H_/\p.Y_<=p.T_
theorem D0O(hl:l.length<=100000){b p d:Int}(h:ra l i):Tot (c0w l i b m p k d) (B0U λr=>g0C r.1 l.length/\O0X r.1):=by
  unfold c0w;refine tS (D0R hl h) (λy4 h4=> ?_) dI;refine tS (w0s hl h4.1) (λy11 h11=> ?_) dI;refine tE (p:=λs:Int×Int×Int=>ra l s.1) (tI (λ_=>tS (I0f hl h11.1) (λa ha=>tR ha.1) dI) λ_=>tR h11.1) λs hs=> ?_;refine tS (G0Z hl hs) (λy47 h47=> ?_) dI;refine tY (l0i hs.1 h47.2.1 h47.1.2) ?_;refine tS (I0f hl h47.1) (λy55 h55=> ?_) dI;refine tS (w0s hl h55.1) (λy62 h62=> ?_) dI;refine tE (p:=λs:Int×Int×Int=>ra l s.1) (tI (λ_=>tS (L0T hl h62.1) (λa ha=>tR ha.1) dI) λ_=>tR h62.1) λs2 hs2=> ?_;refine tE (p:=λs:Int×List a0b×List a0b×Bool=>ra l s.1/\s.2.1.length<=l.length/\s.2.2.1.length<=l.length) (tB (C0a hl hs2) λy hy=>tI (λ_=>tS (B0N hl (aH (F0j ..) hl) hy.1) (λa ha=>tR ha) dI) λ_=>tR ⟨hy.1,dE,dE⟩) λs3 hs3=> ?_;refine tE (p:=λ_=>True) (tI dI dI) λ_ _=>tR ⟨⟨?_, ?_,hs3.2.1,hs3.2.2⟩,h47.2.2.1,h47.2.2.2.1,bf h47.2.2.2.2.1 dA,h47.2.2.2.2.2.1,h47.2.2.2.2.2.2.1,h47.2.2.2.2.2.2.2⟩;have:=h11.2.2;have:=h11.1.2;simp only;omega;have:=h62.2.2;have:=h62.1.2;simp only;omega
def L0L(hl:l.length<=100000):Tot (q0l l) (λr=>g0C r.1 l.length/\O0X r.1):=by
  unfold q0l;refine tB (show Tot k0x (λ_=>True)from tR trivial) (λ_ _=>tS (D0O hl ⟨ai _,dA⟩) (λa ha=>zC (by unfold j0q;exact tR trivial) λ_ _=>tR ha) λa=>zC (by unfold j0p;exact tR trivial) λ_ _=>tR ?_);exact⟨⟨dE,dE,dE,dE⟩,dE,dE,dE,dE,dE,dE⟩
/-! Bytes are read, patterns written: it answers. -/
def I0W(x:Int):Tot (s0q x) (λn=>0<=n/\n<=4):=by
  unfold s0q;refine zC ?_ (λy _=> ?_)
  · unfold s0K
    refine zC ?_ dJ
    repeat' (first|exact tR trivial|refine tI (λ_=> ?_) λ_=> ?_)
  · repeat' (first|exact tR ⟨dA,dA⟩|refine tI (λ_=> ?_) λ_=> ?_)
theorem K0n(h0:0<l.length)(hl:l.length<=100000):Tot (p0K l) (λr=>0<=r.2/\r.2<=l.length):=by
  unfold p0K;have i0:inR 0 l.length=true:=a0c (ai _) dA;refine tY i0 (tB (p:=λn=>0<=n/\n<=4) ?_ λy hy=> ?_)
  · unfold m0J
    repeat' (first|exact tR ⟨dA,dA⟩|refine tI (λ_=> ?_) λ_=> ?_)
  refine tJ<|tB (p:=λr=>r=oA->1<=y/\y<=l.length) (tI (λ_=>tR dH) λe=>tR λh=> ?_) λr hr=>tI (λ_=>tR ⟨ai _,dC⟩) λe=>tR (show Tot _ _ from ?_);have:=dFF e;have:=dFF h;omega;obtain⟨y1,y2⟩:=hr e;refine tY i0 (zC ?_ λm _=> ?_)
  · unfold v0b
    repeat' (first|exact tR trivial|refine tI (λ_=> ?_) λ_=> ?_)
  have hc:(cut l 1 y).length<=l.length:=F0j ..;refine tJ<|tY (l0i dA y1 y2)<|tW (λs:Int×Int=>s.2) (cut l 1 y).length (λ_=>True) dA ⟨trivial,ai _,dE⟩ (λs _ g0 g1=> ?_) λs _ e=> ?_;refine tY (dT g1)<|tY (a0c g0 g1) (tI (λ_=>tR ⟨ai _,dC⟩) λ_=>tR ⟨trivial,w64 dA dA⟩)
  rw[dF (show¬s.2<((cut l 1 y).length:Int) by omega)];exact tR<|tB (I0W _) λz hz=>tI (λ_=>tR ⟨ai _,dC⟩) λ_=>tR ⟨dC,y2⟩
theorem H0G(hl:l.length<=100000):Tot (k0S l) (λr=>r.1.length<=l.length):=by
  unfold k0S;refine tJ<|tL (λs:Int×List Int=>ra l s.1/\(s.2.length:Int)<=s.1) (λs=>((l.length:Int)-s.1).toNat) ⟨⟨ai _,dC⟩,dE⟩ dC λs hs=> ?_;obtain⟨⟨g0,g1⟩,g2⟩:=hs;refine tI (λhlt=> ?_) λ_=>tR<|tR dC;have hlt:=dTT hlt;have hc:((cut l s.1 (l.length:Int)).length:Int)=(l.length:Int)-s.1:=by unfold cut;simp;omega
  refine tY (l0i g0 g1 dA) (tB (K0n dA dA) λy hy=>tI (λ_=>tR (show([]:List Int).length<=_ by simp)) λhn=>tY (a0f dD)<|tR ?_);have hn:=dFF hn;rw[w64 (n:=s.1+y.2) dA dA];exact⟨⟨⟨dC,dC⟩,dD⟩,dC⟩
def H0a(p:a0h):Prop:=(0<=p.w_/\p.w_<=40)/\p.ab_<=40/\(0<=p.H_/\p.H_<=40)/\p.Y_<=40/\p.T_<=40/\p.k_<=40
theorem y0W(ht:t.length<=100000):Tot (n0h t) (λr=>g0C r.1 120/\H0a r.1):=by
  have z: ∀a c:Int,Tot (vA ((⟨([]:List a0b),([]:List a0b),([]:List a0b),([]:List a0b),oA,0,0,0,0,0,0,0,0,0,oA,0,0⟩:a0h),a,c)) (λr:a0h×Int×Int=>g0C r.1 120/\H0a r.1):=λa c=>tR ⟨⟨dE,dE,dE,dE⟩,⟨dE,dE⟩,dE,⟨dE,dE⟩,dE,dE,dE⟩
  unfold n0h;refine tB (H0G<|by rw[d0v];exact ht) λy hy=>tI (λ_=>z _ _) λ_=>tI (λ_=>z _ _) λh=> ?_;have h:=dFF h;refine tB (L0L<|by rw[d0v]at hy;omega) λq hq=>tI (λ_=>z _ _) λ_=>tI (λ_=>z _ _) λe=>tR ?_;obtain⟨⟨q1,q2,q3,q4⟩,m1,m2,m3,m4,m5,m6⟩:=hq;have e:=dFF e;rw[w64 (n:=q.1.ah_+q.1.w_) dA dA]at e;unfold i0E at e;refine⟨⟨dC,dC,dC,dC⟩, ?_⟩;unfold H0a;simp only
  (repeat' split at e)<;>omega
def w0P(n:Int):Tot (k0w n) (λr=>0<=r/\r<=121):=by
  unfold k0w i0E M0j;refine tR ?_;split<;>split<;>omega
theorem q0e{o:List Int}(ho:o.length<=100000):Tot (g0V o c n) (λr=>r.length<=o.length+121):=by
  unfold g0V;refine tB (p:=λr:List Int=>r.length<=o.length+121) (tB (w0P n) λy hy=>tL (λs:Int×List Int=>0<=s.1/\s.1<=y/\(s.2.length:Int)<=o.length+s.1) (λs=>(y-s.1).toNat) ⟨ai _,hy.1,dE⟩ dC λs hs=> ?_) λ_ h=>tR h;refine tI (λhlt=>tY (a0f dD)<|tR ?_) λ_=>tR dC;have hlt:=dTT hlt;rw[w64 (n:=s.1+1) dA dA];exact⟨⟨dC,dC,dD⟩,dC⟩
def E0L(p:a0h)(n:Int):Tot (l0H p n) (λ_=>True):=by
  unfold l0H;refine tJ<|zC (tI dI dI) λ_ _=>tI dI λ_=>tR (show Tot _ _ from zC ?_ dJ);refine tI dI λ_=>tI (λh=>tY ?_<|tR trivial) dI;have:=dTT h;unfold nz;rw[dF dA];rfl
theorem C0C{o:List Int}(ho:o.length<=10000):Tot (o0b o p) (λr=>r.length<=o.length+500):=by
  unfold o0b;refine tB (w0P _) λy hy=>tB (w0P _) λz hz=> ?_;rw[w64 (n:=y+z) dA dA];refine tB (p:=λr:List Int=>r.length<=o.length+500) (tL (λs:Int×List Int=>0<=s.1/\s.1<=y+z/\(s.2.length:Int)<=o.length+s.1+s.1) (λs=>(y+z-s.1).toNat) ⟨ai _,dC,dE⟩ dC λs hs=> ?_) λ_ h=>tR h;refine tI (λhlt=> ?_) λ_=>tR dC;have hlt:=dTT hlt;rw[w64 (n:=s.1+1) dA dA];refine tB (p:=λt:List Int=>(t.length:Int)<=s.2.length+2) (tB (p:=λt:List Int=>(t.length:Int)<=s.2.length+1) (zC (tI (λ_=>tB (E0L _ _) dJ) dI) λ_ _=>tI (λ_=>tY (a0f dD)<|tR dE) λ_=>tR dA) λt ht=>tI (λ_=>tY (a0f dD)<|tR dD) λ_=>tY (a0f dD)<|tR dD) λt ht=>tR ?_;exact⟨⟨dC,dC,dC⟩,dC⟩
theorem w0A(p:a0h):Tot (j0B p) (λr=>r.length<=2000):=by
  unfold j0B;refine tB (p:=λr:List Int=>r.length<=1000) (zC (tI dI dI) λ_ _=>tI (λ_=> ?_) λ_=> ?_) λr hr=>tB (p:=λr:List Int=>r.length<=2000) ?_ λ_ h=>tR h;exact tB (q0e dE) (λa ha=>tB (w0P _) λ_ _=>tB (q0e<|by simp at ha;omega) λc hc=>tR<|by simp at ha;omega);refine tB (C0C dE) (λa ha=>tI (λ_=>tY (a0f<|by simp at ha⊢;omega)<|tB (q0e<|by simp at ha⊢;omega) λc hc=>tB (w0P _) λ_ _=>tB (q0e<|by simp at ha hc⊢;omega) λe he=>tR<|by simp at ha hc he;omega) λ_=>tR<|by simp at ha;omega);refine tI (λ_=>tY (a0f dD)<|tB (p:=λt:List Int=>t.length<=r.length+2) (tI (λ_=>tY (a0f dD)<|tR dE) λ_=>tR dE) λt ht=>tB (q0e dA) λu hu=>tR dA) λ_=>tR dA
def z0S{o:List Int}{w:Int}(ho:o.length<=100000):Tot (p0l o p w) (λr=>r.length<=o.length+2):=by
  unfold p0l;exact tI (λ_=>tR dA) λ_=>tY (a0f dD)<|tR dE
theorem u0H{E X:Type}[DecidableEq X]{f:E->Option (Unit⊕X)}{p:X->Prop}(hf: ∀e,f e=vA (.inl ())\/ ∃x,f e=vA (.inr x)/\p x): ∀ms:List E,(∀a∈ms,∀b∈ms,f a≠vA (.inl ())->f b≠vA (.inl ())->f a=f b)->Tot (n0n f ms) (λo=>match o with| .inl _=> ∀e∈ms,f e=vA (.inl ())| .inr x=>p x/\ ∃e∈ms,f e=vA (.inr x))
  | [],_=>tR (λe h=>by cases h)
  |e::ms,h=>by
    obtain⟨o,ho,hp⟩:=u0H hf ms λa ha b hb=>h a (aq _ ha) b<|aq _ hb;simp only[n0n,ho];rcases hf e with he|⟨x,he,hx⟩;rw[he]
    cases o with
    |inl u=>
      refine tR λa ha=> ?_;rcases aY.1 ha with rfl|ha;exact he;exact hp a ha
    |inr y=>exact tR ⟨hp.1,hp.2.imp λa ha=>⟨aq _ ha.1,ha.2⟩⟩
    rw[he]
    cases o with
    |inl u=>exact tR ⟨hx,e,aB ..,he⟩
    |inr y=>
      obtain⟨a,ha,hy⟩:=hp.2;have:=h e (aB ..) a (aq _ ha) (by rw[he];simp) (by rw[hy];simp);rw[he,hy]at this;obtain rfl:=Sum.inr.inj<|au this;simp only[if_true];exact tR ⟨hx,e,aB ..,he⟩
theorem J0C(t:a0b):Tot (n0g t) (λr=>r.length<=2):=by
  unfold n0g;refine tI (λ_=>tI (λ_=>tR dE) λ_=>tR dE) λ_=> ?_;refine tJ<|Tot.mono (p:=λx=>match x with| .inl _=>True| .inr r=>(r:List Int).length<=2) ?_ λx hx=> ?_;show Tot (jA _ _) _;refine tJ<|Tot.mono (u0H (p:=λx:Unit⊕List Int=>match x with| .inl _=>False| .inr r=>r.length<=2) (λe=> ?_) _ λa ha c hc h1 h2=> ?_) λx hx=> ?_;by_cases h:e.2=t.aa_;rw[dT h];exact .inr ⟨_,rfl,dE⟩;rw[dF h];exact .inl rfl
  have f1:a.2=t.aa_:=by
    by_cases h:a.2=t.aa_;exact h;rw[dF h]at h1;exact absurd rfl h1
  have f2:c.2=t.aa_:=by
    by_cases h:c.2=t.aa_;exact h;rw[dF h]at h2;exact absurd rfl h2
  have:a=c:=by
    have key: ∀a∈([(45,1),(43,2),(37,3),(164,4)]:List<|Int×Int),∀c∈([(45,1),(43,2),(37,3),(164,4)]:List<|Int×Int),a.2=c.2->a=c:=by decide+kernel
    exact key a ha c hc (f1.trans f2.symm)
  rw[this]
  match x,hx with
  | .inl _,_=>exact tR trivial
  | .inr (.inr r),h=>exact h.1
  match x,hx with
  | .inl _,_=>exact tR dE
  | .inr r,h=>exact h
theorem s0p{o:List Int}{q:List a0b}(ho:o.length<=50000)(hq:q.length<=1000):Tot (j0W o q) (λr=>r.length<=o.length+3001):=by
  unfold j0W;refine tB (p:=λs:Bool×List Int=>s.2.length<=o.length+3000) (tW (λs:Bool×Int×List Int=>s.2.1) q.length (λs=>(s.2.2.length:Int)<=o.length+3*s.2.1) dA ⟨dE,ai _,dE⟩ (λs hs g0 g1=> ?_) λs hs e=> ?_) (λs hs=>tB (p:=λr:List Int=>r.length<=o.length+3001) (tI (λ_=>tY (a0f dD)<|tR dD) λ_=>tR dA) λ_ h=>tR h)
  · rw[dT g1,w64 (n:=s.2.1+1) dA dA]
    refine tB (p:=λr:Bool×List Int=>(r.2.length:Int)<=s.2.2.length+3) (tY (a0c g0 g1)<|zC (tI dI dI) λu _=>zC ?_ λv _=>tB (p:=λr:Bool×List Int=>(r.2.length:Int)<=s.2.2.length+1) (tI (λ_=>tY (a0f dD)<|tR dE) λ_=>tR dC) λw hw=>tB (J0C _) λz hz=>tY (a0f dA)<|tR dD) (λr hr=>tR ⟨?_,rfl⟩)
    · repeat' (first|exact tR trivial|refine tI (λ_=> ?_) (λ_=> ?_)|exact tB (w0O _) dJ)
    simp only;omega
  rw[dF (show¬s.2.1<(q.length:Int) by omega)];exact tR dC
def B0a(hp:g0C p 1000):Tot (j0V p) (λr=>r.length<=20000):=by
  unfold j0V;obtain⟨p1,p2,p3,p4⟩:=hp;refine tB (w0A p) λn hn=>tB (z0S dE) λa ha=> ?_;simp only[cm]at ha;refine tB (s0p dA p1) λb hb=>tB (z0S dA) λc hc=>tY (a0f dA) ?_;refine tB (z0S dD) λd hd=> ?_;simp only[az]at hd;refine tB (s0p dA p2) λe he=>tB (z0S dA) λf hf=>tB (p:=λr:List Int=>r.length<=20000) (tI (λ_=>tY (a0f dD)<|tB (s0p dD p3) λg hg=> ?_) λ_=>tR dA) λ_ h=>tR h;simp only[az,aU,cm]at hg;exact tY (a0f dA) (tB (s0p dD p4) λi hi=>tR<|by simp only[az]at hi;omega)
def F0e(r:Int):(jJ r).data.toList.length<=4:=by
  unfold jJ;simp only
  repeat' (first|(split)|simp)
def w0T: ∀l:List Int,(p0T l).length<=4*l.length
  | []=>by simp[p0T]
  |x::l=>by
    have h1:=F0e x;have h2:=w0T l;have:p0T (x::l)=(jJ x).data.toList++p0T l:=rfl;rw[this,az,aU];omega
theorem G0h{x:List a0b}(hx:x.length<=1000):Tot (j0y x y) (λ_=>True):=by
  unfold j0y;refine tI dI λh=>tJ<|tW (λs:Int=>s) x.length (λ_=>True) dA ⟨trivial,ai _,dE⟩ (λs _ g0 g1=> ?_) λs _ e=> ?_;have h:=dFF h;exact tY (dT g1)<|tY (a0c g0 g1) (tY (a0c g0 dA)<|tI dI λ_=>tR ⟨trivial,w64 dA dA⟩)
  rw[dF (show¬s<(x.length:Int) by omega)];exact tR<|tR trivial
def L0C{x y:a0h}(hx:g0C x 1000):Tot (s0v x y) (λ_=>True):=by
  unfold s0v l0G;obtain⟨p1,p2,p3,p4⟩:=hx;refine zC (show Tot (bif _ then _ else _) _ from ?_) dJ;refine tI (λ_=>tI (λ_=>tI (λ_=>tB (G0h p1) λ_ _=>tI (λ_=>tB (G0h p2) λ_ _=>tI (λ_=>tB (G0h p3) λ_ _=>tI (λ_=>tB (G0h p4) dJ) dI) dI) dI) dI) dI) dI
theorem J0q(hp:g0C p 1000):Tot (q0n p) (λ_=>True):=by
  unfold q0n
  refine tB (p:=λt:List UInt8=>t.length<=100000) (by
    unfold v0E;refine tB (B0a hp) (λr hr=>tR ?_)
    have:=w0T r;omega) λt ht=>tB (y0W ht) λq _=>zC (tI (λ_=>tB (L0C hp) dJ) dI) dJ
/-! What is read of rules, classes, signs and affixes: it answers. -/
theorem w0a{x y:List T}{k:Int->Option (Int⊕(Unit⊕Bool))}(hx:x.length<=4294967296)(hk: ∀s:Int,0<=s->s<x.length->x.length=y.length->Tot (k s) (λo=>o= .inl (wA .i64<|s+1)\/ ∃b,o= .inr (.inr b))):
    Tot (bif yA (¬(x.length:Int)=(y.length:Int))then vA oA else jA (a0m (λs=>bif yA (s<(x.length:Int))then k s else vA<|.inr<|.inl ()) big 0)<|a0j λ(_:Unit)=>vA jB) (λ_=>True):=by
  refine tI dI λh=>tJ<|tW (λs:Int=>s) x.length (λ_=>True) hx ⟨trivial,ai _,dE⟩ (λs _ g0 g1=>tY (dT g1) ?_) λs _ e=>tN (dF dA)<|tR<|tR trivial;have h:=dFF h;refine(hk s g0 g1 dA).mono λo ho=> ?_;rcases ho with rfl|⟨b,rfl⟩;exact⟨trivial,w64 dA dA⟩;trivial
theorem M0O{x y:List Int}(hx:x.length<=4294967296):Tot (i0y x y) (λ_=>True):=by
  unfold i0y;exact w0a hx λs g0 g1 e=>tY (a0c g0 g1)<|tY (a0c g0 dA)<|tI (λ_=>tR<|.inr ⟨_,rfl⟩) λ_=>tR<|.inl rfl
theorem C0F(x:Int):Tot (g0P x) (λ_=>True):=by
  unfold g0P;refine tJ<|tW (λs:Int=>s) 20 (λ_=>True) dG ⟨trivial,ai _,dG⟩ (λs _ g0 g1=>tY (dT dA)<|tJ<|tY (a0c g0 g1)<|zC (tI dI dI) λ_ _=>tI dI λ_=>tR (show Tot _ _ from tR ⟨trivial,w64 dA dA⟩)) λs _ e=>tN (dF dA)<|tR<|tR trivial
def O0g(x:Int):Tot (s0K x) (λ_=>True):=by
  unfold s0K;refine zC ?_ dJ
  repeat' (first|exact tR trivial|refine tI (λ_=> ?_) λ_=> ?_)
def C0Y(x:Int):Tot (a0w x s0d) (λr=>r.2=s0d):=by
  rw[s0N<|List.Perm.refl _];exact tB (O0g x) λ_ _=>tI (λ_=>tR rfl) λ_=>tI (λ_=>tR rfl) λ_=>tI (λ_=>tR rfl) λ_=>tB (C0F x) λ_ _=>tI (λ_=>tR rfl) λ_=>tR rfl
theorem O0W(x:Int):Tot (k0F x) (λ_=>True):=by
  unfold k0F;refine tB (p:=λy=>y=s0d) ⟨_,rfl,rfl⟩ λy hy=> ?_;subst hy;exact tB (C0Y x) (λ_ _=>tR trivial)
theorem K0P(hl:l.length<=4294967296):Tot (l0l l) (λ_=>True):=by
  unfold l0l;refine tB (p:=λy=>y=s0d) ⟨_,rfl,rfl⟩ λy hy=> ?_;subst hy
  refine tJ (tW (λs:Int×List (a0N×Int)=>s.1) l.length (λs=>s.2=s0d) hl ⟨rfl,ai _,dE⟩ (λs hs g0 g1=>tY (dT g1) (tJ (tY (a0c g0 g1) (by
    rw[hs]
    exact tB (C0Y _) λy hy=>zC (by repeat' (first|exact tR trivial|refine tI (λ_=> ?_) λ_=> ?_)) λ_ _=>tI (λ_=>tR (show Tot _ _ from tR ⟨hy,w64 dA dA⟩)) dI)))) λs _ e=>tN (dF dA)<|tR<|tR trivial)
theorem I0Y(hl:l.length<=4294967296):Tot (l0Y l) (λ_=>True):=by
  unfold l0Y;refine tJ<|tW (λs:Int×Int=>s.2) l.length (λ_=>True) hl ⟨trivial,ai _,dE⟩ (λs _ g0 g1=>tY (dT g1)<|tJ<|tY (a0c g0 g1) ?_) λs _ e=>tN (dF dA)<|tR<|tR trivial;have e:wA .i64 (s.2+1)=s.2+1:=w64 dA dA;have two: ∀b c:Bool,Tot (bif b then vA c else vA oA) (λ_=>True):=λb c=>tI dI dI
  exact tB (two _ _) λ_ _=>tI dI λ_=>tB (two _ _) λ_ _=>tI (λ_=>tR (show Tot _ _ from tR ⟨trivial,e⟩)) λ_=>tB (two _ _) λ_ _=>tI dI λ_=>tI (λ_=>tR (show Tot _ _ from tR ⟨trivial,e⟩)) λ_=>tR (show Tot _ _ from tR ⟨trivial,e⟩)
def I0M(s:b0I)(x:Int):Tot (j0H s x) (λ_=>True):=by
  unfold j0H;exact zC (tI dI λ_=>tI dI dI) dJ
theorem D0l(hl:l.length<=4294967296):Tot (n0X s l) (λ_=>True):=by
  unfold n0X;refine tJ<|tW (λs:Int=>s) l.length (λ_=>True) hl ⟨trivial,ai _,dE⟩ (λi _ g0 g1=>tY (dT g1)<|tJ<|tY (a0c g0 g1)<|tB (C0F _) λ_ _=>zC (tI dI λ_=>tB (I0M _ _) dJ) λ_ _=>tI dI λ_=>tR (show Tot _ _ from tR ⟨trivial,w64 dA dA⟩)) λi _ e=>tN (dF dA)<|tR (show Tot _ _ from ?_);exact zC (tB (K0P hl) λ_ _=>tI (λ_=>tB (I0Y hl) dJ) dI) dJ
def K0N(hl:l.length<=4294967296):Tot (k0q l) (λr=>r.length<=l.length):=by
  unfold k0q;refine tI (λh=> ?_) λ_=>tY (a0f hl)<|tR<|ak _;obtain rfl:=ay<|ae h;exact⟨[],by show m0g (vA []) (vA [])=_;simp[m0g],dE⟩
def A0T{l:List a0b}(hl:l.length<=4294967296):Tot (f0N l) (λr=>r.length<=l.length):=by
  unfold f0N;refine tI (λh=> ?_) λ_=>tY (a0f hl)<|tR<|ak _;obtain rfl:=ay<|ae h;exact⟨[],by show m0g (vA []) (vA [])=_;simp[m0g],dE⟩
def C0n(a:f0u):Prop:=a.e_.length<=10000000/\a.i_.length<=10000000
def L0b{a:f0u}(ha:C0n a):Tot (i0p s a) (λ_=>True):=by
  unfold i0p;obtain⟨h1,h2⟩:=ha;exact tB (K0N dA) λc hc=>tY (a0f dA)<|tB (D0l dD) dJ
def F0C{a c:f0u}(ha:C0n a):Tot (h0d a c) (λ_=>True):=by
  unfold h0d;exact zC (tB (M0O<|aH ha.1 dG) λ_ _=>tI (λ_=>tB (M0O<|aH ha.2 dG) dJ) dI) dJ
theorem w0f{l:List a0b}(hl:l.length<=4294967296):Tot (e0U l k) (λ_=>True):=by
  unfold e0U;refine zC (tW (λs:Int×Int=>s.2) l.length (λ_=>True) hl ⟨trivial,ai _,dE⟩ (λs _ g0 g1=>tY (dT g1)<|zC (tY (a0c g0 g1)<|tI dI dI) λ_ _=>tR ⟨trivial,w64 dA dA⟩) λs _ e=>zE e trivial) dJ
def M0p{l put:List a0b}(hl:l.length<=1000)(hp:put.length<=1):Tot (c0R l put) (λr=>r.length<=1001):=by
  unfold c0R;exact tB (A0T dA) λc hc=>tY (a0f dA)<|tR dD
def p0P(l:List T)(i:Int)(x:T):(d0a l i x).length=l.length:=by simp[d0a]
theorem z0U{l:List a0b}(hl:l.length<=1000):Tot (f0O l) (λr=>r.length<=1001):=by
  unfold f0O;refine tB (A0T dA) λc hc=>tB (p:=λr:List a0b=>r.length<=1001) (tW (λs:Int×List a0b=>s.1) c.length (λs=>s.2.length=c.length) dA ⟨rfl,ai _,dE⟩ (λs hs g0 g1=>tY (dT g1) ?_) λs hs e=>tN (dF dA)<|tR dC) λ_ h=>tR h;have hi:inR s.1 s.2.length=true:=a0c g0 dA;refine tB (p:=λr:List a0b=>r.length=c.length) (tY hi<|tY hi<|tI (λ_=>tY hi<|tY hi<|tR<|by rw[p0P];exact hs) λ_=>tR hs) λr hr=>tR ⟨hr,w64 dA dA⟩
theorem G0s(hp:g0C p 1000)(s:Int):Tot (e0C p s) (λr=>r.1.length<=1001/\r.2.length<=1001):=by
  unfold e0C;obtain⟨p1,p2,p3,p4⟩:=hp;have c1:([]:List a0b).length<=1:=by simp
  have c2: ∀t:a0b,([t]:List a0b).length<=1:=λt=>by simp
  have two: ∀ {x y:List a0b} {a:List a0b},x.length<=1000->y.length<=1000->a.length<=1->Tot (jA (c0R x a) λy0=>jA (c0R y []) λy1=>vA (y0,y1)) (λr=>r.1.length<=1001/\r.2.length<=1001):=λhx hy ha=>tB (M0p hx ha) (λa ha=>tB (M0p hy c1) λc hc=>tR ⟨ha,hc⟩)
  refine tI (λ_=>tI (λ_=>two p3 p4 c1) λ_=>two p1 p2<|c2 _) λ_=>tI (λ_=> ?_) λ_=>two p1 p2 c1;refine tJ<|zC (tI (λ_=>tB (w0f dA) λ_ _=>tB (w0f dA) dJ) dI) λ_ _=>tI (λ_=>tB (z0U p3) λa ha=>tB (z0U p4) λc hc=>tR ⟨ha,hc⟩) λ_=>tR<|two p1 p2<|c2 _
theorem x0e{l:List a0b}(hl:l.length<=1001)(hc:cur.length<=6100):Tot (e0S l s cur) (λr=>r.length<=10000000):=by
  unfold e0S;refine tB (show Tot (i0o s cur) (λ_=>True)from tR trivial) λ_ _=>tB (p:=λr:List Int=>r.length<=10000000) (tW (λs:Int×List Int=>s.1) l.length (λs=>(s.2.length:Int)<=6100*s.1) dA ⟨dE,ai _,dE⟩ (λu hu g0 g1=>tY (dT g1) ?_) λu hu e=>tN (dF dA)<|tR dC) λ_ h=>tR h;have one: ∀x:Int,Tot (bif room (u.2.length+([x]:List Int).length)then vA (u.2++ [x])else none) (λr:List Int=>(r.length:Int)<=u.2.length+6100):=λx=>tY (a0f dD) (tR<|by simp<;>omega)
  refine tB (p:=λr:List Int=>(r.length:Int)<=u.2.length+6100) (tY (a0c g0 g1)<|tI (λ_=>one _) λ_=>tI (λ_=>one _) λ_=>tI (λ_=>one _) λ_=>tI (λ_=>one _) λ_=>tI (λ_=>tY (a0f dA)<|tR dD) λ_=>tY (a0f dD)<|tR dD) λr hr=>tR ⟨?_,w64 dA dA⟩;rw[w64 (n:=u.1+1) dA dA];simp only;omega
def w0r(hp:g0C p 1000)(hc:cur.length<=6100):Tot (c0s p s g cur) C0n:=by
  unfold c0s;exact tB (G0s hp g) λa ha=>tB (x0e ha.1 hc) λc hc1=>tB (x0e ha.2 hc) λd hd=>tR ⟨hc1,hd⟩
/-! The check of a locale: it answers. -/
theorem v0D{a c:List a0b}{s:Int}(ha:a.length<=1000)(hc:c.length<=1000):Tot (g0X a c s m) (λ_=>True):=by
  have one: ∀k:Int,Tot (c0N k a c) (λ_=>True):=λk=>by
    unfold c0N;exact tB (w0f dA) (λ_ _=>tB (w0f dA) dJ)
  unfold g0X;refine zC (tI dI λ_=>tI dI dI) λ_ _=>zC (tB (one _) λ_ _=>tI (λ_=>tB (one _) λ_ _=>tI (λ_=>tB (one _) λ_ _=>tI (λ_=>tB (one _) dJ) dI) dI) dI) dJ
def P0W(a:C0o):Prop:=C0n a.g_/\C0n a.h_/\C0n a.o_
def A0X(hp:g0C p 1000)(hc:cur.length<=6100):Tot (j0D s p cur) P0W:=by
  unfold j0D;exact tB (w0r hp hc) λa ha=>tB (w0r hp hc) λc hc1=>tB (w0r hp hc) λd hd=>tR ⟨ha,hc1,hd⟩
theorem C0I(hp:g0C p 1000)(hc:cur.length<=6100):Tot (e0K s p cur) (λ_=>True):=by
  unfold e0K;refine tB (A0X hp hc) λa ha=>tJ<|tL (λi:Int=>0<=i/\i<=3) (λi=>(3-i).toNat) dA dG λi hi=> ?_;have st: ∀ {a:f0u} (k:Int),C0n a->0<=k/\k<3/\i=k->wA .i64 (k+1)=k+1->Tot (jA (i0p s a) λy1=>bif !y1 then vA (.inr<|.inr oA)else vA<|.inl<|wA .i64<|k+1) (λx:Int⊕(Unit⊕Bool)=>match x with| .inl s'=>(0<=s'/\s'<=3)/\(3-s').toNat<(3-i).toNat| .inr o=>True):=λ{a} k ha hk e=>tB (L0b ha) (λ_ _=>tI dI λ_=>tR<|by rw[e];simp only;omega)
  have fin:Tot (jA (jA (h0d a.g_ a.h_) λy4=>bif !y4 then jA (h0d a.h_ a.o_) λy5=>vA (!y5)else vA oA) λs1=>vA s1) (λ_=>True):=zC (tB (F0C ha.1) λ_ _=>tI (λ_=>tB (F0C ha.2.1) dJ) dI) dJ;refine Tot.mono (p:=λx:Int⊕(Unit⊕Bool)=>match x with| .inl s'=>(0<=s'/\s'<=3)/\(3-s').toNat<(3-i).toNat| .inr o=>True) ?_ λx hx=> ?_;refine tI (λh=>tI (λh0=>st 0 ha.1 ⟨dA,dA,dTT h0⟩ dG) λh0=>tI (λh1=>st 1 ha.2.1 ⟨dA,dA,dTT h1⟩ dG) λh1=>tI (λh2=>st 2 ha.2.2 ⟨dA,dA,dTT h2⟩ dG) λh2=> ?_) dI;have:=dTT h;have:=dFF h0;have:=dFF h1;have:=dFF h2;omega
  match x,hx with
  | .inl _,h=>exact h
  | .inr (.inl _),_=>exact fin
  | .inr (.inr _),_=>trivial
theorem F0n(hl:l.length<=4294967296):Tot (b0c l x) (λ_=>True):=by
  unfold b0c m0Q;exact zC (tJ<|tW (λs:Int=>s) l.length (λ_=>True) hl ⟨trivial,ai _,dE⟩ (λi _ g0 g1=>tY (dT g1)<|tY (a0c g0 g1)<|tI dI λ_=>tR ⟨trivial,w64 dA dA⟩) λi _ e=>tN (dF dA)<|tR<|tR trivial) dJ
def E0H(s:b0I)(x:Int):Tot (i0x s x) (λ_=>True):=by
  unfold i0x;refine zC ?_ λ_ _=>zC (tI dI λ_=>tB (I0M _ _) dJ) dJ;unfold s0P;exact tJ<|zC (tI dI dI) λ_ _=>tI dI λ_=>tR<|tR trivial
theorem G0U(hp:g0C p 1000):Tot (o0e s p) (λ_=>True):=by
  unfold o0e;refine tI dI λ_=>tB (O0W _) λ_ _=>tJ<|zC (tI (λ_=>tI dI λ_=>tB (E0H _ _) dJ) λ_=>tB (E0H _ _) dJ) λ_ _=>tI dI λ_=>tR (show Tot _ _ from ?_);refine tJ<|tB (A0X hp dE) λa ha=>tL (λi:Int=>0<=i/\i<=3) (λi=>(3-i).toNat) dA dG λi hi=> ?_;have st: ∀ {a:f0u},C0n a->Tot (jA (b0c a.e_ p.N_) λy4=>bif y4 then vA jB else jA (b0c a.i_ p.N_) λy5=>vA y5) (λ_=>True):=λha=>tB (F0n<|aH ha.1 dG) (λ_ _=>tI dI λ_=>tB (F0n<|aH ha.2 dG) dJ)
  refine tI (λh=>tJ<|Tot.mono (p:=λx:Int⊕(Int⊕(Unit⊕Bool))=>match x with| .inl s'=>s'=i| .inr (.inl _)=>False| .inr (.inr<|.inl _)=>False| .inr (.inr<|.inr _)=>True) ?_ λx hx=> ?_) λ_=>tR<|tR trivial;refine tI (λh0=>tB (st ha.1) λ_ _=>tI dI λ_=>tR (dTT h0).symm) λh0=>tI (λh1=>tB (st ha.2.1) λ_ _=>tI dI λ_=>tR (dTT h1).symm) λh1=>tI (λh2=>tB (st ha.2.2) λ_ _=>tI dI λ_=>tR (dTT h2).symm) λh2=> ?_;have:=dTT h;have:=dFF h0;have:=dFF h1;have:=dFF h2;omega
  match x,hx with
  | .inl s',e=>
    have:=dTT h;subst e;refine tR ?_;rw[w64 (n:=s'+1) dA dA];exact⟨dA,dA⟩
  | .inr (.inr<|.inr _),_=>trivial
theorem E0h(ht:t.length<=100000):Tot (l0K t) (λr=>g0C r.1 1000):=by
  unfold l0K;refine tB (y0W ht) (λy hy=> ?_)
  replace hy:=hy.1
  have hy:g0C y.1 1000:=⟨by have:=hy.1;omega,by have:=hy.2.1;omega,by have:=hy.2.2.1;omega,by have:=hy.2.2.2;omega⟩
  exact zC (tI (λ_=>tB (J0q hy) dJ) dI) λ_ _=>tR hy
def M0a(p:a0h)(s:Int):Tot (g0Y p s) (λ_=>True):=by
  unfold g0Y
  repeat' (first|exact tR trivial|refine zI ?_ ?_|refine zB ?_ λ_=> ?_)
def M0n: ∀ {a c d e:List a0b},a=[]->c=[]->d=[]->e=[]->g0C (⟨a,c,d,e,oA,0,0,0,0,0,0,0,0,0,oA,0,0⟩:a0h) 1000:=by
  rintro _ _ _ _ rfl rfl rfl rfl;exact⟨dE,dE,dE,dE⟩
def f0C(ht:t.length<=100000):Tot (a0O s k t) (λr=>g0C r.1 1000):=by
  have z:=M0n rfl rfl rfl rfl;unfold a0O;refine tB (E0h ht) λy hy=> ?_;obtain⟨h1,h2,h3,h4⟩:=id hy;refine tJ<|zC (tI dI λ_=>tI dI dI) λ_ _=>tI (λ_=>tR z) λ_=>tR (show Tot _ _ from ?_);refine tJ<|zC (tB (M0a _ _) λ_ _=>tI dI λ_=>tB (v0D h1 h2) λ_ _=>tI dI λ_=>tI (λ_=>tB (v0D h3 h4) dJ) dI) λ_ _=>tI (λ_=>tR z) λ_=>tR (show Tot _ _ from ?_);exact tJ<|zC (tB (C0I hy dE) λ_ _=>tI dI λ_=>tB (G0U hy) dJ) λ_ _=>tI (λ_=>tR z) λ_=>tR (show Tot _ _ from tR hy)
theorem M0g(c:Int):Tot (q0j c) (λ_=>True):=by
  unfold q0j;refine zC (by unfold l0d;exact tR trivial) λ_ _=>tJ<|tB (p:=λb=>b=oA->0<=c/\c<6) (tI (λ_=>tR dH) λh=>tR λh2=> ?_) λb hb=>tI dI λe=>tR (show Tot _ _ from ?_);have:=dFF h;have:=dFF h2;omega;have:=hb e;refine tI dI λh0=>tI dI λh1=>tI dI λh2=>tI dI λh3=>tI dI λh4=>tI dI λh5=> ?_;have:=dFF h0;have:=dFF h1;have:=dFF h2;have:=dFF h3;have:=dFF h4;have:=dFF h5;omega
def v0o{c:i0P}(ht:c.aj_.length<=100000):Tot (b0v s c) (λr=>g0C r.1 1000):=by
  have z:=M0n rfl rfl rfl rfl;unfold b0v;refine tB (E0h ht) λy hy=> ?_;obtain⟨h1,h2,h3,h4⟩:=id hy;refine tJ<|zC (tI dI λ_=>tI dI λ_=>tI dI λ_=>tB (M0g _) dJ) λ_ _=>tI (λ_=>tR z) λ_=>tR (show Tot _ _ from ?_);refine tJ<|zC (tI dI λ_=>tI dI λ_=>tI dI dI) λ_ _=>tI (λ_=>tR z) λ_=>tR (show Tot _ _ from tI (λ_=>tR z) λ_=> ?_);exact tJ<|zC (tB (v0D h1 h2) λ_ _=>tI dI λ_=>tB (C0I hy dE) dJ) λ_ _=>tI (λ_=>tR z) λ_=>tR (show Tot _ _ from tR hy)
/-! Rules are read, and written: it answers. -/
def inI(n:Int):Prop:= -9223372036854775808<=n/\n<=9223372036854775807
def z0R(n:Int):inI (wA .i64 n):=by
  have h:wA .i64 n=if n%18446744073709551616≥9223372036854775808 then n%18446744073709551616-18446744073709551616 else n%18446744073709551616:=by
    unfold wA;simp[oG,yH]
  unfold inI;rw[h];split<;>omega
def P0e:inI 0:=⟨dA,dA⟩
def rb(t:List UInt8)(i:Int):Prop:=0<=i/\i<=(t.length:Int)
def O0U(k:Int->Option Bool)(x0:List UInt8)(x1:Int):Option ((List UInt8)×Int):=
  (jA (a0m (λ(s1:Int)=>jA (jA (bif(yA<|s1<(x0.length:Int))then(bif inR s1 x0.length then(vA<|yA<|(((x0.getD (s1:Int).toNat 0).toNat:Nat):Int)=32)else none)else vA oA) λ(s2:Bool)=>bif s2 then(vA<|.inl ())else vA<|.inr<|.inr s1)<|a0j λ(s3:Unit)=>vA<|.inl<|wA .i64<|s1+1) big x1) λ(s4:Int)=>jA (a0m (λ(s5:Int)=>jA (jA (bif(yA<|s5<(x0.length:Int))then(bif inR s5 x0.length then(jA (k (((x0.getD (s5:Int).toNat 0).toNat:Nat):Int)) λy0=>vA y0)else none)else vA oA) λ(s6:Bool)=>bif s6 then(vA<|.inl ())else vA<|.inr<|.inr s5)<|a0j λ(s7:Unit)=>vA<|.inl<|wA .i64<|s5+1) big s4) λ(s8:Int)=>bif inS s4 s8 x0.length then(vA ((cut x0 s4 s8),s4))else none)
section
variable {t : List UInt8}(ht : t.length <= 400)
include ht
theorem H0X{k:Int->Option Bool}(hk: ∀x,Tot (k x) λ_=>True)(h:rb t i):Tot (a0m (λ(s5:Int)=>jA (jA (bif(yA<|s5<(t.length:Int))then(bif inR s5 t.length then(k (((t.getD (s5:Int).toNat 0).toNat:Nat):Int))else none)else vA oA) λ(s6:Bool)=>bif s6 then(vA<|.inl ())else vA<|.inr<|.inr s5)<|a0j λ(s7:Unit)=>vA<|.inl<|wA .i64<|s5+1) big i) (λr=>rb t r/\i<=r):=by
  refine tL (λs=>rb t s/\i<=s) (λs=>((t.length:Int)-s).toNat) ⟨h,ai _⟩ (by have:=h.1;omega) λs hs=> ?_;obtain⟨⟨g0,g1⟩,g2⟩:=hs;refine tJ<|tB (p:=λr=>r=jB->s<t.length) (tI (λe=>tY (a0c g0<|dTT e)<|(hk _).mono λ_ _ _=>dTT e) λ_=>tR dH) λr hr=>tI (λe=>tR (show Tot _ _ from tR ?_)) λ_=>tR ⟨⟨g0,g1⟩,g2⟩;have:=hr e;rw[w64 (n:=s+1) dA dA];exact⟨⟨⟨dA,dA⟩,dA⟩,dA⟩
theorem J0k{k:Int->Option Bool}(hk: ∀x,Tot (k x) λ_=>True)(h:rb t i):Tot (O0U k t i) (λr=>rb t r.2/\i<=r.2/\r.2+r.1.length<=t.length):=by
  unfold O0U;have hk2: ∀x,Tot (jA (k x) λy0=>vA y0) (λ_=>True):=λx=>tB (hk x) dJ
  refine tB (H0X ht (k:=λx=>vA<|yA<|x=32) dI h) λa ha=>tB (H0X ht hk2 ha.1) λb hb=>tY (l0i ha.1.1 hb.2 hb.1.2)<|tR ⟨ha.1,ha.2, ?_⟩;have h1:=ha.1.1;have h2:=hb.2;have h3:=hb.1.2;unfold cut;simp;omega
theorem y0j{q:List UInt8}(h:rb t i)(hq:q.length<=3):Tot (b0r q t i) (λr=>rb t r.2/\i<=r.2):=by
  unfold b0r;refine tB (J0k ht (k:=h0j) dI h) λa ha=>tY (l0i ha.1.1 ha.1.2<|ai _)<|tB (p:=λr=>r=jB->a.2+q.length<=t.length) ?_ λy hy=>tI (λ_=>tR ⟨ha.1,ha.2.1⟩) λe=>tR ?_;unfold h0R f0v;refine tB (p:=λr=>r=jB->a.2+q.length<=t.length) (tB (p:=λr=>r=jB->a.2+q.length<=t.length) (tI (λe=> ?_) λ_=>tR dH) λ_ h=>tR h) λ_ h=>tR h;have e:=dTT e;refine tY (l0i (ai _) dA e)<|tR λ_=> ?_;have h1:=ha.1.1;have h2:=ha.1.2;unfold cut at e;simp at e;omega;have:=hy (by simpa using e);have h1:=ha.1.1;have h2:=ha.2.1;rw[w64 (n:=a.2+q.length) dA dA];exact⟨⟨dC,dC⟩,dC⟩
theorem C0D(h:rb t i):Tot (d0b t i) (λr=>rb t r.2/\i<=r.2/\r.2+r.1.length<=t.length):=by
  unfold d0b;refine tB (J0k ht (k:=e0G) (λx=> ?_) h) λa ha=>tR ha;unfold e0G;refine zC ?_ dJ
  repeat' (first|exact tR trivial|refine tI (λ_=> ?_) λ_=> ?_)
theorem D0Y{v:Int}(h:rb t i):Tot (b0D v t i) (λr=>rb t r.2.2/\i<=r.2.2/\inI r.1/\(r.2.1=jB->i<r.2.2)):=by
  unfold b0D;have z:=P0e;refine tB (J0k ht (k:=d0M) (λx=> ?_) h) (λa ha=>tJ<|tB (p:=λr=>r=oA->0<a.1.length) ?_ λr hr=>tI (λ_=>tR ⟨ha.1,ha.2.1,z,λh=>by cases h⟩) λe=>tR (show Tot _ _ from ?_));unfold d0M;exact zC (tI dI dI) dJ;refine tI (λ_=>tR dH) λe=> ?_;have e:=dFF e;refine tI (λ_=>tR dH) λ_=>tI (λ_=>tY (a0c (ai _) dA)<|tR λ_=>dA) λ_=>tR λ_=>dA;have:=hr e;obtain⟨⟨h0,h1⟩,h2,h3⟩:=ha;have hL:(b0j a.1).length=a.1.length:=d0v _;refine tB (p:=inI) (tW (λs:Int×Int=>s.2) (b0j a.1).length (λs=>inI s.1) dA ⟨z,ai _,dE⟩ (λs hs g0 g1=> ?_) λs hs e=> ?_) (λn hn=>tI (λ_=>tR ⟨⟨h0,h1⟩,h2,z,λh=>by cases h⟩) λ_=>tR ?_);exact tY (dT g1)<|tY (a0c g0 g1) (tR ⟨z0R _,w64 dA dA⟩)
  rw[dF (show¬s.2<((b0j a.1).length:Int) by omega)];exact tR hs;have:=h.1;rw[w64 (n:=a.2+a.1.length) dA dA];exact⟨⟨dC,dC⟩,dC,hn,λ_=>dC⟩
theorem L0V(h:rb t i){x2 x3 x4}:Tot (d0k t i x2 x3 x4) (λr=>r.1=jB->rb t r.2.1/\i<r.2.1):=by
  unfold d0k;refine tB (C0D ht h) λa ha=>tJ<|tB (p:=λr=>r=oA->a.1.length=1) ?_ λr hr=>tI (λ_=>tR dH) λe=>tR (show Tot _ _ from ?_);refine tI (λ_=>tR dH) λe=>zC ?_ λ_ _=>tR λ_=> ?_;unfold i0Q l0v h0Q stringslite_IndexByte;have e:(a.1.length:Int)=1:=by have:=dFF e;omega
  rw[dF (show¬(a.1.length:Int)=0 by omega),dT e];refine zC (zC (zC (tR trivial) λ_ _=>tI dI λ_=>tY rfl<|tY (a0c (ai _) dA)<|tR trivial) dJ) dJ;have:=dFF e;omega;have:=hr e;obtain⟨⟨h0,h1⟩,h2,h3⟩:=ha;refine tY (a0c (ai _) dA)<|tR λ_=> ?_;rw[w64 (n:=a.2+1) dA dA];exact⟨⟨dC,dC⟩,dC⟩
theorem M0h(h:rb t i){x2 x4}:Tot (e0H t i x2 0 x4) (λr=>rb t r.2.1/\i<=r.2.1/\inI r.2.2):=by
  unfold e0H;exact tB (y0j ht h dE) λa ha=>tI (λ_=>tR ⟨ha.1,ha.2,P0e⟩) λ_=>tB (D0Y ht ha.1) λc hc=>tR ⟨hc.1,bf ha.2 hc.2.1,hc.2.2.1⟩
theorem J0e(h:rb t i){x2 x3 x4}:Tot (e0i t i x2 x3 x4) (λr=>rb t r.2.1/\i<=r.2.1):=by
  unfold e0i;exact tB (y0j ht h dE) λa ha=>tI (λ_=>tR ha) λ_=>tB (y0j ht ha.1 dE) λc hc=>tR ⟨hc.1,bf ha.2 hc.2⟩
def J0p(l:List a0S):Prop:=l.length<=400/\ ∀x∈l,inI x.g_/\inI x.h_
theorem G0O(h:rb t i){x2 x3 x4}:Tot (d0C t i x2 x3 x4) (λr=>rb t r.2.1/\i<=r.2.1/\J0p r.2.2):=by
  unfold d0C;refine tL (λs:Int×List a0S=>rb t s.1/\i<=s.1/\(s.2.length:Int)<=s.1/\ ∀x∈s.2,inI x.g_/\inI x.h_) (λs=>((t.length:Int)-s.1).toNat) ⟨h,ai _,by have:=h.1;simpa using this,dE⟩ (by have:=h.1;simp only;omega) λs hs=> ?_;obtain⟨g1,g2,g3,g4⟩:=hs;refine tB (D0Y ht g1) λa ha=>tB (p:=λr:Bool×Int×Int=>rb t r.2.2/\a.2.2<=r.2.2/\inI r.2.1/\(r.1=jB->a.2.1=jB)) ?_ λc hc=> ?_;refine tB (p:=λr:Bool×Int=>rb t r.2/\a.2.2<=r.2/\(r.1=jB->a.2.1=jB)) (tI (λe=>tB (y0j ht ha.1 dE) λc hc=>tR ⟨hc.1,hc.2,λ_=>e⟩) λ_=>tR ⟨ha.1,ai _,λh=>by cases h⟩) λc hc=> ?_;exact tI (λe=>tB (D0Y ht hc.1) λd hd=>tR ⟨hd.1,bf hc.2.1 hd.2.1,hd.2.2.1,λ_=>hc.2.2 e⟩) λ_=>tR ⟨hc.1,hc.2.1,ha.2.2.1,id⟩;obtain⟨⟨c0,c1⟩,c2,c3,c4⟩:=hc;have a2:=ha.2.1
  have hall: ∀x∈s.2++ [(⟨a.1,c.2.1⟩:a0S)],inI x.g_/\inI x.h_:=λx hx=>by
    rcases av.1 hx with hx|hx;exact g4 x hx;obtain rfl:=aN.1 hx;exact⟨ha.2.2.1,c3⟩
  have g1':=g1.2;refine tI (λ_=>tR ⟨⟨c0,c1⟩,dC,dC,g4⟩) λe=>tY (a0f dD)<|tB (y0j ht ⟨c0,c1⟩ dE) λd hd=> ?_;have:=ha.2.2.2 (c4<|by simpa using e);obtain⟨⟨d0,d1⟩,d2⟩:=hd;exact tI (λ_=>tR ⟨⟨d0,d1⟩,dC,dD,hall⟩) λ_=>tR ⟨⟨⟨d0,d1⟩,dC,dD,hall⟩,dC⟩
def B0w(r:a0z):Prop:=inI r.aw_/\J0p r.R_
theorem B0v(h:rb t i):Tot (c0S t i) (λr=>r.2.1=jB->rb t r.2.2/\i<r.2.2/\B0w r.1):=by
  unfold c0S;refine tJ<|tB (p:=λs:Bool×Int×Int×Int×Bool×List a0S=>s.1=jB->rb t s.2.1/\i<s.2.1/\inI s.2.2.2.1/\J0p s.2.2.2.2.2) ?_ λs hs=>tI (λe=>tR λ_=>⟨(hs e).1,(hs e).2.1,(hs e).2.2.1,(hs e).2.2.2⟩) λ_=>tR (show Tot _ _ from tR dH);refine tB (L0V ht h) λa ha=>tI (λe=> ?_) λ_=>tR dH;have ha:=ha e;refine tB (M0h ht ha.1) λc hc=>tI (λ_=>tB (J0e ht hc.1) λd hd=>tI (λ_=>tB (G0O ht hd.1) λf hf=>tR λ_=>⟨hf.1, ?_,hc.2.2,hf.2.2⟩) λ_=>tR dH) λ_=>tR dH;exact Int.lt_of_lt_of_le ha.2<|bf hc.2.1<|bf hd.2 hf.2.1
def D0s(l:List a0z):Prop:=l.length<=400/\ ∀r∈l,B0w r
def n0L(c:List<|List a0z):Prop:=c.length<=401/\ ∀l∈c,D0s l
theorem L0H:Tot (e0j t 0) (λr=>n0L r.1):=by
  unfold e0j;refine tJ<|Tot.mono (p:=λx=>match x with| .inl s=>(s.2.1.length:Int)<=400/\(∀l∈s.2.1,D0s l)/\D0s s.2.2| .inr r=>n0L r.1) (tL (λs:Int×List (List a0z)×List a0z=>rb t s.1/\(s.2.1.length:Int)<=s.1/\(s.2.2.length:Int)<=s.1/\(∀l∈s.2.1,D0s l)/\ ∀r∈s.2.2,B0w r) (λs=>((t.length:Int)-s.1).toNat) ⟨⟨ai _,dC⟩,dE,dE,dE,dE⟩ dC λs hs=> ?_) λx hx=> ?_;obtain⟨g1,g2,g3,g4,g5⟩:=hs;refine tB (B0v ht g1) λa ha=>tI (λ_=>tR ⟨dE,dE⟩) λe=> ?_;obtain⟨a1,a2,a3⟩:=ha (by simpa using e);have g1':=g1.2;have a1':=a1.2
  have hall: ∀r∈s.2.2++ [a.1],B0w r:=λx hx=>by
    rcases av.1 hx with hx|hx;exact g5 x hx;obtain rfl:=aN.1 hx;exact a3
  have hrow:D0s (s.2.2++ [a.1]):=⟨dD,hall⟩
  refine tY (a0f dD)<|tB (C0D ht a1) λw hw=> ?_;obtain⟨⟨w0,w1⟩,w2,w3⟩:=hw;have ew:wA .i64 (w.2+w.1.length)=w.2+w.1.length:=w64 dA dA;rw[ew];refine tI (λ_=>tR ⟨⟨⟨dC,dC⟩,dC,dD,g4,hall⟩,dC⟩) λ_=>tI (λ_=>tY (a0f dD)<|tR ⟨⟨⟨dC,dC⟩,dD,dD,λl hl=> ?_,dE⟩,dC⟩) λ_=>tR ⟨dC,g4,hrow⟩;rcases av.1 hl with hl|hl;exact g4 l hl;obtain rfl:=aN.1 hl;exact hrow
  cases x with
  |inr r=>exact hx
  |inl s=>
    obtain⟨s1,s2,s3⟩:=hx;refine show Tot _ _ from tY (a0f dD) (tR ⟨dD,λl hl=> ?_⟩)
    rcases av.1 hl with hl|hl;exact s2 l hl;obtain rfl:=aN.1 hl;exact s3
end
theorem b0J[Inhabited T]{l:List T}(h0:0<=i)(h1:i<l.length):nth l i∈l:=by
  obtain⟨k,rfl⟩:=Int.eq_ofNat_of_zero_le h0;rw[p0q dA];exact cK _
theorem C0H{c:List (List a0z)}(hc:n0L c):Tot (k0r c) (λ_=>True):=by
  unfold k0r;have hn:=hc.1;refine tJ<|tW (λs:Int×Int=>s.2) c.length (λ_=>True) dA ⟨trivial,ai _,dE⟩ (λs _ g0 g1=> ?_) λs _ e=> ?_;rw[dT g1];have hm:=(hc.2 _<|b0J g0 g1).1;refine tJ<|tY (a0c g0 g1)<|tW (λs:Int=>s) (nth c s.2).length (λ_=>True) dA ⟨trivial,ai _,dE⟩ (λu _ f0 f1=> ?_) λu _ e=> ?_;exact tY (dT f1)<|tY (a0c f0 f1) (tI dI λ_=>tR ⟨trivial,w64 dA dA⟩)
  rw[dF (show¬u<((nth c s.2).length:Int) by omega)];exact tR<|tR ⟨trivial,w64 dA dA⟩;rw[dF (show¬s.2<(c.length:Int) by omega)];exact tR<|tR trivial
theorem A0c(t:List UInt8):Tot (l0a t) (λr=>n0L r.1):=by
  unfold l0a
  have z:n0L []:=⟨dE,dE⟩
  refine tI (λ_=>tR z) λe=> ?_;have e:=dFF e;exact tB (L0H dA) λa ha=>tI (λ_=>tR z) λ_=>tB (C0H ha) λ_ _=>tI (λ_=>tR z) λ_=>tR ha
/-! Decimal numerals: what the library's functions lay. -/
def dgs(u:Nat):Nat->List Int
  |0=> []
  |n+1=>dgs (u/10) n++ [((48+u%10:Nat):Int)]
def F0h: ∀(n u:Nat),(dgs u n).length=n
  |0,u=>rfl
  |n+1,u=>by simp[dgs,F0h n]
def K0F(u n:Nat):dgs u (n+2)=dgs (u/100) n++ [((48+u/10%10:Nat):Int),((48+u%10:Nat):Int)]:=by
  show dgs (u/10) (n+1)++_=_;show(dgs (u/10/10) n++_)++_=_;rw[cY,aS];rfl
def M0T: ∀(u:Nat),dgs u (Lib.nDigits u)=b0j (Lib.decDigits u):=by
  intro u
  induction u using Nat.strongRecOn with
  |_ u ih=>
    by_cases h:u<10;rw[Lib.nDigits_small h,Lib.decDigits,dif_pos h];simp only[dgs,b0j,ao,aI,aV];rw[UInt8.toNat_ofNat_of_lt'<|by simp only[UInt8.size];omega,da h];rw[Lib.nDigits_big h,Lib.decDigits,dif_neg h];show dgs (u/10) (Lib.nDigits<|u/10)++_=_;rw[ih (u/10) dA];simp only[b0j,cx,ao,aI];rw[UInt8.toNat_ofNat_of_lt'<|by simp only[UInt8.size];omega]
theorem O0e(p:Nat)(h:p<100):(k1_.getD (p*2) 0).toNat=48+p/10:=by
  have: ∀q:Fin 100,(k1_.getD (q.val*2) 0).toNat=48+q.val/10:=by decide+kernel
  exact this ⟨p,h⟩
theorem O0d(p:Nat)(h:p<100):(k1_.getD (p*2+1) 0).toNat=48+p%10:=by
  have: ∀q:Fin 100,(k1_.getD (q.val*2+1) 0).toNat=48+q.val%10:=by decide+kernel
  exact this ⟨p,h⟩
def tm8(a:Nat):jD (a:Int) 100000000=((a%100000000:Nat):Int):=by rw[cO dA];omega
def tm4(a:Nat):jD (a:Int) 10000=((a%10000:Nat):Int):=by rw[cO dA];omega
def tm2(a:Nat):jD (a:Int) 100=((a%100:Nat):Int):=by rw[cO dA];omega
def td8(a:Nat):wE (a:Int) 100000000=((a/100000000:Nat):Int):=by rw[bE dA];omega
def td4(a:Nat):wE (a:Int) 10000=((a/10000:Nat):Int):=by rw[bE dA];omega
def td2(a:Nat):wE (a:Int) 100=((a/100:Nat):Int):=by rw[bE dA];omega
def C0z(h:a<4294967296):IntKind.u32.wrap (a:Int)=(a:Int):=P0k dA dA
def N0G(h:a<18446744073709551616):IntKind.u64.wrap (a:Int)=(a:Int):=L0h dA dA
def J0L(a:Nat):(a:Int)*2=((a*2:Nat):Int):=by omega
def M0t:k1_.length=200:=by kernel_rfl
def O0j(h:a<200):inR (a:Int) k1_.length=true:=k0c (by rw[M0t];exact h)
def s0U(xs:List T)(j:Int)(y:T):(d0a xs j y).length=xs.length:=by simp[d0a]
def F0W(x:Int):((0:Nat):Int)+x=x:=by simp
def D0k(p l:List T)(k:Nat)(v:T):d0a (p++l) ((p.length+k:Nat):Int) v=p++l.set k v:=by
  unfold d0a;rw[bG,List.set_append_right _ _ dA];congr 2;omega
def O0l{o j n:Nat}(h:o+j<n):inP o (j:Int) n=true:=by simp[inP];omega
def w0z{b:Nat}(h:b<=a)(h2:a<1000):wA .i64 ((a:Int)-(b:Int))=((a-b:Nat):Int):=by rw[w64 dA dA];omega
def I0R(h:1<=a)(h2:a<1000):wA .i64 ((a:Int)-1)=((a-1:Nat):Int):=w0z h h2
def I0Q(h:2<=a)(h2:a<1000):wA .i64 ((a:Int)-2)=((a-2:Nat):Int):=w0z h h2
def L0q(h:3<=a)(h2:a<1000):wA .i64 ((a:Int)-3)=((a-3:Nat):Int):=w0z h h2
def L0p(h:4<=a)(h2:a<1000):wA .i64 ((a:Int)-4)=((a-4:Nat):Int):=w0z h h2
def N0K(h:5<=a)(h2:a<1000):wA .i64 ((a:Int)-5)=((a-5:Nat):Int):=w0z h h2
def N0J(h:6<=a)(h2:a<1000):wA .i64 ((a:Int)-6)=((a-6:Nat):Int):=w0z h h2
def N0I(h:7<=a)(h2:a<1000):wA .i64 ((a:Int)-7)=((a-7:Nat):Int):=w0z h h2
def N0H(h:8<=a)(h2:a<1000):wA .i64 ((a:Int)-8)=((a-8:Nat):Int):=w0z h h2
def FB(R:List Int)(x0:Nat)(s:Int×Int×List Int):Prop:= ∃(v n:Nat) (p q:List Int),s=((v:Int),(n:Int),p++q)/\p.length=n/\v<10^n/\v<18446744073709551616/\p.length+q.length=24/\n<=x0/\dgs v n++q=R
def N0Y{p:List Int}{k:Nat}(h:p.length=k+8): ∃p' a b c d e f g i,p=p'++ [a,b,c,d,e,f,g,i]/\p'.length=k:=by
  refine⟨p.take k, ?_⟩;have h2:(p.drop k).length=8:=by simp;omega
  match hd:p.drop k,h2 with
  | [a,b,c,d,e,f,g,i],_=>exact⟨a,b,c,d,e,f,g,i,by rw[<-hd,bz],dD⟩
def P0S(u n:Nat):dgs u (n+8)=dgs (u/100000000) n++ [((48+u%100000000/10000/100/10:Nat):Int),((48+u%100000000/10000/100%10:Nat):Int),((48+u%100000000/10000%100/10:Nat):Int),((48+u%100000000/10000%100%10:Nat):Int),
    ((48+u%100000000%10000/100/10:Nat):Int),((48+u%100000000%10000/100%10:Nat):Int),((48+u%100000000%10000%100/10:Nat):Int),((48+u%100000000%10000%100%10:Nat):Int)]:=by
  rw[K0F,K0F,K0F,K0F];simp only[aS,bn,aV,cY];congr 1;congr 1;omega;congr 1;omega;congr 1;omega;congr 1;omega;congr 1;omega;congr 1;omega;congr 1;omega;congr 1;omega
def L0a(a:Nat):(a:Int)+1=((a+1:Nat):Int):=by omega
def E0C(p:Nat)(h:p<100):(((k1_.getD ((p*2:Nat):Int).toNat 0).toNat:Nat):Int)=((48+p/10:Nat):Int):=by rw[bG,O0e p h]
def E0B(p:Nat)(h:p<100):(((k1_.getD ((p*2+1:Nat):Int).toNat 0).toNat:Nat):Int)=((48+p%10:Nat):Int):=by rw[bG,O0d p h]
def w8c(h:a<256):IntKind.u8.wrap (a:Int)=(a:Int):=w8 dA dA
def O0E(a:Nat):(48:Int)+(a:Int)=((48+a:Nat):Int):=by omega
def O0m{n:Nat}(h:0<n):inP 0 0 n=true:=by simp[inP];omega
def O0k{n:Nat}(hx:x.toNat=n)(h:0<n):inR 0 x.toNat=true:=a0c dA dA
def J0g(p:List T)(k:Nat)(v:T):d0a p ((k:Nat):Int) v=p.set k v:=by simp[d0a]
def FA(R:List Int)(x0 b:Nat)(s:Int×Int×List Int):Prop:= ∃(v n:Nat) (p q:List Int),s=((n:Int),(v:Int),p++q)/\p.length=n/\v<4294967296/\v<10^n/\n<b/\p.length+q.length=24/\n<=x0/\dgs v n++q=R
def N0Z{p:List Int}{k:Nat}(h:p.length=k+4): ∃p' a b c d,p=p'++ [a,b,c,d]/\p'.length=k:=by
  refine⟨p.take k, ?_⟩;have h2:(p.drop k).length=4:=by simp;omega
  match hd:p.drop k,h2 with
  | [a,b,c,d],_=>exact⟨a,b,c,d,by rw[<-hd,bz],dD⟩
def O0a{p:List Int}{k:Nat}(h:p.length=k+2): ∃p' a b,p=p'++ [a,b]/\p'.length=k:=by
  refine⟨p.take k, ?_⟩;have h2:(p.drop k).length=2:=by simp;omega
  match hd:p.drop k,h2 with
  | [a,b],_=>exact⟨a,b,by rw[<-hd,bz],dD⟩
def P0T(u n:Nat):dgs u (n+4)=dgs (u/10000) n++ [((48+u%10000/100/10:Nat):Int),((48+u%10000/100%10:Nat):Int),((48+u%10000%100/10:Nat):Int),((48+u%10000%100%10:Nat):Int)]:=by
  rw[K0F,K0F];simp only[aS,bn,aV,cY];congr 1;congr 1;omega;congr 1;omega;congr 1;omega;congr 1;omega
set_option maxHeartbeats 4000000 in
theorem zcast0:((0:Nat):Int)+0=((0:Nat):Int):=rfl
theorem O0o{v n:Nat}{a:List Int}(hn:n<=24)(ha:a.length=24)(hv:v<10^n)(hv2:v<18446744073709551616):d0j (n:Int) (v:Int) a=vA (dgs v n++a.drop n):=by
  unfold d0j;have tn:(n:Int).toNat=n:=by omega
  refine r0D (λs=>FB (dgs v n++a.drop n) n s/\s.2.1<8) (x0G (FB (dgs v n++a.drop n) n) (λs=>s.2.1.toNat) _ (λs hs=> ?_) _ _ ?_ ?_) ?_;obtain⟨w,k,p,q,rfl,hp,hw,hw2,hl,hk,hR⟩:=hs;by_cases h8:8<=k;left
  obtain⟨j,rfl⟩: ∃j,k=j+8:=⟨k-8,dA⟩
  obtain⟨p,a0,a1,a2,a3,a4,a5,a6,a7,rfl,hp'⟩:=N0Y hp;have hpl:p.length+8+q.length=24:=by simp at hl;omega
  refine⟨(((w/100000000:Nat):Int),((j:Nat):Int),p++([((48+w%100000000/10000/100/10:Nat):Int),((48+w%100000000/10000/100%10:Nat):Int),((48+w%100000000/10000%100/10:Nat):Int),((48+w%100000000/10000%100%10:Nat):Int),
    ((48+w%100000000%10000/100/10:Nat):Int),((48+w%100000000%10000/100%10:Nat):Int),((48+w%100000000%10000%100/10:Nat):Int),((48+w%100000000%10000%100%10:Nat):Int)]++q)), ?_,⟨w/100000000,j,p,_,rfl,hp', ?_,dA, ?_,dA, ?_⟩,by simp only[bG];omega⟩
  simp only[];have d8:yA (((j+8:Nat):Int)≥8)=true:=dT dA;rw[d8];have hlen0:(p++ [a0,a1,a2,a3,a4,a5,a6,a7]++q).length=24:=by simp;omega
  have e1:j+8-1=p.length+7:=by omega
  have e2:j+8-2=p.length+6:=by omega
  have e3:j+8-3=p.length+5:=by omega
  have e4:j+8-4=p.length+4:=by omega
  have e5:j+8-5=p.length+3:=by omega
  have e6:j+8-6=p.length+2:=by omega
  have e7:j+8-7=p.length+1:=by omega
  have e8:j+8-8=p.length+0:=by omega
  simp(disch:=omega) only[tm8,tm4,tm2,td8,td4,td2,C0z,N0G,J0L,L0a,O0j,I0R,I0Q,L0q,L0p,N0K,N0J,N0I,N0H,e1,e2,e3,e4,e5,e6,e7,e8,tn,k0c,wC];simp(disch:=omega) only[s0U,hlen0,O0l,wC,E0C,E0B,F0W];simp only[aS,D0k,bn,aV,cy,cz]
  try simp only[cC,hp']
  rw[Nat.pow_add]at hw;exact cL (by rw[dh];exact hw);simp;omega;rw[<-hR,P0S,aS];right;refine⟨((w:Int),(k:Int),p++q), ?_,⟨w,k,p,q,rfl,hp,hw,hw2,hl,hk,hR⟩,dC⟩;rw[dF dC];rfl;exact⟨v,n,a.take n,a.drop n,by rw[bz,tn],dD,hv,hv2,dD,ak _,rfl⟩;simp only[bG];exact F0x dA;rintro s ⟨⟨w,k,p,q,rfl,hp,hw,hw2,hl,hk,hR⟩,h8⟩;simp only at h8;have hk8:k<8:=by omega
  have hw7:w<10000000:=bk hw (aH (Nat.pow_le_pow_right dG (show k<=7 by omega)) dG);simp only;refine r0D (FA (dgs v n++a.drop n) n 4) ?_ λs hs=> ?_;by_cases h4:4<=k
  obtain⟨j,rfl⟩: ∃j,k=j+4:=⟨k-4,dA⟩
  obtain⟨p,a0,a1,a2,a3,rfl,hp'⟩:=N0Z hp;have hpl:p.length+4+q.length=24:=by simp at hl;omega
  refine⟨((j:Int),((w/10000:Nat):Int),p++([((48+w%10000/100/10:Nat):Int),((48+w%10000/100%10:Nat):Int),((48+w%10000%100/10:Nat):Int),((48+w%10000%100%10:Nat):Int)]++q)), ?_,⟨w/10000,j,p,_,rfl,hp',dA, ?_,dA, ?_,dA, ?_⟩⟩;rw[dT (show((j+4:Nat):Int)≥4 by omega)];have hlen0:(p++ [a0,a1,a2,a3]++q).length=24:=by simp;omega
  have e1:j+4-1=p.length+3:=by omega
  have e2:j+4-2=p.length+2:=by omega
  have e3:j+4-3=p.length+1:=by omega
  have e4:j+4-4=p.length+0:=by omega
  simp(disch:=omega) only[tm4,tm2,td4,td2,C0z,J0L,L0a,O0j,I0R,I0Q,L0q,L0p,e1,e2,e3,e4,tn,k0c,wC];simp(disch:=omega) only[s0U,hlen0,O0l,wC,E0C,E0B,F0W];simp only[aS,D0k,bn,aV,cy,cz]
  try simp only[cC,hp']
  rw[Nat.pow_add]at hw;exact cL (by rw[dh];exact hw);simp;omega;rw[<-hR,P0T,aS];refine⟨((k:Int),(w:Int),p++q), ?_,⟨w,k,p,q,rfl,hp,dA,hw,dA,hl,hk,hR⟩⟩;rw[dF dA,C0z dA];rfl;obtain⟨w,k,p,q,rfl,hp,hw7,hw,hk4,hl,hk,hR⟩:=hs;simp only;refine r0D (FA (dgs v n++a.drop n) n 2) ?_ λs hs=> ?_;by_cases h2:2<=k
  obtain⟨j,rfl⟩: ∃j,k=j+2:=⟨k-2,dA⟩
  obtain⟨p,a0,a1,rfl,hp'⟩:=O0a hp;have hpl:p.length+2+q.length=24:=by simp at hl;omega
  refine⟨((j:Int),((w/100:Nat):Int),p++([((48+w%100/10:Nat):Int),((48+w%100%10:Nat):Int)]++q)), ?_,⟨w/100,j,p,_,rfl,hp',dA, ?_,dA, ?_,dA, ?_⟩⟩;rw[dT (show((j+2:Nat):Int)≥2 by omega)];have hlen0:(p++ [a0,a1]++q).length=24:=by simp;omega
  have e1:j+2-1=p.length+1:=by omega
  have e2:j+2-2=p.length+0:=by omega
  simp(disch:=omega) only[tm2,td2,C0z,J0L,L0a,O0j,I0R,I0Q,e1,e2,tn,k0c,wC];simp(disch:=omega) only[s0U,hlen0,O0l,wC,E0C,E0B,F0W];simp only[aS,D0k,bn,aV,cy,cz]
  try simp only[cC,hp']
  rw[Nat.pow_add]at hw;exact cL (by rw[dh];exact hw);simp;omega;rw[<-hR,K0F,aS];congr 2;congr 1;omega;congr 1;omega;refine⟨((k:Int),(w:Int),p++q), ?_,⟨w,k,p,q,rfl,hp,dA,hw,dA,hl,hk,hR⟩⟩;rw[dF dA];rfl;obtain⟨w,k,p,q,rfl,hp,hw7,hw,hk2,hl,hk,hR⟩:=hs;simp only;rw[<-hR];by_cases h1:1<=k;obtain rfl:k=1:=by omega
  obtain⟨a0,rfl⟩:=List.length_eq_one_iff.1 hp;have hw10:w<10:=by simpa using hw
  rw[dT dA,O0k tn dA,O0m dE];simp only[wC,zcast0,J0g,bn,aV,cz,dgs,O0E];rw[C0z dA,w8c dA,da hw10];obtain rfl:k=0:=by omega
  obtain rfl:=ay hp;rw[dF dA];rfl
def O0c: ∀q:Fin 256,(k2_.getD q.val 0).toNat=Lib.bitLen q.val:=by decide+kernel
def M0s:k2_.length=256:=by kernel_rfl
def O0G(u b m:Nat)(s:Int×Int):Prop:= ∃x k:Nat,s=((x:Int),(k:Int))/\x<b/\x<18446744073709551616/\Lib.bitLen u=k+Lib.bitLen x/\k<=m
def fd(a b:Nat):oF (a:Int) (b:Int)=((a/b:Nat):Int):=by rw[cP _ dA];rfl
theorem H0j(h:u<18446744073709551616):o0m (u:Int)=vA (Lib.bitLen u:Int):=by
  unfold o0m;refine r0D (O0G u 4294967296 32) ?_ λs hs=> ?_;by_cases c:4294967296<=u;refine⟨_,by rw[dT dA];rfl,u/4294967296,32, ?_,dA,dA,Lib.bitLen_shift32 u c h,dA⟩;rw[show(4294967296:Int)=((4294967296:Nat):Int)from rfl,fd];rfl;exact⟨((u:Int),0),by rw[dF dA];rfl,u,0,rfl,dA,h,dA,dA⟩;obtain⟨x,k,rfl,hx,hx2,hb,hk⟩:=hs;simp only;refine r0D (O0G u 65536 48) ?_ λs hs=> ?_;by_cases c:65536<=x;refine⟨_,by rw[dT dA];rfl,x/65536,k+16, ?_,dA,dA,by rw[hb,Lib.bitLen_shift16 x c hx2];omega,dA⟩;rw[show(65536:Int)=((65536:Nat):Int)from rfl,fd,w64 dA dA];rfl;exact⟨((x:Int),(k:Int)),by rw[dF dA];rfl,x,k,rfl,dA,hx2,hb,dA⟩;obtain⟨x,k,rfl,hx,hx2,hb,hk⟩:=hs;simp only;refine r0D (O0G u 256 56) ?_ λs hs=> ?_;by_cases c:256<=x;refine⟨_,by rw[dT dA];rfl,x/256,k+8, ?_,dA,dA,by rw[hb,Lib.bitLen_shift8 x c hx2];omega,dA⟩;rw[show(256:Int)=((256:Nat):Int)from rfl,fd,w64 dA dA];rfl;exact⟨((x:Int),(k:Int)),by rw[dF dA];rfl,x,k,rfl,dA,hx2,hb,dA⟩;obtain⟨x,k,rfl,hx,hx2,hb,hk⟩:=hs;simp only;have h8:=Lib.bitLen_le8 ⟨x,hx⟩;simp only at h8;rw[w8c hx,k0c<|by rw[M0s];omega,bG,O0c ⟨x,hx⟩];simp only[wC];rw[w64 (n:=(Lib.bitLen x:Int)) dA dA,w64 dA dA,hb];rfl
def O0b: ∀q:Fin 20,nth k3_ (q.val:Int)=((10^q.val:Nat):Int):=by decide+kernel
theorem numDigits_eq(h1:1<=u)(h:u<18446744073709551616):e0n (u:Int)=vA (Lib.nDigits u:Int):=by
  unfold e0n;rw[H0j h];have hb:Lib.bitLen u<=64:=Lib.bitLen_le u 64 dA h;obtain⟨e1,e2⟩:=Lib.numDigits_eq u h1 h;simp only[ah];unfold h0S
  have e3:oF (wA .i64<|(Lib.bitLen u:Int)*78913) 262144=(Lib.l10 (Lib.bitLen u):Int):=by
    rw[w64 dA dA,show(262144:Int)=((262144:Nat):Int)from rfl,show(Lib.bitLen u:Int)*78913=((Lib.bitLen u*78913:Nat):Int) by omega,fd];rfl
  rw[e3];simp only[ah];rw[k0c dA,O0b ⟨Lib.l10<|Lib.bitLen u,dA⟩];simp only[wC];rw[<-e1];unfold l0w;by_cases c:10^Lib.l10 (Lib.bitLen u)<=u;rw[dT dA,vB c];simp only[wC,ah];rw[w64 dA dA];rfl;rw[dF dA,yB c];simp only[vD,ah];rw[w64 dA dA];rfl
theorem L0x(h:u<100):h0f (u:Int)=vA (Lib.decDigits u):=by
  have: ∀q:Fin 100,h0f (q.val:Int)=vA (Lib.decDigits q.val):=by
    intro q;have e: ∀q:Fin 100,h0f (q.val:Int)=vA (if q.val<10 then [wJ<|48+q.val]else [wJ<|48+q.val/10,wJ<|48+q.val%10]):=by decide+kernel
    rw[e q];split;rename_i c;rw[Lib.decDigits_one c];rename_i c;rw[Lib.decDigits_two c q.isLt]
  exact this ⟨u,h⟩
theorem u0S{x0:List Int}(hu:u<18446744073709551616)(hl:x0.length<=4000000000):d0J x0 (u:Int) 10=vA (x0++b0j (Lib.decDigits u)):=by
  have hd:=Lib.nDigits_le20 u hu;unfold d0J;rw[dT rfl];simp only[wC];by_cases c:u<100;rw[dT dA,w64 dA dA,L0x c];simp only[wC,ah];rw[a0f<|by rw[Lib.decDigits_length];omega];rfl;rw[dF dA,numDigits_eq dA hu];simp only[vD,ah];rw[l0i dA dA dA];simp only[wC];rw[O0o dA rfl (Lib.lt_pow_nDigits u) hu];simp only[ah];rw[l0i dA dA<|by simp[F0h,rep];omega,G0F dA];simp only[Bool.and_self,wC];congr 2;rw[F0W,cut,M0T];simp only[bG,Int.toNat_zero,cV];rw[List.take_append_of_le_length<|by simp[b0j,Lib.decDigits_length]];exact aX (by simp[b0j,Lib.decDigits_length])
theorem C0j{x0:List Int}(h0: -9223372036854775808<=n)(h1:n<=9223372036854775807)(hl:x0.length<=3000000000):c0z x0 n 10=vA (x0++b0j (Lib.itoa n)):=by
  unfold c0z f0w;by_cases c:n<0;rw[dT c,a0f dD];simp only[wC,ah]
  have e:wA .u64 (0-wA .u64 n)=((n.natAbs:Nat):Int):=by
    unfold wA;simp only[oG,yH,cG,aF,if_false];omega
  rw[e,u0S dA dD];simp only[ah];unfold Lib.itoa;rw[vB c,aS];rfl;rw[dF c];simp only[vD,ah];have e:wA .u64 n=((n.toNat:Nat):Int):=by rw[L0h dA dA];omega
  rw[e,u0S dA dA];simp only[ah];unfold Lib.itoa;rw[yB c]
def K0W{x:List Int}(hn:inI n)(hl:x.length<=2999999000):Tot (c0z x n 10) (λr=>r.length<=x.length+21):=by
  rw[C0j hn.1 hn.2 dA];have:=Lib.itoa_length_le n hn.1 hn.2;exact tR (by simp[b0j];omega)
theorem L0G{x:List Int}{r:a0z}(hr:B0w r)(hx:x.length<=2950000000):Tot (j0l x r) (λo=>o.length<=x.length+18100):=by
  obtain⟨h1,h2,h3⟩:=hr;unfold j0l;refine tY (a0f dD)<|tB (p:=λo:List Int=>o.length<=x.length+25) ?_ λa ha=>tB (p:=λo:List Int=>o.length<=x.length+29) ?_ λc hc=>tB (p:=λo:List Int=>o.length<=x.length+18100) ?_ λ_ h=>tR h;refine tI (λ_=>tY (a0f dD)<|tB (K0W h1<|by simp[b0j];omega) λa ha=>tR<|by simp[b0j]at ha;omega) λ_=>tR dE;refine tI (λ_=>tY (a0f dD)<|tR<|by simp[b0j];omega) (λ_=>tY (a0f dD)<|tR<|by simp[b0j];omega);refine tW (λs:Int×List Int=>s.1) r.R_.length (λs=>(s.2.length:Int)<=x.length+29+45*s.1) dA ⟨dC,ai _,dE⟩ (λs hs g0 g1=> ?_) λs hs e=> ?_;obtain⟨m1,m2⟩:=h3 _<|b0J g0 g1;refine tY (dT g1) (tB (p:=λo:List Int=>(o.length:Int)<=s.2.length+45) (tY (a0c g0 g1)<|tB (p:=λo:List Int=>(o.length:Int)<=s.2.length+1) (tI (λ_=>tY (a0f dD)<|tR dE) λ_=>tR dA) λa ha=>tB (K0W m1 dA) λc hc=>tI (λ_=>tY (a0f dD)<|tB (K0W m2<|by simp[b0j];omega) λd hd=>tR<|by simp[b0j]at hd;omega) λ_=>tR dA) λa ha=>tR ⟨?_,w64 dA dA⟩);rw[w64 (n:=s.1+1) dA dA];simp only;omega;refine tN (dF dA)<|tR dA
theorem J0l{c:List (List a0z)}(hc:n0L c):Tot (p0V c) (λ_=>True):=by
  unfold p0V;have hn:=hc.1;refine zC (tW (λs:Int×List Int=>s.1) c.length (λs=>(s.2.length:Int)<=7242000*s.1) dA ⟨dE,ai _,dE⟩ (λs hs g0 g1=> ?_) λs hs e=>zE e trivial) dJ;obtain⟨m1,m2⟩:=hc.2 _<|b0J g0 g1;refine tY (dT g1) (tB (p:=λo:List Int=>(o.length:Int)<=s.2.length+7242000) (tY (a0c g0 g1)<|tW (λu:Int×List Int=>u.1) (nth c s.1).length (λu=>(u.2.length:Int)<=s.2.length+18105*u.1) dA ⟨dE,ai _,dE⟩ (λu hu f0 f1=> ?_) λu hu e=>tN (dF dA)<|tR dA) λo ho=>tR ⟨?_,w64 dA dA⟩)
  · refine tY (dT f1) (tB (p:=λo:List Int=>(o.length:Int)<=u.2.length+18105) (tY (a0c f0 f1)<|tB (p:=λo:List Int=>(o.length:Int)<=u.2.length+5) (tI (λ_=>tR dA) λ_=>tI (λ_=>tY (a0f dD)<|tR<|by simp[b0j]<;>omega) λ_=>tY (a0f dD)<|tR<|by simp[b0j]<;>omega) λa ha=>tB (L0G (m2 _<|b0J f0 f1) dA) λd hd=>tR dA) λo ho=>tR ⟨?_,w64 dA dA⟩)
    rw[w64 (n:=u.1+1) dA dA];simp only;omega
  rw[w64 (n:=s.1+1) dA dA];simp only;omega
theorem O0r{x y:List a0S}(hx:x.length<=4294967296):Tot (g0A x y) (λ_=>True):=by
  unfold g0A;exact w0a hx λs g0 g1 e=>tY (a0c g0 g1)<|tY (a0c g0 dA)<|tI (λ_=>tR<|.inr ⟨_,rfl⟩) λ_=>tR<|.inl rfl
theorem J0m{c d:List (List a0z)}(hc:n0L c):Tot (p0W c d) (λ_=>True):=by
  unfold p0W p0H;refine tB (w0a (aH hc.1 dG) λs g0 g1 e=>tY (a0c g0 g1)<|tY (a0c g0 dA)<|zC ?_ λ_ _=>tI (λ_=>tR<|.inr ⟨_,rfl⟩) λ_=>tR<|.inl rfl) dJ;have hm:=hc.2 _<|b0J g0 g1;unfold p0h k0f;refine tB (w0a (aH hm.1 dG) λu f0 f1 e=>tY (a0c f0 f1)<|tY (a0c f0 dA)<|zC ?_ λ_ _=>tI (λ_=>tR<|.inr ⟨_,rfl⟩) λ_=>tR<|.inl rfl) dJ;have hr:=(hm.2 _<|b0J f0 f1).2.1;unfold m0T;refine zC (tI (λ_=>tI (λ_=>tI (λ_=>tB (O0r<|aH hr dG) dJ) dI) dI) dI) dJ
theorem G0D{c:List (List a0z)}(hc:n0L c):Tot (o0a c) (λ_=>True):=by
  unfold o0a;exact tB (J0l hc) λt _=>tB (A0c t) λd _=>zC (tI (λ_=>tB (J0m hc) dJ) dI) dJ
theorem J0N{g:List Int}(hp:g0C p 1000)(hg:g.length<=100000):Tot (q0v s p g) (λ_=>True):=by
  unfold q0v;refine tJ (tB (p:=λb=>b=oA->g.length<=20) (tI (λ_=>tR dH) λ_=>tI (λ_=>tR dH) λh=>tB (D0l dA) λ_ _=>tR λ_=>by have:=dFF h;omega) λb hb=>tI dI λe=>tR (show Tot _ _ from ?_));exact tJ (zC (tI (λ_=>tB (F0n dA) dJ) dI) λ_ _=>tI dI λ_=>tR (show Tot _ _ from tB (C0I hp<|by have:=hb e;omega) dJ))
/-! The certificate of a locale: it answers. -/
def inB(x:Int):Prop:=0<=x/\x<=20000000
theorem L0s(hp:g0C p 1000):Tot (e0Y p) inB:=by
  unfold e0Y;obtain⟨p1,p2,_⟩:=hp;refine tB (w0A p) λn hn=>tR ?_;rw[w64 (n:=(n.length:Int)+p.e_.length) dA dA,w64 dA dA];exact⟨dA,dA⟩
theorem F0k{l:d0G}(hk:0<=k/\k<=4)(h:l.d_.g_.length<=100000/\l.d_.h_.length<=100000/\l.d_.o_.length<=100000/\l.d_.t_.length<=100000):Tot (b0V l k) (λr=>g0C r 1000):=by
  unfold b0V;refine tB (p:=λs:Int=>0<=s/\s<=3) (tI (λ_=>tR dA) λe=>tR<|by have:=dFF e;omega) λs hs=> ?_;refine tI (λ_=>tB (f0C h.1) λ_ hr=>tR hr) λe0=>tI (λ_=>tB (f0C h.2.1) λ_ hr=>tR hr) λe1=>tI (λ_=>tB (f0C h.2.2.1) λ_ hr=>tR hr) λe2=>tI (λ_=>tB (f0C h.2.2.2) λ_ hr=>tR hr) λe3=> ?_;have:=dFF e0;have:=dFF e1;have:=dFF e2;have:=dFF e3;omega
def P0q{a b:Int}(ha:inB a)(hb:inB b):inB (i0E a b):=by unfold i0E;split<;>assumption
theorem F0E{c:List Int}(hp:g0C p 1000)(hc:c.length<=6100){x2 x3 x4 x5 x6 x7 x8 x9 x10 x11 x12 x13 x14 x15 x16 x17}(hx:inB x17):Tot (c0m p c x2 x3 x4 x5 x6 x7 x8 x9 x10 x11 x12 x13 x14 x15 x16 x17) inB:=by
  unfold c0m;refine tW (λs:Int×Int=>s.1) 3 (λs=>inB s.2) dA ⟨hx,dE⟩ (λs hs h0 h1=>tY (dT h1)<|tB (w0r hp hc) λa ha=>tR ⟨P0q hs ?_, ?_⟩) λs hs e=>tN (dF dA)<|tR hs;obtain⟨a1,a2⟩:=ha;rw[w64 dA dA];exact⟨dA,dA⟩;exact w64 (n:=s.1+1) dA dA
def r0G(s:ByteArray): ∀(n i:Nat) (acc:Array Value),(zF s n i acc).size<=acc.size+n
  |0,i,acc=>by simp[zF]
  |n+1,i,acc=>by
    simp only[zF];split;have:=r0G s n (i+(Utf8.decode s i).2)<|acc.push<|.int .i32<|Int.ofNat (Utf8.decode s i).1;simp at this;simp only[Int.ofNat_eq_natCast]at this⊢;omega;omega
def s0W(t:List UInt8):(d0L t).length<=t.length:=by
  unfold d0L;have:=r0G ⟨t.toArray⟩ t.length 0 #[];simp at this;simpa using this
theorem O0D{l:d0G}(hk:0<=k/\k<=4)(h:l.d_.g_.length<=100000/\l.d_.h_.length<=100000/\l.d_.o_.length<=100000/\l.d_.t_.length<=100000)(hc:l.j_.length<=105)(hs: ∀c∈l.j_,c.m_.length<=6000)(hm:l.c_.length<=95)(ht: ∀c∈l.c_,c.aj_.length<=6000):Tot (i0n l k) inB:=by
  unfold i0n;refine tB (F0k hk h) λp hp=>tB (F0E hp dE ⟨dG,dG⟩) λa ha=>tB (p:=inB) ?_ λ_ h=>tR h;refine tI (λ_=> ?_) λ_=>tI (λ_=> ?_) λ_=>tR ha;refine tW (λs:Int×Int=>s.1) l.j_.length (λs=>inB s.2) dA ⟨ha,dE⟩ (λs hi h0 h1=>tY (dT h1)<|tY (a0c h0 h1)<|tB (F0E hp ?_ hi) λ_ h=>tR ⟨h, ?_⟩) λs hi e=>tN (dF dA)<|tR hi;have:=hs _<|b0J h0 h1;have:=s0W (nth l.j_ s.1).m_;omega;exact w64 (n:=s.1+1) dA dA;refine tW (λs:Int×Int=>s.1) l.c_.length (λs=>inB s.2) dA ⟨ha,dE⟩ (λs hi h0 h1=>tY (dT h1)<|tY (a0c h0 h1)<|tB (v0o ?_) λq hq=>tB (F0E hq dE hi) λ_ h=>tR ⟨h, ?_⟩) λs hi e=>tN (dF dA)<|tR hi;have:=ht _<|b0J h0 h1;omega;exact w64 (n:=s.1+1) dA dA
theorem w0B{l:d0G}(hk:0<=k/\k<=4)(h:l.d_.g_.length<=100000/\l.d_.h_.length<=100000/\l.d_.o_.length<=100000/\l.d_.t_.length<=100000):Tot (g0v l k) inB:=by
  unfold g0v;refine tB (F0k hk h) λp hp=> ?_;refine tJ (Tot.mono (p:=λx:Unit⊕Int=>match x with| .inl _=>True| .inr o=>inB o) (zC (tI dI dI) λb _=>tI (λ_=>tR ⟨dG,dG⟩) dI) λx hx=> ?_)
  cases x with
  |inl u=>exact tB (L0s hp) (λ_ h=>tR h)
  |inr u=>exact hx
theorem p0A[DecidableEq T]{x:List T}(h:x.length<=4294967296):(bif(oB x.length 0)then m0g (vA ([]:List T)) (bif room x.length then(vA x)else none)else bif room x.length then(vA x)else none)=vA x:=by
  rw[a0f h];simp only[wC]
  cases x with
  |nil=>simp[m0g]
  |cons a r=>simp[oB]
def ofB(r:w0x):Prop:=(inB r.O_.g_/\inB r.O_.h_/\inB r.O_.o_/\inB r.O_.t_/\inB r.O_.a4_)/\inB r.P_.g_/\inB r.P_.h_/\inB r.P_.o_/\inB r.P_.t_/\inB r.P_.a4_
def stB(s:Int×Int×Int×Int×Int×Int×Int×Int×Int×Int):Prop:=(inB s.1/\inB s.2.1/\inB s.2.2.1/\inB s.2.2.2.1/\inB s.2.2.2.2.1)/\inB s.2.2.2.2.2.1/\inB s.2.2.2.2.2.2.1/\inB s.2.2.2.2.2.2.2.1/\inB s.2.2.2.2.2.2.2.2.1/\inB s.2.2.2.2.2.2.2.2.2
theorem O0z{l:d0G}(h:l.d_.g_.length<=100000/\l.d_.h_.length<=100000/\l.d_.o_.length<=100000/\l.d_.t_.length<=100000)(hr:l.M_.length<=8)(hc:l.j_.length<=105)(hs: ∀c∈l.j_,c.m_.length<=6000)(hm:l.c_.length<=95)(ht: ∀c∈l.c_,c.aj_.length<=6000):Tot (p0D l) (λr=>ofB r/\r.L_=l):=by
  unfold p0D q0L s0F q0O;rw[p0A dA,p0A dA,p0A dA];simp only[ah]
  have z:inB 0:=⟨dG,dG⟩
  refine tB (p:=stB) (tW (λs:Int×Int×Int×Int×Int×Int×Int×Int×Int×Int×Int=>s.1) 5 (λs=>stB s.2) dA ⟨⟨⟨z,z,z,z,z⟩,z,z,z,z,z⟩,dE⟩ (λs hi h0 h1=> ?_) λs hi e=>tN (dF dA)<|tR hi) (λ_ h=>tR ⟨h,rfl⟩)
  have hk:0<=s.1/\s.1<=4:=⟨h0,dA⟩
  obtain⟨⟨b0,b1,b2,b3,b4⟩,b5,b6,b7,b8,b9⟩:=hi;refine tY (dT h1)<|tB (O0D hk h hc hs hm ht) λ_ a=> ?_;refine tI (λe=>tB (w0B ⟨dA,dA⟩ h) λ_ w=>tR ⟨⟨⟨a,b1,b2,b3,b4⟩,w,b6,b7,b8,b9⟩, ?_⟩) λe0=>tI (λe=>tB (w0B ⟨dA,dA⟩ h) λ_ w=>tR ⟨⟨⟨b0,a,b2,b3,b4⟩,b5,w,b7,b8,b9⟩, ?_⟩) λe1=>tI (λe=>tB (w0B ⟨dA,dA⟩ h) λ_ w=>tR ⟨⟨⟨b0,b1,a,b3,b4⟩,b5,b6,w,b8,b9⟩, ?_⟩) λe2=>tI (λe=>tB (w0B ⟨dA,dA⟩ h) λ_ w=>tR ⟨⟨⟨b0,b1,b2,a,b4⟩,b5,b6,b7,w,b9⟩, ?_⟩) λe3=>tI (λe=>tB (w0B ⟨dA,dA⟩ h) λ_ w=>tR ⟨⟨⟨b0,b1,b2,b3,a⟩,b5,b6,b7,b8,w⟩, ?_⟩) λe4=> ?_;have:=dTT e;show wA .i64 (0+1)=s.1+1;rw[this];decide;have:=dTT e;show wA .i64 (1+1)=s.1+1;rw[this];decide;have:=dTT e;show wA .i64 (2+1)=s.1+1;rw[this];decide;have:=dTT e;show wA .i64 (3+1)=s.1+1;rw[this];decide;have:=dTT e;show wA .i64 (4+1)=s.1+1;rw[this];decide;have:=dFF e0;have:=dFF e1;have:=dFF e2;have:=dFF e3;have:=dFF e4;omega
theorem M0M{S:Type}[Inhabited T][DecidableEq T]{xs ys:List T}(hlen:xs.length=ys.length)(hb:xs.length<=4611686018427387904)(ok bad:O){step:Int->Option (Int⊕O)}
    (hs: ∀i:Nat,i<xs.length->step (i:Int)=vA (if nth xs (i:Int)=nth ys (i:Int)then .inl ((i:Int)+1)else .inr bad)) (he:step (xs.length:Int)=vA (.inr ok)):
    a0m step big 0=vA (if xs=ys then ok else bad):=by
  obtain⟨o,h1,h2⟩:=B0P (step:=step) xs.length (λi=>(i:Int)) (λi=> ∀j,j<i->nth xs (j:Int)=nth ys (j:Int)) (λo=>o=if xs=ys then ok else bad) rfl (λj hj=>dA) (λi hi hI=>by
    rw[hs i hi];by_cases c:nth xs (i:Int)=nth ys (i:Int);left;rw[vB c];refine⟨dE,λj hj=> ?_⟩;by_cases e:j=i;subst e;exact c;exact hI j dA;right;rw[yB c];refine⟨bad,rfl, ?_⟩
    rw[yB λe=>c<|by rw[e]]) (λhI=>⟨ok,he,by
    rw[vB];apply List.ext_getElem hlen;intro i h1 h2;have:=hI i h1
    rwa [p0q h1,p0q h2]at this⟩) dA
  have h1':a0m step big 0=vA o:=h1;rw[h1',h2]
/-! Two patterns are compared. -/
theorem L0w{x:List a0b}(hl:x.length<=4611686018427387904):j0y x y=vA (yA<|x=y):=by
  unfold j0y;by_cases h:x.length=y.length
  · rw[dF dA]
    simp only[vD];rw[M0M (S:=Unit) h dA (.inl ():Unit⊕Bool)<|.inr oA];by_cases e:x=y;rw[vB e,dT e];rfl;rw[yB e,dF e];rfl
    · intro i hi
      rw[dT dA,k0c hi,k0c dA,w64 dA dA];simp only[wC];generalize nth x (i:Int)=a;generalize nth y (i:Int)=b;obtain⟨a1,a2⟩:=a;obtain⟨b1,b2⟩:=b;by_cases h1:a1=b1<;>by_cases h2:a2=b2<;>simp[h1,h2]
    rw[A0y];rfl
  rw[dT dA,dF<|by rintro rfl;exact h rfl];rfl
def P0r(a:a0h):Prop:=a.e_.length<=4611686018427387904/\a.i_.length<=4611686018427387904/\a.K_.length<=4611686018427387904/\a.G_.length<=4611686018427387904
/-! Parsers that always answer. -/
def x0R(x:Int):Tot (b0E x) (λ_=>True):=by
  unfold b0E;refine zC ?_ dJ
  repeat' (first|exact tR trivial|refine tI (λ_=> ?_) λ_=> ?_)
theorem v0l(x:Int):Tot (e0u x) (λn=>0<=n/\n<=4/\(b0E x=vA jB->1<=n)):=by
  unfold e0u;obtain⟨b,hb,_⟩:=x0R x;rw[hb]
  cases b with
  |false=>exact⟨0,rfl,dA,dA,λh=>by cases h⟩
  |true=>
    show Tot (bif _ then _ else _) _
    repeat' (first|exact tR ⟨dA,dA,λ_=>dA⟩|refine tI (λ_=> ?_) λ_=> ?_)
def F0w(x:Int):Tot (f0r x) (λl=>l.length<=4):=by
  unfold f0r;refine tB (v0l x) (λ_ _=> ?_)
  repeat' (first|exact tR dE|refine tI (λ_=> ?_) λ_=> ?_)
def v0g(x:Int):Tot (d0s x) (λl=>l.length<=4):=by
  unfold d0s;exact tB (F0w x) (λo h=>tR<|by simpa [e0Z]using h)
theorem p0a(x:Int):Tot (d0i x) (λ_=>True):=by
  unfold d0i;refine tJ (zC ?_ λb _=> ?_)
  · repeat' (first|exact tR trivial|refine tI (λ_=> ?_) λ_=> ?_)
  refine tI dI λ_=>tR ?_;refine tJ<|tL (λs=>0<=s/\s<=11) (λs=>(11-s).toNat) dA dA λs hs=> ?_;refine tI (λh=> ?_) λ_=>tR<|tR trivial;have h:=dTT h;refine tY (a0c dA<|by simpa using h)<|tI dI λ_=>tR ?_;rw[w64 dA dA];omega
def z0Y(x:Int):Tot (d0u x) (λ_=>True):=by
  unfold d0u
  repeat' (first|exact tR trivial|refine tI (λ_=> ?_) λ_=> ?_)
def atV(l:List Int)(i:Int):Int:=if i<l.length then nth l i else-1
def k0H(h:0<=i):a0R l i=vA (atV l i):=by
  unfold a0R atV;by_cases hi:i<l.length;rw[dT hi,vB hi,a0c h hi];rfl;rw[dF hi,yB hi];rfl
def s0n(hc:atV l i=c)(h:c≠ -1):i<l.length:=by
  unfold atV at hc;split at hc
  assumption
  exact absurd hc.symm h
theorem q0u(hl:l.length<=10000)(h:0<=i)(hi:i<=l.length)(hc:c≠ -1):Tot (b0T l i c) (λn=>0<=n/\i+n<=l.length):=by
  unfold b0T;refine tB (p:=λn=>0<=n/\i+n<=l.length) ?_ λ_ h=>tR h;refine tL (λs=>0<=s/\i+s<=l.length) (λs=>(l.length-i-s).toNat) dA dA λs hs=> ?_;rw[w64 (n:=i+s) dA dA,k0H dA];show Tot (bif _ then _ else _) _;refine tI (λhh=>tR ?_) λ_=>tR hs;have:=s0n (dTT hh) hc;rw[w64 dA dA];omega
def B0L(p:a0h):Int×Int×Int×Int×Int×Int×Int×Int×Int×Bool:=(p.ah_,p.w_,p.ab_,p.H_,p.V_,p.G2_,p.Y_,p.T_,p.k_,p.an_)
theorem p0m{w:Int}(hl:l.length<=10000)(h:0<=i)(hi:i<=l.length):Tot (b0G p l i w) (λo=>0<=o.2.1/\(o.2.2=jB->o.2.1<=l.length)/\B0L o.1=B0L p):=by
  unfold b0G;refine tJ<|zC ?_ λb _=> ?_;refine tI dI λ_=> ?_;rw[k0H h];exact tR trivial;refine tI (λ_=>tR ⟨h,λ_=>hi,rfl⟩) λ_=>tR ?_;show Tot _ _;rw[w64 (n:=i+1) dA dA];refine tI (λ_=>tR ⟨dC,λh=>(by cases h),rfl⟩) λhh=> ?_;have:=dFF hh;refine tY (a0c dA dA)<|tR ⟨?_,λ_=> ?_,rfl⟩;simp only;rw[w64 dA dA];omega;simp only;rw[w64 dA dA];omega
theorem k0h(hl:l.length<=10000)(h:0<=i)(hi:i<=l.length):Tot (a0u l i) (λo=>0<=o.2.1/\o.2.1<=l.length):=by
  unfold a0u;refine tJ (tL (λs:Int×List a0b=>0<=s.1/\s.1<=(l.length:Int)/\(s.2.length:Int)<=s.1) (λs=>((l.length:Int)-s.1).toNat) ⟨h,hi,by simpa using h⟩ dC λs hs=> ?_);refine tI (λhh=> ?_) λhh=>tR<|tR ⟨hs.1,hs.2.1⟩;have hlt:=dTT hh;refine tY (a0c hs.1 hlt)<|tB (z0Y _) λy _=>tB (p0a _) λy2 _=> ?_;have e1:wA .i64 (s.1+1)=s.1+1:=w64 dA dA;rw[e1];refine tI (λ_=>tY (a0f dD)<|tR ⟨⟨dC,dC,dD⟩,dC⟩) λ_=> ?_;refine tI (λ_=>tI (λ_=>tR ⟨hs.1,hs.2.1⟩) λ_=>tY (a0f dD)<|tR ⟨⟨dC,dC,dD⟩,dC⟩) λ_=> ?_;rw[k0H dA];show Tot (bif _ then _ else _) _;refine tI (λhq=> ?_) λhq=> ?_;have:=s0n (dTT hq) dA;refine tY (a0f dD)<|tR ?_;have e2:wA .i64 (s.1+2)=s.1+2:=w64 dA dA;rw[e2];exact⟨⟨dC,dC,dD⟩,dC⟩;refine tB (p:=λo:Int×List a0b=>s.1+1<=o.1/\o.1<=(l.length:Int)/\(o.2.length:Int)<=o.1) ?_ λo ho=> ?_;refine tL (λt:Int×List a0b=>s.1+1<=t.1/\t.1<=(l.length:Int)/\(t.2.length:Int)<=t.1) (λt=>((l.length:Int)-t.1).toNat) ⟨dC,dC,dC⟩ dC λt ht=> ?_;have f1:wA .i64 (t.1+1)=t.1+1:=w64 dA dA;rw[f1];refine tJ<|tB (p:=λb=>b=jB->t.1<l.length/\(nth l t.1=39->t.1+1<l.length)) ?_ λb hb=> ?_;refine tI (λhh=> ?_) λ_=>tR dH;have h3:=dTT hh;refine tY (a0c dA h3)<|tI (λhn=>tR λ_=>⟨h3,λhe=>absurd he<|dTT hn⟩) λ_=> ?_;rw[k0H dA];exact tR (λhb=>⟨h3,λ_=>s0n (dTT hb) dA⟩)
  cases b with
  |false=>exact tR ht
  |true=>
    obtain⟨g1,g2⟩:=hb rfl;refine tR (show Tot _ _ from ?_);refine tY (a0c dA g1)<|tY (a0f dD) ?_;refine tB (p:=λv=>t.1<=v/\v<l.length) (tY (a0c dA g1)<|tI (λhh=>tR ⟨dA,g2<|dTT hh⟩) λ_=>tR ⟨dA,g1⟩) λv hv=>tR ?_;have f2:wA .i64 (v+1)=v+1:=w64 dA dA;rw[f2];exact⟨⟨dC,dC,dD⟩,dC⟩
  refine tI (λ_=>tR ⟨hs.1,hs.2.1⟩) λhh=>tR ?_;have h3:=dFF hh;have f1:wA .i64 (o.1+1)=o.1+1:=w64 dA dA;rw[f1];exact⟨⟨dC,dC,dC⟩,dC⟩
def Tot.joinQ{A:Type}{x:Option (A⊕O)}{k:A->Option O}{q:O->Prop}(h:Tot x (λy=>match y with| .inl _=>True| .inr r=>q r))(hk: ∀a,Tot (k a) q):Tot (jA x<|a0j k) q:=by
  refine tJ (h.mono λy hy=> ?_)
  cases y with
  |inl a=>exact hk a
  |inr r=>exact hy
/-! Patterns that are read: where the reader stands. -/
def stP(I:S->Prop)(μ:S->Nat)(m:Nat)(q:O->Prop)(x:S⊕O):Prop:=match x with
  | .inl s'=>I s'/\μ s'<m
  | .inr o=>q o
theorem Tot.loopS{step:S->Option (S⊕O)}(I:S->Prop)(μ:S->Nat){q:O->Prop}{s0:S}(h0:I s0)(hb:μ s0<18446744073709551616)(hs: ∀s,I s->Tot (step s) (stP I μ (μ s) q)):Tot (a0m step big s0) q:=by
  refine tL I μ h0 hb λs hi=>(hs s hi).mono λx hx=> ?_;cases x<;>exact hx
theorem B0F(hl:l.length<=10000)(h:0<=i)(hi:i<=l.length):Tot (c0D p l i) (λo=>0<=o.2.1/\o.2.1<=l.length):=by
  unfold c0D;refine Tot.loopS (λs:Int×Int×Int×Int×List Int=>0<=s.1/\s.1<=(l.length:Int)/\(s.2.2.2.2.length:Int)<=s.1) (λs=>((l.length:Int)-s.1).toNat) ⟨h,hi,by simpa using h⟩ dC λs hs=> ?_;obtain⟨s1,n,ha,mi,gr⟩:=s;obtain⟨q1,q2,q3⟩:=hs;simp only at q1 q2 q3⊢;have e1:wA .i64 (s1+1)=s1+1:=w64 dA dA;rw[e1,k0H q1,k0H (l:=l) (i:=s1+1) dA];simp only[ah]
  have go: ∀ {c:Int} (a b d:Int) (g:List Int),atV l s1=c->c≠ -1->g.length<=gr.length+1->stP (λs:Int×Int×Int×Int×List Int=>0<=s.1/\s.1<=(l.length:Int)/\(s.2.2.2.2.length:Int)<=s.1) (λs=>((l.length:Int)-s.1).toNat) ((l.length:Int)-s1).toNat (λo:a0h×Int×Bool=>0<=o.2.1/\o.2.1<=l.length) (.inl (s1+1,a,b,d,g)):=λa b d g hc hn hg=>by
    have:=s0n hc hn;exact⟨⟨dC,dC,dC⟩,dC⟩
  refine Tot.joinQ (tB (p:=λb=>b=jB->atV l s1=35) (tI (λe=>tR λ_=>dTT e) λ_=>tR λe=>by cases e) λb hb=>tI (λe=>tR<|go _ _ _ _ (hb e) dA dE) dI) λ_=> ?_;refine tI (λe=>tR<|go _ _ _ _ (dTT e) dA dE) λ_=> ?_;refine Tot.joinQ (tB (p:=λb=>b=jB->atV l s1=44) ?_ λb hb=>tI (λe=> ?_) dI) (λ_=> ?_)
  · refine tI (λe=> ?_) (λ_=>tR λe=>by cases e)
    have e:=dTT e
    repeat' (first|exact tR (λ_=>e)|refine tI (λ_=> ?_) λ_=> ?_)
  have hin:=s0n (hb e) dA;refine Tot.joinQ (zC (tI (λe=> ?_) dI) λb _=>tI (λ_=>tR ⟨q1,q2⟩) dI) λ_=>tY (a0f dD)<|tR<|go _ _ _ _ (hb e) dA dE;have e:=dTT e;exact tY (a0c dA dA)<|tY (a0c dA dA)<|tR trivial;refine zC (tI dI dI) λa _=>zC (tI (λe=> ?_) dI) λb _=>tR ⟨q1,q2⟩;have e:=dTT e;exact tY (a0c dA dA)<|tY (a0c dA dA)<|tR trivial
theorem u0E(hl:l.length<=10000)(h:0<=i)(hi:i<=l.length):Tot (c0E p l i) (λo=>0<=o.2.1/\o.2.1<=l.length):=by
  unfold c0E;refine tB (q0u hl h hi dA) λn hn=> ?_;have e1:wA .i64 (i+n)=i+n:=w64 dA dA;rw[e1]
  refine tJ (Tot.mono (p:=λx=>match x with
    | .inl s=>0<=s.1/\s.1<=l.length
    | .inr r=>0<=r.2.1/\r.2.1<=l.length) ?_ λx hx=> ?_)
  refine tI (λhq=> ?_) λhq=> ?_;refine tB (q0u hl (i:=i+n) dA dA dA) λm hm=>tR ?_;rw[w64 (n:=i+n+m) dA dA];exact⟨dC,dC⟩;refine tB (B0F hl h hi) λy hy=> ?_;obtain⟨y1,y2⟩:=hy;refine tI (λ_=>tR ⟨y1,y2⟩) λ_=> ?_;rw[k0H y1];show Tot (bif _ then _ else _) _;refine tI (λhq=> ?_) λ_=>tR ⟨y1,y2⟩;have hin:=s0n (dTT hq) dA;have f1:wA .i64 (y.2.1+1)=y.2.1+1:=w64 dA dA;rw[f1];refine tB (q0u hl (i:=y.2.1+1) dA dA dA) λa ha=> ?_;have f2:wA .i64 (y.2.1+1+a)=y.2.1+1+a:=w64 dA dA;rw[f2];refine tB (q0u hl (i:=y.2.1+1+a) dA dA dA) λb hb=> ?_;have f3:wA .i64 (y.2.1+1+a+b)=y.2.1+1+a+b:=w64 dA dA;rw[f3];exact tI (λ_=>tR ⟨dC,dC⟩) (λ_=>tR ⟨dC,dC⟩)
  cases x with
  |inr r=>exact hx
  |inl s=>
    obtain⟨s1,s2⟩:=hx;show Tot (jA _ _) _;rw[k0H s1];show Tot (bif _ then _ else _) _;refine tI (λ_=>tR ⟨s1,s2⟩) λhq=> ?_;have hq:atV l s.1=69:=by have:=dFF hq;omega
    have hin:=s0n hq dA;have f1:wA .i64 (s.1+1)=s.1+1:=w64 dA dA;rw[f1,k0H dA];refine tB (p:=λt:Int×Bool=>0<=t.1/\t.1<=(l.length:Int)) ?_ λt ht=> ?_;show Tot (bif _ then _ else _) _;refine tI (λhq=> ?_) λ_=>tR ⟨dC,dC⟩;have:=s0n (dTT hq) dA;rw[w64 (n:=s.1+1+1) dA dA];exact tR ⟨dC,dC⟩;refine tB (q0u hl ht.1 ht.2 dA) λn hn=>tR ?_;rw[w64 (n:=t.1+n) dA dA];exact⟨dC,dC⟩
theorem x0Y(hl:l.length<=10000):Tot (b0C l) (λo=>o.2.2.2.2=jB->0<=o.2.1/\o.2.2.1<=l.length/\0<=o.2.2.2.1/\o.2.2.2.1<=l.length):=by
  unfold b0C;refine tB (p0m hl dA dA) λa ha=>tI (λ_=>tR dH) λh1=> ?_;have h1:a.2.2=true:=by simpa using h1
  refine tB (k0h hl ha.1<|ha.2.1 h1) λb hb=>tI (λ_=>tR dH) λh2=> ?_;refine tB (p0m hl hb.1 hb.2) λc hc=>tI (λ_=>tR dH) λh3=> ?_;have h3:c.2.2=true:=by simpa using h3
  refine tB (u0E hl hc.1<|hc.2.1 h3) λd hd=>tI (λ_=>tR dH) λh4=> ?_;refine tB (p0m hl hd.1 hd.2) λe he=>tI (λ_=>tR dH) λh5=> ?_;have h5:e.2.2=true:=by simpa using h5
  refine tB (k0h hl he.1<|he.2.1 h5) λf hf=>tI (λ_=>tR dH) λh6=> ?_;exact tB (p0m hl hf.1 hf.2) λg hg=>tR λh7=>⟨hc.1,hd.2,hg.1,hg.2.1 h7⟩
/-! Patterns that are read. -/
theorem F0J(hl:l.length<=10000)(h:0<=i):Tot (a0u l i) (λ_=>True):=by
  by_cases hi:i<=l.length;exact(k0h hl h hi).any;unfold a0u;refine tJ<|tL (λs:Int×List a0b=>(l.length:Int)<s.1) (λ_=>0) dC dG λs hs=> ?_;rw[dF (show¬s.1<(l.length:Int) by omega)];exact tR<|tR trivial
theorem B0m{a b:Int}(hl:l.length<=10000)(h:0<=i)(hi:i<=l.length)(ha:0<=a)(hb:b<=l.length):
    Tot (b0u p l i a b) (λo=>B0L o.1=B0L p):=by
  unfold b0u;refine tB (k0h hl h hi) λc hc=>tI (λ_=>tR rfl) λ_=> ?_;refine tJ<|Tot.mono (p:=λx=>match x with| .inl s=>0<=s| .inr r=>B0L r.1=B0L p) ?_ λx hx=> ?_;refine tL (λs:Int×Int=>0<=s.1/\s.1<=(l.length:Int)+s.2/\0<=s.2) (λs=>(b-s.2).toNat) ⟨hc.1,dC,ha⟩ dC λs hs=> ?_;refine tI (λhh=> ?_) λ_=>tR hs.1;have hh:=dTT hh;rw[k0H hs.1];show Tot (bif _ then _ else _) _;refine tY (a0c hs.2.2 dA)<|tI (λ_=>tR rfl) λhq=>tR ?_;have e1:wA .i64 (s.1+1)=s.1+1:=w64 dA dA;have e2:wA .i64 (s.2+1)=s.2+1:=w64 dA dA;rw[e1,e2];exact⟨⟨dC,dC,dC⟩,dC⟩
  cases x with
  |inr r=>exact hx
  |inl s=>
    show Tot _ _;exact tB (F0J hl hx) λd hd=>tR rfl
/-! Texts of patterns, read: there is an answer. -/
theorem C0X{b:List Int}{at':Int}(hl:b.length<=100000)(h:0<=at')(ha:at'<=b.length)(hk:0<=k)(hk2:k<=3):Tot (c0f b at' k n) (λ_=>True):=by
  unfold c0f;rw[w64 (n:=at'+k) dA dA];refine tI dI λhh=> ?_;have hh:=dFF hh;refine tJ<|tL (λs:Int×Int=>1<=s.2/\s.2<=k+1) (λs=>(k+1-s.2).toNat) ⟨dC,dC⟩ dC λs hs=> ?_;refine tI (λhq=> ?_) λ_=>tR<|tR trivial;have hq:=dTT hq;have e1:wA .i64 (at'+s.2)=at'+s.2:=w64 dA dA;have e2:wA .i64 (s.2+1)=s.2+1:=w64 dA dA;rw[e1,e2];refine tJ<|tY (a0c dA dA) ?_;refine tJ<|zC ?_ λc _=> ?_;exact tI dI dI
  cases c with
  |true=>exact tR trivial
  |false=>exact tR<|tR<|tR ⟨⟨dC,dC⟩,dC⟩
theorem D0X{b:List Int}{at':Int}(hl:b.length<=100000)(h:0<=at')(ha:at'<b.length):Tot (g0F b at') (λn=>n<0\/b0E (wA .i32 n)=vA jB):=by
  unfold g0F;refine tY (a0c h ha) ?_;have ht: ∀k n,0<=k->k<=3->Tot (c0f b at' k n) (λ_=>True):=λk n h1 h2=>C0X hl h dA h1 h2
  refine zC (tI dI dI) λa _=> ?_;refine zC ?_ λa _=>zC ?_ λa _=>zC ?_ λa _=> ?_;refine zC (tI dI dI) λ_ _=>tI (λ_=>tB (ht 1 _ dA dA) dJ) dI;refine zC (tI dI dI) λ_ _=>tI (λ_=>tB (ht 2 _ dA dA) dJ) dI;refine zC (tI dI dI) λ_ _=>tI (λ_=>tB (ht 3 _ dA dA) dJ) dI;obtain⟨v,hv,_⟩:=x0R<|wA .i32 a.1;rw[hv];show Tot (jA _ _) _;refine tJ (tB (p:=λc=>c=oA->v=jB) (tI (λ_=>tR dH) λ_=>tR λh=>by simpa using h) λc hc=> ?_)
  cases c with
  |true=>exact tR (.inl dG)
  |false=>exact tR (tR<|.inr<|by rw[hv,hc rfl])
theorem C0b{b:List Int}(hl:b.length<=100000):Tot (b0L b) (λ_=>True):=by
  unfold b0L;refine tJ<|tL (λs:Int×List Int=>0<=s.1/\s.1<=(b.length:Int)+4/\(s.2.length:Int)<=s.1) (λs=>((b.length:Int)+4-s.1).toNat) ⟨dC,dC,dE⟩ dC λs hs=> ?_;refine tI (λhq=> ?_) λ_=>tR<|tR trivial;have hq:=dTT hq;refine tB (D0X hl hs.1 hq) λn hn=>tI dI λhneg=> ?_;have hneg:=dFF hneg;have his:=hn.resolve_left hneg;refine tY (a0f dD)<|tB (v0l _) λz hz=>tR ?_;have h1:=hz.2.2 his;have e1:wA .i64 (s.1+z)=s.1+z:=w64 dA dA;rw[e1];exact⟨⟨dC,dC,dD⟩,dC⟩
theorem m0L(ht:t.length<=1)(hn:n<=1000):Tot (b0B t n) (λl=>l.length<=1000):=by
  unfold b0B;refine tB (p:=λl=>l.length<=1000) ?_ λ_ h=>tR h;refine tL (λs:List UInt8×Int=>0<=s.2/\s.2<=1000/\(s.1.length:Int)<=s.2) (λs=>(1000-s.2).toNat) ⟨dC,dC,dE⟩ dC λs hs=> ?_;refine tI (λhq=> ?_) λ_=>tR dC;have hq:=dTT hq;refine tY (a0f dA)<|tR ?_;have e1:wA .i64 (s.2+1)=s.2+1:=w64 dA dA;rw[e1];exact⟨⟨dC,dC,dD⟩,dC⟩
def O0A(p:a0h):Prop:=(0<=p.ah_/\p.ah_<=40)/\(0<=p.w_/\p.w_<=40)/\(0<=p.ab_/\p.ab_<=40)/\(0<=p.H_/\p.H_<=40)/\(0<=p.V_/\p.V_<=40)/\(0<=p.G2_/\p.G2_<=40)/\(0<=p.Y_/\p.Y_<=40)/\(0<=p.T_/\p.T_<=40)/\(0<=p.k_/\p.k_<=40)
theorem t0s(hp:O0A p):Tot (d0A p) (λl=>l.length<=8000):=by
  obtain⟨c1,c2,c3,c4,c5,c6,c7,c8,c9⟩:=hp;unfold d0A;have e0:wA .i64 (p.ah_+p.w_)=p.ah_+p.w_:=w64 dA dA;have e1:wA .i64 (p.T_-p.Y_)=p.T_-p.Y_:=w64 dA dA;have e2:wA .i64 (p.H_-p.ab_)=p.H_-p.ab_:=w64 dA dA;rw[e0,e1,e2];refine tB (p:=λl=>l.length<=200) ?_ λa ha=> ?_;refine tL (λs:List UInt8×Int=>0<=s.2/\s.2<=80/\(s.1.length:Int)<=2*s.2) (λs=>(80-s.2).toNat) ⟨dC,dC,dE⟩ dC λs hs=> ?_;refine tI (λhq=> ?_) λ_=>tR dC;have hq:=dTT hq;have f1:wA .i64 (s.2+1)=s.2+1:=w64 dA dA;rw[f1];refine tB (p:=λl=>(l.length:Int)<=s.1.length+2) ?_ λb hb=>tR ⟨⟨dC,dC,dC⟩,dC⟩;refine tB (p:=λl=>(l.length:Int)<=s.1.length+1) ?_ λb hb=> ?_;refine zC ?_ λg _=>tI (λ_=>tY (a0f dD)<|tR dE) λ_=>tR dA;refine tI (λ_=>tI dI λ_=>tI (λ_=>tI (λhg=> ?_) dI) dI) dI;have hg:=dTT hg;exact tY (by unfold nz;rw[dF dA];rfl)<|tR trivial;exact tI (λ_=>tY (a0f dD)<|tR dD) λ_=>tY (a0f dD)<|tR dD;refine tB (m0L dE dA) λb hb=>tB (m0L dE dA) λc hc=> ?_;refine tY (a0f dA)<|tY (a0f dD) ?_;refine tB (p:=λl=>l.length<=5000) ?_ λd hd=> ?_;refine tI (λ_=>tY (a0f dD)<|tB (m0L dE dA) λe he=>tY (a0f dD)<|tB (m0L dE dA) λf hf=>tY (a0f dD)<|tR dD) λ_=>tR dD;refine tB (p:=λl=>l.length<=8000) ?_ λd hd=>tR hd;refine tI (λ_=>tY (a0f dD)<|tB (p:=λl=>l.length<=5002) ?_ λe he=>tB (m0L dE dA) λf hf=>tY (a0f dA)<|tR dD) λ_=>tR dA;exact tI (λ_=>tY (a0f dD)<|tR dD) λ_=>tR dD
theorem l0q{l:List a0b}(hl:l.length<=300):Tot (b0z l) (λt=>t.length<=3000):=by
  unfold b0z;refine tB (p:=λs=>s.1.length<=2999) ?_ λs hs=>tB (p:=λt=>t.length<=3000) (tI (λ_=>tY (a0f dD)<|tR dD) λ_=>tR dA) λ_ h=>tR h;refine tL (λs:List UInt8×Bool×Int=>0<=s.2.2/\s.2.2<=(l.length:Int)/\(s.1.length:Int)<=8*s.2.2) (λs=>((l.length:Int)-s.2.2).toNat) ⟨dC,dC,dE⟩ dC λs hs=> ?_;refine tI (λhq=> ?_) λ_=>tR dC;have hq:=dTT hq;have hin:=a0c hs.1 hq;have f1:wA .i64 (s.2.2+1)=s.2.2+1:=w64 dA dA;rw[f1];refine tB (p:=λt=>(t.1.length:Int)<=s.1.length+8) ?_ λt ht=>tR ⟨⟨dC,dC,dC⟩,dC⟩;refine tY hin<|tB (p0a _) λsp _=>zC ?_ λap _=>zC ?_ λqu _=>tB (p:=λt=>(t.1.length:Int)<=s.1.length+1) ?_ λt ht=> ?_;exact tY hin<|tI (λ_=>tY hin<|tR trivial) dI;exact tY hin<|tI dI dI;exact zC (tI dI dI) λ_ _=>tI (λ_=>tY (a0f dD)<|tR dE) λ_=>tR dC;have sgn: ∀c:UInt8,Tot (bif room (t.1.length+([c]:List UInt8).length)then(vA ((t.1++([c]:List UInt8)),t.2))else none) (λu=>(u.1.length:Int)<=s.1.length+8):=λc=>tY (a0f dD) (tR dD)
  refine tY hin<|tI (λ_=>tY hin<|tB (v0g _) λx hx=>tY (a0f dA)<|tI (λ_=>tY (a0f dD)<|tR dD) λ_=>tR dD) λ_=>tI (λ_=>sgn _) λ_=>tI (λ_=>sgn _) λ_=>tI (λ_=>sgn _) λ_=>tI (λ_=> ?_) λ_=>tR dC;exact tB (v0g _) λx hx=>tY (a0f dA)<|tR dD
def o0c(p:a0h)(w:Int):Tot (b0K p w) (λt=>t.length<=5):=by
  unfold b0K;exact tI (λ_=>tB (v0g _) λx hx=>tY (a0f dD)<|tR dD) λ_=>tR dE
def D0J(hp:O0A p)(h1:p.e_.length<=300)(h2:p.i_.length<=300)(h3:p.K_.length<=300)(h4:p.G_.length<=300):Tot (f0X p) (λt=>t.length<=50000):=by
  unfold f0X;refine tB (o0c p 1) λa ha=>tB (l0q h1) λb hb=>tY (a0f dA) ?_;refine tB (o0c p 2) λc hc=>tY (a0f dD)<|tB (t0s hp) λd hd=>tY (a0f dD) ?_;refine tB (o0c p 3) λe he=>tY (a0f dD)<|tB (l0q h2) λf hf=>tY (a0f dD) ?_;refine tB (o0c p 4) λg hg=>tY (a0f dD) ?_;refine tB (p:=λt=>t.length<=50000) ?_ λ_ h=>tR h;refine tI (λ_=> ?_) λ_=>tR dD;refine tY (a0f dD)<|tB (l0q h3) λi hi=>tY (a0f dD)<|tB (t0s hp) λj hj=>tY (a0f dD)<|tB (l0q h4) λk hk=>tY (a0f dD)<|tR dD
theorem x0s(ht:t.length<=100000):Tot (a0E t) (λ_=>True):=by
  unfold a0E;refine tB (C0b<|by rw[d0v];exact ht) λd _=>tI dI λ_=>tI dI λh1=> ?_;have h1:=dFF h1;have hl:d.1.length<=10000:=by omega
  refine tB (x0Y hl) λf hf=> ?_;refine zC ?_ λs _=> ?_;refine tB (p:=λb=>b=jB->f.2.2.2.2=jB/\f.2.2.2.1<d.1.length) ?_ λb hb=> ?_;refine tI (λhq=> ?_) λ_=>tR dH;rw[k0H (hf hq).2.2.1];exact tR λh=>⟨hq,s0n (dTT h) dA⟩;refine tI (λhq=> ?_) dI;obtain⟨g1,g2⟩:=hb hq;have g:=hf g1;have f1:wA .i64 (f.2.2.2.1+1)=f.2.2.2.1+1:=w64 dA dA;rw[f1];exact tB (B0m hl dA dA g.1 g.2.1) (λo ho=>tR trivial)
  · refine Tot.joinQ (zC (tI dI dI) λb _=>tI dI dI) (λ_=> ?_)
    refine Tot.joinQ (zC ?_ λb _=>tI dI dI) dI
    repeat' (first|exact tR trivial|refine tI (λ_=> ?_) λ_=> ?_)
def v0f{x:List a0b}(hl:x.length<=4611686018427387904):d0t x y=vA (yA<|x=y):=L0w hl
def G0C{a b:a0h}(hl:P0r a):f0Y a b=vA (yA<|a=b):=by
  obtain⟨l1,l2,l3,l4⟩:=hl;unfold f0Y;rw[v0f l1,v0f l2,v0f l3,v0f l4];simp only[ah];obtain⟨p1,p2,p3,p4,p5,p6,p7,p8,p9,p10,p11,p12,p13,p14,p15,p16,p17⟩:=a;obtain⟨q1,q2,q3,q4,q5,q6,q7,q8,q9,q10,q11,q12,q13,q14,q15,q16,q17⟩:=b;simp only[a0h.mk.injEq];by_cases h1:p1=q1
  · by_cases h2:p2=q2
    · by_cases h3:p3=q3
      · by_cases h4:p4=q4
        · by_cases h16:p16=q16
          · by_cases h17:p17=q17
            · by_cases h6:p6=q6<;>by_cases h7:p7=q7<;>by_cases h10:p10=q10<;>by_cases h11:p11=q11<;>cases p5<;>cases q5<;>cases p15<;>cases q15<;>simp[h1,h2,h3,h4,h6,h7,h10,h11,h16,h17,a0j]<;>(by_cases h8:p8=q8<;>by_cases h9:p9=q9<;>by_cases h12:p12=q12<;>by_cases h13:p13=q13<;>simp[h8,h9,h12,h13])
            · cases p5<;>cases q5<;>simp[h1,h2,h3,h4,h16,h17,a0j]
          · cases p5<;>cases q5<;>simp[h1,h2,h3,h4,h16,a0j]
        simp[h1,h2,h3,h4,a0j]
      simp[h1,h2,h3,a0j]
    · by_cases h3:p3=q3<;>simp[h1,h2,h3,a0j]
  · by_cases h3:p3=q3<;>simp[h1,h3,a0j]
theorem p0S{l:List a0b}(hl:l.length<=1000):Tot (c0d l) (λ_=>True):=by
  unfold c0d;refine tJ<|tL (λs:Int=>0<=s/\s<=(l.length:Int)) (λs=>((l.length:Int)-s).toNat) ⟨dA,dA⟩ dA λs hs=> ?_;refine tI (λhq=> ?_) λ_=>tR<|tR trivial;have hq:=dTT hq;have f1:wA .i64 (s+1)=s+1:=w64 dA dA;rw[f1];exact tY (a0c hs.1 hq)<|tB (x0R _) λ_ _=>tI dI λ_=>tR ⟨⟨dA,dA⟩,dA⟩
theorem B0A(h1:p.e_.length<=300)(h2:p.i_.length<=300)(h3:p.K_.length<=300)(h4:p.G_.length<=300):Tot (c0e p) (λ_=>True):=by
  unfold c0e;generalize hL:([p.ah_,p.w_,p.ab_,p.H_,p.V_,p.G2_,p.Y_,p.T_,p.k_]:List Int)=L;have hlen:L.length=9:=by rw[<-hL];rfl
  refine tJ<|tL (λs:Int=>0<=s/\s<=(L.length:Int)/\ ∀j:Nat,(j:Int)<s->0<=nth L j/\nth L j<=40) (λs=>((L.length:Int)-s).toNat) ⟨dA,dA,λj hj=>dA⟩ dA λs hs=> ?_;refine tI (λhq=> ?_) λhq=>tR (show Tot _ _ from ?_);have hq:=dTT hq;have hin:=a0c hs.1 hq;refine tJ<|tB (p:=λb=>b=oA->0<=nth L s/\nth L s<=40) ?_ λb hb=> ?_;refine tY hin<|tY hin<|tI (λ_=>tR dH) λg1=>tY hin<|tY hin<|tR λg2=> ?_;have g1:=dFF g1;have g2:=dFF g2;omega
  cases b with
  |true=>exact tR trivial
  |false=>
    have hb:=hb rfl;refine tR (show Tot _ _ from tR ?_);have f1:wA .i64 (s+1)=s+1:=w64 dA dA;rw[f1];refine⟨⟨dA,dA,λj hj=> ?_⟩,dA⟩;by_cases hjs:(j:Int)<s;exact hs.2.2 j hjs;have:(j:Int)=s:=by omega
    rw[this];exact hb
  · have hq:=dFF hq
    have hall:=hs.2.2;have hs9:s=9:=by omega
    subst hs9;subst hL
    have hc:O0A p:=⟨hall 0 dA,hall 1 dA,hall 2 dA,hall 3 dA,hall 4 dA,hall 5 dA,hall 6 dA,hall 7 dA,hall 8 dA⟩
    have r1:=p0S (l:=p.e_) dA;have r2:=p0S (l:=p.i_) dA;have r3:=p0S (l:=p.K_) dA;have r4:=p0S (l:=p.G_) dA;refine tB (x0R _) λ_ _=> ?_;refine zC (tB r1 λ_ _=>tI (λ_=>tB r2 dJ) dI) λ_ _=> ?_;refine zC (tB r3 λ_ _=>tI (λ_=>tB r4 dJ) dI) λ_ _=> ?_;refine tJ (zC ?_ λb _=> ?_)
    · repeat' (first|exact tR trivial|refine tI (λ_=> ?_) λ_=> ?_)
    cases b with
    |true=>exact tR trivial
    |false=>
      obtain⟨t,ht,htl⟩:=D0J hc h1 h2 h3 h4;rw[ht];refine tR (show Tot _ _ from ?_);show Tot (jA (a0E t) _) _;refine tB (x0s (t:=t) dA) λo _=> ?_;refine zC (tI (λg=> ?_) dI) λ_ h=>tR h;rw[G0C ⟨dA,dA,dA,dA⟩];exact tR trivial
/-! What is read of a pattern is no longer than its runes. -/
def Im(x:Option α)(p:α->Prop):Prop:= ∀o,x=vA o->p o
theorem qA{a:α}{p:α->Prop}(h:p a):Im (vA a) p:=λo e=>by cases e;exact h
theorem qS{p:α->Prop}:Im (Option.none:Option α) p:=λo e=>by cases e
theorem qC{x:Option α}{k:α->Option β}{p:α->Prop}{q:β->Prop}(h:Im x p)(hk: ∀o,p o->Im (k o) q):Im (jA x k) q:=by
  intro o e
  cases x with
  |none=>cases e
  |some a=>exact hk a (h a rfl) o e
theorem qB{x:Option α}{k:α->Option β}{q:β->Prop}(hk: ∀o,Im (k o) q):Im (jA x k) q:=qC (p:=λ_=>True) (λ_ _=>trivial) λo _=>hk o
def qE{t e:Option α}{p:α->Prop}(ht:Im t p)(he:Im e p):Im (bif b then t else e) p:=by cases b<;>assumption
def qG{x:Option (S⊕X)}{k:S->Option X}{q:X->Prop}(P:S->Prop)(h:Im x (λy=>match y with| .inl s=>P s| .inr r=>q r))(hk: ∀s,P s->Im (k s) q):Im (jA x<|a0j k) q:=by
  refine qC h (λy hy=> ?_)
  cases y with
  |inl s=>exact hk s hy
  |inr r=>exact qA hy
theorem qP{step:S->Option (S⊕O)}{q:O->Prop}(I:S->Prop){s0:S}(h0:I s0)(hs: ∀s,I s->Im (step s) (λy=>match y with| .inl s=>I s| .inr o=>q o)): ∀(n:Nat),Im (a0m step n s0) q:=by
  intro n
  induction n generalizing s0 with
  |zero=>intro o e;cases e
  |succ n ih=>
    intro o e;simp only[a0m]at e
    cases hx:step s0 with
    |none=>rw[hx]at e;cases e
    |some y=>
      rw[hx]at e;have:=hs s0 h0 y hx
      cases y with
      |inl s=>exact ih this o e
      |inr r=>cases e;exact this
theorem qQ{x:Option α}{p:α->Prop}(h:Tot x p):Im x p:=by
  obtain⟨o,e,hp⟩:=h;intro o' e';rw[e]at e';cases e';exact hp
theorem qO{x:Option α}{p q:α->Prop}(h:Im x p)(h2:Im x q):Im x (λo=>p o/\q o):=λo e=>⟨h o e,h2 o e⟩
abbrev Im.and:=@qO
def qD{t e:Option α}{p:α->Prop}(ht:b=jB->Im t p)(he:b=oA->Im e p):Im (bif b then t else e) p:=by
  cases b with
  |true=>exact ht rfl
  |false=>exact he rfl
def keepP(p q:a0h):Prop:=q.e_=p.e_/\q.i_=p.i_/\q.K_=p.K_/\q.G_=p.G_
def keepP.refl(p:a0h):keepP p p:=⟨rfl,rfl,rfl,rfl⟩
def k0y(p:a0h)(l:List Int)(i w:Int):Im (b0G p l i w) (λo=>keepP p o.1):=by
  unfold b0G;refine qG (λ_=>True) (qB λb=>qE (qA<|keepP.refl p)<|qA trivial) λ_ _=> ?_;exact qE (qA<|keepP.refl p)<|qE (qA ⟨rfl,rfl,rfl,rfl⟩) qS
def y0S(p:a0h)(l:List Int)(i:Int):Im (c0D p l i) (λo=>keepP p o.1):=by
  unfold c0D;refine qP (λ_=>True) trivial (λs _=>qB λy0=>qB λy1=> ?_) _;refine qG (λ_=>True) (qB λb=>qE (qA trivial)<|qA trivial) λ_ _=>qE (qA trivial) ?_;refine qG (λ_=>True) (qB λb=>qE ?_<|qA trivial) λ_ _=>qB λs1=>qB λs2=>qA ⟨rfl,rfl,rfl,rfl⟩;exact qG (λ_=>True) (qB λb=>qE (qA (show keepP p _ from⟨rfl,rfl,rfl,rfl⟩))<|qA trivial) λ_ _=>qE (qA trivial) qS
theorem t0t(p:a0h)(l:List Int)(i:Int):Im (c0E p l i) (λo=>keepP p o.1):=by
  unfold c0E;refine qB λy2=>qG (λs=>s.2.1=p.e_/\s.2.2.1=p.i_/\s.2.2.2.1=p.K_/\s.2.2.2.2.1=p.G_) ?_ λs hs=>qB λy7=> ?_;refine qE (qB λ_=>qA ⟨rfl,rfl,rfl,rfl⟩) (qC (y0S p l i) λy0 hk=>qE (qA<|keepP.refl p)<|qB λ_=>qE (qB λ_=>qB λ_=>qE (qA ⟨hk.1,hk.2.1,hk.2.2.1,hk.2.2.2⟩)<|qA ⟨hk.1,hk.2.1,hk.2.2.1,hk.2.2.2⟩)<|qA ⟨hk.1,hk.2.1,hk.2.2.1,hk.2.2.2⟩)
  · obtain⟨a,b,c,d⟩:=hs
    repeat' (first|exact qA ⟨a,b,c,d⟩|refine qB (λ_=> ?_)|refine qE ?_ ?_|exact qS)
theorem C0m(hl:l.length<=10000)(h:0<=i)(hi:i<=l.length):Tot (a0u l i) (λo=>(o.1.length:Int)<=l.length):=by
  unfold a0u;refine tJ (tL (λs:Int×List a0b=>0<=s.1/\s.1<=(l.length:Int)/\(s.2.length:Int)<=s.1) (λs=>((l.length:Int)-s.1).toNat) ⟨h,hi,by simpa using h⟩ dC λs hs=> ?_);refine tI (λhh=> ?_) (λhh=>tR<|tR<|by have:=hs.2;simp only;omega);have hlt:=dTT hh;refine tY (a0c hs.1 hlt)<|tB (z0Y _) λy _=>tB (p0a _) λy2 _=> ?_;have e1:wA .i64 (s.1+1)=s.1+1:=w64 dA dA;rw[e1];refine tI (λ_=>tY (a0f dD)<|tR ⟨⟨dC,dC,dD⟩,dC⟩) λ_=> ?_;refine tI (λ_=>tI (λ_=>tR (show((s.2.length:Nat):Int)<=l.length by omega)) λ_=>tY (a0f dD)<|tR ⟨⟨dC,dC,dD⟩,dC⟩) λ_=> ?_;rw[k0H dA];show Tot (bif _ then _ else _) _;refine tI (λhq=> ?_) λhq=> ?_;have:=s0n (dTT hq) dA;refine tY (a0f dD)<|tR ?_;have e2:wA .i64 (s.1+2)=s.1+2:=w64 dA dA;rw[e2];exact⟨⟨dC,dC,dD⟩,dC⟩;refine tB (p:=λo:Int×List a0b=>s.1+1<=o.1/\o.1<=(l.length:Int)/\(o.2.length:Int)<=o.1) ?_ λo ho=> ?_;refine tL (λt:Int×List a0b=>s.1+1<=t.1/\t.1<=(l.length:Int)/\(t.2.length:Int)<=t.1) (λt=>((l.length:Int)-t.1).toNat) ⟨dC,dC,dC⟩ dC λt ht=> ?_;have f1:wA .i64 (t.1+1)=t.1+1:=w64 dA dA;rw[f1];refine tJ<|tB (p:=λb=>b=jB->t.1<l.length/\(nth l t.1=39->t.1+1<l.length)) ?_ λb hb=> ?_;refine tI (λhh=> ?_) λ_=>tR dH;have h3:=dTT hh;refine tY (a0c dA h3)<|tI (λhn=>tR λ_=>⟨h3,λhe=>absurd he<|dTT hn⟩) λ_=> ?_;rw[k0H dA];exact tR (λhb=>⟨h3,λ_=>s0n (dTT hb) dA⟩)
  cases b with
  |false=>exact tR ht
  |true=>
    obtain⟨g1,g2⟩:=hb rfl;refine tR (show Tot _ _ from ?_);refine tY (a0c dA g1)<|tY (a0f dD) ?_;refine tB (p:=λv=>t.1<=v/\v<l.length) (tY (a0c dA g1)<|tI (λhh=>tR ⟨dA,g2<|dTT hh⟩) λ_=>tR ⟨dA,g1⟩) λv hv=>tR ?_;have f2:wA .i64 (v+1)=v+1:=w64 dA dA;rw[f2];exact⟨⟨dC,dC,dD⟩,dC⟩
  refine tI (λ_=>tR (show((([]:List a0b).length:Nat):Int)<=l.length by simp)) λhh=>tR ?_;have h3:=dFF hh;have f1:wA .i64 (o.1+1)=o.1+1:=w64 dA dA;rw[f1];exact⟨⟨dC,dC,dC⟩,dC⟩
theorem q0P(hl:l.length<=10000)(h:0<=i):Im (a0u l i) (λo=>(o.1.length:Int)<=l.length):=by
  by_cases hi:i<=l.length;obtain⟨o,e,h1⟩:=C0m hl h hi;intro o' e';rw[e]at e';cases e';exact h1;unfold a0u;refine qG (λs=>s.2=[]) (qP (λs:Int×List a0b=>(l.length:Int)<s.1/\s.2=[]) ⟨dC,rfl⟩ (λs hs=> ?_) _) (λs hs=>qA<|by rw[hs];simp);rw[dF (show¬s.1<(l.length:Int) by omega)];exact qA hs.2
def nb(h:(!b)=oA):b=true:=by simpa using h
theorem E0Q(hl:l.length<=10000):Im (b0C l) (λo=>g0C o.1 l.length):=by
  unfold b0C;refine qC ((qQ<|p0m hl dA dA).and<|k0y _ _ _ _) λa ha=> ?_;obtain⟨ha,k1,k2,k3,k4⟩:=ha;have z1:a.1.e_.length<=l.length:=by rw[k1];simp
  have z2:a.1.i_.length<=l.length:=by rw[k2];simp
  have z3:a.1.K_.length<=l.length:=by rw[k3];simp
  have z4:a.1.G_.length<=l.length:=by rw[k4];simp
  refine qD (λ_=>qA ⟨z1,z2,z3,z4⟩) λh1=>qC ((qQ<|k0h hl ha.1<|ha.2.1<|nb h1).and<|q0P hl ha.1) λb hb=> ?_;obtain⟨hb,kb⟩:=hb;have kb:b.1.length<=l.length:=by omega
  refine qD (λ_=>qA ⟨z1,z2,z3,z4⟩) λh2=>qC ((qQ<|p0m hl hb.1 hb.2).and<|k0y _ _ _ _) λc hc=> ?_;obtain⟨hc,c1,c2,c3,c4⟩:=hc;refine qD (λ_=>qA ⟨kb,z2,z3,z4⟩) λh3=>qC ((qQ<|u0E hl hc.1<|hc.2.1<|nb h3).and<|t0t _ _ _) λd hd=> ?_;obtain⟨hd,d1,d2,d3,d4⟩:=hd;refine qD (λ_=>qA ⟨kb,z2,z3,z4⟩) λh4=>qC ((qQ<|p0m hl hd.1 hd.2).and<|k0y _ _ _ _) λe he=> ?_;obtain⟨he,e1,e2,e3,e4⟩:=he;refine qD (λ_=>qA ⟨kb,z2,z3,z4⟩) λh5=>qC ((qQ<|k0h hl he.1<|he.2.1<|nb h5).and<|q0P hl he.1) λf hf=> ?_;obtain⟨hf,kf⟩:=hf;have kf:f.1.length<=l.length:=by omega
  refine qD (λ_=>qA ⟨kb,z2,z3,z4⟩) λh6=>qC (k0y _ _ _ _) λg hg=>qA ?_;obtain⟨g1,g2,g3,g4⟩:=hg;refine⟨?_, ?_, ?_, ?_⟩;rw[g1];show e.1.e_.length<=_;rw[e1,d1,c1];exact kb;rw[g2];exact kf;rw[g3];show e.1.K_.length<=_;rw[e3,d3,c3];exact z3;rw[g4];show e.1.G_.length<=_;rw[e4,d4,c4];exact z4
theorem B0n{a b:Int}(hl:l.length<=10000)(h:0<=i)(hi:i<=l.length)(ha:0<=a)(hb:b<=l.length)(hp:g0C p l.length):Im (b0u p l i a b) (λo=>g0C o.1 l.length):=by
  unfold b0u;obtain⟨p1,p2,p3,p4⟩:=hp;refine qC ((qQ<|k0h hl h hi).and<|q0P hl h) λc hc=>qE (qA ⟨p1,p2,p3,p4⟩) ?_;obtain⟨hc,kc⟩:=hc;have kc:c.1.length<=l.length:=by omega
  refine qG (λs=>0<=s) (qP (λs:Int×Int=>0<=s.1/\s.1<=(l.length:Int)+s.2/\0<=s.2) ⟨hc.1,dC,ha⟩ (λs hs=> ?_) _) λs hs=> ?_;refine qD (λhh=>qB λy=>qE (qE (qA ⟨p1,p2,kc,p4⟩)<|qA ?_) qS) λ_=>qA hs.1;have hh:=dTT hh;have e1:wA .i64 (s.1+1)=s.1+1:=w64 dA dA;have e2:wA .i64 (s.2+1)=s.2+1:=w64 dA dA;rw[e1,e2];exact⟨dC,dC,dC⟩;refine qC (q0P hl hs) λd hd=>qA ⟨p1,p2,kc, ?_⟩;show d.1.length<=l.length;omega
theorem D0Q(ht:t.length<=100000):Im (a0E t) (λo=>g0C o.1 120):=by
  unfold a0E;refine qB λd=>qE (qA ⟨dE,dE,dE,dE⟩)<|qD (λ_=>qA ⟨dE,dE,dE,dE⟩) λh1=> ?_;have h1:=dFF h1;have hl:d.1.length<=10000:=by omega
  have hw: ∀p:a0h,g0C p d.1.length->g0C p 120:=λp h=>⟨by have:=h.1;omega,by have:=h.2.1;omega,by have:=h.2.2.1;omega,by have:=h.2.2.2;omega⟩
  refine qC ((qQ<|x0Y hl).and<|E0Q hl) λf hf=> ?_;obtain⟨hf,kf⟩:=hf;refine qC (p:=λs=>s.2.2.1.length<=120/\s.2.2.2.1.length<=120/\s.2.2.2.2.1.length<=120/\s.2.2.2.2.2.1.length<=120) ?_ λs hs=> ?_;refine qC (p:=λb=>b=jB->f.2.2.2.2=jB/\f.2.2.2.1<d.1.length) ?_ λb hb=> ?_;refine qD (λhq=> ?_) λ_=>qA dH;rw[k0H (hf hq).2.2.1];exact qA λh=>⟨hq,s0n (dTT h) dA⟩;refine qD (λhq=> ?_) λ_=>qA<|hw _ kf;obtain⟨g1,g2⟩:=hb hq;have g:=hf g1;have f1:wA .i64 (f.2.2.2.1+1)=f.2.2.2.1+1:=w64 dA dA;rw[f1];exact qC (B0n hl dA dA g.1 g.2.1 kf) λo ho=>qA<|hw _ ho;refine qG (λ_=>True) (qB λb=>qE (qA ⟨dE,dE,dE,dE⟩)<|qA trivial) λ_ _=> ?_;refine qG (λ_=>True) (qB λb=>qE (qA ⟨dE,dE,dE,dE⟩)<|qA trivial) λ_ _=> ?_;exact qA hs
theorem P0n(ht:t.length<=100000):Tot (a0E t) (λo=>g0C o.1 120/\Tot (c0e o.1) λ_=>True):=by
  obtain⟨o,e,_⟩:=x0s ht;have h:=D0Q ht o e;exact⟨o,e,h,B0A (by have:=h.1;omega) (by have:=h.2.1;omega) (by have:=h.2.2.1;omega)<|by have:=h.2.2.2;omega⟩
/-! The reference's classes, signs and affixes: they answer. -/
def goP(s:Int)(x:Int⊕O):Prop:=match x with
  | .inl s'=>s'=s+1
  | .inr _=>True
def P0w(x:Int⊕O):Prop:=match x with
  | .inl _=>False
  | .inr _=>True
theorem Tot.srch{step:Int->Option (Int⊕O)}(n:Nat)(hn:n<=4294967296)(h: ∀s:Int,0<=s->s<(n:Int)->Tot (step s) (goP s))(he: ∀s:Int,s=n->Tot (step s) P0w):Tot (a0m step big 0) (λ_=>True):=by
  refine tW (λs:Int=>s) n (λ_=>True) hn ⟨trivial,dA,dA⟩ (λs _ h0 h1=>(h s h0 h1).mono λo ho=> ?_) (λs _ e=>(he s e).mono λo ho=> ?_)
  cases o with
  |inl s'=>exact⟨trivial,ho⟩
  |inr r=>trivial
  cases o with
  |inl s'=>exact ho.elim
  |inr r=>trivial
def y0w{A:Type}(s:Int)(x:A⊕(Int⊕O)):Prop:=match x with
  | .inl _=>True
  | .inr y=>goP s y
theorem Tot.joinG{A:Type}{x:Option (A⊕(Int⊕O))}{k:A->Option (Int⊕O)}{s:Int}(h:Tot x<|y0w s)(hk: ∀a,Tot (k a)<|goP s):Tot (jA x<|a0j k) (goP s):=by
  refine tJ (h.mono λy hy=> ?_)
  cases y with
  |inl a=>exact hk a
  |inr r=>exact hy
theorem Tot.joinT{A:Type}{x:Option (A⊕O)}{k:A->Option O}(h:Tot x λ_=>True)(hk: ∀a,Tot (k a) λ_=>True):Tot (jA x<|a0j k) (λ_=>True):=by
  refine tJ (h.mono λy _=> ?_)
  cases y with
  |inl a=>exact hk a
  |inr r=>trivial
def nx{s:Int}(h0:0<=s)(h1:s<=4294967296):wA .i64 (s+1)=s+1:=w64 dA dA
def A0f:Tot e0m (λl=>l.length=20):=tR rfl
theorem J0i(x:Int):Tot (f0Z x) (λ_=>True):=by
  unfold f0Z;refine tB A0f λl hl=>Tot.joinT (Tot.srch l.length dA (λs h0 h1=>tY (dT h1)<|tY (a0c h0 h1)<|tI dI λ_=>tR<|nx h0 dA) λs e=>zE e trivial) dI
theorem G0v(x:Int):Tot (f0o x) (λ_=>True):=by
  unfold f0o;refine tB A0f λl hl=>Tot.joinT (Tot.srch l.length dA (λs h0 h1=>tY (dT h1)<|Tot.joinG ?_ λ_=>tR<|nx h0 dA) λs e=>zE e trivial) dI;refine Tot.mono (p:=λy=>y0w s y) ?_ λ_ h=>h;refine tW (λs:Int=>s) 10 (λ_=>True) dA ⟨trivial,dA,dA⟩ (λu _ g0 g1=>tY (dT g1)<|tY (a0c h0 h1)<|tI dI λ_=>tR ⟨trivial,nx g0 dA⟩) λu _ e=>zE e trivial
def G0G(x:Int):Tot (d0B x) (λ_=>True):=by
  unfold d0B;refine tB (x0R x) (λ_ _=>zC ?_ λ_ _=>zC ?_ λ_ _=>tB (G0v x) λ_ _=>tI dI λ_=>Tot.joinT ?_ λ_=>tI dI λ_=>Tot.joinT ?_ λ_=> ?_)
  · unfold g0l;repeat' (first|exact tR trivial|refine zI ?_ ?_|refine zB ?_ λ_=> ?_)
  · unfold h0F;repeat' (first|exact tR trivial|refine zI ?_ ?_|refine zB ?_ λ_=> ?_)
  · repeat' (first|exact tR trivial|refine zI ?_ ?_|refine zB ?_ λ_=> ?_)
  · repeat' (first|exact tR trivial|refine zI ?_ ?_|refine zB ?_ λ_=> ?_)
  · repeat' (first|exact tR trivial|refine zI ?_ ?_|refine zB ?_ λ_=> ?_)
theorem J0y(hl:l.length<=4294967296):Tot (g0a l) (λ_=>True):=by
  unfold g0a;refine Tot.joinT (Tot.srch l.length hl (λs h0 h1=>tY (dT h1)<|Tot.joinG (tY (a0c h0 h1)<|tB (G0G _) λ_ _=> ?_) λ_=>tR<|nx h0 dA) λs e=>zE e trivial) dI
  repeat' (first|exact tR trivial|refine zI ?_ ?_|refine zB ?_ λ_=> ?_)
theorem G0A(hl:l.length<=4294967296):Tot (f0p l) (λ_=>True):=by
  unfold f0p;refine Tot.joinT (tW (λs:Int×Int=>s.2) l.length (λ_=>True) hl ⟨trivial,dE⟩ (λs _ h0 h1=>tY (dT h1) ?_) λs _ e=>zE e trivial) dI;refine tJ (Tot.mono (p:=λx:Int⊕((Int×Int)⊕(Int⊕Bool))=>match x with| .inl _=>True| .inr (.inl _)=>False| .inr (.inr _)=>True) (tY (a0c h0 h1)<|tJ<|Tot.mono (p:=λx:Unit⊕(Int⊕((Int×Int)⊕(Int⊕Bool)))=>match x with| .inl _=>True| .inr (.inl _)=>True| .inr (.inr<|.inl _)=>False| .inr (.inr<|.inr _)=>True) ?_ λx hx=> ?_) λx hx=> ?_)
  · repeat' (first|exact tR trivial|refine zI ?_ ?_|refine zB ?_ λ_=> ?_)
  · cases x with
    |inl u=>
      show Tot _ _;refine zC ?_ (λ_ _=> ?_)<;>repeat' (first|exact tR trivial|refine zI ?_ ?_|refine zB ?_ λ_=> ?_)
    |inr r=>
      cases r with
      |inl s=>trivial
      |inr q=>
        cases q with
        |inl _=>exact hx.elim
        |inr _=>trivial
  cases x with
  |inl u=>exact tR ⟨trivial,nx h0 dA⟩
  |inr r=>
    cases r with
    |inl _=>exact hx.elim
    |inr _=>trivial
theorem G0w(s:b0I)(x:Int):Tot (f0m s x) (λ_=>True):=by
  unfold f0m;exact Tot.joinT (Tot.srch 10 dA (λs h0 h1=>tY (dT h1)<|tI dI λ_=>tR<|nx h0 dA) λs e=>zE e trivial) dI
def H0Z(s:b0I)(x:Int):Tot (c0P s x) (λ_=>True):=by
  unfold c0P;refine tB (G0w s x) (λ_ _=> ?_)
  repeat' (first|exact tR trivial|refine zI ?_ ?_|refine zB ?_ λ_=> ?_)
theorem x0i(hl:l.length<=4294967296):Tot (e0r s l) (λ_=>True):=by
  unfold e0r;refine tB (J0y hl) (λ_ _=>tB (G0A hl) λ_ _=>Tot.joinT dK λ_=>Tot.joinT (Tot.srch l.length hl (λs h0 h1=>tY (dT h1)<|Tot.joinG (tY (a0c h0 h1)<|tB (H0Z _ _) λ_ _=>zC (tI dI λ_=>tY (a0c h0 h1)<|tB (G0G _) dJ) λ_ _=> ?_) λ_=>tR<|nx h0 dA) λs e=>zE e trivial) dI)
  repeat' (first|exact tR trivial|refine zI ?_ ?_|refine zB ?_ λ_=> ?_)
def t0n{a:f0u}(ha:C0n a):Tot (d0r s a) (λ_=>True):=by
  obtain⟨h1,h2⟩:=ha;unfold d0r;exact tY (a0f dA)<|tY (a0f dA)<|tB (x0i dD) dJ
theorem A0b{x y:List Int}(hl:x.length<=4294967296):Tot (e0v x y) (λ_=>True):=by
  unfold e0v;refine tI dI λh=>Tot.joinT (Tot.srch x.length hl (λs h0 h1=>tY (dT h1)<|tY (a0c h0 h1)<|tY (a0c h0 ?_)<|tI dI λ_=>tR<|nx h0 dA) λs e=>zE e trivial) dI;have:=dFF h;omega
def t0b{a c:f0u}(ha:C0n a):Tot (d0q a c) (λ_=>True):=by
  obtain⟨h1,h2⟩:=ha;unfold d0q;refine tB (A0b dA) λ_ _=>zC (tI (λ_=>tB (A0b dA) dJ) dI) dJ
theorem A0l{l:List a0b}(hl:l.length<=4294967296):Tot (d0U l k) (λ_=>True):=by
  unfold d0U;refine zC (tW (λs:Int×Int=>s.2) l.length (λ_=>True) hl ⟨trivial,dE⟩ (λs _ h0 h1=>tY (dT h1)<|zC (tY (a0c h0 h1) ?_) λ_ _=>tR ⟨trivial,nx h0 dA⟩) λs _ e=>zE e trivial) dJ
  repeat' (first|exact tR trivial|refine zI ?_ ?_|refine zB ?_ λ_=> ?_)
theorem D0o{l:List a0b}(hl:l.length<=1000):Tot (e0q l) (λr=>r.length<=1001):=by
  unfold e0q;refine tB (p:=λr:List a0b=>r.length<=1001) (tW (λs:Int×List a0b=>s.1) l.length (λs=>(s.2.length:Int)<=s.1) dA ⟨dE,dE⟩ (λs hs h0 h1=>tY (dT h1)<|tB (p:=λr:List a0b=>(r.length:Int)<=s.2.length+1) (tY (a0c h0 h1)<|tI (λ_=>tY (a0f dD)<|tR dE) λ_=>tY (a0c h0 h1)<|tY (a0f dD)<|tR dE) λr hr=>tR ⟨?_,nx h0 dA⟩) λs hs e=>tN (dF dA)<|tR dC) λ_ h=>tR h;rw[nx h0 dA];simp only;omega
def D0p(hp:g0C p 1000)(g:Int):Tot (e0P p g) (λr=>r.1.length<=1001/\r.2.length<=1001):=by
  obtain⟨p1,p2,p3,p4⟩:=hp;unfold e0P;refine tJ<|zC dK λb _=>tI (λ_=>tR ⟨dC,dC⟩) λ_=>tR (show Tot _ _ from ?_);refine tJ<|zC dK λb _=>tI (λ_=>tR ⟨dC,dC⟩) λ_=>tR (show Tot _ _ from ?_);refine tJ<|zC (tI (λ_=>tB (A0l dA) λ_ _=>tB (A0l dA) dJ) dI) λb _=>tI (λ_=>tB (D0o p3) λa ha=>tB (D0o p4) λc hc=>tR ⟨ha,hc⟩) λ_=>tR (show Tot _ _ from ?_);exact tY (a0f dD)<|tR ⟨dD,dC⟩
theorem H0Y{l:List a0b}(hl:l.length<=1001)(hc:cur.length<=6100):Tot (d0f l s cur) (λr=>r.length<=10000000):=by
  unfold d0f;refine tB (p:=λr:List Int=>r.length<=10000000) (tW (λs:Int×List Int=>s.1) l.length (λs=>(s.2.length:Int)<=6100*s.1) dA ⟨dE,dE⟩ (λu hu g0 g1=>tY (dT g1) ?_) λu hu e=>tN (dF dA)<|tR dC) λ_ h=>tR h;have one: ∀x:Int,Tot (bif room (u.2.length+([x]:List Int).length)then vA (u.2++ [x])else none) (λr:List Int=>(r.length:Int)<=u.2.length+6100):=λx=>tY (a0f dD) (tR<|by simp<;>omega)
  refine tB (p:=λr:List Int=>(r.length:Int)<=u.2.length+6100) (tY (a0c g0 g1)<|tI (λ_=>tY (a0c g0 g1)<|one _) λ_=>tI (λ_=>one _) λ_=>tI (λ_=>one _) λ_=>tI (λ_=>one _) λ_=>tI (λ_=>tY (a0f dA)<|tR dD) λ_=>tR dA) λr hr=>tR ⟨?_,nx g0 dA⟩;rw[nx g0 dA];simp only;omega
def r0d(hp:g0C p 1000)(hc:cur.length<=6100):Tot (c0b p s g cur) C0n:=by
  unfold c0b;exact tB (D0p hp g) λa ha=>tB (H0Y ha.1 hc) λc hc1=>tB (H0Y ha.2 hc) λd hd=>tR ⟨hc1,hd⟩
theorem L0F(ht:t.length<=4294967296):Tot (g0E t) (λ_=>True):=by
  unfold g0E;refine Tot.joinT (Tot.srch t.length ht (λs h0 h1=>tY (dT h1)<|Tot.joinG (tY (a0c h0 h1)<|zC ?_ λ_ _=> ?_) λ_=>tR<|nx h0 dA) λs e=>zE e trivial) (λ_=> ?_)
  · repeat' (first|exact tR trivial|refine zI ?_ ?_|refine zB ?_ λ_=> ?_)
  · repeat' (first|exact tR trivial|refine zI ?_ ?_|refine zB ?_ λ_=> ?_)
  · repeat' (first|exact tR trivial|refine zI ?_ ?_|refine zB ?_ λ_=> ?_)
theorem D0z(s:b0I):Tot (f0T s) (λ_=>True):=by
  unfold f0T;generalize hL:([s.u_,s.J_,s.y_,s.v_,s.z_,s.k_]:List Int)=L;have hl:L.length=6:=by rw[<-hL];rfl
  refine Tot.joinT (Tot.srch L.length dA (λi h0 h1=>tY (dT h1)<|Tot.joinG (tY (a0c h0 h1)<|tY (a0c h0 h1)<|tB (G0G _) λ_ _=> ?_) λ_=>tR<|nx h0 dA) λs e=>zE e trivial) λ_=>tB (J0i _) dJ;refine tJ (Tot.mono (p:=λx:Unit⊕(Unit⊕(Int⊕(Unit⊕Bool)))=>match x with| .inl _=>True| .inr y=>y0w i y) ?_ λx hx=> ?_)
  · refine zC dK (λb _=>tI dI dI)
  cases x with
  |inr y=>exact hx
  |inl u=>
    show Tot _ (y0w i);exact tW (λs:Int=>s) i.toNat (λ_=>True) dA ⟨trivial,dA,dA⟩ (λu _ g0 g1=>tY (dT dA)<|tY (a0c g0 dA)<|tY (a0c g0 dA)<|tY (a0c h0 h1)<|tY (a0c h0 h1)<|tI dI λ_=>tR ⟨trivial,nx g0 dA⟩) λu _ e=>tN (dF dA)<|tR trivial
theorem z0K{l:List a0b}(hl:l.length<=4294967296)(hk: ∀x∈l,0<=x.aa_/\x.aa_<=4):Tot (c0V k l n) (λ_=>True):=by
  unfold c0V;refine zC (tW (λs:Int×Int×Int×Int×Int×Int=>s.1) l.length (λ_=>True) hl ⟨trivial,dE⟩ (λs _ h0 h1=>tY (dT h1)<|tY (a0c h0 h1)<|tY (a0c h0 h1) ?_) λs _ e=>zE e trivial) (λ_ _=> ?_)
  · have hk:=hk _ (b0J h0 h1)
    repeat' (first|exact tR ⟨trivial,nx h0 dA⟩|(refine tI (λe=> ?_) λe=> ?_))
    all_goals(exfalso;simp only[decide_eq_false_iff_not,decide_eq_true_eq]at*;omega)
  · repeat' (first|exact tR trivial|refine zI ?_ ?_|refine zB ?_ λ_=> ?_)
theorem F0K{c:List Int}(hp:g0C p 1000)(hc:c.length<=6100):Tot (e0O s p c x) (λ_=>True):=by
  unfold e0O;refine Tot.joinT (Tot.srch 3 dA (λi h0 h1=>tY (dT h1)<|Tot.joinG (tB (r0d hp hc) λa ha=> ?_) λ_=>tR<|nx h0 dA) λs e=>zE e trivial) dI;obtain⟨h1',h2'⟩:=ha;refine tY (a0f dA)<|tY (a0f dA)<|Tot.mono (p:=λy=>y0w i y) ?_ λ_ h=>h;exact tW (λs:Int=>s) (a.e_++a.i_).length (λ_=>True) dD ⟨trivial,dA,dA⟩ (λu _ g0 g1=>tY (dT g1)<|tY (a0c g0 g1)<|tY (a0c g0 g1)<|tI dI λ_=>tR ⟨trivial,nx g0<|by simp at g1;omega⟩) λu _ e=>zE e trivial
def x0b{c:List Int}(hp:g0C p 1000)(hc:c.length<=6100):Tot (d0z s p c) (λ_=>True):=by
  unfold d0z;refine tB (G0G _) (λ_ _=>tB (H0Z _ _) λ_ _=>tB (F0K hp hc) λ_ _=> ?_)
  repeat' (first|exact tR trivial|refine zI ?_ ?_|refine zB ?_ λ_=> ?_)
def v0z{c:List Int}(hp:g0C p 1000)(hc:c.length<=6100):Tot (c0W s p c) (λ_=>True):=by
  unfold c0W;refine tB (r0d hp hc) (λa ha=>tB (r0d hp hc) λb hb=>tB (r0d hp hc) λd hd=>zC (tB (t0n ha) λ_ _=>tI (λ_=>tB (t0n hb) λ_ _=>tI (λ_=>tB (t0n hd) dJ) dI) dI) λ_ _=>tB (t0b ha) λ_ _=>tB (t0b hb) λ_ _=> ?_)
  repeat' (first|exact tR trivial|refine zI ?_ ?_|refine zB ?_ λ_=> ?_)
def G0I{c:List Int}(hp:g0C p 1000)(hc:c.length<=6100):Tot (f0k s p c) (λ_=>True):=by
  unfold f0k;refine tB (x0i dA) (λ_ _=>tB (v0z hp hc) λ_ _=>tB (x0b hp hc) λ_ _=> ?_)
  repeat' (first|exact tR trivial|refine zI ?_ ?_|refine zB ?_ λ_=> ?_)
theorem J0x(a b:List UInt8):Tot (f0S a b) (λ_=>True):=by
  unfold f0S;refine tJ (Tot.mono (p:=λx:Unit⊕Bool=>match x with| .inl _=>a.length=3| .inr _=>True) (tB (p:=λb=>b=oA->a.length=3) (tI (λ_=>tR dH) λh=>tR λ_=>by have:=dFF h;omega) λb hb=>tI dI λe=>tR<|hb e) λx hx=> ?_)
  cases x with
  |inr r=>trivial
  |inl u=>
    have hx:a.length=3:=hx;have i0:inR 0 a.length=true:=a0c dA dA;have i1:inR 1 a.length=true:=a0c dA dA;have i2:inR 2 a.length=true:=a0c dA dA;show Tot _ _;rw[i0,i1,i2];simp only[wC]
    repeat' (first|exact tR trivial|refine zI ?_ ?_|refine zB ?_ λ_=> ?_)
/-! Of what kinds the pieces of a pattern are. -/
def okK(l:List a0b):Prop:= ∀x∈l,0<=x.aa_/\x.aa_<=4
def okK.nil:okK []:=λx h=>by cases h
theorem okK.snoc{l:List a0b}{x:a0b}(h:okK l)(hx:0<=x.aa_/\x.aa_<=4):okK (l++ [x]):=by
  intro y hy;rcases av.1 hy with hy|hy;exact h y hy;rw[aN.1 hy];exact hx
theorem okK.app{l m:List a0b}(h:okK l)(h2:okK m):okK (l++m):=by
  intro y hy;rcases av.1 hy with hy|hy;exact h y hy;exact h2 y hy
def D0g(x:Int):Im (d0u x) (λr=>0<=r/\r<=4):=by
  unfold d0u
  repeat' (first|exact qA ⟨dA,dA⟩|refine qE ?_ ?_|refine qB λ_=> ?_)
theorem o0n(l:List Int)(i:Int):Im (a0u l i) (λo=>okK o.1):=by
  unfold a0u
  have z: ∀r:Int,(0:Int)<=(⟨0,r⟩:a0b).aa_/\(⟨0,r⟩:a0b).aa_<=4:=λr=>⟨dE,dE⟩
  refine qG (λs=>okK s.2) (qP (λs:Int×List a0b=>okK s.2) okK.nil (λs hs=> ?_) _) λs hs=>qA hs;refine qE (qE (qC (D0g _) λy hy=>qB λy2=> ?_) qS)<|qA hs;refine qE (qE (qA<|hs.snoc hy) qS)<|qE (qE (qA hs)<|qE (qA<|hs.snoc<|z _) qS)<|qB λy3=>qE (qE (qA<|hs.snoc<|z _) qS)<|qC (p:=λo=>okK o.2) ?_ λo ho=>qE (qA okK.nil)<|qA ho;refine qP (λt:Int×List a0b=>okK t.2) (s0:=(wA .i64<|s.1+1,s.2)) hs (λt ht=> ?_) _;refine qG (λ_=>True) (qB λb=>qE (qA trivial)<|qA ht) λ_ _=> ?_;exact qE (qE (qB λv=>qA<|ht.snoc<|z _) qS) qS
def H0o(p:a0h):Prop:=okK p.e_/\okK p.i_/\okK p.K_/\okK p.G_
theorem q0x{q:a0h}(h:H0o p)(k:keepP p q):H0o q:=by
  obtain⟨a,b,c,d⟩:=h;obtain⟨k1,k2,k3,k4⟩:=k;exact⟨by rw[k1];exact a,by rw[k2];exact b,by rw[k3];exact c,by rw[k4];exact d⟩
theorem B0Y(l:List Int):Im (b0C l) (λo=>H0o o.1):=by
  unfold b0C;refine qC (k0y _ _ _ _) λa ka=> ?_;have ka:H0o a.1:=q0x ⟨okK.nil,okK.nil,okK.nil,okK.nil⟩ ka;obtain⟨a1,a2,a3,a4⟩:=id ka;refine qE (qA ka) (qC (o0n _ _) λb kb=>qE (qA ka)<|qC (k0y _ _ _ _) λc kc=> ?_)
  have z:H0o (⟨b.1,a.1.i_,a.1.K_,a.1.G_,a.1.A_,a.1.ah_,a.1.w_,a.1.ab_,a.1.H_,a.1.V_,a.1.G2_,a.1.Y_,a.1.T_,a.1.k_,a.1.an_,a.1.N_,a.1.U_⟩:a0h):=⟨kb,a2,a3,a4⟩
  have kc:=q0x z kc;refine qE (qA z)<|qC (t0t _ _ _) λd kd=>qE (qA z)<|qC (k0y _ _ _ _) λe ke=>qE (qA z)<|qC (o0n _ _) λf kf=>qE (qA z)<|qC (k0y _ _ _ _) λg kg=>qA ?_;obtain⟨e1,e2,e3,e4⟩:=q0x (q0x kc kd) ke;exact q0x (p:=⟨e.1.e_,f.1,e.1.K_,e.1.G_,e.1.A_,e.1.ah_,e.1.w_,e.1.ab_,e.1.H_,e.1.V_,e.1.G2_,e.1.Y_,e.1.T_,e.1.k_,e.1.an_,e.1.N_,e.1.U_⟩) ⟨e1,kf,e3,e4⟩ kg
def y0L(l:List Int)(i a b:Int)(hp:H0o p):Im (b0u p l i a b) (λo=>H0o o.1):=by
  unfold b0u;obtain⟨p1,p2,p3,p4⟩:=hp;refine qC (o0n _ _) λc kc=>qE (qA ⟨p1,p2,p3,p4⟩) ?_;refine qG (λ_=>True) (qP (λ_:Int×Int=>True) trivial (λs hs=> ?_) _) λs _=>qC (o0n _ _) λd kd=>qA ⟨p1,p2,kc,kd⟩;exact qE (qB λy=>qE (qE (qA ⟨p1,p2,kc,p4⟩)<|qA trivial) qS)<|qA trivial
theorem B0G(t:List UInt8):Im (a0E t) (λo=>H0o o.1):=by
  unfold a0E;have z:okK ([]:List a0b):=okK.nil;refine qB λd=>qE (qA ⟨z,z,z,z⟩)<|qE (qA ⟨z,z,z,z⟩) ?_;refine qC (B0Y _) λf kf=> ?_;refine qC (p:=λs=>okK s.2.2.1/\okK s.2.2.2.1/\okK s.2.2.2.2.1/\okK s.2.2.2.2.2.1) ?_ λs hs=> ?_;exact qB λb=>qE (qC (y0L _ _ _ _ kf) λo ho=>qA ho)<|qA kf;refine qG (λ_=>True) (qB λb=>qE (qA ⟨z,z,z,z⟩)<|qA trivial) λ_ _=> ?_;refine qG (λ_=>True) (qB λb=>qE (qA ⟨z,z,z,z⟩)<|qA trivial) λ_ _=> ?_;exact qA hs
theorem L0N(ht:t.length<=100000):Tot (a0E t) (λo=>(g0C o.1 120/\H0o o.1)/\Tot (c0e o.1) λ_=>True):=by
  obtain⟨o,e,h1,h2⟩:=P0n ht;exact⟨o,e,⟨h1,B0G t o e⟩,h2⟩
theorem M0o(h:g0C p 120):g0C p 1000:=by
  obtain⟨a,b,c,d⟩:=h;exact⟨dA,dA,dA,dA⟩
def I0p:g0C (⟨([]:List a0b),([]:List a0b),([]:List a0b),([]:List a0b),oA,0,0,0,0,0,0,0,0,0,oA,0,0⟩:a0h) 1000:=⟨dE,dE,dE,dE⟩
theorem x0a(ht:t.length<=100000):Tot (b0i s k t) (λr=>g0C r.1 1000):=by
  unfold b0i;refine tB (L0N ht) λy hy=>tB hy.2 λ_ _=> ?_;obtain⟨⟨hl,hk1,hk2,hk3,hk4⟩,_⟩:=hy;have l12:=M0o hl;obtain⟨l1,l2,l3,l4⟩:=hl;refine Tot.joinQ (zC dK λb _=>tI (λ_=>tR I0p) dI) λ_=> ?_;refine Tot.joinQ (zC dK λb _=>tI (λ_=>tR I0p) dI) λ_=> ?_;refine Tot.joinQ (zC dK λb _=>tI (λ_=>tR I0p) dI) λ_=> ?_;refine tY (a0f dA)<|tY (a0f dA)<|tB (z0K dD<|okK.app hk1 hk2) λ_ _=>tY (a0f dA)<|tY (a0f dA)<|tB (z0K dD<|okK.app hk3 hk4) λ_ _=> ?_;refine Tot.joinQ (zC dK λb _=>tI (λ_=>tR I0p) dI) λ_=> ?_;refine tB (v0z l12 dE) λ_ _=>tB (x0b l12 dE) λ_ _=> ?_;exact Tot.joinQ (zC dK λb _=>tI (λ_=>tR I0p) dI) λ_=>tR l12
theorem s0t{c:i0P}(ht:c.aj_.length<=100000):Tot (b0l s c) (λr=>g0C r.1 1000):=by
  unfold b0l;refine tB (L0N ht) λy hy=>tB hy.2 λ_ _=> ?_;obtain⟨⟨hl,hk1,hk2,hk3,hk4⟩,_⟩:=hy;have l12:=M0o hl;obtain⟨l1,l2,l3,l4⟩:=hl;refine Tot.joinQ (zC dK λb _=>tI (λ_=>tR I0p) dI) λ_=> ?_;refine Tot.joinQ (zC dK λb _=>tI (λ_=>tR I0p) dI) λ_=> ?_;refine tY (a0f dA)<|tY (a0f dA)<|tB (z0K dD<|okK.app hk1 hk2) λ_ _=>tB (v0z l12 dE) λ_ _=> ?_;exact Tot.joinQ (zC dK λb _=>tI (λ_=>tR I0p) dI) λ_=>tR l12
theorem D0H{q:a0h}{a b:Int}(hp:g0C p 1000)(hq:g0C q 1000):Tot (c0O s p a q b) (λ_=>True):=by
  unfold c0O;generalize hL:([(⟨0,0⟩:a0S),(⟨0,1⟩:a0S),(⟨1,0⟩:a0S),(⟨1,1⟩:a0S),(⟨1,2⟩:a0S),(⟨2,1⟩:a0S),(⟨2,2⟩:a0S)]:List a0S)=L;have hl:L.length=7:=by rw[<-hL];rfl
  refine Tot.joinT (Tot.srch L.length dA (λi h0 h1=>tY (dT h1)<|Tot.joinG (tY (a0c h0 h1)<|tY (a0c h0 h1)<|tB (r0d hp dE) λx hx=>tB (r0d hq dE) λy hy=>tB (t0b hx) λ_ _=>zC dK λ_ _=> ?_) λ_=>tR<|nx h0 dA) λs e=>zE e trivial) dI
  repeat' (first|exact tR trivial|refine zI ?_ ?_|refine zB ?_ λ_=> ?_)
def H0b{l:List i0P}(h: ∀c∈l,c.aj_.length<=6000)(h0:0<=i)(h1:i<l.length):(nth l i).aj_.length<=100000:=by
  have:=h _<|b0J h0 h1;omega
theorem D0A{l:List i0P}(hl:l.length<=1000)(h0:0<=i)(h1:i<l.length):Tot (f0l l (nth l i).ae_) (λr=>0<=r/\r<l.length):=by
  unfold f0l;refine tJ<|Tot.mono (p:=λx:Unit⊕Int=>match x with| .inl _=>False| .inr r=>0<=r/\r<l.length) (tL (λs:Int=>0<=s/\s<=i) (λs=>(i-s).toNat) dA dA λs hs=>tY (dT dA)<|tY (a0c hs.1 dA)<|tI (λ_=>tR ⟨hs.1,dA⟩) λe=> ?_) λx hx=> ?_;have e:=dFF e;have hne:s≠i:=λh=>e (by rw[h])
  rw[nx hs.1 dA];exact tR ⟨⟨dA,dA⟩,dA⟩
  cases x with
  |inl u=>exact hx.elim
  |inr r=>exact hx
theorem J0w{l:d0G}(hm:l.c_.length<=95)(ht: ∀c∈l.c_,c.aj_.length<=6000):Tot (c0l l) (λ_=>True):=by
  unfold c0l;refine Tot.joinT (Tot.srch l.c_.length dA (λi h0 h1=>tY (dT h1)<|Tot.joinG (tY (a0c h0 h1)<|tB (s0t<|H0b ht h0 h1) λy hy=> ?_) λ_=>tR<|nx h0 dA) λs e=>zE e trivial) dI;refine tJ (Tot.mono (p:=λx:Unit⊕(Unit⊕(Int⊕(Unit⊕Int)))=>match x with| .inl _=>True| .inr z=>y0w i z) (zC dK λb _=>tI dI dI) λx hx=> ?_)
  cases x with
  |inr z=>exact hx
  |inl u=>
    show Tot _ (y0w i);refine tJ (Tot.mono (p:=λx:Unit⊕(Unit⊕(Int⊕(Unit⊕Int)))=>match x with| .inl _=>True| .inr z=>y0w i z) (zC ?_ λb _=>tI dI dI) λx hx=> ?_)
    · refine tI (λe=> ?_) dI
      have e:=dTT e;have w:wA .i64 (i-1)=i-1:=w64 dA dA;rw[w];have i1:inR (i-1) l.c_.length=true:=a0c dA dA;rw[i1];simp only[wC]
      repeat' (first|exact tR trivial|refine zI ?_ ?_|refine zB ?_ λ_=> ?_)
    · cases x with
      |inr z=>exact hx
      |inl u=>
        show Tot _ (y0w i);refine tB (D0A dA h0 h1) λf hf=> ?_;refine tJ (Tot.mono (p:=λx:Unit⊕(Unit⊕(Int⊕(Unit⊕Int)))=>match x with| .inl _=>True| .inr z=>y0w i z) (zC dK λb _=>tI dI dI) λx hx=> ?_)
        cases x with
        |inr z=>exact hx
        |inl u=>
          show Tot _ (y0w i);exact tY (a0c hf.1 hf.2)<|tB (s0t<|H0b ht hf.1 hf.2) λz hz=>tB (show Tot (b0m _ _) (λ_=>True)from tR trivial) λ_ _=>tY (a0c hf.1 hf.2)<|tB (show Tot (b0m _ _) (λ_=>True)from tR trivial) λ_ _=>tI dI dI
theorem L0D{l:d0G}(hp:l.d_.g_.length<=100000)(hm:l.c_.length<=95)(ht: ∀c∈l.c_,c.aj_.length<=6000):Tot (e0N l) (λ_=>True):=by
  unfold e0N;refine tB (x0a hp) λp hp=>Tot.joinT (Tot.srch l.c_.length dA (λi h0 h1=>tY (dT h1)<|Tot.joinG (tY (a0c h0 h1)<|tB (s0t<|H0b ht h0 h1) λy hy=>tY (a0c h0 h1)<|tB (show Tot (b0m _ _) (λ_=>True)from tR trivial) λ_ _=>tB (D0H hp hy) λ_ _=>tI dI λ_=> ?_) λ_=>tR<|nx h0 dA) λs e=>zE e trivial) dI;refine Tot.mono (p:=λy=>y0w i y) ?_ λ_ h=>h;exact tW (λs:Int=>s) (i.toNat+1) (λ_=>True) dA ⟨trivial,dA,dA⟩ (λu _ g0 g1=>tY (dT dA)<|tY (a0c g0 dA)<|tB (s0t<|H0b ht g0 dA) λz hz=>tY (a0c g0 dA)<|tB (show Tot (b0m _ _) (λ_=>True)from tR trivial) λ_ _=>tB (D0H hz hy) λ_ _=>tI dI λ_=>tR ⟨trivial,nx g0 dA⟩) λu _ e=>tN (dF dA)<|tR trivial
theorem G0M{b:List Int}(hl:b.length<=100000):Tot (b0L b) (λo=>(o.1.length:Int)<=b.length+4):=by
  unfold b0L;refine tJ<|tL (λs:Int×List Int=>0<=s.1/\s.1<=(b.length:Int)+4/\(s.2.length:Int)<=s.1) (λs=>((b.length:Int)+4-s.1).toNat) ⟨dC,dC,dE⟩ dC λs hs=> ?_;refine tI (λhq=> ?_) (λ_=>tR<|tR (show((s.2.length:Nat):Int)<=b.length+4 by omega));have hq:=dTT hq;refine tB (D0X hl hs.1 hq) (λn hn=>tI (λ_=>tR (show((([]:List Int).length:Nat):Int)<=b.length+4 by simp;omega)) λhneg=> ?_);have hneg:=dFF hneg;have his:=hn.resolve_left hneg;refine tY (a0f dD)<|tB (v0l _) λz hz=>tR ?_;have h1:=hz.2.2 his;have e1:wA .i64 (s.1+z)=s.1+z:=w64 dA dA;rw[e1];exact⟨⟨dC,dC,dD⟩,dC⟩
theorem L0I{l:d0G}(hp:g0C p 1000)(hc:l.j_.length<=105)(hs: ∀c∈l.j_,c.m_.length<=6000):Tot (c0U l p) (λ_=>True):=by
  unfold c0U;refine Tot.joinT (tW (λs:List UInt8×Int=>s.2) l.j_.length (λ_=>True) dA ⟨trivial,dE⟩ (λs _ h0 h1=>tY (dT h1) ?_) λs _ e=>zE e trivial) dI;have hsl:=hs _<|b0J h0 h1;have hbl:(b0j (nth l.j_ s.2).m_).length<=6000:=by rw[d0v];exact hsl
  refine tJ (Tot.mono (p:=λx:Unit⊕((List UInt8×Int)⊕(Unit⊕Int))=>match x with| .inl _=>True| .inr (.inl _)=>False| .inr (.inr _)=>True) (tY (a0c h0 h1)<|tB (G0M dA) λd hd=>tB (G0I hp dA) λ_ _=>tB (J0x _ _) λ_ _=> ?_) λx hx=> ?_)
  · refine tJ (Tot.mono (p:=λx:Unit⊕(Unit⊕((List UInt8×Int)⊕(Unit⊕Int)))=>match x with| .inl _=>True| .inr (.inl _)=>True| .inr (.inr<|.inl _)=>False| .inr (.inr<|.inr _)=>True) (zC dK λb _=>tI dI dI) λx hx=> ?_)
    cases x with
    |inl u=>exact tR trivial
    |inr r=>
      cases r with
      |inl _=>trivial
      |inr q=>
        cases q with
        |inl _=>exact hx.elim
        |inr _=>trivial
  cases x with
  |inl u=>exact tR ⟨trivial,nx h0 dA⟩
  |inr r=>
    cases r with
    |inl _=>exact hx.elim
    |inr _=>trivial
def txt(s:List UInt8)(i:Int):Prop:=0<=i/\i<=s.length
def M0u(s:List UInt8)(i a:Int)(l:List a0S):(Int×Int)⊕((Int×List a0S)⊕(List a0S×Int×Bool))->Prop
  | .inl w=>a<w.1/\w.1<=s.length
  | .inr (.inl _)=>False
  | .inr (.inr o)=>txt s o.2.1/\i<=o.2.1/\o.1.length<=s.length
theorem j0P{s:List UInt8}(hl:s.length<=1000000)(h:txt s i):Tot (b0g s i) (λo=>i<=o/\o<=s.length):=by
  obtain⟨h0,h1⟩:=h;unfold b0g;refine tB (tL (λq=>i<=q/\q<=s.length) (λq=>(s.length-q).toNat) ⟨dA,dA⟩ dA λq hq=> ?_) λo ho=>tR ho;refine tJ<|tB (p:=λb=>b=jB->q<s.length) ?_ λb hb=> ?_;refine tI (λh=> ?_) λ_=>tR dE;have h:=dTT h;exact tY (a0c dA h)<|tR λ_=>h;refine tI (λh=>tR ?_) λ_=>tR hq;have:=hb h;refine tR ?_;simp only;rw[w64 dA dA];omega
theorem w0S{s:List UInt8}(hl:s.length<=1000000)(h:txt s i):Tot (e0s s i) (λo=>i<=o/\o<=s.length):=by
  obtain⟨h0,h1⟩:=h;unfold e0s;refine tB (tL (λq=>i<=q/\q<=s.length) (λq=>(s.length-q).toNat) ⟨dA,dA⟩ dA λq hq=> ?_) λo ho=>tR ho;refine tJ<|tB (p:=λb=>b=jB->q<s.length) ?_ λb hb=> ?_;refine tI (λh=> ?_) λ_=>tR dE;have h:=dTT h;refine tY (a0c dA h)<|tI (λ_=> ?_) λ_=>tR λ_=>h;exact tY (a0c dA h)<|tR λ_=>h;refine tI (λh=>tR ?_) λ_=>tR hq;have:=hb h;refine tR ?_;simp only;rw[w64 dA dA];omega
theorem m0W{s:List UInt8}{x:List UInt8}(hl:s.length<=1000000)(h:txt s i)(hx:x.length<=10):Tot (b0S s i x) (λb=>b=jB->i+x.length<=s.length):=by
  obtain⟨h0,h1⟩:=h;unfold b0S;rw[w64 (n:=i+(x.length:Int)) dA dA];refine tB (p:=λb=>b=jB->i+x.length<=s.length) ?_ λb hb=>tR hb;refine tI (λh=> ?_) λ_=>tR dE;have h:=dTT h;exact tY (l0i dA dA dA)<|tR λ_=>h
theorem p0j{s:List UInt8}{l:Int}(hl:s.length<=1000000)(h:txt s i):Tot (b0t s i l) (λo=>txt s o.2/\i<=o.2/\(0<=o.1->i<o.2)):=by
  unfold b0t;refine tB (j0P hl h) λy hy=> ?_;obtain⟨h0,h1⟩:=h;refine tB (tL (λq:Int×Int=>y<=q.1/\q.1<=s.length) (λq:Int×Int=>((s.length:Int)-q.1).toNat) (post:=λq:Int×Int=>y<=q.1/\q.1<=s.length) ⟨dC,dC⟩ dC λq hq=> ?_) λo ho=> ?_;refine tJ<|tB (p:=λb=>b=jB->q.1<s.length) ?_ λb hb=> ?_;refine tI (λh=> ?_) λ_=>tR dE;have h:=dTT h;refine tY (a0c dA h)<|tI (λ_=> ?_) λ_=>tR λ_=>h;exact tY (a0c dA h)<|tR λ_=>h;refine tI (λh=>tR ?_) λ_=>tR hq;have:=hb h;refine zC ?_ λv _=>tR ?_;refine tI (λ_=> ?_) dI;exact tY (a0c dA this)<|tR trivial;simp only;rw[w64 (n:=q.1+1) dA dA];omega;refine tJ<|tB (p:=λb=>b=oA->y<o.1) ?_ λb hb=> ?_;refine tI (λ_=>tR dE) λh=> ?_;have h:=dFF h;have hlt:y<o.1:=by omega
  refine tI (λ_=>tR dE) λ_=> ?_;refine tY (a0c dA dA)<|tI (λ_=> ?_) λ_=>tR λ_=>hlt;exact tI (λ_=>tR dE) λ_=>tR λ_=>hlt;refine tI (λ_=>tR ?_) λh=>tR ?_;exact⟨⟨dC,dC⟩,dC,dC⟩;have:=hb h;exact tR ⟨⟨dC,dC⟩,dC,λ_=>dC⟩
theorem y0M{s:List UInt8}(hl:s.length<=1000000)(h:txt s i):Tot (c0C s i) (λo=>txt s o.2.1/\i<=o.2.1/\o.1.length<=s.length):=by
  unfold c0C;obtain⟨h0,h1⟩:=h;refine tL (λq:Int×List a0S=>i<=q.1/\q.1<=s.length/\(q.2.length:Int)<=q.1) (λq:Int×List a0S=>((s.length:Int)-q.1).toNat) ⟨dC,dC,dD⟩ dC (λq hq=> ?_)
  have tq:txt s q.1:=⟨dA,dA⟩
  refine tB (p0j hl tq) λy hy=> ?_;obtain⟨⟨y1,y2⟩,y3,y4⟩:=hy;refine tI (λ_=>tR ?_) λhn=> ?_;exact⟨⟨y1,y2⟩,dC,dE⟩;have hn:=dFF hn;have y4:=y4 dA;refine tB (j0P hl ⟨y1,y2⟩) λz hz=> ?_;refine tJ<|Tot.mono (p:=M0u s i q.1 q.2) ?_ λw hw=> ?_;refine tB (m0W (x:=[46,46]) hl ⟨dA,hz.2⟩ dE) λb hb=> ?_;refine tI (λh=> ?_) λ_=>tR ⟨dC,dC⟩;have hb:=hb h;simp at hb;rw[w64 (n:=z+2) dA dA];refine tB (p0j hl ⟨dA,dA⟩) λv hv=> ?_;obtain⟨⟨v1,v2⟩,v3,v4⟩:=hv;refine tI (λ_=>tR ⟨⟨v1,v2⟩,dC,dE⟩) (λhn=>tR ⟨dC,dC⟩)
  cases w with
  |inr r=>
    cases r with
    |inl x=>exact hw.elim
    |inr o=>exact hw
  |inl w=>
    obtain⟨w1,w2⟩:=hw;refine tY (a0f dD) ?_;refine tB (j0P hl ⟨dA,w2⟩) λc hc=> ?_;refine tB (m0W (x:=[44]) hl ⟨dA,hc.2⟩ dE) λb hb=> ?_;refine tI (λ_=>tR ?_) λh=>tR ?_;exact⟨⟨dC,dC⟩,dC,dD⟩;have hb:=hb (by simpa using h);simp at hb;simp only;rw[w64 (n:=c+1) dA dA];simp;omega
def J0o(x:Int):Tot (h0C x) (λ_=>True):=by
  unfold h0C;refine zC ?_ dJ
  repeat' (first|exact tR trivial|refine tI (λ_=> ?_) λ_=> ?_)
def O0V(s:List UInt8)(i:Int)(o:a0z×Int×Bool):Prop:=txt s o.2.1/\(o.2.2=jB->i<o.2.1)/\o.1.R_.length<=s.length
theorem G0E{s:List UInt8}(hl:s.length<=1000000)(h:txt s i):Tot (d0H s i) (O0V s i):=by
  unfold d0H;obtain⟨h0,h1⟩:=h;refine tB (j0P hl ⟨h0,h1⟩) λy hy=> ?_;refine tJ<|tB (p:=λb=>b=oA->y<s.length) ?_ λb hb=> ?_;refine tB (w0S hl ⟨dA,hy.2⟩) λw hw=> ?_;refine tI (λ_=>tR dE) λh=> ?_;have h:=dFF h;rw[w64 (n:=y+1) dA dA]at h;have hlt:y<s.length:=by omega
  refine tY (a0c dA hlt) ?_;exact tB (J0o _) λ_ _=>tR λ_=>hlt;refine tI (λ_=>tR ?_) λh=>tR ?_;exact⟨⟨dC,hy.2⟩,dE,dE⟩;have hlt:=hb h;refine tY (a0c dA hlt) ?_;rw[w64 (n:=y+1) dA dA];refine tB (j0P hl ⟨dA,dA⟩) λz hz=> ?_;refine tJ<|Tot.mono (p:=λx:(Int×Int)⊕(a0z×Int×Bool)=>match x with| .inl w=>y<w.1/\w.1<=s.length| .inr o=>O0V s i o) ?_ λw hw=> ?_;refine tB (m0W (x:=[37]) hl ⟨dA,hz.2⟩ dE) λb2 hb2=> ?_;refine tI (λh=> ?_) λ_=>tR ⟨dC,hz.2⟩;have hb2:=hb2 h;simp at hb2;rw[w64 (n:=z+1) dA dA];refine tB (p0j hl ⟨dA,dA⟩) λv hv=> ?_;obtain⟨⟨v1,v2⟩,v3,v4⟩:=hv;refine tI (λ_=>tR ⟨⟨v1,v2⟩,dE,dE⟩) λ_=> ?_;exact tB (j0P hl ⟨v1,v2⟩) (λu hu=>tR ⟨dC,hu.2⟩)
  cases w with
  |inr o=>exact hw
  |inl w=>
    obtain⟨w1,w2⟩:=hw;refine tB (p:=λu:Int×Bool=>y<u.1/\u.1<=s.length) ?_ λu hu=> ?_;refine tB (m0W (x:=[33,61]) hl ⟨dA,w2⟩ dE) λb3 hb3=> ?_;refine tI (λh=>tR ?_) λ_=>tR ⟨w1,w2⟩;have hb3:=hb3 h;simp at hb3;rw[w64 (n:=w.1+1) dA dA];exact⟨dC,dC⟩;refine tB (m0W (x:=[61]) hl ⟨dA,hu.2⟩ dE) λb4 hb4=> ?_;refine tI (λ_=>tR ⟨⟨dC,hu.2⟩,dE,dE⟩) λh=> ?_;have hb4:=hb4 (by simpa using h);simp at hb4;rw[w64 (n:=u.1+1) dA dA];refine tB (y0M hl ⟨dA,dA⟩) λo ho=>tR ?_;obtain⟨⟨o1,o2⟩,o3,o4⟩:=ho;exact⟨⟨o1,o2⟩,λ_=>dC,o4⟩
/-! Rules: what is read of them, and that it answers. -/
def I0U(n:Int):wA .i64 n<=9223372036854775807:=by
  have h:wA .i64 n=if n%18446744073709551616≥9223372036854775808 then n%18446744073709551616-18446744073709551616 else n%18446744073709551616:=by
    unfold wA;simp[oG,yH]
  rw[h];split<;>omega
theorem r0l(s:List UInt8)(i l:Int):Im (b0t s i l) (λo=>o.1<=9223372036854775807):=by
  unfold b0t;refine qB λy=>qC (p:=λq:Int×Int=>q.2<=9223372036854775807) (qP (λq:Int×Int=>q.2<=9223372036854775807) dE (λq hq=> ?_) _) λq hq=> ?_;refine qG (λ_=>True) (qB λb=>qE (qA trivial)<|qA hq) λ_ _=>qC (p:=λv:Int=>v<=9223372036854775807) (qE (qE (qA<|I0U _) qS)<|qA hq) λv hv=>qA hv;exact qG (λ_=>True) (qB λb=>qE (qA dE)<|qA trivial) λ_ _=>qA hq
def I0j(n:Int):Prop:=0<=n/\n<=9223372036854775807
def z0P(g:a0S):Prop:=I0j g.g_/\I0j g.h_
def s0H(r:a0z):Prop:=I0j r.aw_/\ ∀g∈r.R_,z0P g
theorem B0y(s:List UInt8)(i:Int):Im (c0C s i) (λo=> ∀g∈o.1,z0P g):=by
  unfold c0C;refine qP (λq:Int×List a0S=> ∀g∈q.2,z0P g) (λg h=>by cases h) (λq hq=> ?_) _;refine qC (r0l _ _ _) (λy hy=>qD (λ_=>qA λg h=>by cases h) λhn=>qB λz=> ?_);have hn:=dFF hn;refine qG (λw:Int×Int=>I0j w.2) (qB λb=>qE (qC (r0l _ _ _) λv hv=>qD (λ_=>qA λg h=>by cases h) λhn=>qA ⟨by have:=dFF hn;simp only;omega,hv⟩)<|qA ⟨dC,hy⟩) (λw hw=> ?_)
  have hs: ∀g∈q.2++ [(⟨y.1,w.2⟩:a0S)],z0P g:=by
    intro g hg;rcases av.1 hg with h|h;exact hq g h;rw[aN.1 h];exact⟨⟨dC,hy⟩,hw⟩
  exact qE (qB λ_=>qB λ_=>qE (qA hs)<|qA hs) qS
theorem J0u(s:List UInt8)(i:Int):Im (d0H s i) (λo=>s0H o.1):=by
  unfold d0H
  have z:I0j 0:=⟨dA,dA⟩
  have e: ∀ {a b:Int} {c:Bool},I0j b->s0H (⟨a,b,c,[]⟩:a0z):=λh=>⟨h,λg hg=>by cases hg⟩
  refine qB λy=>qG (λ_=>True) (qB λb=>qE (qA<|e z)<|qA trivial) λ_ _=>qE (qB λz2=> ?_) qS;refine qG (λw:Int×Int=>I0j w.2) (qB λb=>qE (qC (r0l _ _ _) λv hv=>qD (λ_=>qA<|e z) λhn=>qB λ_=>qA ⟨by have:=dFF hn;simp only;omega,hv⟩)<|qA z) λw hw=> ?_;refine qB λu=>qB λb=>qE (qA<|e hw)<|qC (B0y _ _) λo ho=>qA ⟨hw,ho⟩
def G0e(c:List<|List a0z):Prop:= ∀x∈c,∀r∈x,s0H r
theorem D0P(s:List UInt8):Im (c0c s) (λo=>G0e o.1):=by
  unfold c0c;have z:G0e []:=λx hx=>by cases hx
  refine qE (qA z) (qG (λq:Bool×List (List a0z)×List a0z=>G0e q.2.1/\ ∀r∈q.2.2,s0H r) (qP (λq:Int×Bool×Int×List (List a0z)×List a0z=>G0e q.2.2.2.1/\ ∀r∈q.2.2.2.2,s0H r) ⟨z,λr h=>by cases h⟩ (λq hq=> ?_) _) λq hq=> ?_);refine qC (J0u _ _) (λy hy=>qE (qA z)<|qB λf=>qE (qB λzz=> ?_) qS)
  have h2: ∀r∈q.2.2.2.2++ [y.1],s0H r:=by
    intro r hr;rcases av.1 hr with h|h;exact hq.2 r h;rw[aN.1 h];exact hy
  have h3:G0e (q.2.2.2.1++ [q.2.2.2.2++ [y.1]]):=by
    intro x hx;rcases av.1 hx with h|h;exact hq.1 x h;rw[aN.1 h];exact h2
  refine qE (qA ⟨hq.1,h2⟩)<|qB λw=>qG (λ_=>True) (qB λb=>qE (qA z)<|qA trivial) λ_ _=> ?_;refine qC (p:=λu:List (List a0z)×List a0z=>G0e u.1/\ ∀r∈u.2,s0H r) (qE (qE (qE (qA ⟨h3,λr h=>by cases h⟩) qS)<|qA ⟨hq.1,h2⟩) qS) λu hu=>qA hu;refine qE (qA z)<|qE (qA ?_) qS;intro x hx;rcases av.1 hx with h|h;exact hq.1 x h;rw[aN.1 h];exact hq.2
def fewC(c:List<|List a0z):Prop:=c.length<=401/\ ∀x∈c,x.length<=401/\ ∀r∈x,r.R_.length<=400
def fewC.nil:fewC []:=⟨dE,λx h=>by cases h⟩
theorem w0y(s:List UInt8):Tot (c0c s) (λo=>fewC o.1):=by
  unfold c0c;refine tI (λ_=>tR fewC.nil) λhs4=> ?_;have hs4:=dFF hs4;have hl:s.length<=1000000:=by omega
  have hl4:s.length<=400:=by omega
  refine tJ<|tL (λq:Int×Bool×Int×List (List a0z)×List a0z=>txt s q.2.2.1/\((q.2.2.2.1.length:Int)<=q.2.2.1/\(q.2.2.2.2.length:Int)<=q.2.2.1)/\(∀x∈q.2.2.2.1,x.length<=401/\ ∀r∈x,r.R_.length<=400)/\ ∀r∈q.2.2.2.2,r.R_.length<=400) (λq:Int×Bool×Int×List (List a0z)×List a0z=>((s.length:Int)-q.2.2.1).toNat) ⟨⟨dE,dE⟩,⟨dE,dE⟩,dE,dE⟩ dC λq hq=> ?_;obtain⟨⟨q1,q2⟩,⟨q3,q4⟩,q5,q6⟩:=hq;refine tB (G0E hl ⟨q1,q2⟩) λy hy=> ?_;obtain⟨⟨y1,y2⟩,y3,y4⟩:=hy;refine tI (λ_=>tR (show fewC _ from fewC.nil)) λhok=> ?_;have y3:=y3 (by simpa using hok)
  have h2: ∀r∈q.2.2.2.2++ [y.1],r.R_.length<=400:=by
    intro r hr;rcases av.1 hr with h|h;exact q6 r h;rw[aN.1 h];omega
  have h3: ∀x∈q.2.2.2.1++ [q.2.2.2.2++ [y.1]],x.length<=401/\ ∀r∈x,r.R_.length<=400:=by
    intro x hx;rcases av.1 hx with h|h;exact q5 x h;rw[aN.1 h];exact⟨dD,h2⟩
  refine zC ?_ (λf _=> ?_)
  · repeat' (first|exact tR trivial|refine zI ?_ ?_|refine zB ?_ λ_=> ?_)
  refine tY (a0f dD) ?_;refine tB (j0P hl ⟨y1,y2⟩) λz hz=> ?_;refine tI (λ_=>tR ?_) λhne=> ?_;show Tot (bif f then _ else _) _;refine tI (λ_=>tR fewC.nil) λ_=> ?_;exact tY (a0f dD) (tR ⟨dD,h3⟩)
  · refine tB (w0S hl ⟨dA,hz.2⟩) (λw hw=> ?_)
    have hin:inS z w s.length=true:=l0i dA dA dA;rw[hin];simp only[wC];refine tJ (zC ?_ λb _=> ?_)
    · repeat' (first|exact tR trivial|refine zI ?_ ?_|refine zB ?_ λ_=> ?_)
    refine tI (λ_=>tR (show fewC _ from fewC.nil)) λ_=>tR ?_;refine tB (p:=λu:List (List a0z)×List a0z=>((u.1.length:Int)<=z/\(u.2.length:Int)<=z)/\(∀x∈u.1,x.length<=401/\ ∀r∈x,r.R_.length<=400)/\ ∀r∈u.2,r.R_.length<=400) ?_ λu hu=>tR ?_;refine tI (λ_=>tY (a0f dD)<|tR ⟨⟨dD,dD⟩,h3,λr h=>by cases h⟩) λ_=>tR ⟨⟨dD,dD⟩,q5,h2⟩;obtain⟨⟨u1,u2⟩,u3,u4⟩:=hu;refine⟨⟨⟨dC,dC⟩,⟨dC,dC⟩,u3,u4⟩,dC⟩
def P0V: ∃m,big=m+1:=⟨big-1,by unfold big;omega⟩
theorem J0G(h:I0j x):Tot (a0U big x) (λr=>r.length<=20):=by
  obtain⟨h0,h1⟩:=h;obtain⟨m,hm⟩:=P0V;rw[show a0U big x=a0U (m+1) x by rw[<-hm]];simp only[a0U];refine tN (dF dA)<|tB (p:=λr:List UInt8=>r.length<=20) ?_ λ_ h=>tR h;refine tL (λq:Int×List UInt8=>(0<=q.1/\q.1<=9223372036854775807)/\q.2.length<=20/\q.1<10^(20-q.2.length)) (λq=>q.1.toNat) ⟨⟨h0,h1⟩,by simp[e0Z],by simp[e0Z];omega⟩ dC λq hq=> ?_;obtain⟨⟨q0,q0'⟩,q1,q2⟩:=hq;refine tI (λe=> ?_) λ_=>tR q1;have e:=dTT e
  have hlen:q.2.length<=18:=by
    rcases bK q.2.length 19 with h|h;omega;have:20-q.2.length<=1:=by omega
    have h5:(10:Int)^(20-q.2.length)<=10^1:=by
      have:=Nat.pow_le_pow_right (show 0<10 by omega) this
      exact_mod_cast this
    omega
  have hq10:wE q.1 10=q.1/10:=bE q0;have w1:wA .i64 (wE q.1 10)=q.1/10:=by rw[hq10];exact w64 dA dA
  rw[w1];refine tY (a0f<|by simp[e0Z];omega) (tR ⟨⟨⟨dC,dC⟩,by simp[e0Z];omega, ?_⟩,dC⟩);have e1:20-q.2.length=(20-(q.2.length+1))+1:=by omega
  rw[e1,Int.pow_succ]at q2;have l1:(e0Z [wA .u8<|wA .i64<|48+jD (q.1/10) 10]++q.2).length=q.2.length+1:=by simp[e0Z]
  show q.1/10<10^(20-(e0Z [wA .u8<|wA .i64<|48+jD (q.1/10) 10]++q.2).length);rw[l1];generalize(10:Int)^(20-(q.2.length+1))=K at q2⊢;omega
theorem F0X{c:List (List a0z)}(hc:fewC c)(hv:G0e c):Tot (f0V c) (λ_=>True):=by
  obtain⟨c1,c2⟩:=hc;unfold f0V;refine zC (tW (λs:List UInt8×Int=>s.2) c.length (λs=>(s.1.length:Int)<=7000000*s.2) dA ⟨dE,dE⟩ (λs hs h0 h1=>tY (dT h1) ?_) λs _ e=>zE e trivial) dJ;have i0:inR s.2 c.length=true:=a0c h0 h1;have hm:=b0J h0 h1;obtain⟨d1,d2⟩:=c2 _ hm;have hv1:=hv _ hm;generalize hd:nth c s.2=d at d1 d2 hv1⊢;refine tB (p:=λr:List UInt8=>(r.length:Int)<=7000000*s.2+7000000) ?_ (λr hr=>tR ⟨by rw[nx h0 dA];simp only;omega,nx h0 dA⟩);refine tB (p:=λr:List UInt8=>(r.length:Int)<=7000000*s.2+4) (tI (λ_=>tY (a0f dD)<|tR dD) λ_=>tR dA) λa ha=> ?_;refine tW (λt:List UInt8×Int=>t.2) d.length (λt=>(t.1.length:Int)<=7000000*s.2+4+17300*t.2) dA ⟨dC,dE⟩ (λt ht g0 g1=>tY i0<|tY (dT g1) ?_) λt ht e=>tY i0<|tN (dF dA)<|tR dC;have i1:inR t.2 d.length=true:=a0c g0 g1;have hm2:=b0J g0 g1;have e1:=d2 _ hm2;obtain⟨e2,e3⟩:=hv1 _ hm2;generalize nth d t.2=q at e1 e2 e3⊢;refine tB (p:=λr:List UInt8=>(r.length:Int)<=7000000*s.2+4+17300*t.2+17300) (tY i0<|tY i1 ?_) (λr hr=>tR ⟨by rw[nx g0 dA];simp only;omega,nx g0 dA⟩);refine tB (p:=λr:List UInt8=>(r.length:Int)<=7000000*s.2+4+17300*t.2+5) (tI (λ_=>tY (a0f dD)<|tR dD) λ_=>tR dA) λu hu=> ?_;have lo: ∀o:Int,(e0Z ([o]:List Int)).length=1:=λo=>by simp[e0Z]
  refine tY (a0f<|by rw[lo];omega) ?_;refine tB (p:=λr:List UInt8=>(r.length:Int)<=7000000*s.2+4+17300*t.2+29) (tI (λ_=>tY (a0f<|by simp[lo];omega)<|tB (J0G e2) λn hn=>tY (a0f<|by simp[lo];omega)<|tR<|by simp[lo];omega) λ_=>tR<|by simp[lo];omega) λv hv=> ?_;refine tB (p:=λr:List UInt8=>(r.length:Int)<=7000000*s.2+4+17300*t.2+33) (tI (λ_=>tY (a0f dD)<|tR dD) λ_=>tY (a0f dD)<|tR dD) λw hw=> ?_;refine tW (λz:List UInt8×Int=>z.2) q.R_.length (λz=>(z.1.length:Int)<=7000000*s.2+4+17300*t.2+33+43*z.2) dA ⟨dC,dE⟩ (λz hz k0 k1=>tY (dT k1) ?_) λz hz e=>tN (dF dA)<|tR dC;have i2:inR z.2 q.R_.length=true:=a0c k0 k1;obtain⟨r1,r2⟩:=e3 _<|b0J k0 k1;refine tB (p:=λr:List UInt8=>(r.length:Int)<=z.1.length+43) ?_ (λr hr=>tR ⟨by rw[nx k0 dA];simp only;omega,nx k0 dA⟩);refine tB (p:=λr:List UInt8=>(r.length:Int)<=z.1.length+1) (tI (λ_=>tY (a0f dD)<|tR dE) λ_=>tR dA) λx hx=> ?_;refine tY i2<|tB (J0G r1) λn hn=>tY (a0f dA)<|tY i2<|tY i2<|tI (λ_=> ?_) λ_=>tR dD;refine tY (a0f dD)<|tY i2<|tB (J0G r2) λn2 hn2=>tY (a0f dD)<|tR dD
theorem D0r{x y:List (List a0z)}(hx:x.length<=401)(hx2: ∀c∈x,c.length<=401/\ ∀r∈c,r.R_.length<=400):Tot (f0W x y) (λ_=>True):=by
  unfold f0W;refine tI dI λhl=> ?_;have hl:=dFF hl;refine Tot.joinT (Tot.srch x.length dA (λs h0 h1=>tY (dT h1)<|Tot.joinG (tY (a0c h0 h1)<|tY (a0c h0 dA)<|tI dI λhl2=> ?_) λ_=>tR<|nx h0 dA) λs e=>zE e trivial) dI;have hl2:=dFF hl2;have i0:inR s x.length=true:=a0c h0 h1;have i0':inR s y.length=true:=a0c h0 dA;obtain⟨d1,d2⟩:=hx2 _<|b0J h0 h1;generalize nth x s=a at d1 d2 hl2⊢;generalize nth y s=b at hl2⊢;refine tW (λt:Int=>t) a.length (λ_=>True) dA ⟨trivial,dA,dA⟩ (λt _ g0 g1=>tY i0<|tY (dT g1) ?_) λt _ e=>tY i0<|tN (dF dA)<|tR trivial;have i1:inR t a.length=true:=a0c g0 g1;have i1':inR t b.length=true:=a0c g0 dA;have e1:=d2 _<|b0J g0 g1;generalize nth a t=q at e1⊢;generalize nth b t=p;refine tJ<|Tot.mono (p:=λz:Unit⊕(Int⊕(Unit⊕(Int⊕(Unit⊕Bool))))=>match z with| .inl _=>True| .inr (.inl _)=>False| .inr (.inr o)=>y0w s o) (tY i0<|tY i1<|tY i0'<|tY i1' ?_) λz hz=> ?_;refine tJ<|Tot.mono (p:=λw:Unit⊕(Unit⊕(Int⊕(Unit⊕(Int⊕(Unit⊕Bool)))))=>match w with| .inl _=>q.R_.length=p.R_.length| .inr (.inl _)=>True| .inr (.inr<|.inl _)=>False| .inr (.inr<|.inr o)=>y0w s o) (tB (p:=λb=>b=oA->q.R_.length=p.R_.length) ?_ λb hb=>tI dI λe=>tR<|hb e) λw hw=> ?_;exact tI (λ_=>tR dH) (λ_=>tI (λ_=>tR dH) λ_=>tI (λ_=>tR dH) λ_=>tR λh=>by have:=dFF h;omega)
  cases w with
  |inl u=>
    have hw:q.R_.length=p.R_.length:=hw;exact tW (λz:Int=>z) q.R_.length (λ_=>True) dA ⟨trivial,dA,dA⟩ (λz _ k0 k1=>tY (dT k1)<|tY (a0c k0 k1)<|tY (a0c k0 dA)<|tI dI λ_=>tR ⟨trivial,nx k0 dA⟩) (λz _ e=>zE e trivial)
  |inr r=>
    cases r with
    |inl _=>trivial
    |inr r=>
      cases r with
      |inl _=>exact hw.elim
      |inr o=>exact hw
  cases z with
  |inl u=>exact tR ⟨trivial,nx g0 dA⟩
  |inr r=>
    cases r with
    |inl _=>exact hz.elim
    |inr o=>exact hz
theorem C0x{c:List (List a0z)}(hc:fewC c)(hv:G0e c):Tot (f0n c) (λ_=>True):=by
  unfold f0n;refine tB (F0X hc hv) λt _=>tB (w0y t) λo ho=> ?_;exact zC (tI (λ_=>tB (D0r hc.1 hc.2) dJ) dI) dJ
theorem J0n{x:List p0J}(hx:x.length<=1000):Tot (f0U x) (λ_=>True):=by
  unfold f0U;refine Tot.joinT (tW (λs:Int×List c0h=>s.1) x.length (λs=>(s.2.length:Int)<=s.1) dA ⟨dE,dE⟩ (λs hs h0 h1=>tY (dT h1) ?_) λs _ e=>zE e trivial) dI;have i0:inR s.1 x.length=true:=a0c h0 h1;refine tJ (Tot.mono (p:=λy:List c0h⊕((Int×List c0h)⊕(List c0h⊕(List c0h×Int×Int)))=>match y with| .inl l=>(l.length:Int)<=s.1+1| .inr (.inl _)=>False| .inr (.inr _)=>True) ?_ λy hy=> ?_)
  · refine tJ (Tot.mono (p:=λw:Unit⊕(List c0h⊕((Int×List c0h)⊕(List c0h⊕(List c0h×Int×Int))))=>match w with| .inl _=>True| .inr (.inl _)=>False| .inr (.inr<|.inl _)=>False| .inr (.inr<|.inr _)=>True) (zC ?_ λb _=>tI dI dI) λw hw=> ?_)
    refine tY i0<|tI dI λ_=>tY i0<|tI dI λ_=>tI (λe=> ?_) dI;have e:=dTT e;have w1:wA .i64 (s.1-1)=s.1-1:=w64 dA dA;rw[w1];exact tY i0 (tY (a0c dA dA)<|tR trivial)
    · cases w with
      |inr r=>
        cases r with
        |inl _=>exact hw.elim
        |inr r=>
          cases r with
          |inl _=>exact hw.elim
          |inr _=>trivial
      |inl u=>
        refine tY i0<|tB (p:=λo=>fewC o.1/\G0e o.1) ?_ λo ho=>tB (C0x ho.1 ho.2) λ_ _=> ?_;obtain⟨o,e,h⟩:=w0y (nth x s.1).ba_;exact⟨o,e,h,D0P _ o e⟩
        · refine tJ (Tot.mono (p:=λw:Unit⊕(List c0h⊕((Int×List c0h)⊕(List c0h⊕(List c0h×Int×Int))))=>match w with| .inl _=>True| .inr (.inl _)=>False| .inr (.inr<|.inl _)=>False| .inr (.inr<|.inr _)=>True) (zC dK λb _=>tI dI dI) λw hw=> ?_)
          cases w with
          |inr r=>
            cases r with
            |inl _=>exact hw.elim
            |inr r=>
              cases r with
              |inl _=>exact hw.elim
              |inr _=>trivial
          |inl u=>exact tY i0 (tY (a0f dD)<|tR (show((_:List c0h).length:Int)<=_ by simp;omega))
  cases y with
  |inl l=>exact tR ⟨by rw[nx h0 dA];exact hy,nx h0 dA⟩
  |inr r=>
    cases r with
    |inl _=>exact hy.elim
    |inr _=>trivial
theorem G0N{l:d0G}(h0:l.Z_.length<=4294967296)(h:l.d_.g_.length<=100000/\l.d_.h_.length<=100000/\l.d_.o_.length<=100000/\l.d_.t_.length<=100000)(hr:l.M_.length<=8)(hc:l.j_.length<=105)(hs: ∀c∈l.j_,c.m_.length<=6000)(hm:l.c_.length<=95)(ht: ∀c∈l.c_,c.aj_.length<=6000):Tot (d0T l) (λ_=>True):=by
  unfold d0T;obtain⟨p0,p1,p2,p3⟩:=h;refine tB (L0F h0) λ_ _=>tI dI λ_=>tB (D0z _) λ_ _=>tI dI λ_=> ?_;refine tJ<|Tot.mono (p:=λx=>match x with| .inl s=>s.1.length<=1000/\s.2.1.length<=1000/\s.2.2.1.length<=1000/\s.2.2.2.1.length<=1000| .inr _=>True) (tW (λs:Int×(List a0b)×(List a0b)×(List a0b)×(List a0b)×Bool×Int×Int×Int×Int×Int×Int×Int×Int×Int×Bool×Int×Int=>s.1) 4 (λs=>s.2.1.length<=1000/\s.2.2.1.length<=1000/\s.2.2.2.1.length<=1000/\s.2.2.2.2.1.length<=1000) dA ⟨⟨dE,dE,dE,dE⟩,dE⟩ (λs hs' g0 g1=>tY (dT g1) ?_) λs hs' e=>tN (dF dA)<|tR hs') λx hx=> ?_;have st:wA .i64 (s.1+1)=s.1+1:=nx g0 dA;refine tI (λ_=>tB (x0a p0) λy hy=>tI dI λ_=>tR ⟨hy,st⟩) λe0=>tI (λ_=>tB (x0a p1) λy hy=>tI dI λ_=>tR ⟨hy,st⟩) λe1=>tI (λ_=>tB (x0a p2) λy hy=>tI dI λ_=>tR ⟨hy,st⟩) λe2=>tI (λ_=>tB (x0a p3) λy hy=>tI dI λ_=>tR ⟨hy,st⟩) λe3=> ?_;have:=dFF e0;have:=dFF e1;have:=dFF e2;have:=dFF e3;omega
  cases x with
  |inr _=>trivial
  |inl s=>
    show Tot _ _;refine tB (J0n dA) λ_ _=>tI dI λ_=>tB (L0I hx hc hs) λ_ _=>tI dI λ_=>tB (J0w hm ht) λ_ _=>tI dI λ_=>tB (L0D p0 hm ht) λ_ _=>tI dI dI
/-! Decimals, rounded: they answer. -/
def m0H(d:a0V):Prop:=d.D_.length<=1000/\ -1000<=d.E_/\d.E_<=1000
def o0i(n:Int):Tot (d0w n) (λr=>0<=r/\r<=1000):=by
  unfold d0w;refine tR ?_;unfold i0E M0j;constructor<;>(repeat' split)<;>omega
theorem I0K(hl:l.length<=4294967296):Tot (g0O l) (λ_=>True):=by
  unfold g0O;refine tJ<|tW (λs:Int=>s) l.length (λ_=>True) hl ⟨trivial,dE⟩ (λs _ h0 h1=>tY (dT h1)<|tY (a0c h0 h1)<|tI dI λ_=>tR ⟨trivial,w64 (n:=s+1) dA dA⟩) λs _ e=>tN (dF dA)<|tR<|tR trivial
theorem s0C(hl:d.D_.length<=4294967296):Tot (f0M d) (λr=>r=jB->m0H d):=by
  unfold f0M;refine tI (λe=>tR λh=> ?_) λe0=> ?_;have:=dTT h;have:=dTT e;exact⟨dA,dA,dA⟩;have e0:=dFF e0;refine tJ (tB (p:=λc=>c=oA->m0H d) (tI (λ_=>tR dH) λe1=>tI (λ_=>tR dH) λe2=>tR λe3=>⟨by have:=dFF e1;omega,by have:=dFF e2;omega,by have:=dFF e3;omega⟩) λc hc=>tI (λ_=>tR dH) λe=>tR ?_);have hd:=hc e;refine zC (tY (a0c dA dA)<|tI (λ_=> ?_) dI) λ_ _=>tR λ_=>hd;rw[w64 (n:=(d.D_.length:Int)-1) dA dA];exact tY (a0c dA dA)<|tI (λ_=>tB (I0K hl) dJ) dI
theorem z0y(d:r0E):Tot (e0R d) (λr=>m0H d.u_-> -1000<=r/\r<=2000):=by
  unfold e0R;refine tI (λ_=>tR λ_=>dA) λe=>tR λh=> ?_;obtain⟨h1,h2,h3⟩:=h;have:=dFF e;rw[w64 (n:=d.u_.E_+d.u_.D_.length) dA dA,w64 dA dA];omega
def t0O(d:a0V):Tot (i0m d) (λr=>m0H d-> -1000<=r/\r<=2000):=by
  unfold i0m;exact tB (z0y ⟨d⟩) λ_ h=>tR h
def z0E(h:l.length<=4294967296):b0F l=vA l:=p0A h
theorem z0A(hl:l.length<=100000):Tot (j0v b l e) (λr=>m0H r.1):=by
  have z:m0H (⟨oA,([]:List Int),0⟩:a0V):=⟨dE,dG,dG⟩
  unfold j0v;refine tB (I0K dA) λ_ _=>tI (λ_=>tR z) λ_=> ?_;refine tJ<|zC (tI dI dI) λc _=>tI (λ_=>tR z) λ_=>tR ?_;refine tB (p:=λi:Int=>0<=i/\i<=l.length) (tL (λs:Int=>0<=s/\s<=l.length) (λs=>((l.length:Int)-s).toNat) ⟨dA,dA⟩ dA λs hs=> ?_) λi hi=> ?_;refine tJ<|tB (p:=λc=>c=jB->s<l.length) (tI (λe=>tY (a0c hs.1<|dTT e)<|tR λ_=>dTT e) λ_=>tR dH) λc hc=>tI (λe=>tR<|tR ?_) λ_=>tR hs;have:=hc e;rw[w64 (n:=s+1) dA dA];exact⟨⟨dA,dA⟩,dA⟩;refine tB (p:=λj:Int=>i<=j/\j<=l.length) (tL (λs:Int=>i<=s/\s<=l.length) (λs=>(s-i).toNat) ⟨dA,dA⟩ dA λs hs=> ?_) λj hj=> ?_;refine tJ<|tB (p:=λc=>c=jB->i<s) (tI (λe=> ?_) λ_=>tR dH) λc hc=>tI (λe=>tR<|tR ?_) λ_=>tR hs;have:=dTT e;rw[w64 (n:=s-1) dA dA];exact tY (a0c dA dA)<|tR λ_=>this;have:=hc e;rw[w64 (n:=s-1) dA dA];exact⟨⟨dA,dA⟩,dA⟩;refine tI (λ_=>tR ⟨dE,by show(-1000:Int)<=0;decide,by show(0:Int)<=1000;decide⟩) λ_=>tY (l0i hi.1 hj.1 hj.2) ?_;have hc:=F0j l i j;rw[z0E dA,ah];refine tB (s0C<|by show(cut l i j).length<=_;omega) (λr hr=>tI (λ_=>tR z) λe=>tR<|hr<|by cases r<;>simp_all)
theorem K0G(d:r0E)(i:Int):Tot (d0I d i) (λ_=>True):=by
  unfold d0I;refine tJ (tB (p:=λc=>c=oA->0<=i/\i<d.u_.D_.length) (tI (λ_=>tR dH) λe=>tR λh=>⟨by have:=dFF e;omega,by have:=dFF h;omega⟩) λc hc=>tI dI λe=>tR ?_);exact tY (a0c (hc e).1 (hc e).2)<|tR trivial
def K0J(d:a0V)(i:Int):Tot (r0N d i) (λ_=>True):=by
  unfold r0N;refine tJ<|zC (tI dI λ_=>tB (z0y ⟨d⟩) (λ_ _=>tR trivial)) λc _=>tI dI λ_=>tR ?_;exact tB (z0y ⟨d⟩) λ_ _=>tB (K0G _ _) dJ
def J0j(k p:Int):Tot (j0A k p) (λr=>r=jB->1<=k/\ -1000<=p/\p<=1000):=by
  unfold j0A;refine tB (p:=λr=>r=jB->1<=k/\ -1000<=p/\p<=1000) (tI (λe1=>tI (λ_=>tI (λe3=>tR λe4=>⟨by have:=dTT e1;omega,by have:=dTT e3;omega,dTT e4⟩) λ_=>tR dH) λ_=>tR dH) λ_=>tR dH) λ_ h=>tR h
theorem G0B{p:Int}(hd:m0H d)(hk:1<=k)(hp: -1000<=p/\p<=1000):Tot (i0c d k p) (λr=>r.1.length<=3001):=by
  unfold i0c;refine tB (p:=λr:Int×List Int=>r.2.length<=3001) (tB (t0O d) λm hm=> ?_) λ_ h=>tR h;have hm:=hm hd;refine tL (λs:Int×Int×List Int=>s.2.1<=2000/\(s.2.2.length:Int)+s.2.1<=2000/\ -1001<=s.2.1) (λs=>(s.2.1+1001).toNat) ⟨hm.2,dD,by show-1001<=m;omega⟩ (by show(m+1001).toNat<_;omega) (λs hs=>tI (λe=> ?_) λ_=>tR<|by show s.2.2.length<=3001;omega);have e:=dTT e;have hz:nz k=true:=by simp[nz];omega
  refine tB (K0J _ _) λy _=>tY hz<|tY (a0f dD)<|tY hz<|tR ?_;rw[w64 (n:=s.2.1-1) dA dA];simp only[az,aU,cm];exact⟨⟨dA,dA,dA⟩,dA⟩
def A0m(d:a0V)(p:Int):Tot (g0J d p) (λ_=>True):=by
  unfold g0J;exact zC (tI dI dI) dJ
def L0J(d:a0V)(l k p:Int):Tot (k0u d l k p) (λ_=>True):=by
  unfold k0u;refine tB (K0J _ _) λy _=>zC (tI dI dI) λs _=>tJ ?_;refine tI dI λ_=>zC (tI dI λ_=>tI dI λ_=>tB (A0m _ _) dJ) λc _=>tI dI λ_=>tR<|tR trivial
theorem D0w(hl:l.length<=100000):Tot (g0T l) (λr=>r.length<=l.length+1):=by
  unfold g0T;rw[w64 (n:=(l.length:Int)-1) dA dA];refine tJ (Tot.mono (p:=λx:List Int⊕List Int=>match x with| .inl r=>r.length=l.length| .inr r=>r.length=l.length) (tL (λs:Int×List Int=> -1<=s.1/\s.1<l.length/\s.2.length=l.length) (λs=>(s.1+1).toNat) ⟨by show(-1:Int)<=l.length-1;omega,by show(l.length:Int)-1<_;omega,rfl⟩ (by show((l.length:Int)-1+1).toNat<_;omega) λs hs=> ?_) λx hx=> ?_);refine tI (λe=> ?_) λ_=>tR hs.2.2;have e:=dTT e;have hr:inR s.1 s.2.length=true:=a0c dA dA;refine tY hr<|tY hr<|tI (λ_=>tY hr<|tY hr<|tY hr<|tY hr<|tR<|(p0P _ _ _).trans hs.2.2) λ_=>tY hr<|tY hr<|tR ?_;rw[w64 (n:=s.1-1) dA dA];exact⟨⟨by show-1<=s.1-1;omega,by show s.1-1<_;omega,(p0P _ _ _).trans hs.2.2⟩,by show(s.1-1+1).toNat<_;omega⟩
  cases x with
  |inl r=>exact tY (a0f dD) (tR dD)
  |inr r=>show r.length<=_;omega
theorem J0r(hl:l.length<=100000):Tot (c0A l) (λr=>r.length=l.length):=by
  unfold c0A;rw[w64 (n:=(l.length:Int)-1) dA dA];refine tL (λs:Int×Int×List Int=>0<=s.1/\s.2.1<l.length/\s.2.2.length=l.length/\ -1<=s.2.1/\s.1<=l.length) (λs=>(s.2.1-s.1+1+100002).toNat) ⟨by show(0:Int)<=0;omega,by show(l.length:Int)-1<_;omega,rfl,by show-1<=(l.length:Int)-1;omega,by show(0:Int)<=_;omega⟩ (by show((l.length:Int)-1-0+1+100002).toNat<_;omega) λs hs=>tI (λe=> ?_) λ_=>tR hs.2.2.1;have e:=dTT e;have h1:inR s.1 s.2.2.length=true:=a0c dA dA;have h2:inR s.2.1 s.2.2.length=true:=a0c dA dA;refine tY h2<|tY h2<|tY h1<|tY h1<|tY h1<|tY h1 ?_;rw[p0P];refine tY h2<|tY h2<|tR ?_;rw[w64 (n:=s.1+1) dA dA,w64 (n:=s.2.1-1) dA dA];simp only[p0P];exact⟨⟨by show 0<=s.1+1;omega,by show s.2.1-1<_;omega,hs.2.2.1,by show-1<=s.2.1-1;omega,by show s.1+1<=_;omega⟩,by show(s.2.1-1-(s.1+1)+1+100002).toNat<(s.2.1-s.1+1+100002).toNat;omega⟩
def wle(n:Int): -9223372036854775808<=wA .i64 n/\wA .i64 n<9223372036854775808:=by have h:=z0R n;unfold inI at h;omega
theorem A0Q(hl:l.length<=100000)(hc:c<9223372036854775808):Tot (a0m (λ(s1:Int×(List Int))=>bif(yA<|s1.1>0)then(bif room (s1.2.length+([(wA .u8<|jD s1.1 10)]:List Int).length)then(vA<|.inl ((wA .i64<|wE s1.1 10),(s1.2++([(wA .u8<|jD s1.1 10)]:List Int))))else none)else vA<|.inr s1.2) big (c,l)) (λr=>r.length<=l.length+19):=by
  refine tL (λs:Int×List Int=> ∃j:Nat,s.1<(10:Int)^j/\s.2.length+j<=l.length+19/\s.1<9223372036854775808) (λs=>s.1.toNat) ⟨19,by show c<_;omega,dE,hc⟩ (by show c.toNat<_;omega) λs hs=> ?_;obtain⟨j,h1,h2,h3⟩:=hs;refine tI (λe=> ?_) λ_=>tR dA;have e:0<s.1:=dTT e;refine tY (a0f dD)<|tR ?_;have hd:wE s.1 10=s.1/10:=bE dA;rw[hd,w64 (n:=s.1/10) dA dA];refine⟨?_,by show(s.1/10).toNat<s.1.toNat;omega⟩
  cases j with
  |zero=>simp at h1;omega
  |succ j=>
    refine⟨j, ?_,dD,by show s.1/10<_;omega⟩;show s.1/10<_;rw[Int.pow_succ]at h1;omega
theorem I0Z(hl:l.length<=5000):Tot (i0b l k) (λr=>r.length<=l.length+19):=by
  unfold i0b;rw[w64 (n:=(l.length:Int)-1) dA dA];refine tB (p:=λr:Int×List Int=>r.1<9223372036854775808/\r.2.length<=l.length) (tL (λs:Int×Int×List Int=>s.1<9223372036854775808/\ -1<=s.2.1/\s.2.1<l.length/\(s.2.2.length:Int)+s.2.1+1=l.length) (λs=>(s.2.1+1).toNat) ⟨by show(0:Int)<_;decide,by show(-1:Int)<=l.length-1;omega,by show(l.length:Int)-1<_;omega,dE⟩ (by show((l.length:Int)-1+1).toNat<_;omega) λs hs=> ?_) λs hs=>tB (A0Q dA hs.1) λr hr=>tB (J0r dA) λq hq=>tR dA;refine tI (λe=> ?_) (λ_=>tR ⟨hs.1,by show s.2.2.length<=_;omega⟩);have e:=dTT e;refine tY (a0c dA dA)<|tY (a0f dD)<|tR ?_;rw[w64 (n:=s.2.1-1) dA dA];refine⟨⟨(wle _).2,by show-1<=s.2.1-1;omega,by show s.2.1-1<_;omega,dD⟩,by show(s.2.1-1+1).toNat<(s.2.1+1).toNat;omega⟩
theorem G0J(m:Int):Tot (k0v m) (λr=>r=jB->0<=m/\m<=7):=by
  unfold k0v;exact tB (p:=λr=>r=jB->0<=m/\m<=7) (tI (λe=>tR λh=>⟨by have:=dTT e;omega,dTT h⟩) λ_=>tR dH) λ_ h=>tR h
def w0D(hl:l.length<=3001):Tot (bif b then(jA (g0T l) λy=>vA y)else vA l) (λr=>r.length<=3002):=
  tI (λ_=>tB (D0w dA) λ_ h=>tR dA) (λ_=>tR dA)
def z0T(a b c:Bool)(n:Int):Tot (d0x a b c n) (λ_=>True):=by
  unfold d0x;exact zC (tI dI λ_=>tI dI dI) dJ
theorem I0a{p:Int}(hl:d.D_.length<=4294967296):Tot (j0Q d k p m) (λr=>m0H r.1):=by
  have z:m0H (⟨oA,([]:List Int),0⟩:a0V):=⟨dE,dG,dG⟩
  unfold j0Q;refine tJ (tB (p:=λc=>c=oA->(0<=m/\m<=7)/\(1<=k/\ -1000<=p/\p<=1000)/\m0H d) ?_ λc hc=>tI (λ_=>tR z) λe=>tR ?_)
  · refine tB (G0J m) (λa ha=>tI (λ_=>tR dH) λe1=>tB (J0j k p) λb hb=>tI (λ_=>tR dH) λe2=>tB (s0C hl) λc hc=>tR λe3=>⟨ha (by cases a<;>simp_all),hb (by cases b<;>simp_all),hc<|by cases c<;>simp_all⟩)
  obtain⟨hm,hk,hd⟩:=hc e;refine tB (G0B hd hk.1 hk.2) (λy hy=>tJ<|zC (tI (λ_=>tB (A0m _ _) dJ) dI) λc _=>tI (λ_=>tB (z0A<|by have:=hd.1;omega) λ_ h=>tR h) λ_=>tR ?_);refine zC (tI (λe=> ?_) dI) λs _=>tB (L0J _ _ _ _) λh _=>tB (p:=λr:List Int=>r.length<=3002) ?_ λr hr=>tB (I0Z dA) λt ht=>tB (z0A dA) λ_ h=>tR h;have e:=dTT e;rw[w64 (n:=(y.1.length:Int)-1) dA dA];have hr:inR ((y.1.length:Int)-1) y.1.length=true:=a0c dA dA;exact tY hr<|tY hr<|tR trivial;unfold j0m k0t k0s h0p h0o h0n h0m h0l h0k;simp only[ah];refine tI (λ_=>w0D hy) λe0=>tI (λ_=>w0D hy) λe1=>tI (λ_=>w0D hy) λe2=>tI (λ_=>w0D hy) λe3=>tI (λ_=>tB (tB (z0T _ _ _ _) dJ) λ_ _=>w0D hy) λe4=>tI (λ_=>tB (tB (z0T _ _ _ _) dJ) λ_ _=>w0D hy) λe5=>tI (λ_=>tB (tB (z0T _ _ _ _) dJ) λ_ _=>w0D hy) λe6=>tI (λ_=>tB (tB (z0T _ _ _ _) dJ) λ_ _=>w0D hy) λe7=> ?_;have:=dFF e0;have:=dFF e1;have:=dFF e2;have:=dFF e3;have:=dFF e4;have:=dFF e5;have:=dFF e6;have:=dFF e7;omega
def D0q(hl:d.D_.length<=100000):Tot (i0B d n m) (λr=>m0H r.1):=by
  have z:m0H (⟨oA,([]:List Int),0⟩:a0V):=⟨dE,dG,dG⟩
  unfold i0B;refine tJ<|zC (tI dI λ_=>tB (G0J m) λa _=>tI dI λ_=>tB (s0C dA) (λ_ _=>tR trivial)) λc _=>tI (λ_=>tR z) λ_=>tR ?_;refine tJ<|zC (tI dI λ_=>tB (t0O _) (λ_ _=>tR trivial)) λc _=>tI (λ_=>tB (z0A hl) λ_ h=>tR h) λ_=>tR ?_;exact tB (t0O _) λ_ _=>tB (I0a dA) λ_ h=>tR h
def L0E{p:Int}(hl:d.D_.length<=100000):Tot (l0z d p m) (λr=>m0H r.1):=by
  unfold l0z;exact tB (I0a dA) λ_ h=>tR h
def G0m(hl:d.D_.length<=100000):Tot (h0X p g d m) (λr=>m0H r.1):=by
  unfold h0X;exact tI (λ_=>tB (o0i _) λ_ _=>tB (D0q hl) λ_ h=>tR h) λ_=>tI (λ_=>tB (D0q hl) λ_ h=>tR h) λ_=>tI (λ_=>tB (L0E hl) λ_ h=>tR h) λ_=>tB (L0E hl) λ_ h=>tR h
theorem s0R(hd:m0H d):Tot (g0t d n) (λr=>m0H r.1):=by
  have z:m0H (⟨oA,([]:List Int),0⟩:a0V):=⟨dE,dG,dG⟩
  have hd0:=hd;obtain⟨h1,h2,h3⟩:=hd;unfold g0t;refine tJ<|zC (tI dI dI) λc _=>tI (λ_=>tR z) λ_=>tR ?_;rw[z0E dA,ah];refine tI (λ_=>tR ⟨h1,h2,h3⟩) (λ_=>tJ<|tB (p:=λc=>c=oA-> -1000<=wA .i64 (d.E_+n)/\wA .i64 (d.E_+n)<=1000) (tI (λ_=>tR dH) λe=>tR λh=>⟨by have:=dFF e;omega,by have:=dFF h;omega⟩) λc hc=>tI (λ_=>tR z) λe=>tR<|tR ⟨h1,hc e⟩)
/-! Numbers, spelled in a pattern's shape: they answer, and are not long. -/
def N0c(hd:m0H d):Tot (j0z p d) (λr=>m0H r.1/\ -1000<=r.2/\r.2<=2000):=by
  unfold j0z;refine tI (λ_=>tR ⟨hd,by show(-1000:Int)<=0;decide,by show(0:Int)<=2000;decide⟩) λ_=>tB (t0O d) λm hm=>tB (s0R hd) λr hr=>tR ⟨hr,hm hd⟩
def q0t{a b:Int}(h1:a<=c)(h2:b<=c):i0E a b<=c:=by unfold i0E;split<;>omega
def I0l{a b:Int}(h1:c<=a):c<=i0E a b:=by unfold i0E;split<;>omega
theorem K0Z(hd:m0H d):Tot (h0V p d) (λr=>0<=r/\r<=2001):=by
  unfold h0V;refine tB (o0i _) λy hy=>tB (p:=λs:Int=>0<=s/\s<=1000) (zC (tI dI dI) λb _=>tI (λ_=>tR ⟨dG,dG⟩) λ_=>tR hy) λs hs=>tI (λ_=>tR ⟨hs.1,dA⟩) λ_=>tB (t0O d) λm hm=>tR ?_;have:=hm hd;rw[w64 (n:=m+1) dA dA];exact⟨I0l hs.1,q0t dA dA⟩
theorem E0U{x0:Int}(h1:x1<=5000):Tot (b0X x0 x1 b l e) (λr=>r.length<=5000):=by
  unfold b0X;refine tB (tL (λs:Int×List Int=>0<=s.1/\(s.1<=x1\/s.2.length=0)/\(s.2.length:Int)=s.1) (λs=>(x1-s.1).toNat) ⟨by show(0:Int)<=0;decide, .inr rfl,rfl⟩ (by show(x1-0).toNat<_;omega) λs hs=>tI (λc=> ?_) λc=>tR dA) λr hr=>tR hr;have c:=dTT c;refine tB (K0J _ _) λy _=>tY (a0f dD)<|tR ?_;rw[w64 (n:=s.1+1) dA dA];exact⟨⟨by show 0<=s.1+1;omega, .inl<|by show s.1+1<=x1;omega,by show((s.2++ [y]).length:Int)=s.1+1;simp;omega⟩,by show(x1-(s.1+1)).toNat<(x1-s.1).toNat;omega⟩
theorem H0N(hd:m0H d):Tot (g0S p x1 d) (λr=>r<=3000):=by
  unfold g0S;refine tB (o0i _) λy0 h0=>tB (p:=λs:Int=>s<=3000) (tI (λ_=>tR dA) λ_=>tI (λ_=>tB (o0i _) λy1 h1=>tB (t0O d) λm hm=>tR ?_) λ_=>tI (λ_=>tB (o0i _) λy3 h3=>tR dA) λ_=>tR dA) λs hs=>tR ?_;have:=hm hd;rw[w64 (n:=y1-1) dA dA,w64 (n:=y1-1-m) dA dA];omega;obtain⟨_,h2,h3⟩:=hd;rw[w64 (n:=0-d.E_) dA dA];exact q0t (q0t dG hs) dA
def y0a(hl:d.D_.length<=4294967296):Tot (d0K p x1 d) (λr=>r.1.length<=5000/\r.2.1.length<=5000/\ -1000<=r.2.2/\r.2.2<=2000):=by
  unfold d0K;refine tB (s0C hl) λy5 h5=>tI (λ_=>tR ⟨dE,dE,dG,dG⟩) λe=> ?_;have hd:m0H d:=h5 (by cases y5<;>simp_all);exact tB (N0c hd) λy0 h0=>tB (K0Z h0.1) λy1 h1=>tB (E0U dA) λy3 h3=>tB (H0N h0.1) λy2 h2=>tB (E0U dA) λy4 h4=>tR ⟨h3,h4,h0.2.1,h0.2.2⟩
theorem O0u(a b c:Int):Tot (v0i a b c) (λ_=>True):=by
  unfold v0i;refine tJ (zC (tI dI dI) λs _=>tI dI λ_=>tR<|zC (tI dI λ_=>tI (λe=>tY (A0u.2<|by have:=dTT e;omega)<|tR trivial) dI) dJ)
theorem z0Z{a b:Int}(hl:l.length<=5000):Tot (g0H s l a b) (λr=>r.length<=10000):=by
  unfold g0H;refine tB (tW (λs:Int×List Int=>s.1) l.length (λs=>(s.2.length:Int)<=2*s.1) dA ⟨dE,dE,dE⟩ (λs hs h0 h1=>tY (dT h1)<|tB (p:=λr:List Int=>(r.length:Int)<=2*s.1+2) (tB (p:=λr:List Int=>(r.length:Int)<=2*s.1+1) (zC (tI (λ_=>tB (O0u _ _ _) dJ) dI) λc _=>tI (λ_=>tY (a0f dD)<|tR dD) λ_=>tR dA) λr hr=>tY (a0c h0 h1)<|tY (a0f dD)<|tR dD) λr hr=>tR ⟨?_,w64 (n:=s.1+1) dA dA⟩) λs hs e=>tN (dF dA)<|tR dA) λr hr=>tR hr;show(r.length:Int)<=2*wA .i64 (s.1+1);rw[w64 (n:=s.1+1) dA dA];omega
theorem F0g(hl:l.length<=5000):Tot (g0R s l) (λr=>r.length<=5000):=by
  unfold g0R;refine tB (tW (λs:Int×List Int=>s.1) l.length (λs=>(s.2.length:Int)=s.1) dA ⟨dE,dE,dE⟩ (λs hs h0 h1=>tY (dT h1)<|tY (a0c h0 h1)<|tY (a0f dD)<|tR ⟨?_,w64 (n:=s.1+1) dA dA⟩) λs hs e=>tN (dF dA)<|tR dA) λr hr=>tR hr;rw[w64 (n:=s.1+1) dA dA];simp;omega
theorem D0c: ∀(m n:Nat) (x0 x1:Int),m<n->m<=4000->0<=x0-> -10000<=x1-x0->x0+i0E x1 0<=m->Tot (f0x n x0 x1) (λr=>r.length<=m):=by
  intro m
  induction m with
  |zero=>
    intro n x0 x1 hn hm h0 hd hs
    obtain⟨n,rfl⟩: ∃k,n=k+1:=⟨n-1,dA⟩
    unfold f0x;have e:x0=0/\x1<1:=by unfold i0E at hs;split at hs<;>omega
    rw[e.1];exact tJ (tB (p:=λr=>r=jB) (tY rfl<|tR<|dT e.2) λs h=>tY h<|tR<|by show([]:List Int).length<=0;simp)
  |succ m ih=>
    intro n x0 x1 hn hm h0 hd hs
    obtain⟨n,rfl⟩: ∃k,n=k+1:=⟨n-1,dA⟩
    unfold f0x;refine tJ (tB (p:=λr=>r=oA->x0≠0\/1<=x1) (tI (λe=>tR λh=>by have:=dFF h;omega) λe=>tR λ_=> .inl<|dFF e) λs h=>tI (λ_=>tR<|by show([]:List Int).length<=_;simp) λe=>tR ?_);have h:=h e;have hb:x0<=4001/\x1<=4001:=by unfold i0E at hs;split at hs<;>omega
    have ht:wE x0 10=x0/10:=bE h0;show Tot (jA (f0x n _ _) _) _;rw[ht,w64 (n:=x0/10) dA dA,w64 (n:=x1-1) dA dA];refine tB (ih n (x0/10) (x1-1) dA dA dA dA<|by unfold i0E at hs⊢;split at hs<;>split<;>omega) λy hy=>tY (a0f dD)<|tR dD
theorem M0H(h1: -1000<=e)(h2:e<=2000):Tot (f0a s p e) (λr=>r.length<=6000):=by
  unfold f0a;refine tB (p:=λr:Int×List Int=>0<=r.1/\r.1<=2000/\r.2.length<=1) (tI (λc=>tY (a0f dE)<|tR ?_) λc=>tI (λ_=>tY (a0f dE)<|tR ⟨by have:=dFF c;show 0<=e;omega,h2,dE⟩) λ_=>tR ⟨by have:=dFF c;show 0<=e;omega,h2,dE⟩) (λr hr=>tB (o0i _) λk hk=>tB (D0c 4000 big r.1 k (by unfold big;omega) dA hr.1 dA<|by unfold i0E;split<;>omega) λy hy=>tB (F0g dA) λz hz=>tY (a0f dA)<|tR dD);have c:=dTT c;rw[w64 (n:=0-e) dA dA];exact⟨by show 0<=0-e;omega,by show 0-e<=2000;omega,dE⟩
def I0S(hl:d.D_.length<=4294967296):Tot (h0W s p g d) (λr=>r.length<=30000):=by
  unfold h0W;refine tB (y0a hl) λy0 h0=>tB (z0Z h0.1) λy1 h1=>tB (p:=λr:List Int=>r.length<=15001) (tI (λ_=>tY (a0f dD)<|tB (F0g h0.2.1) λy2 h2=>tY (a0f dD)<|tR dD) λ_=>tR dA) λr hr=>tB (p:=λr:List Int=>r.length<=30000) (tI (λ_=>tY (a0f dD)<|tB (M0H h0.2.2.1 h0.2.2.2) λy3 h3=>tY (a0f dD)<|tR dD) λ_=>tR dA) λq hq=>tR hq
/-! Rows of pads, and rows put together. -/
def N0h(x:Int):0<=bits .and .u64 x 4294967295/\bits .and .u64 x 4294967295<=4294967295:=by
  have h:(BitVec.ofInt 64 x&&&BitVec.ofInt 64 4294967295).toNat<=4294967295:=by
    rw[BitVec.toNat_and];exact aH Nat.and_le_right dG
  show 0<=wA .u64 ((BitVec.ofInt 64 x&&&BitVec.ofInt 64 4294967295).toNat:Int)/\wA .u64 ((BitVec.ofInt 64 x&&&BitVec.ofInt 64 4294967295).toNat:Int)<=4294967295;rw[L0h dA dA];omega
def J0M(h0:0<=k)(h1:k<=4294967295):o0l 1 k=vA (0,k):=by
  have ha:bits .and .u64 1 4294967295=1:=by decide+kernel
  have hz:bits .and .u64 0 4294967295=0:=by decide+kernel
  have f1:oF 1 4294967296=0:=by decide
  have fz:oF 0 4294967296=0:=by decide
  have fk:oF k 4294967296=0:=by rw[cP _ dG];omega
  have hb:=N0h k;have fb:oF (bits .and .u64 k 4294967295) 4294967296=0:=by rw[cP _ dG];omega
  have z:wA .u64 0=0:=by decide
  unfold o0l;simp only[f1,fk,ha,Int.zero_mul,Int.mul_zero,z,Int.one_mul,L0h hb.1 dA,fb,Int.add_zero,hz,fz,L0h h0 dA]
theorem L0K(h0:0<=k)(h1:k<=4000000000):Tot (h0g [x] k) (λr=>(r.length:Int)=k):=by
  unfold h0g;have z:wA .u64 (([x]:List Int).length:Int)=1:=by show wA .u64 1=1;decide
  rw[z,L0h h0 dA];have hm:s0E 1 k=vA (0,k):=by unfold s0E;rw[J0M h0 dA];rfl
  rw[hm];refine zC (tN (dF dA)<|tR trivial) λ_ _=>tB (p:=λy=>y=((0:Int),k)) (tR rfl) λy hy=> ?_;subst hy;refine zC (tB (p:=λb=>b=oA) (tN (dF<|by show¬(0:Int)>0;decide)<|tR<|dF<|by show¬k>_;omega) λb hb=>tN hb<|tR trivial) λ_ _=> ?_;show Tot (bif mk (wA .i64 k) (wA .i64 k)then _ else none) _;rw[w64 (n:=k) dA dA];refine tY (M0i h0 dA dA)<|tB (tL (λs:Int×List Int=>(s.2.length:Int)=k/\s.1<=k/\(k=0/\0<=s.1\/1<=s.1)) (λs=>(k-s.1).toNat) ?_ ?_ λs hs=>tI (λe=> ?_) λe=>tR hs.1) λr hr=>tR hr;have hr:((rep k (0:Int)).length:Int)=k:=by simp[rep];omega
  refine⟨?_, ?_, ?_⟩;show((v0F (rep k (0:Int)) [x]).length:Int)=k;simp[v0F,rep];omega;show((min 1 (rep k (0:Int)).length:Nat):Int)<=k;omega;show k=0/\0<=((min 1 (rep k (0:Int)).length:Nat):Int)\/1<=((min 1 (rep k (0:Int)).length:Nat):Int);omega;show(k-((min 1 (rep k (0:Int)).length:Nat):Int)).toNat<_;omega;have e:=dTT e;obtain⟨g1,g2,g3⟩:=hs;have g1:(s.2.length:Int)=k:=g1;have g3:k=0/\0<=s.1\/1<=s.1:=g3;have g5:s.1<(s.2.length:Int):=e;have g4:1<=s.1:=by omega
  have c2:(yA (s.1.toNat<=s.2.length)&&yA (s.1.toNat<=s.2.length))=true:=by simp;omega
  refine tY (a0c dA dA) (tY (by simp[de];omega)<|tY c2<|tR ?_);have hl:=F0i c2;have hw:((min s.1.toNat (s.2.length-s.1.toNat):Nat):Int)<=k-s.1/\1<=((min s.1.toNat (s.2.length-s.1.toNat):Nat):Int):=by omega
  rw[w64 dA dA];exact⟨⟨by rw[hl];exact g1,by show s.1+_<=k;omega, .inr<|by show 1<=s.1+_;omega⟩,by show(k-(s.1+_)).toNat<(k-s.1).toNat;omega⟩
theorem K0j(h0:0<=k)(h1:k<=4000000000):h0U [] k=vA []:=by
  unfold h0U;have z:wA .i64 (0-0)=0:=by decide
  rw[z,w64 (n:=k-0) dA dA,dF (dA: ¬k<0)];by_cases c:k-0>0;rw[dT c,dT (dA:(0:Int)<=k-0),a0f (dA:(k-0).toNat<=4294967296)];have hb:oD 0 (rep (k-0) (0:Int)).length=true:=by simp[rep,de];omega
  rw[hb];rfl;rw[dF c];rfl
theorem H0H{l:List (List Int)}{m:Nat}(hn:l.length<=10)(hm:m<=100000000)(hl: ∀x∈l,x.length<=m):Tot (f0P l) (λr=>r.length<=10*m):=by
  unfold f0P;refine tB (tW (λs:Int×Int=>s.2) l.length (λs:Int×Int=>0<=s.1/\s.1<=(m:Int)*s.2) (post:=λr:Int=>0<=r/\r<=10*(m:Int)) dA ⟨⟨by show(0:Int)<=0;decide,by show(0:Int)<=m*0;simp⟩,by show(0:Int)<=0;decide,by show(0:Int)<=_;omega⟩ (λs hs h0 h1=>tY (dT h1) ?_) λs hs e=>tN (dF dA)<|tR ⟨hs.1, ?_⟩) λk hk=>tB (p:=λr=>r=[]) ⟨[],K0j hk.1 dA,rfl⟩ λy hy=> ?_;have hx:=hl _<|b0J h0 h1;have:(m:Int)*s.2<=m*10:=cf dA dA;have w:=w64 (n:=s.1+((nth l s.2).length:Int)) dA dA;rw[w];refine zC (tY (a0c h0 h1)<|tN (dF dA)<|tR trivial) λ_ _=>tR ?_;rw[w64 (n:=s.2+1) dA dA];exact⟨⟨by show 0<=s.1+_;omega,by show s.1+_<=m*(s.2+1);rw[Int.mul_add];omega⟩,rfl⟩;have:(m:Int)*s.2<=m*10:=cf dA dA;omega;subst hy;refine tB (tW (λs:Int×List Int=>s.1) l.length (λs=>(s.2.length:Int)<=m*s.1) (post:=λr=>r.length<=10*m) dA ⟨dE,dE,dE⟩ (λs hs h0 h1=>tY (dT h1)<|tY (a0c h0 h1) ?_) λs hs e=>tN (dF dA)<|tR ?_) λr hr=>tR hr;have hx:=hl _<|b0J h0 h1;have:(m:Int)*s.1<=m*10:=cf dA dA;refine tY (a0f dA)<|tR ?_;rw[w64 (n:=s.1+1) dA dA];exact⟨by show((s.2++nth l s.1).length:Int)<=m*(s.1+1);rw[Int.mul_add];simp;omega,rfl⟩;have:(m:Int)*s.1<=m*10:=cf dA dA;omega
/-! Plural operands and rules: they answer. -/
def nxn{s:Int}{n:Nat}(h0:0<=s)(h1:s<=n)(hn:n<=4294967296):wA .i64 (s+1)=s+1:=w64 (n:=s+1) dA dA
theorem A0s(hl:l.length<=4294967296):Tot (f0F l) (λ_=>True):=by
  unfold f0F;exact Tot.joinT (Tot.srch l.length hl (λs h0 h1=>tY (dT h1)<|tY (a0c h0 h1)<|tI dI λ_=>tR<|nxn h0 dA hl) λs e=>zE e trivial) dI
theorem v0k(hl:l.length<=4294967296):Tot (i0g l) (λr=>r.length<=l.length):=by
  unfold i0g;refine tB (tL (λs:List Int=>s.length<=l.length) (λs=>s.length) (post:=λr:List Int=>r.length<=l.length) (ak _) dA λs hs=>tJ<|tB (p:=λb=>b=jB->0<s.length) (tI (λe=>tY (a0c dG<|by have:=dTT e;omega)<|tR λ_=>by have:=dTT e;omega) λ_=>tR dH) λb hb=>tI (λe=>tR (show Tot _ _ from ?_)) λ_=>tR hs) (λs hs=>tB (p:=λr=>r=s) ⟨s,z0E dA,rfl⟩ λr hr=>tR<|by rw[hr];exact hs);have h1:=hb e;refine tY (l0i dG dA dA)<|tR ?_;have hc:(cut s 1 (s.length:Int)).length=s.length-1:=by simp[cut]
  exact⟨by show(cut s 1 (s.length:Int)).length<=_;omega,by show(cut s 1 (s.length:Int)).length<_;omega⟩
theorem A0q(hl:l.length<=4294967296):Tot (l0f l) (λr=>0<=r/\r<=l.length):=by
  unfold l0f;refine tB (tL (λs:Int=>0<=s/\s<=l.length) (λs=>s.toNat) (post:=λr:Int=>0<=r/\r<=l.length) ⟨dA,dA⟩ dA λs hs=>tJ<|tB (p:=λb=>b=jB->0<s) (tI (λe=> ?_) λ_=>tR dH) λb hb=>tI (λe=>tR (show Tot _ _ from tR ?_)) λ_=>tR hs) λs hs=>tR hs;have:=dTT e;rw[w64 (n:=s-1) dA dA];exact tY (a0c dA dA)<|tR λ_=>this;have:=hb e;rw[w64 (n:=s-1) dA dA];exact⟨⟨dA,dA⟩,dA⟩
def x0u(o:g0b):Prop:=o.I_.length<=5000/\o.F_.length<=5000/\(0<=o.W_/\o.W_<=o.F_.length)/\0<=o.C_/\o.C_<=1000
theorem N0R{i f:List Int}(hi:i.length<=5000)(hf:f.length<=5000):Tot (v0H i f c) (λr=>x0u r.1):=by
  have z:x0u ⟨[],[],0,0⟩:=⟨dE,dE,⟨dG,dE⟩,dG,dG⟩
  unfold v0H;refine tJ (tB (p:=λb=>b=oA->0<=c/\c<=1000) (tB (A0s dA) λa _=>tI (λ_=>tR dH) λ_=>tB (A0s dA) λb _=>tI (λ_=>tR dH) λ_=>tI (λ_=>tR dH) λe=>tR λh=>⟨by have:=dFF e;omega,by have:=dFF h;omega⟩) λb hb=>tI (λ_=>tR z) λe=>tR (show Tot _ _ from ?_));exact tB (v0k dA) (λs hs=>tB (p:=λr=>r=f) ⟨f,z0E dA,rfl⟩ λr hr=>tB (A0q dA) λw hw=>tR ⟨by show s.length<=5000;omega,by show r.length<=5000;rw[hr];exact hf,⟨hw.1,by show w<=r.length;rw[hr];exact hw.2⟩,hb e⟩)
theorem G0W(h:x0u o):Tot (o0d o) (λ_=>True):=by
  obtain⟨h1,h2,_⟩:=h;unfold o0d;refine Tot.joinT (zC (tB (A0s dA) λa _=>tI dI λ_=>tB (A0s dA) λb _=>tI dI λ_=>tI (λe=>tY (a0c dG<|by have:=dTT e;omega)<|tR trivial) dI) λ_ _=>tI dI dI) λ_=>zC (tB (A0q dA) λw _=>tI (λ_=>tI dI dI) dI) dJ
def s0w(h:n<9223372036854775808):Tot (j0C n) (λr=>r.length<=5000):=by
  unfold j0C;exact tB (A0Q dE h) (λr hr=>tB (J0r<|by simp at hr;omega) λq hq=>tR<|by simp at hr;omega)
def A0t(h:l.length<=5000):Tot (b0F l) (λr=>r.length<=5000):=⟨l,z0E dA,h⟩
theorem D0S(h:x0u o):Tot (k0z o c) (λr=>r.1.length<=5000):=by
  have hr:=G0W h;obtain⟨h1,h2,h3,h4⟩:=h;have z:([]:List Int).length<=5000:=by simp
  unfold k0z e0J h0w i0h i0V i0i i0U j0X f0Q;refine tB hr (λy _=>tI (λ_=>tR z) λ_=>zC (tR trivial) λ_ _=>tI (λ_=>tB (p:=λr:List Int×Bool=>r.1.length<=5000) (tI (λ_=>tR z) λ_=>tB (A0t h1) λ_ h=>tR h) λ_ h=>tR h) λ_=>tI (λ_=>tB (p:=λr:List Int×Bool=>r.1.length<=5000) (tB (A0t h1) λ_ h=>tR h) λ_ h=>tR h) λ_=>tI (λ_=>tB (p:=λr:List Int×Bool=>r.1.length<=5000) (tB (s0w<|by show(o.F_.length:Int)<_;omega) λ_ h=>tR h) λ_ h=>tR h) λ_=>tI (λ_=>tB (p:=λr:List Int×Bool=>r.1.length<=5000) (tB (s0w<|by show o.W_<_;omega) λ_ h=>tR h) λ_ h=>tR h) λ_=>tI (λ_=>tB (p:=λr:List Int×Bool=>r.1.length<=5000) (tB (v0k<|by show o.F_.length<=_;omega) λr h=>tR<|by show r.length<=5000;have:r.length<=o.F_.length:=h;omega) λ_ h=>tR h) λ_=>tI (λ_=>tB (p:=λr:List Int×Bool=>r.1.length<=5000) (tY (l0i dG h3.1 h3.2)<|tB (v0k ?_) λr h=>tR ?_) λ_ h=>tR h) λ_=>tI (λ_=>tB (p:=λr:List Int×Bool=>r.1.length<=5000) (tB (s0w<|by show o.C_<_;omega) λ_ h=>tR h) λ_ h=>tR h) λ_=>tI (λ_=>tB (p:=λr:List Int×Bool=>r.1.length<=5000) (tB (s0w<|by show o.C_<_;omega) λ_ h=>tR h) λ_ h=>tR h) λ_=>tR z);simp[cut];omega;have:(cut o.F_ 0 o.W_).length<=o.F_.length:=by simp[cut];omega
  show r.length<=5000;have h:r.length<=(cut o.F_ 0 o.W_).length:=h;omega
theorem L0Z(hl:l.length<=4294967296):Tot (s0x l m) (λ_=>True):=by
  unfold s0x;refine tJ (tB (p:=λb=>b=oA->1<=m) (tI (λ_=>tR dH) λe=>tR λ_=>by have:=dFF e;omega) λb hb=>tI dI λe=>tR (show Tot _ _ from ?_));have:=hb e;exact zC (tW (λs:Int×Int=>s.2) l.length (λ_=>True) hl ⟨trivial,by show(0:Int)<=0;decide,by show(0:Int)<=_;omega⟩ (λs _ h0 h1=>tY (dT h1)<|tY (a0c h0 h1)<|tY (A0u.2 dA)<|tR ⟨trivial,nxn h0 dA hl⟩) λs _ e=>zE e trivial) dJ
theorem N0U{a b:Int}(hl:l.length<=4294967296):Tot (v0I l a b) (λ_=>True):=by
  unfold v0I;refine tB (v0k hl) (λq hq=>Tot.joinT (zC (tI dI dI) λ_ _=>tI dI dI) λ_=>zC (tW (λs:Int×Int=>s.2) q.length (λ_=>True) dA ⟨trivial,by show(0:Int)<=0;decide,by show(0:Int)<=_;omega⟩ (λs _ h0 h1=>tY (dT h1)<|tY (a0c h0 h1)<|tR ⟨trivial,nxn h0 (bD h1) dA⟩) λs _ e=>zE e trivial) λ_ _=>zC (tI dI dI) dJ)
theorem M0A{r:List a0S}(hr:r.length<=400)(hl:l.length<=4294967296):Tot (c0r r l) (λ_=>True):=by
  unfold c0r e0F i0a;exact zC (Tot.joinT (Tot.srch r.length dA (λs h0 h1=>tY (dT h1)<|tY (a0c h0 h1)<|zC (tB (N0U hl) dJ) λ_ _=>tI dI λ_=>tR<|nxn h0 (bD h1) dA) λs e=>zE e trivial) dI) dJ
theorem M0z{r:List a0S}(hr:r.length<=400):Tot (c0q r n) (λ_=>True):=by
  unfold c0q e0E h0Z;exact zC (Tot.joinT (Tot.srch r.length dA (λs h0 h1=>tY (dT h1)<|tY (a0c h0 h1)<|zC (zC (tI dI dI) dJ) λ_ _=>tI dI λ_=>tR<|nxn h0 (bD h1) dA) λs e=>zE e trivial) dI) dJ
def N0f{r:a0z}(hr:B0w r)(ho:x0u o):Tot (g0n r o.I_ o.F_ o.W_ o.C_) (λ_=>True):=by
  unfold g0n e0o;refine tB (D0S ho) λy hy=>zC (tI (λ_=> ?_) dI) dJ;refine zC (tI dI λ_=>tB (L0Z dA) dJ) λx _=> ?_;exact tM (λ_ _=>tB (M0A hr.2.1 dA) dJ) λ_ _=>tB (M0z hr.2.1) dJ
theorem K0h{c:List (List a0z)}(hc:n0L c)(ho:x0u o):Tot (l0b c o) (λ_=>True):=by
  obtain⟨c1,c2⟩:=hc;unfold l0b m0V;refine zC (tR trivial) λ_ _=>Tot.joinT (Tot.srch c.length dA (λs h0 h1=>tY (dT h1)<|Tot.joinG (tY (a0c h0 h1)<|Tot.mono (p:=y0w s) ?_ λ_ h=>h) λ_=>tR<|nxn h0 (bD h1) dA) λs e=>zE e trivial) dI;obtain⟨r1,r2⟩:=c2 _<|b0J h0 h1;refine tJ<|tW (λs:Int=>s) (nth c s).length (λ_=>True) dA ⟨trivial,dG,dA⟩ (λq _ g0 g1=>tY (dT g1)<|tY (a0c g0 g1)<|tB (N0f (r2 _<|b0J g0 g1) ho) λ_ _=>tI dI λ_=>tR ⟨trivial,nxn g0 (bD g1) dA⟩) λq _ e=>tN (dF dA)<|tR (show Tot _ _ from tR trivial)
def D0F(l:List c0h):Prop:=l.length<=1000/\ ∀x∈l,n0L x.C_
theorem L0P{l:List c0h}(hl:D0F l)(ho:x0u o):Tot (t0o l o) (λ_=>True):=by
  obtain⟨l1,l2⟩:=hl;unfold t0o;exact Tot.joinT (Tot.srch l.length dA (λs h0 h1=>tY (dT h1)<|tY (a0c h0 h1)<|tB (K0h (l2 _<|b0J h0 h1) ho) λ_ _=>tI dI λ_=>tR<|nxn h0 (bD h1) dA) λs e=>zE e trivial) dI
theorem G0R{l:List p0J}(hl:l.length<=1000):Tot (q0h l) (λr=>D0F r.1):=by
  have z:D0F []:=⟨dE,λx h=>by cases h⟩
  unfold q0h;refine tJ (tW (λs:Int×Int×List c0h=>s.2.1) l.length (λs=>(s.2.2.length:Int)<=s.2.1/\ ∀x∈s.2.2,n0L x.C_) dA ⟨⟨dE,λx h=>by cases h⟩,ai _,dE⟩ (λs hs g0 g1=>tY (dT g1) ?_) λs hs e=>tN (dF dA)<|tR (show Tot _ _ from tR ⟨by show s.2.2.length<=1000;omega,hs.2⟩));have e1:wA .i64 (s.2.1+1)=s.2.1+1:=w64 dA dA;rw[e1];refine tJ<|tY (a0c g0 g1) ?_;refine zC ?_ λy _=> ?_;unfold r0h l0d;exact zC (tI dI dI) dJ;refine tI (λ_=>tR z) λ_=> ?_;refine tB (A0c _) λc hc=> ?_;refine tJ<|zC (tI dI λ_=>tB (G0D hc) dJ) λ_ _=> ?_;refine tI (λ_=>tR z) λ_=>tR (show Tot _ _ from ?_);refine tY (a0f dD)<|tR (show Tot _ _ from tR ⟨⟨dD,λx hx=> ?_⟩,rfl⟩);rcases av.1 hx with h|h;exact hs.2 x h;rw[aN]at h;rw[h];exact hc
/-! What is written of a number: it answers. -/
def x0L(l:d0G):Prop:=(l.d_.g_.length<=100000/\l.d_.h_.length<=100000/\l.d_.o_.length<=100000/\l.d_.t_.length<=100000)/\l.M_.length<=8/\l.j_.length<=105/\(∀c∈l.j_,c.m_.length<=6000)/\l.c_.length<=95/\ ∀c∈l.c_,c.aj_.length<=6000
def u0Y(w:c0Z):Prop:=(0<=w.ac_.n_/\w.ac_.n_<=4)/\x0L w.l_/\g0C w.p_ 1000/\w.ar_.length<=6100
theorem A0B(hl:l.length<=4294967296):Tot (a0x l) (λ_=>True):=by
  unfold a0x g0I g0f;exact zC (Tot.joinT (Tot.srch l.length hl (λs h0 h1=>tY (dT h1)<|tY (a0c h0 h1)<|zC (tB (O0W _) dJ) λ_ _=>tI dI λ_=>tR<|nxn h0 (bD h1) hl) λs e=>zE e trivial) dI) dJ
def z0J{s3:Int}{c:List Int}(hp:g0C p 1000)(hc:c.length<=6100)(hg:s3=g){Z:Type}(z:Z):Tot (jA (c0s p s g c) λy1=>jA (jA (a0x y1.e_) λy4=>bif y4 then(vA jB)else jA (a0x y1.i_) λy5=>vA y5) λ(s4:Bool)=>bif s4 then(vA<|.inr z)else vA<|.inl g) (λx:Int⊕Z=>match x with| .inl s'=>s'=s3| .inr q=>q=z):=
  tB (w0r hp hc) (λa ha=>zC (tB (A0B<|by have:=ha.1;omega) λ_ _=>tI dI λ_=>tB (A0B<|by have:=ha.2;omega) dJ) λ_ _=>tI (λ_=>tR rfl) λ_=>tR hg.symm)
theorem z0Q(h:u0Y w):Tot (d0O w) (λ_=>True):=by
  obtain⟨_,⟨_,_,_,_,hm,ht⟩,hp,hc⟩:=h;have h1: ∀x∈ [w.p_],g0C x 1000:=λx hx=>by rw[aN]at hx;rw[hx];exact hp
  unfold d0O;refine tB (p:=λq:List a0h=>q.length<=96/\ ∀x∈q,g0C x 1000) (tI (λ_=> ?_) λ_=>tR ⟨dE,h1⟩) λq hq=>Tot.joinT (Tot.srch q.length dA (λs h0 h1=>tY (dT h1)<|Tot.joinG (tY (a0c h0 h1)<|tY (a0c h0 h1)<|Tot.mono (p:=y0w s) ?_ λ_ h=>h) λ_=>tR<|nxn h0 (bD h1) dA) λs e=>zE e trivial) dI;refine tW (λs:Int×List a0h=>s.1) w.l_.c_.length (λs=>(s.2.length:Int)<=s.1+1/\ ∀x∈s.2,g0C x 1000) dA ⟨⟨dE,h1⟩,by show(0:Int)<=0;decide,by show(0:Int)<=_;omega⟩ (λs hs h0 h1=>tY (dT h1)<|tY (a0c h0 h1)<|tB (v0o<|by have:=ht _<|b0J h0 h1;omega) λy hy=>tY (a0f dD)<|tR ?_) λs hs e=>tN (dF dA)<|tR ⟨dA,hs.2⟩;rw[nxn h0 (bD h1) dA];refine⟨⟨by show((s.2++ [y.1]).length:Int)<=s.1+1+1;simp;omega,λx hx=> ?_⟩,rfl⟩;rcases av.1 hx with h|h;exact hs.2 x h;rw[aN]at h;rw[h];exact hy
  · have hx:=hq.2 _ (b0J h0 h1)
    refine tW (λs:Int=>s) 3 (λ_=>True) dA ⟨trivial,dG,dA⟩ (λs3 _ g0 g1=>tY (dT g1)<|tJ<|tI (λe=>Tot.mono (z0J hx hc (dTT e) _) λo ho=> ?_) λe0=>tI (λe=>Tot.mono (z0J hx hc (dTT e) _) λo ho=> ?_) λe1=>tI (λe=>Tot.mono (z0J hx hc (dTT e) _) λo ho=> ?_) λe2=>by have:=dFF e0;have:=dFF e1;have:=dFF e2;omega) (λs3 _ e=>zE e trivial)
    all_goals
      cases o with
      |inl s'=>have ho:s'=s3:=ho;rw[ho];exact tR ⟨trivial,nxn g0 (bD g1) dA⟩
      |inr q=>have ho:q=_:=ho;rw[ho];trivial
theorem O0v{l:d0G}{k:Int}(hl:x0L l)(hp:g0C p 1000)(hq:q.m_.length<=50){x0:Int}{x2:List UInt8}{x4 x5 x6:Bool}{x7 x15 x16 x17 x18:List UInt8}{x8 x9 x10 x11 x12 x13 x14:Int}{x19 x21 x26 x27 x28 x29 x30 x31 x32 x33 x34 x35 x36 x37 x38 x39}{x22 x23 x24 x25:List a0b}(g1:x22.length<=1000)(g2:x23.length<=1000)(g3:x24.length<=1000)(g4:x25.length<=1000):Tot (b0p x0 x1 x2 q.m_ x4 x5 x6 x7 x8 x9 x10 x11 x12 x13 x14 x15 x16 x17 x18 x19 l.j_ x21 x22 x23 x24 x25 x26 x27 x28 x29 x30 x31 x32 x33 x34 x35 x36 x37 x38 x39) (λr=>r.2.1.length<=6100):=by
  obtain⟨_,_,hc,hs,_,_⟩:=hl;unfold b0p k0g d0F;refine tB (p:=λy:Int=>y<l.j_.length) (tJ<|tW (λs:Int=>s) l.j_.length (λ_=>True) dA ⟨trivial,dG,dA⟩ (λs _ h0 h1=>tY (dT h1)<|tY (a0c h0 h1)<|zC (tR trivial) λ_ _=>tI (λ_=>tR (show s<_ from h1)) λ_=>tR ⟨trivial,nxn h0 (bD h1) dA⟩) λs _ e=>tN (dF dA)<|tR (show Tot _ _ from tR dA)) λy hy=>tI (λ_=>tR dE) λe=> ?_;have e:=dFF e;refine tY (a0c dA hy) (tI (λ_=>tY (a0c dA hy)<|tR ?_) λ_=>tB (J0N ⟨g1,g2,g3,g4⟩ dA) λ_ _=>tR<|by show q.m_.length<=6100;omega);have:=hs _<|b0J (dA:(0:Int)<=y) hy;have:=s0W (nth l.j_ y).m_;show(d0L (nth l.j_ y).m_).length<=6100;omega
abbrev T17:=(List a0b)×(List a0b)×(List a0b)×(List a0b)×Bool×Int×Int×Int×Int×Int×Int×Int×Int×Int×Bool×Int×Int
def O0R(s:T17):Prop:=s.1.length<=1000/\s.2.1.length<=1000/\s.2.2.1.length<=1000/\s.2.2.2.1.length<=1000
theorem K0V{l:d0G}(hl:x0L l)(hq:q.m_.length<=50):Tot (f0z l q) (λr=>r.2=0->u0Y r.1):=by
  have hl':=hl;obtain⟨⟨p0,p1,p2,p3⟩,_,hc,hs,_,_⟩:=hl;unfold f0z;refine tJ (tB (p:=λb=>b=oA->0<=q.n_/\q.n_<=4) (tI (λ_=>tR dH) λe0=>tI (λ_=>tR dH) λe1=>tB (G0J _) λ_ _=>tR λ_=>⟨by have:=dFF e0;omega,by have:=dFF e1;omega⟩) λb hb=>tI (λ_=>tR λh=>by have h:(9:Int)=0:=h;omega) λe=>tR (show Tot _ _ from ?_));have hst:=hb e;refine tB (p:=λs:Int=>0<=s/\s<=3) (tI (λ_=>tR ⟨dG,dG⟩) λe=>tR ⟨hst.1,by have:=dFF e;omega⟩) λk hk=>tB (p:=O0R) ?_ λs hs=> ?_;refine tI (λ_=>tB (f0C p0) λ_ h=>tR h) λe0=>tI (λ_=>tB (f0C p1) λ_ h=>tR h) λe1=>tI (λ_=>tB (f0C p2) λ_ h=>tR h) λe2=>tI (λ_=>tB (f0C p3) λ_ h=>tR h) λe3=> ?_;have:=dFF e0;have:=dFF e1;have:=dFF e2;have:=dFF e3;omega;obtain⟨s1,s2,s3,s4⟩:=hs;refine tJ (tB (p:=λr:Bool×List Int×Int=>r.2.1.length<=6100) (tI (λ_=>tB (O0v hl' (p:=⟨s.1,s.2.1,s.2.2.1,s.2.2.2.1,oA,0,0,0,0,0,0,0,0,0,oA,0,0⟩) (k:=0) ⟨s1,s2,s3,s4⟩ hq s1 s2 s3 s4) λy hy=>tI (λ_=>tR hy) λ_=>tI (λ_=>tB (z0Q ⟨hst,hl',⟨s1,s2,s3,s4⟩,hy⟩) λ_ _=>tR hy) λ_=>tR hy) λ_=>tI (λ_=>tB (z0Q ⟨hst,hl',⟨s1,s2,s3,s4⟩,dE⟩) λ_ _=>tR dE) λ_=>tR dE) λr hr=>tI (λ_=>tR λh=>by have h:(9:Int)=0:=h;omega) λ_=>tR (show Tot _ _ from tR λ_=>⟨hst,hl',⟨s1,s2,s3,s4⟩,hr⟩))
def w0l(hd:m0H d):Tot (a0K w d) (λr=>m0H r.1):=by
  unfold a0K;exact tB (G0m<|by have:=hd.1;omega) λ_ h=>tR h
def P0h:m0H ⟨oA,[],0⟩:=⟨dE,dG,dG⟩
def M0B(hd:m0H d):Tot (c0v w d) (λr=>m0H r.1):=by
  unfold c0v;exact tB (s0R hd) λy hy=>tI (λ_=>tR P0h) λ_=>tB (w0l hy) λz hz=>tI (λ_=>tR P0h) λ_=>tB (s0R hz) λ_ h=>tR h
def J0R:Tot (g0U d) (λ_=>True):=by
  unfold g0U;exact tB (t0O d) (λ_ _=>tR trivial)
theorem D0K{l:d0G}(hl:x0L l):Tot (e0z l n) (λ_=>True):=by
  obtain⟨_,_,_,_,hm,ht⟩:=hl;unfold e0z l0g;rw[w64 (n:=(l.c_.length:Int)-1) dA dA];refine Tot.joinT (tL (λs:Int=> -1<=s/\s<l.c_.length) (λs=>(s+1).toNat) ⟨dA,dA⟩ dA λs hs=>tI (λe=> ?_) dI) dI;have e:=dTT e;refine tY (a0c dA dA) (tI (λ_=>tB (v0o<|by have:=ht _<|b0J (dA:(0:Int)<=s) dA;omega) λ_ _=>zC (tR trivial) dJ) λ_=>tR ?_);rw[w64 (n:=s-1) dA dA];exact⟨⟨dA,dA⟩,dA⟩
def K0S(hw:u0Y w)(hd:m0H d):Tot (b0Q w d) (λr=>m0H r.1):=by
  unfold b0Q;exact tB J0R (λ_ _=>tB (D0K hw.2.1) λ_ _=>tB J0R λ_ _=>tB (D0q<|by have:=hd.1;omega) λ_ h=>tR h)
def D0t(hw:u0Y w)(hd:m0H d):Tot (c0j w d) (λr=>m0H r.1):=by
  unfold c0j;refine tI (λ_=>tB (w0l hd) λ_ h=>tR h) λe0=>tI (λ_=>tB (M0B hd) λ_ h=>tR h) λe1=>tI (λ_=>tB (w0l hd) λ_ h=>tR h) λe2=>tI (λ_=>tB (w0l hd) λ_ h=>tR h) λe3=>tI (λ_=>tB (K0S hw hd) λ_ h=>tR h) λe4=> ?_;have:=dFF e0;have:=dFF e1;have:=dFF e2;have:=dFF e3;have:=dFF e4;have:=hw.1;omega
def H0V:Tot (c0B w d) (λ_=>True):=by
  unfold c0B;exact tI dI λ_=>tI dI dI
theorem L0R{a:f0u}{o:List Int}(hp:g0C p 1000)(ha:C0n a)(ho:o.length<=20000000):Tot (i0d p a o) (λr=>r.length<=200000000):=by
  obtain⟨a1,a2⟩:=ha;unfold i0d;refine tB (p:=inB) (tI (λ_=>tB (L0s hp) λy hy=>tR ?_) λ_=>tR ⟨dG,dG⟩) (λk hk=>tB (L0K hk.1<|by have:=hk.2;omega) λy hy=>tB (p:=λs:List Int×List Int×List Int×List Int=>s.1.length<=20000000/\s.2.1.length<=20000000/\s.2.2.1.length<=20000000/\s.2.2.2.length<=20000000) ?_ λs hs=>tB (H0H (m:=20000000) dE dA λx hx=> ?_) λ_ h=>tR dA);obtain⟨y1,y2⟩:=hy;rw[w64 (n:=y-a.e_.length) dA dA,w64 (n:=y-a.e_.length-o.length) dA dA,w64 (n:=y-a.e_.length-o.length-a.i_.length) dA dA];exact⟨I0l dA,q0t dA dA⟩;have hy:y.length<=20000000:=by have:=hk.2;omega
  have z:([]:List Int).length<=20000000:=by simp
  exact tI (λ_=>tR ⟨hy,z,z,z⟩) (λ_=>tI (λ_=>tR ⟨z,hy,z,z⟩) λ_=>tI (λ_=>tR ⟨z,z,hy,z⟩) λ_=>tI (λ_=>tR ⟨z,z,z,hy⟩) λ_=>tR ⟨z,z,z,z⟩)
  · obtain⟨h1,h2,h3,h4⟩:=hs
    simp only[aY,cM,or_false]at hx;rcases hx with rfl|rfl|rfl|rfl|rfl|rfl|rfl<;>omega
def u0Z(hw:u0Y w)(hd:m0H d):Tot (a0Z w d) (λr=>r.1.length<=200000000):=by
  unfold a0Z;exact tB H0V (λ_ _=>tB (w0r hw.2.2.1 hw.2.2.2) λa ha=>tB (I0S<|by have:=hd.1;omega) λo ho=>tB (L0R hw.2.2.1 ha dA) λ_ h=>tR h)
def N0q:([]:List Int).length<=200000000:=by simp
def K0g(hw:u0Y w)(hd:m0H d):Tot (b0P w d) (λr=>r.1.length<=200000000):=by
  unfold b0P;exact tB (s0R hd) λy hy=>tI (λ_=>tR N0q) λ_=>tB (u0Z hw hy) λ_ h=>tR h
theorem F0o(hw:u0Y w)(ho:x0u o):Tot (c0k w n o) (λr=>g0C r 1000):=by
  obtain⟨_,⟨_,hr,_,_,hm,ht⟩,_,_⟩:=hw;unfold c0k;refine tB (G0R dA) (λy hy=>tB (L0P hy ho) λc _=>tB (p:=λs:Int×Int×List UInt8=>s.2.2.length<=6000) ?_ λs hs=>tB (v0o<|by show s.2.2.length<=_;omega) λ_ h=>tR h);refine tW (λs:Int×Int×Int×List UInt8=>s.1) w.l_.c_.length (λs=>s.2.2.2.length<=6000) dA ⟨dE,by show(0:Int)<=0;decide,by show(0:Int)<=_;omega⟩ (λs hs h0 h1=>tY (dT h1)<|tB (p:=λr:Int×Int×List UInt8=>r.2.2.length<=6000) (tY (a0c h0 h1)<|zC (tI (λ_=>tI dI dI) dI) λ_ _=>tI (λ_=>tR<|ht _<|b0J h0 h1) λ_=>tR hs) λr hr=>tR ⟨hr,nxn h0 (bD h1) dA⟩) λs hs e=>tN (dF dA)<|tR hs
theorem F0Y(hw:u0Y w)(hd:m0H d):Tot (c0T w d) (λr=>r.1.length<=200000000):=by
  have hw':=hw;obtain⟨_,hl,hp,hc⟩:=hw;unfold c0T;refine tB J0R (λ_ _=>tB (D0K hl) λp _=>tB (s0R hd) λy hy=>tI (λ_=>tR N0q) λ_=>tB (y0a<|by have:=hy.1;omega) λf hf=>tB (z0Z hf.1) λg hg=>tB (p:=λr:List Int=>r.length<=15001) (tI (λ_=>tY (a0f dD)<|tB (F0g hf.2.1) λy2 h2=>tY (a0f dD)<|tR dD) λ_=>tR dA) λo ho=>tB (p:=O0R) (tI (λ_=>tB (N0R hf.1 hf.2.1) λq hq=>tB (F0o hw' hq) λ_ h=>tR h) λ_=>tR hp) λt ht=>tB H0V λ_ _=>tB (w0r ht hc) λa ha=> ?_);obtain⟨a1,a2⟩:=ha;exact tY (a0f dA) (tY (a0f dD)<|tR<|by show((a.e_++o)++a.i_).length<=_;simp;omega)
def C0A(hw:u0Y w)(hd:m0H d):Tot (c0i w d) (λr=>r.1.length<=200000000):=by
  unfold c0i;refine tI (λ_=>tB (u0Z hw hd) λ_ h=>tR h) λe0=>tI (λ_=>tB (K0g hw hd) λ_ h=>tR h) λe1=>tI (λ_=>tB (u0Z hw hd) λ_ h=>tR h) λe2=>tI (λ_=>tB (u0Z hw hd) λ_ h=>tR h) λe3=>tI (λ_=>tB (F0Y hw hd) λ_ h=>tR h) λe4=> ?_;have:=dFF e0;have:=dFF e1;have:=dFF e2;have:=dFF e3;have:=dFF e4;have:=hw.1;omega
theorem J0A{l:d0G}(hl:x0L l)(hq:q.m_.length<=50)(hd:m0H d):Tot (f0A l q d) (λr=>r.1.length<=200000000):=by
  unfold f0A;refine tB (K0V hl hq) λw hw=>tI (λ_=>tR N0q) λe=> ?_;have hw:=hw (by have:=dFF e;omega);exact tB (D0t hw hd) λy hy=>tI (λ_=>tR N0q) λ_=>tB (C0A hw hy) λ_ h=>tR h
theorem H0y(hl:l.length<=200000000):Tot (j0G l) (λr=>r.length<=1200000000):=by
  unfold j0G n0H;refine zC (tR trivial) (λ_ _=>tB (tW (λs:Int×List Int=>s.1) l.length (λs=>(s.2.length:Int)<=6*s.1) dA ⟨dE,by show(0:Int)<=0;decide,by show(0:Int)<=_;omega⟩ (λs hs h0 h1=>tY (dT h1)<|tB (p:=λr:List Int=>(r.length:Int)<=6*s.1+6) (tY (a0c h0 h1) ?_) λr hr=>tR ?_) λs hs e=>tN (dF dA)<|tR dA) λ_ h=>tR h)
  · repeat' (first|refine tI (λ_=>tY (a0f dD)<|tR dD) (λ_=> ?_)|exact tY (a0f dD)<|tR dD)
  rw[nxn h0 (bD h1) dA];exact⟨by show(r.length:Int)<=6*(s.1+1);omega,rfl⟩
theorem H0v{l:d0G}(hl:x0L l)(hq:q.m_.length<=50)(hd:m0H d):Tot (c0G l q d) (λr=>r.1.length<=1200000000):=by
  unfold c0G;exact tB (J0A hl hq hd) λy hy=>tB (p:=λr:List Int=>r.length<=1200000000) (zC (tI dI dI) λ_ _=>tI (λ_=>tB (H0y hy) λ_ h=>tR h) λ_=>tR dA) λ_ h=>tR h
end Go.Proofs.YtafbfodcilkgmaaGreatDoor
