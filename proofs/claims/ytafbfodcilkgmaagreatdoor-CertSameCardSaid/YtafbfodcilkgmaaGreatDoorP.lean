import Derived.Test.YtafbfodcilkgmaaGreatDoorGg
set_option linter.all false
namespace Go.Proofs.YtafbfodcilkgmaaGreatDoor
open Go Go.Sy Go.RowKit Go.ChangeShapes Go.WideShapes Go.ChangeAt
open Go.Conv renaming runesFrom->oE
open _root_.Int renaming fdiv->vE,tdiv->wE,tmod->oC
open Go.IntKind renaming bits->zH,signed->oF,wrap->zA
open _root_.Nat renaming beq->yB,blt->yD
open _root_.Option renaming bind->jA,some->wA
open _root_.Sum renaming elim->zG
open _root_.UInt8 renaming ofNat->oI
open Go.Utf8 renaming encode->yI
open _root_.Decidable renaming decide->vA
open _root_.Bool renaming false->yA,true->oA
set_option maxRecDepth 100000
set_option maxHeartbeats 4000000
variable {S O α β X T A:Type} {b:Bool} {x c i v m k n g x0 e x1:Int} {y:List a0b} {p:a0h} {w:c0I} {o:f0Y} {q:p0h} {l cur:List Int} {d:a0X} {t:List UInt8} {s:b0z} {a u:Nat}
def dH {p:Prop} {a b:Bool} (n:(a==b)=Bool.false:=by rfl)(h:a=b):p:=by subst h;cases a<;>cases n
/-! What always answers. -/
theorem H0k {step:S->Option (S⊕O)} (I:S->Prop)(μ:S->Nat)(post:O->Prop) {s0:S} (h0:I s0)(hb:μ s0<18446744073709551616)
    (hs: ∀s,I s->(∃s',step s=wA (.inl s')/\I s'/\μ s'<μ s)\/ ∃o,step s=wA (.inr o)/\post o): ∃o,a0m step big s0=wA o/\post o:=by
  have key: ∀m s,I s->μ s<m-> ∃o,a0m step m s=wA o/\post o:=by
    intro m
    induction m with
    |zero=>intro s _ h;omega
    |succ m ih=>
      intro s hi hm;rcases hs s hi with⟨s',h1,h2,h3⟩|⟨o,h1,h2⟩;rw[g0S h1];exact ih s' h2 dA;exact⟨o,j0U h1,h2⟩
  exact key big s0 h0 hb
def Tot (x:Option α)(p:α->Prop):Prop:= ∃o,x=wA o/\p o
def tR {a:α} {p:α->Prop} (h:p a):Tot (wA a) p:=⟨a,rfl,h⟩
def dI {α:Type} {β:Sort _} {f:β->α} {p:α->Prop} (t:∀x,p (f x):=by intros;exact True.intro)(x:β):Tot (wA<|f x) p:=tR<|t x
def dJ {α:Type} {β γ:Sort _} {f:β->γ->α} {p:α->Prop} (t:∀x y,p (f x y):=by intros;exact True.intro)(x:β)(y:γ):Tot (wA<|f x y) p:=tR<|t x y
def tB {x:Option α} {k:α->Option β} {p:α->Prop} {q:β->Prop} (h:Tot x p)(hk: ∀o,p o->Tot (k o) q):Tot (jA x k) q:=by
  obtain⟨o,rfl,h⟩:=h;exact hk o h
def zC {x:Option α} {k:α->Option β} {q:β->Prop} (h:Tot x λ_=>True)(g:∀ o,True->Tot (k o) q):Tot (jA x k) q:=tB h g
def tI {t e:Option α} {p:α->Prop} (ht:b=oA->Tot t p)(he:b=yA->Tot e p):Tot (bif b then t else e) p:=by
  cases b with
  |true=>exact ht rfl
  |false=>exact he rfl
def zI {t e:Option α} {p:α->Prop} (h:Tot t p)(g:Tot e p):Tot (bif b then t else e) p:=tI (λ_=>h) λ_=>g
def zB {x:Option α} {k:α->Option β} {q:β->Prop} (h:Tot x λ_=>True)(g:∀ o,Tot (k o) q):Tot (jA x k) q:=tB h λo _=>g o
def dK {α:Type} {x:Option α} (h:Tot x (λ_=>True):=by repeat' (first|exact tR trivial|refine zI ?_ ?_|refine zB ?_ λ_=> ?_)):Tot x (λ_=>True):=h
def tY {t e:Option α} {p:α->Prop} (h:b=oA)(ht:Tot t p):Tot (bif b then t else e) p:=by subst h;exact ht
def tN {t e:Option α} {p:α->Prop} (h:b=yA)(he:Tot e p):Tot (bif b then t else e) p:=by subst h;exact he
def zE {y:Int} {t:Option α} {o:α} {p:α->Prop} (e:x=y)(h:p o):Tot (bif vA (x<y) then t else wA o) p:=tN (dF dA)<|tR h
def Tot.mono {x:Option α} {p q:α->Prop} (h:Tot x p)(hq: ∀o,p o->q o):Tot x q:=by obtain⟨o,h1,h2⟩:=h;exact⟨o,h1,hq o h2⟩
def O0E (k:S->Option X)(p:X->Prop):S⊕X->Prop
  | .inl s=>Tot (k s) p
  | .inr r=>p r
theorem tJ {x:Option (S⊕X)} {k:S->Option X} {p:X->Prop} (h:Tot x<|O0E k p):Tot (jA x<|a0j k) p:=by
  obtain⟨o,rfl,h⟩:=h
  cases o with
  |inl s=>exact h
  |inr r=>exact⟨r,rfl,h⟩
def tL {step:S->Option (S⊕O)} (I:S->Prop)(μ:S->Nat) {post:O->Prop} {s0:S} (h0:I s0)(hb:μ s0<18446744073709551616)
    (hs: ∀s,I s->Tot (step s) (λx=>match x with| .inl s'=>I s'/\μ s'<μ s| .inr o=>post o)):Tot (a0m step big s0) post:=by
  refine H0k I μ post h0 hb λs hi=> ?_;obtain⟨x,h1,h2⟩:=hs s hi
  cases x with
  |inl s'=>exact .inl ⟨s',h1,h2⟩
  |inr o=>exact .inr ⟨o,h1,h2⟩
def Tot.any {x:Option α} {p:α->Prop} (h:Tot x p):Tot x (λ_=>True):=h.mono λ_ _=>trivial
def dTT {p:Prop} [Decidable p](h:vA p=oA):p:=wF h
def dFF {p:Prop} [Decidable p](h:vA p=yA): ¬p:=of_decide_eq_false h
def tM {γ:Type} {x:α⊕β} {f:α->Option γ} {g:β->Option γ} {p:γ->Prop} (hf: ∀a,x= .inl a->Tot (f a) p)(hg: ∀b,x= .inr b->Tot (g b) p):Tot (zG f g x) p:=by
  cases x with
  |inl a=>exact hf a rfl
  |inr b=>exact hg b rfl
def C0g (p:α->Prop):α⊕β->Prop
  | .inl a=>p a
  | .inr _=>True
theorem tS {γ:Type} {x:Option (α⊕β)} {f:α->Option γ} {g:β->Option γ} {p:α->Prop} {q:γ->Prop} (h:Tot x<|C0g p)(hf: ∀a,p a->Tot (f a) q)(hg: ∀b,Tot (g b) q):Tot (jA x λy=>zG f g y) q:=by
  obtain⟨o,rfl,h⟩:=h
  cases o with
  |inl a=>exact hf a h
  |inr b=>exact hg b
def tW {step:S->Option (S⊕O)} (ix:S->Int)(n:Nat)(I:S->Prop) {post:O->Prop} {s0:S} (hn:n<=4294967296)(h0:I s0/\0<=ix s0/\ix s0<=n)
    (hs: ∀s,I s->0<=ix s->ix s<n->Tot (step s) (λx=>match x with| .inl s'=>I s'/\ix s'=ix s+1| .inr o=>post o)) (he: ∀s,I s->ix s=n->Tot (step s) (λx=>match x with| .inl _=>False| .inr o=>post o)):Tot (a0m step big s0) post:=by
  refine tL (λs=>I s/\0<=ix s/\ix s<=n) (λs=>((n:Int)-ix s).toNat) h0 dA λs hi=> ?_;by_cases h:ix s=n;refine Tot.mono (he s hi.1 h) (λo ho=> ?_)
  cases o with
  |inl _=>exact absurd ho id
  |inr _=>exact ho
  refine Tot.mono (hs s hi.1 hi.2.1 dA) (λo ho=> ?_)
  cases o with
  |inl s'=>exact⟨⟨ho.1,by rw[ho.2];omega,by rw[ho.2];omega⟩,by rw[ho.2];omega⟩
  |inr _=>exact ho
def jp {R E:Type} (p:S->Prop):S⊕(R⊕E)->Prop
  | .inl s=>p s
  | .inr (.inl _)=>False
  | .inr (.inr _)=>True
theorem tE {R E:Type} {x:Option (S⊕(R⊕E))} {k:S->Option (R⊕E)} {p:S->Prop} {q:R->Prop} (h:Tot x<|jp p)(hk: ∀s,p s->Tot (k s) (C0g q)):Tot (jA x<|a0j k) (C0g q):=by
  obtain⟨o,rfl,h⟩:=h
  match o,h with
  | .inl s,h=>exact hk s h
  | .inr (.inr e),_=>exact⟨_,rfl,trivial⟩
/-! Patterns are read, or not: it answers. -/
def ra(l:List Int)(i:Int):Prop:=0<=i/\i<=(l.length:Int)
section
variable {l : List Int} (hl : l.length <= 100000) {b m p k d : Int}
include hl
theorem K0k {on:Int} (h:ra l i)(ho:0<=on/\on<=1):Tot (b0g c on l i b m p k d) (λr=>r=oA->i+on<l.length):=by
  obtain⟨h0,h1⟩:=h;unfold b0g;rw[w64 (n:=i+on) dA dA];refine tB (p:=λr=>r=oA->i+on<l.length) ?_ λ_ h=>tR h;refine tI (λh=> ?_) λ_=>tR dH;exact tY (a0c dA<|dTT h)<|tR λ_=>dTT h
theorem F0m (h:ra l i):Tot (a0u c l i b m p k d) (λr=>(r.1=oA/\r.2=i+1/\i<l.length)\/(r.1=yA/\r.2=i)):=by
  unfold a0u;refine tB (K0k hl h dA) λy hy=> ?_;obtain⟨h0,h1⟩:=h
  cases y with
  |false=>exact tR (.inr ⟨rfl,rfl⟩)
  |true=>
    have:=hy rfl;exact tR<|.inl ⟨rfl,w64 dA dA,dA⟩
theorem C0l (h:ra l i):Tot (a0u c l i b m p k d) (λr=>ra l r.2/\i<=r.2):=by
  refine(F0m hl h).mono λr hr=> ?_;obtain⟨h0,h1⟩:=h;rcases hr with⟨_,e,e2⟩|⟨_,e⟩;exact⟨⟨dA,dA⟩,dA⟩;exact⟨⟨dA,dA⟩,dA⟩
theorem x0O (h:ra l i):Tot (b0v c l i b m p k d) (λr=>ra l r.2/\i<=r.2):=by
  unfold b0v;refine tB (p:=λs:Int×Int=>ra l s.2/\i<=s.2) (tL (λs:Int×Int=>ra l s.2/\i<=s.2) (λs=>((l.length:Int)-s.2).toNat) ⟨h,av _⟩ (by have:=h.1;simp only;omega) λs hs=> ?_) λ_ h=>tR h;refine tB (F0m hl hs.1) λy hy=> ?_;obtain⟨⟨h0,h1⟩,h2⟩:=hs;rcases hy with⟨e1,e2,e3⟩|⟨e1,e2⟩;rw[e1,e2];exact tR ⟨⟨⟨dC,dC⟩,dC⟩,dC⟩;rw[e1,e2];exact tR ⟨⟨h0,h1⟩,h2⟩
theorem D0W {w:Int} (h:ra l i) {x8 x18 x9 x10 x11 x12 x13 x14 x15 x16 x17 x19 x20} :Tot (d0P w l i b m p k d x8 x9 x10 x11 x12 x13 x14 x15 x16 x17 x18 x19 x20) (C0g λr=>ra l r.1/\i<=r.1):=by
  unfold d0P;refine tJ<|tB (p:=λr:Bool×Int=>ra l r.2/\i<=r.2) (tI (λ_=>tR ⟨h,av _⟩) λ_=>tB (C0l hl h) λy hy=>tR hy) λs hs=>tI (λ_=>tR hs) λ_=>tR (show Tot _ _ from ?_);refine tJ<|tI dI λhd=>tR (show Tot _ _ from ?_);have:=dFF hd;obtain⟨⟨h0,h1⟩,h2⟩:=hs;have e:zA .i64 (s.2+1)=s.2+1:=w64 dA dA;refine tY (a0c h0 dA)<|tR ?_;rw[e];exact⟨⟨dC,dC⟩,dC⟩
theorem I0l {w:Int} (h:ra l i) {x8 x9 x19 x10 x11 x12 x13 x14 x15 x16 x17 x18 x20 x21} :Tot (d0O w l i b m p k d x8 x9 x10 x11 x12 x13 x14 x15 x16 x17 x18 x19 x20 x21) (C0g λr=>ra l r.1/\i<=r.1):=
  D0W (x8:=x9) (x9:=x10) (x10:=x11) (x11:=x12) (x12:=x13) (x13:=x14) (x14:=x15) (x15:=x16) (x16:=x17) (x17:=x18) (x18:=x19) (x19:=x20) (x20:=x21) hl h
theorem M0o {w:Int} (h:ra l i) {x8 x9 x10 x20 x11 x12 x13 x14 x15 x16 x17 x18 x19 x21 x22} :Tot (f0h w l i b m p k d x8 x9 x10 x11 x12 x13 x14 x15 x16 x17 x18 x19 x20 x21 x22) (C0g λr=>ra l r.1/\i<=r.1):=
  D0W (x8:=x10) (x9:=x11) (x10:=x12) (x11:=x13) (x12:=x14) (x13:=x15) (x14:=x16) (x15:=x17) (x16:=x18) (x17:=x19) (x18:=x20) (x19:=x21) (x20:=x22) hl h
theorem C0Q (h:ra l i):Tot (d0a l i b m p k d) (λr=>(r.1=oA/\r.2=i+2/\i+1<l.length)\/(r.1=yA/\r.2=i)):=by
  unfold d0a;refine tJ (tB (p:=λr=>r=yA->i+1<l.length) (tB (K0k hl h dA) λy _=>tI (λ_=>tR dH) λ_=>tB (K0k hl h dA) λz hz=>tR λe=>hz<|by simpa using e) λs hs=> ?_);obtain⟨h0,h1⟩:=h
  cases s with
  |true=>exact tR (.inr ⟨rfl,rfl⟩)
  |false=>
    have:=hs rfl;exact tR<|tR<|.inl ⟨rfl,w64 dA dA,this⟩
theorem G0V {o:List a0b} (h:ra l i)(hi:i<l.length)(ho:(o.length:Int)<=i):Tot (c0K l i b m p k d o) (C0g λr=>ra l r.1/\i<r.1/\(r.2.length:Int)<=r.1):=by
  unfold c0K;refine tB (C0Q hl h) λy hy=> ?_;obtain⟨h0,h1⟩:=h;rcases hy with⟨e1,e2,e3⟩|⟨e1,e2⟩;rw[e1,e2];exact tY rfl<|tY (a0e dD)<|tR ⟨⟨dC,dC⟩,dC,dD⟩;rw[e1,e2,w64 (n:=i+1) dA dA];refine tJ<|tL (λs:Int×List a0b=>ra l s.1/\i<s.1/\(s.2.length:Int)<=s.1) (λs=>((l.length:Int)-s.1).toNat) ⟨⟨dC,dC⟩,dC,dC⟩ dC λs hs=> ?_;refine tI (λhlt=> ?_) λ_=>tR<|tR trivial;have hlt:=dTT hlt;refine tB (C0Q hl hs.1) λy hy=> ?_;obtain⟨⟨g0,g1⟩,g2,g3⟩:=hs;rcases hy with⟨e1,e2,e3⟩|⟨e1,e2⟩;rw[e1,e2];exact tY rfl<|tY (a0e dD)<|tR ⟨⟨⟨dC,dC⟩,dC,dD⟩,dC⟩;rw[e1,e2];refine tB (F0m hl ⟨g0,g1⟩) λy hy=> ?_;rcases hy with⟨e1,e2,e3⟩|⟨e1,e2⟩;rw[e1,e2];exact tR ⟨⟨dC,dC⟩,dC,dC⟩;rw[e1,e2,w64 (n:=s.1+1) dA dA];exact tN rfl<|tY (a0c g0 hlt)<|tY (a0e dD)<|tR ⟨⟨⟨dC,dC⟩,dC,dD⟩,dC⟩
omit hl in
def x0a(x:Int):Tot (h0R x) (λ_=>True):=by
  unfold h0R;refine tJ (zC ?_ λs _=>tI dI λ_=>tR<|zC ?_ dJ)
  · repeat' (first|exact tR trivial|refine tI (λ_=> ?_) λ_=> ?_)
  exact tI dI dI
theorem w0H (h:ra l i):Tot (b0j l i b m p k d) (C0g λr=>ra l r.2/\i<=r.2/\(r.1.length:Int)<=r.2):=by
  unfold b0j;refine tJ (tL (λs:Int×List a0b=>ra l s.1/\i<=s.1/\(s.2.length:Int)<=s.1) (λs=>((l.length:Int)-s.1).toNat) ⟨h,av _,by have:=h.1;simpa using this⟩ (by have:=h.1;simp only;omega) λs hs=> ?_);refine tI (λhlt=> ?_) λ_=>tR<|tR hs;have hlt:=dTT hlt;obtain⟨⟨g0,g1⟩,g2,g3⟩:=hs;have e:zA .i64 (s.1+1)=s.1+1:=w64 dA dA;rw[e];refine tY (a0c g0 hlt) ?_
  have step: ∀t:a0b,(ra l (s.1+1)/\i<=s.1+1/\((s.2++ [t]).length:Int)<=s.1+1)/\((l.length:Int)-(s.1+1)).toNat<((l.length:Int)-s.1).toNat:=λt=>⟨⟨⟨dA,dA⟩,dA,dD⟩,dA⟩
  have rm: ∀t:a0b,room (s.2.length+([t]:List a0b).length)=true:=λt=>a0e dD
  iterate 4 refine tI (λ_=>zC (tY (rm _)<|tR trivial) λ_ _=>tR<|step _) (λ_=> ?_)
  refine tJ<|tB (K0k hl ⟨g0,g1⟩ dA) λy hy=>tI (λ_=> ?_) λ_=>tB (x0a _) λ_ _=>tI (λ_=>tR ⟨⟨g0,g1⟩,g2,g3⟩) λ_=>tY (rm _)<|tR<|tR<|step _;exact tS (G0V hl ⟨g0,g1⟩ hlt g3) (λa ha=>tR ⟨⟨ha.1,by have:=ha.2.1;simp only;omega,ha.2.2⟩,by have:=ha.2.1;have:=ha.1.2;simp only;omega⟩) λa=>tR trivial
theorem D0Q {w:Int} (h:ra l i)(ho:0<=w/\w<=1) {x8 x9 x10 x11 x12 x13 x14 x15 x16 x17 x18 x19 x20 x21} :Tot (d0b w l i b m p k d x8 x9 x10 x11 x12 x13 x14 x15 x16 x17 x18 x19 x20 x21) (λr=>r=oA->i+w<l.length):=by
  unfold d0b;refine tB (p:=λr=>r=oA->i+w<l.length) (tB (K0k hl h ho) λy hy=> ?_) λ_ h=>tR h;refine tI (λe=>tR λ_=>hy e) λ_=>tI (λ_=>tB (K0k hl h ho) λy hy=>tR hy) λ_=>tR dH
theorem F0y {w:Int} (h:ra l i) {x8 x9 x10 x11 x12 x13 x14 x15 x16 x17 x18 x19 x20 x21} :Tot (d0c w l i b m p k d x8 x9 x10 x11 x12 x13 x14 x15 x16 x17 x18 x19 x20 x21) (λr=>r=oA->i<l.length):=by
  unfold d0c;refine tB (p:=λr=>r=oA->i<l.length) ?_ λ_ h=>tR h;refine tI (λ_=>tB (K0k hl h dA) λy hy=>tI (λe=>tB (D0Q hl h dA) λz _=>tR λ_=> ?_) λ_=>tR dH) λ_=>tR dH;have:=hy e;omega
theorem F0I {w:Int} (h:ra l i) {x9 x10 x11 x12 x13 x14 x15 x16 x17 x18 x19 x20 x21 x22} :Tot (c0u w v l i b m p k d x9 x10 x11 x12 x13 x14 x15 x16 x17 x18 x19 x20 x21 x22) (λ_=>True):=by
  unfold c0u;refine tJ<|zC (tI dI λ_=>tB (F0y hl h) (λ_ _=>tR trivial)) λ_ _=>tI dI λ_=>tR (show Tot _ _ from ?_);exact tJ<|zC (tI dI dI) λ_ _=>tI dI λ_=>tR<|tR trivial
theorem G0Y (h:ra l i) {x7 x8 x9 x10 x11 x12 x13 x14 x15 x16 x17 x18 x19 x20} :Tot (c0L l i b m p k d x7 x8 x9 x10 x11 x12 x13 x14 x15 x16 x17 x18 x19 x20) (C0g λr=>ra l r.1/\i<=r.1):=by
  unfold c0L;refine tJ (tL (λs:Int×Int×Int×Int×Int×Int=>ra l s.2.2.1/\i<=s.2.2.1) (λs=>((l.length:Int)-s.2.2.1).toNat) ⟨h,av _⟩ (by have:=h.1;simp only;omega) λs hs=> ?_);refine tJ (tB (p:=λr=>r=oA->s.2.2.1<l.length) (tB (D0Q hl hs.1 dA) λy hy=>tI (λe=>tR λ_=>by have:=hy e;omega) λ_=>tB (F0y hl hs.1) λy hy=>tR hy) λr hr=>tI (λe=>tR (show Tot _ _ from ?_)) λ_=>tR<|tJ<|tI dI λ_=>tR (show Tot _ _ from tI (λ_=>tR hs) λ_=>tI (λ_=>tR hs) λ_=>tR hs));have hlt:=hr e;refine tB (F0m hl hs.1) λy hy=> ?_;obtain⟨⟨g0,g1⟩,g2⟩:=hs;rcases hy with⟨e1,e2,e3⟩|⟨e1,e2⟩;rw[e1,e2];exact tR ⟨⟨⟨dC,dC⟩,dC⟩,dC⟩;rw[e1,e2];refine tB (p:=λt:Int×Int×Int=>t.1=s.2.2.1+1) (tB (F0m hl ⟨g0,g1⟩) λz hz=> ?_) λt ht=> ?_;rcases hz with⟨e1,e2,e3⟩|⟨e1,e2⟩;rw[e1,e2];exact tR rfl;rw[e1,e2,w64 (n:=s.2.2.1+1) dA dA];exact tR rfl;rw[ht];refine tB (F0I hl ⟨dA,dA⟩) λy _=>tM (λa _=>tR ⟨⟨⟨dC,dC⟩,dC⟩,dC⟩) λa _=>tR trivial
theorem C0i (h:ra l i) {x7 x8 x9 x10 x11 x12 x13 x14 x15 x16 x17 x18 x19 x20} :Tot (c0a l i b m p k d x7 x8 x9 x10 x11 x12 x13 x14 x15 x16 x17 x18 x19 x20) (C0g λr=>ra l r.1/\i<=r.1):=by
  unfold c0a;refine tB (C0l hl h) λy hy=>tI (λ_=>tR hy) λ_=>tB (x0O hl hy.1) λz hz=>tB (x0O hl hz.1) λw hw=>tI dI λ_=>tR ⟨hw.1, ?_⟩;have:=hy.2;have:=hz.2;have:=hw.2;simp only;omega
theorem H0f (h:ra l i) {x7 x8 x9 x10 x11 x12 x13 x14 x15 x16 x17 x18 x19 x20} :Tot (c0M l i b m p k d x7 x8 x9 x10 x11 x12 x13 x14 x15 x16 x17 x18 x19 x20) (C0g λr=>ra l r.1/\i<=r.1):=by
  unfold c0M;refine tB (x0O hl h) λy hy=> ?_;refine tE (p:=λs=>ra l s.1/\i<=s.1) (tI (λ_=>tB (x0O hl hy.1) λz hz=>tR ⟨hz.1,bM hy.2 hz.2⟩) λ_=>tS (G0Y hl hy.1) (λa ha=>tS (C0i hl ha.1) (λc hc=>tR ⟨hc.1,bM hy.2<|bM ha.2 hc.2⟩) λc=>tR trivial) λa=>tR trivial) λs hs=> ?_;refine tB (C0l hl hs.1) λz hz=>tI (λ_=>tR ⟨hz.1,bM hs.2 hz.2⟩) λ_=>tB (C0l hl hz.1) λu hu=>tB (x0O hl hu.1) λv hv=>tI dI λ_=>tR ⟨hv.1,bM hs.2<|bM hz.2<|bM hu.2 hv.2⟩
theorem C0a {q:List Int} (hq:q.length<=100000)(h:ra l i) {x8 x9 x10 x11 x12 x13 x14 x15 x16 x17 x18 x19 x20 x21 x22} :Tot (b0Z q l i b m p k d x8 x9 x10 x11 x12 x13 x14 x15 x16 x17 x18 x19 x20 x21 x22) (C0g λr=>ra l r.1/\r.2.1.length<=l.length/\r.2.2.length<=l.length):=by
  unfold b0Z;refine tS (w0H hl h) (λa ha=>tJ<|tW (λs:Int×Int=>s.1) q.length (λs=>ra l s.2) dA ⟨ha.1,av _,dE⟩ (λs hs g0 g1=> ?_) λs hs e=> ?_) λa=>tR trivial;rw[dT g1];refine tJ<|tY (a0c g0 g1)<|tB (C0l hl hs) λy hy=>tI dI λ_=>tR<|tR ⟨hy.1,w64 dA dA⟩;rw[dF (show¬s.1<(q.length:Int) by omega)];refine tR<|tS (w0H hl hs) (λc hc=>tR ⟨hc.1, ?_, ?_⟩) λc=>tR trivial;have:=ha.2.2;have:=ha.1.2;simp only;omega;have:=hc.2.2;have:=hc.1.2;simp only;omega
end
def g0r(x:a0h)(n:Nat):Prop:=x.d_.length<=n/\x.e_.length<=n/\x.x_.length<=n/\x.w_.length<=n
def F0s(l:List Int)(a b:Int):(cut l a b).length<=l.length:=by unfold cut;simp;omega
theorem D0S (hl:l.length<=100000) {b p d:Int} (h:ra l i):Tot (c0s l i b m p k d) (C0g λr=>g0r r.1 l.length):=by
  unfold c0s;refine tS (D0W hl h) (λy4 h4=> ?_) dI;refine tS (w0H hl h4.1) (λy11 h11=> ?_) dI;refine tE (p:=λs:Int×Int×Int=>ra l s.1) (tI (λ_=>tS (I0l hl h11.1) (λa ha=>tR ha.1) dI) λ_=>tR h11.1) λs hs=> ?_;refine tS (H0f hl hs) (λy47 h47=> ?_) dI;refine tY (l0j hs.1 h47.2 h47.1.2) ?_;refine tS (I0l hl h47.1) (λy55 h55=> ?_) dI;refine tS (w0H hl h55.1) (λy62 h62=> ?_) dI;refine tE (p:=λs:Int×Int×Int=>ra l s.1) (tI (λ_=>tS (M0o hl h62.1) (λa ha=>tR ha.1) dI) λ_=>tR h62.1) λs2 hs2=> ?_;refine tE (p:=λs:Int×List a0b×List a0b×Bool=>ra l s.1/\s.2.1.length<=l.length/\s.2.2.1.length<=l.length) (tB (C0l hl hs2) λy hy=>tI (λ_=>tS (C0a hl (aF (F0s ..) hl) hy.1) (λa ha=>tR ha) dI) λ_=>tR ⟨hy.1,dE,dE⟩) λs3 hs3=> ?_;refine tE (p:=λ_=>True) (tI dI dI) λ_ _=>tR ⟨?_, ?_,hs3.2.1,hs3.2.2⟩;have:=h11.2.2;have:=h11.1.2;simp only;omega;have:=h62.2.2;have:=h62.1.2;simp only;omega
def M0f (hl:l.length<=100000):Tot (q0v l) (λr=>g0r r.1 l.length):=by
  unfold q0v;refine tB (show Tot k0s (λ_=>True)from tR trivial) (λ_ _=>tS (D0S hl ⟨av _,dA⟩) (λa ha=>zC (by unfold j0c;exact tR trivial) λ_ _=>tR ha) λa=>zC (by unfold j0b;exact tR trivial) λ_ _=>tR ?_);exact⟨dE,dE,dE,dE⟩
/-! Bytes are read, patterns written: it answers. -/
def J0g(x:Int):Tot (k0m x) (λn=>0<=n/\n<=4):=by
  unfold k0m;refine zC ?_ (λy _=> ?_)
  · unfold p0V
    refine zC ?_ dJ
    repeat' (first|exact tR trivial|refine tI (λ_=> ?_) λ_=> ?_)
  · repeat' (first|exact tR ⟨dA,dA⟩|refine tI (λ_=> ?_) λ_=> ?_)
theorem K0z (h0:0<l.length)(hl:l.length<=100000):Tot (p0U l) (λr=>0<=r.2/\r.2<=l.length):=by
  unfold p0U;have i0:inR 0 l.length=true:=a0c (av _) dA;refine tY i0 (tB (p:=λn=>0<=n/\n<=4) ?_ λy hy=> ?_)
  · unfold m0N
    repeat' (first|exact tR ⟨dA,dA⟩|refine tI (λ_=> ?_) λ_=> ?_)
  refine tJ<|tB (p:=λr=>r=yA->1<=y/\y<=l.length) (tI (λ_=>tR dH) λe=>tR λh=> ?_) λr hr=>tI (λ_=>tR ⟨av _,dC⟩) λe=>tR (show Tot _ _ from ?_);have:=dFF e;have:=dFF h;omega;obtain⟨y1,y2⟩:=hr e;refine tY i0 (zC ?_ λm _=> ?_)
  · unfold k0l
    repeat' (first|exact tR trivial|refine tI (λ_=> ?_) λ_=> ?_)
  have hc:(cut l 1 y).length<=l.length:=F0s ..;refine tJ<|tY (l0j dA y1 y2)<|tW (λs:Int×Int=>s.2) (cut l 1 y).length (λ_=>True) dA ⟨trivial,av _,dE⟩ (λs _ g0 g1=> ?_) λs _ e=> ?_;refine tY (dT g1)<|tY (a0c g0 g1) (tI (λ_=>tR ⟨av _,dC⟩) λ_=>tR ⟨trivial,w64 dA dA⟩)
  rw[dF (show¬s.2<((cut l 1 y).length:Int) by omega)];exact tR<|tB (J0g _) λz hz=>tI (λ_=>tR ⟨av _,dC⟩) λ_=>tR ⟨dC,y2⟩
theorem H0N (hl:l.length<=100000):Tot (k0R l) (λr=>r.1.length<=l.length):=by
  unfold k0R;refine tJ<|tL (λs:Int×List Int=>ra l s.1/\(s.2.length:Int)<=s.1) (λs=>((l.length:Int)-s.1).toNat) ⟨⟨av _,dC⟩,dE⟩ dC λs hs=> ?_;obtain⟨⟨g0,g1⟩,g2⟩:=hs;refine tI (λhlt=> ?_) λ_=>tR<|tR dC;have hlt:=dTT hlt;have hc:((cut l s.1 (l.length:Int)).length:Int)=(l.length:Int)-s.1:=by unfold cut;simp;omega
  refine tY (l0j g0 g1 dA) (tB (K0z dA dA) λy hy=>tI (λ_=>tR (show([]:List Int).length<=_ by simp)) λhn=>tY (a0e dD)<|tR ?_);have hn:=dFF hn;rw[w64 (n:=s.1+y.2) dA dA];exact⟨⟨⟨dC,dC⟩,dD⟩,dC⟩
theorem z0f (ht:t.length<=100000):Tot (n0n t) (λr=>g0r r.1 120):=by
  have z: ∀a c:Int,Tot (wA ((⟨([]:List a0b),([]:List a0b),([]:List a0b),([]:List a0b),yA,0,0,0,0,0,0,0,0,0,yA,0,0⟩:a0h),a,c)) (λr:a0h×Int×Int=>g0r r.1 120):=λa c=>tR ⟨dE,dE,dE,dE⟩
  unfold n0n;refine tB (H0N<|by rw[d0w];exact ht) λy hy=>tI (λ_=>z _ _) λ_=>tI (λ_=>z _ _) λh=> ?_;have h:=dFF h;refine tB (M0f<|by rw[d0w]at hy;omega) λq hq=>tI (λ_=>z _ _) λ_=>tI (λ_=>z _ _) λ_=>tR ?_;obtain⟨q1,q2,q3,q4⟩:=hq;exact⟨dC,dC,dC,dC⟩
def x0b(n:Int):Tot (k0r n) (λr=>0<=r/\r<=121):=by
  unfold k0r r0p N0O;refine tR ?_;split<;>split<;>omega
theorem q0p {o:List Int} (ho:o.length<=100000):Tot (g0R o c n) (λr=>r.length<=o.length+121):=by
  unfold g0R;refine tB (p:=λr:List Int=>r.length<=o.length+121) (tB (x0b n) λy hy=>tL (λs:Int×List Int=>0<=s.1/\s.1<=y/\(s.2.length:Int)<=o.length+s.1) (λs=>(y-s.1).toNat) ⟨av _,hy.1,dE⟩ dC λs hs=> ?_) λ_ h=>tR h;refine tI (λhlt=>tY (a0e dD)<|tR ?_) λ_=>tR dC;have hlt:=dTT hlt;rw[w64 (n:=s.1+1) dA dA];exact⟨⟨dC,dC,dD⟩,dC⟩
def E0P(p:a0h)(n:Int):Tot (l0M p n) (λ_=>True):=by
  unfold l0M;refine tJ<|zC (tI dI dI) λ_ _=>tI dI λ_=>tR (show Tot _ _ from zC ?_ dJ);refine tI dI λ_=>tI (λh=>tY ?_<|tR trivial) dI;have:=dTT h;unfold nz;rw[dF dA];rfl
theorem C0N {o:List Int} (ho:o.length<=10000):Tot (o0l o p) (λr=>r.length<=o.length+500):=by
  unfold o0l;refine tB (x0b _) λy hy=>tB (x0b _) λz hz=> ?_;rw[w64 (n:=y+z) dA dA];refine tB (p:=λr:List Int=>r.length<=o.length+500) (tL (λs:Int×List Int=>0<=s.1/\s.1<=y+z/\(s.2.length:Int)<=o.length+s.1+s.1) (λs=>(y+z-s.1).toNat) ⟨av _,dC,dE⟩ dC λs hs=> ?_) λ_ h=>tR h;refine tI (λhlt=> ?_) λ_=>tR dC;have hlt:=dTT hlt;rw[w64 (n:=s.1+1) dA dA];refine tB (p:=λt:List Int=>(t.length:Int)<=s.2.length+2) (tB (p:=λt:List Int=>(t.length:Int)<=s.2.length+1) (zC (tI (λ_=>tB (E0P _ _) dJ) dI) λ_ _=>tI (λ_=>tY (a0e dD)<|tR dE) λ_=>tR dA) λt ht=>tI (λ_=>tY (a0e dD)<|tR dD) λ_=>tY (a0e dD)<|tR dD) λt ht=>tR ?_;exact⟨⟨dC,dC,dC⟩,dC⟩
theorem s0I(p:a0h):Tot (j0m p) (λr=>r.length<=2000):=by
  unfold j0m;refine tB (p:=λr:List Int=>r.length<=1000) (zC (tI dI dI) λ_ _=>tI (λ_=> ?_) λ_=> ?_) λr hr=>tB (p:=λr:List Int=>r.length<=2000) ?_ λ_ h=>tR h;exact tB (q0p dE) (λa ha=>tB (x0b _) λ_ _=>tB (q0p<|by simp at ha;omega) λc hc=>tR<|by simp at ha;omega);refine tB (C0N dE) (λa ha=>tI (λ_=>tY (a0e<|by simp at ha⊢;omega)<|tB (q0p<|by simp at ha⊢;omega) λc hc=>tB (x0b _) λ_ _=>tB (q0p<|by simp at ha hc⊢;omega) λe he=>tR<|by simp at ha hc he;omega) λ_=>tR<|by simp at ha;omega);refine tI (λ_=>tY (a0e dD)<|tB (p:=λt:List Int=>t.length<=r.length+2) (tI (λ_=>tY (a0e dD)<|tR dE) λ_=>tR dE) λt ht=>tB (q0p dA) λu hu=>tR dA) λ_=>tR dA
def A0f {o:List Int} {w:Int} (ho:o.length<=100000):Tot (p0y o p w) (λr=>r.length<=o.length+2):=by
  unfold p0y;exact tI (λ_=>tR dA) λ_=>tY (a0e dD)<|tR dE
theorem u0T {E X:Type} [DecidableEq X] {f:E->Option (Unit⊕X)} {p:X->Prop} (hf: ∀e,f e=wA (.inl ())\/ ∃x,f e=wA (.inr x)/\p x): ∀ms:List E,(∀a∈ms,∀b∈ms,f a≠wA (.inl ())->f b≠wA (.inl ())->f a=f b)->Tot (n0t f ms) (λo=>match o with| .inl _=> ∀e∈ms,f e=wA (.inl ())| .inr x=>p x/\ ∃e∈ms,f e=wA (.inr x))
  | [],_=>tR (λe h=>by cases h)
  |e::ms,h=>by
    obtain⟨o,ho,hp⟩:=u0T hf ms λa ha b hb=>h a (aq _ ha) b<|aq _ hb;simp only[n0t,ho];rcases hf e with he|⟨x,he,hx⟩;rw[he]
    cases o with
    |inl u=>
      refine tR λa ha=> ?_;rcases aT.1 ha with rfl|ha;exact he;exact hp a ha
    |inr y=>exact tR ⟨hp.1,hp.2.imp λa ha=>⟨aq _ ha.1,ha.2⟩⟩
    rw[he]
    cases o with
    |inl u=>exact tR ⟨hx,e,az ..,he⟩
    |inr y=>
      obtain⟨a,ha,hy⟩:=hp.2;have:=h e (az ..) a (aq _ ha) (by rw[he];simp) (by rw[hy];simp);rw[he,hy]at this;obtain rfl:=Sum.inr.inj<|au this;simp only[if_true];exact tR ⟨hx,e,az ..,he⟩
theorem J0Q(t:a0b):Tot (n0m t) (λr=>r.length<=2):=by
  unfold n0m;refine tI (λ_=>tI (λ_=>tR dE) λ_=>tR dE) λ_=> ?_;refine tJ<|Tot.mono (p:=λx=>match x with| .inl _=>True| .inr r=>(r:List Int).length<=2) ?_ λx hx=> ?_;show Tot (jA _ _) _;refine tJ<|Tot.mono (u0T (p:=λx:Unit⊕List Int=>match x with| .inl _=>False| .inr r=>r.length<=2) (λe=> ?_) _ λa ha c hc h1 h2=> ?_) λx hx=> ?_;by_cases h:e.2=t.G_;rw[dT h];exact .inr ⟨_,rfl,dE⟩;rw[dF h];exact .inl rfl
  have f1:a.2=t.G_:=by
    by_cases h:a.2=t.G_;exact h;rw[dF h]at h1;exact absurd rfl h1
  have f2:c.2=t.G_:=by
    by_cases h:c.2=t.G_;exact h;rw[dF h]at h2;exact absurd rfl h2
  have:a=c:=by
    have key: ∀a∈([(45,1),(43,2),(37,3),(164,4)]:List<|Int×Int),∀c∈([(45,1),(43,2),(37,3),(164,4)]:List<|Int×Int),a.2=c.2->a=c:=by decide+kernel
    exact key a ha c hc (f1.trans f2.symm)
  rw[this]
  match x,hx with
  | .inl _,_=>exact tR trivial
  | .inr (.inr r),h=>exact h.1
  match x,hx with
  | .inl _,_=>exact tR dE
  | .inr r,h=>exact h
theorem s0q {o:List Int} {q:List a0b} (ho:o.length<=50000)(hq:q.length<=1000):Tot (j0Q o q) (λr=>r.length<=o.length+3001):=by
  unfold j0Q;refine tB (p:=λs:Bool×List Int=>s.2.length<=o.length+3000) (tW (λs:Bool×Int×List Int=>s.2.1) q.length (λs=>(s.2.2.length:Int)<=o.length+3*s.2.1) dA ⟨dE,av _,dE⟩ (λs hs g0 g1=> ?_) λs hs e=> ?_) (λs hs=>tB (p:=λr:List Int=>r.length<=o.length+3001) (tI (λ_=>tY (a0e dD)<|tR dD) λ_=>tR dA) λ_ h=>tR h)
  · rw[dT g1,w64 (n:=s.2.1+1) dA dA]
    refine tB (p:=λr:Bool×List Int=>(r.2.length:Int)<=s.2.2.length+3) (tY (a0c g0 g1)<|zC (tI dI dI) λu _=>zC ?_ λv _=>tB (p:=λr:Bool×List Int=>(r.2.length:Int)<=s.2.2.length+1) (tI (λ_=>tY (a0e dD)<|tR dE) λ_=>tR dC) λw hw=>tB (J0Q _) λz hz=>tY (a0e dA)<|tR dD) (λr hr=>tR ⟨?_,rfl⟩)
    · repeat' (first|exact tR trivial|refine tI (λ_=> ?_) (λ_=> ?_)|exact tB (x0a _) dJ)
    simp only;omega
  rw[dF (show¬s.2.1<(q.length:Int) by omega)];exact tR dC
def B0o (hp:g0r p 1000):Tot (j0P p) (λr=>r.length<=20000):=by
  unfold j0P;obtain⟨p1,p2,p3,p4⟩:=hp;refine tB (s0I p) λn hn=>tB (A0f dE) λa ha=> ?_;simp only[bX]at ha;refine tB (s0q dA p1) λb hb=>tB (A0f dA) λc hc=>tY (a0e dA) ?_;refine tB (A0f dD) λd hd=> ?_;simp only[ay]at hd;refine tB (s0q dA p2) λe he=>tB (A0f dA) λf hf=>tB (p:=λr:List Int=>r.length<=20000) (tI (λ_=>tY (a0e dD)<|tB (s0q dD p3) λg hg=> ?_) λ_=>tR dA) λ_ h=>tR h;simp only[ay,aR,bX]at hg;exact tY (a0e dA) (tB (s0q dD p4) λi hi=>tR<|by simp only[ay]at hi;omega)
def F0j(r:Int):(yI r).data.toList.length<=4:=by
  unfold yI;simp only
  repeat' (first|(split)|simp)
def x0f: ∀l:List Int,(q0e l).length<=4*l.length
  | []=>by simp[q0e]
  |x::l=>by
    have h1:=F0j x;have h2:=x0f l;have:q0e (x::l)=(yI x).data.toList++q0e l:=rfl;rw[this,ay,aR];omega
theorem G0m {x:List a0b} (hx:x.length<=1000):Tot (j0j x y) (λ_=>True):=by
  unfold j0j;refine tI dI λh=>tJ<|tW (λs:Int=>s) x.length (λ_=>True) dA ⟨trivial,av _,dE⟩ (λs _ g0 g1=> ?_) λs _ e=> ?_;have h:=dFF h;exact tY (dT g1)<|tY (a0c g0 g1) (tY (a0c g0 dA)<|tI dI λ_=>tR ⟨trivial,w64 dA dA⟩)
  rw[dF (show¬s<(x.length:Int) by omega)];exact tR<|tR trivial
def L0S {x y:a0h} (hx:g0r x 1000):Tot (s0v x y) (λ_=>True):=by
  unfold s0v l0L;obtain⟨p1,p2,p3,p4⟩:=hx;refine zC (show Tot (bif _ then _ else _) _ from ?_) dJ;refine tI (λ_=>tI (λ_=>tI (λ_=>tB (G0m p1) λ_ _=>tI (λ_=>tB (G0m p2) λ_ _=>tI (λ_=>tB (G0m p3) λ_ _=>tI (λ_=>tB (G0m p4) dJ) dI) dI) dI) dI) dI) dI
theorem J0F (hp:g0r p 1000):Tot (q0x p) (λ_=>True):=by
  unfold q0x
  refine tB (p:=λt:List UInt8=>t.length<=100000) (by
    unfold v0R;refine tB (B0o hp) (λr hr=>tR ?_)
    have:=x0f r;omega) λt ht=>tB (z0f ht) λq _=>zC (tI (λ_=>tB (L0S hp) dJ) dI) dJ
/-! What is read of rules, classes, signs and affixes: it answers. -/
theorem w0n {x y:List T} {k:Int->Option (Int⊕(Unit⊕Bool))} (hx:x.length<=4294967296)(hk: ∀s:Int,0<=s->s<x.length->x.length=y.length->Tot (k s) (λo=>o= .inl (zA .i64<|s+1)\/ ∃b,o= .inr (.inr b))):
    Tot (bif vA (¬(x.length:Int)=(y.length:Int))then wA yA else jA (a0m (λs=>bif vA (s<(x.length:Int))then k s else wA<|.inr<|.inl ()) big 0)<|a0j λ(_:Unit)=>wA oA) (λ_=>True):=by
  refine tI dI λh=>tJ<|tW (λs:Int=>s) x.length (λ_=>True) hx ⟨trivial,av _,dE⟩ (λs _ g0 g1=>tY (dT g1) ?_) λs _ e=>tN (dF dA)<|tR<|tR trivial;have h:=dFF h;refine(hk s g0 g1 dA).mono λo ho=> ?_;rcases ho with rfl|⟨b,rfl⟩;exact⟨trivial,w64 dA dA⟩;trivial
theorem N0j {x y:List Int} (hx:x.length<=4294967296):Tot (i0k x y) (λ_=>True):=by
  unfold i0k;exact w0n hx λs g0 g1 e=>tY (a0c g0 g1)<|tY (a0c g0 dA)<|tI (λ_=>tR<|.inr ⟨_,rfl⟩) λ_=>tR<|.inl rfl
theorem C0P(x:Int):Tot (g0L x) (λ_=>True):=by
  unfold g0L;refine tJ<|tW (λs:Int=>s) 20 (λ_=>True) dG ⟨trivial,av _,dG⟩ (λs _ g0 g1=>tY (dT dA)<|tJ<|tY (a0c g0 g1)<|zC (tI dI dI) λ_ _=>tI dI λ_=>tR (show Tot _ _ from tR ⟨trivial,w64 dA dA⟩)) λs _ e=>tN (dF dA)<|tR<|tR trivial
def O0F(x:Int):Tot (p0V x) (λ_=>True):=by
  unfold p0V;refine zC ?_ dJ
  repeat' (first|exact tR trivial|refine tI (λ_=> ?_) λ_=> ?_)
def D0g(x:Int):Tot (a0s x s0g) (λr=>r.2=s0g):=by
  rw[s0Q<|List.Perm.refl _];exact tB (O0F x) λ_ _=>tI (λ_=>tR rfl) λ_=>tI (λ_=>tR rfl) λ_=>tI (λ_=>tR rfl) λ_=>tB (C0P x) λ_ _=>tI (λ_=>tR rfl) λ_=>tR rfl
theorem P0z(x:Int):Tot (i0f x) (λ_=>True):=by
  unfold i0f;refine tB (p:=λy=>y=s0g) ⟨_,rfl,rfl⟩ λy hy=> ?_;subst hy;exact tB (D0g x) (λ_ _=>tR trivial)
theorem L0c (hl:l.length<=4294967296):Tot (h0Z l) (λ_=>True):=by
  unfold h0Z;refine tB (p:=λy=>y=s0g) ⟨_,rfl,rfl⟩ λy hy=> ?_;subst hy
  refine tJ (tW (λs:Int×List (a0K×Int)=>s.1) l.length (λs=>s.2=s0g) hl ⟨rfl,av _,dE⟩ (λs hs g0 g1=>tY (dT g1) (tJ (tY (a0c g0 g1) (by
    rw[hs]
    exact tB (D0g _) λy hy=>zC (by repeat' (first|exact tR trivial|refine tI (λ_=> ?_) λ_=> ?_)) λ_ _=>tI (λ_=>tR (show Tot _ _ from tR ⟨hy,w64 dA dA⟩)) dI)))) λs _ e=>tN (dF dA)<|tR<|tR trivial)
theorem J0i (hl:l.length<=4294967296):Tot (m0e l) (λ_=>True):=by
  unfold m0e;refine tJ<|tW (λs:Int×Int=>s.2) l.length (λ_=>True) hl ⟨trivial,av _,dE⟩ (λs _ g0 g1=>tY (dT g1)<|tJ<|tY (a0c g0 g1) ?_) λs _ e=>tN (dF dA)<|tR<|tR trivial;have e:zA .i64 (s.2+1)=s.2+1:=w64 dA dA;have two: ∀b c:Bool,Tot (bif b then wA c else wA yA) (λ_=>True):=λb c=>tI dI dI
  exact tB (two _ _) λ_ _=>tI dI λ_=>tB (two _ _) λ_ _=>tI (λ_=>tR (show Tot _ _ from tR ⟨trivial,e⟩)) λ_=>tB (two _ _) λ_ _=>tI dI λ_=>tI (λ_=>tR (show Tot _ _ from tR ⟨trivial,e⟩)) λ_=>tR (show Tot _ _ from tR ⟨trivial,e⟩)
def I0S(s:b0z)(x:Int):Tot (j0t s x) (λ_=>True):=by
  unfold j0t;exact zC (tI dI λ_=>tI dI dI) dJ
theorem D0t (hl:l.length<=4294967296):Tot (k0n s l) (λ_=>True):=by
  unfold k0n;refine tJ<|tW (λs:Int=>s) l.length (λ_=>True) hl ⟨trivial,av _,dE⟩ (λi _ g0 g1=>tY (dT g1)<|tJ<|tY (a0c g0 g1)<|tB (C0P _) λ_ _=>zC (tI dI λ_=>tB (I0S _ _) dJ) λ_ _=>tI dI λ_=>tR (show Tot _ _ from tR ⟨trivial,w64 dA dA⟩)) λi _ e=>tN (dF dA)<|tR (show Tot _ _ from ?_);exact zC (tB (L0c hl) λ_ _=>tI (λ_=>tB (J0i hl) dJ) dI) dJ
def K0Z (hl:l.length<=4294967296):Tot (i0l l) (λr=>r.length<=l.length):=by
  unfold i0l;refine tI (λh=> ?_) λ_=>tY (a0e hl)<|tR<|aj _;obtain rfl:=aw<|ae h;exact⟨[],by show l0p (wA []) (wA [])=_;simp[l0p],dE⟩
def B0g {l:List a0b} (hl:l.length<=4294967296):Tot (e0A l) (λr=>r.length<=l.length):=by
  unfold e0A;refine tI (λh=> ?_) λ_=>tY (a0e hl)<|tR<|aj _;obtain rfl:=aw<|ae h;exact⟨[],by show l0p (wA []) (wA [])=_;simp[l0p],dE⟩
def C0C(a:f0K):Prop:=a.d_.length<=10000000/\a.e_.length<=10000000
def L0n {a:f0K} (ha:C0C a):Tot (f0X s a) (λ_=>True):=by
  unfold f0X;obtain⟨h1,h2⟩:=ha;exact tB (K0Z dA) λc hc=>tY (a0e dA)<|tB (D0t dD) dJ
def F0M {a c:f0K} (ha:C0C a):Tot (g0Y a c) (λ_=>True):=by
  unfold g0Y;exact zC (tB (N0j<|aF ha.1 dG) λ_ _=>tI (λ_=>tB (N0j<|aF ha.2 dG) dJ) dI) dJ
theorem w0s {l:List a0b} (hl:l.length<=4294967296):Tot (e0U l k) (λ_=>True):=by
  unfold e0U;refine zC (tW (λs:Int×Int=>s.2) l.length (λ_=>True) hl ⟨trivial,av _,dE⟩ (λs _ g0 g1=>tY (dT g1)<|zC (tY (a0c g0 g1)<|tI dI dI) λ_ _=>tR ⟨trivial,w64 dA dA⟩) λs _ e=>zE e trivial) dJ
def M0I {l put:List a0b} (hl:l.length<=1000)(hp:put.length<=1):Tot (c0l l put) (λr=>r.length<=1001):=by
  unfold c0l;exact tB (B0g dA) λc hc=>tY (a0e dA)<|tR dD
def q0a (l:List T)(i:Int)(x:T):(c0X l i x).length=l.length:=by simp[c0X]
theorem A0i {l:List a0b} (hl:l.length<=1000):Tot (e0c l) (λr=>r.length<=1001):=by
  unfold e0c;refine tB (B0g dA) λc hc=>tB (p:=λr:List a0b=>r.length<=1001) (tW (λs:Int×List a0b=>s.1) c.length (λs=>s.2.length=c.length) dA ⟨rfl,av _,dE⟩ (λs hs g0 g1=>tY (dT g1) ?_) λs hs e=>tN (dF dA)<|tR dC) λ_ h=>tR h;have hi:inR s.1 s.2.length=true:=a0c g0 dA;refine tB (p:=λr:List a0b=>r.length=c.length) (tY hi<|tY hi<|tI (λ_=>tY hi<|tY hi<|tR<|by rw[q0a];exact hs) λ_=>tR hs) λr hr=>tR ⟨hr,w64 dA dA⟩
theorem G0x (hp:g0r p 1000)(s:Int):Tot (d0m p s) (λr=>r.1.length<=1001/\r.2.length<=1001):=by
  unfold d0m;obtain⟨p1,p2,p3,p4⟩:=hp;have c1:([]:List a0b).length<=1:=by simp
  have c2: ∀t:a0b,([t]:List a0b).length<=1:=λt=>by simp
  have two: ∀ {x y:List a0b} {a:List a0b},x.length<=1000->y.length<=1000->a.length<=1->Tot (jA (c0l x a) λy0=>jA (c0l y []) λy1=>wA (y0,y1)) (λr=>r.1.length<=1001/\r.2.length<=1001):=λhx hy ha=>tB (M0I hx ha) (λa ha=>tB (M0I hy c1) λc hc=>tR ⟨ha,hc⟩)
  refine tI (λ_=>tI (λ_=>two p3 p4 c1) λ_=>two p1 p2<|c2 _) λ_=>tI (λ_=> ?_) λ_=>two p1 p2 c1;refine tJ<|zC (tI (λ_=>tB (w0s dA) λ_ _=>tB (w0s dA) dJ) dI) λ_ _=>tI (λ_=>tB (A0i p3) λa ha=>tB (A0i p4) λc hc=>tR ⟨ha,hc⟩) λ_=>tR<|two p1 p2<|c2 _
theorem x0q {l:List a0b} (hl:l.length<=1001)(hc:cur.length<=6100):Tot (e0S l s cur) (λr=>r.length<=10000000):=by
  unfold e0S;refine tB (show Tot (i0a s cur) (λ_=>True)from tR trivial) λ_ _=>tB (p:=λr:List Int=>r.length<=10000000) (tW (λs:Int×List Int=>s.1) l.length (λs=>(s.2.length:Int)<=6100*s.1) dA ⟨dE,av _,dE⟩ (λu hu g0 g1=>tY (dT g1) ?_) λu hu e=>tN (dF dA)<|tR dC) λ_ h=>tR h;have one: ∀x:Int,Tot (bif room (u.2.length+([x]:List Int).length)then wA (u.2++ [x])else none) (λr:List Int=>(r.length:Int)<=u.2.length+6100):=λx=>tY (a0e dD) (tR<|by simp<;>omega)
  refine tB (p:=λr:List Int=>(r.length:Int)<=u.2.length+6100) (tY (a0c g0 g1)<|tI (λ_=>one _) λ_=>tI (λ_=>one _) λ_=>tI (λ_=>one _) λ_=>tI (λ_=>one _) λ_=>tI (λ_=>tY (a0e dA)<|tR dD) λ_=>tY (a0e dD)<|tR dD) λr hr=>tR ⟨?_,w64 dA dA⟩;rw[w64 (n:=u.1+1) dA dA];simp only;omega
def z0X (hp:g0r p 1000)(hc:cur.length<=6100):Tot (b0c p s g cur) C0C:=by
  unfold b0c;exact tB (G0x hp g) λa ha=>tB (x0q ha.1 hc) λc hc1=>tB (x0q ha.2 hc) λd hd=>tR ⟨hc1,hd⟩
/-! The check of a locale: it answers. -/
theorem v0Q {a c:List a0b} {s:Int} (ha:a.length<=1000)(hc:c.length<=1000):Tot (g0T a c s m) (λ_=>True):=by
  have one: ∀k:Int,Tot (c0N k a c) (λ_=>True):=λk=>by
    unfold c0N;exact tB (w0s dA) (λ_ _=>tB (w0s dA) dJ)
  unfold g0T;refine zC (tI dI λ_=>tI dI dI) λ_ _=>zC (tB (one _) λ_ _=>tI (λ_=>tB (one _) λ_ _=>tI (λ_=>tB (one _) λ_ _=>tI (λ_=>tB (one _) dJ) dI) dI) dI) dJ
def Q0z(a:A0a):Prop:=C0C a.g_/\C0C a.h_/\C0C a.m_
def B0k (hp:g0r p 1000)(hc:cur.length<=6100):Tot (h0V s p cur) Q0z:=by
  unfold h0V;exact tB (z0X hp hc) λa ha=>tB (z0X hp hc) λc hc1=>tB (z0X hp hc) λd hd=>tR ⟨ha,hc1,hd⟩
theorem C0S (hp:g0r p 1000)(hc:cur.length<=6100):Tot (c0F s p cur) (λ_=>True):=by
  unfold c0F;refine tB (B0k hp hc) λa ha=>tJ<|tL (λi:Int=>0<=i/\i<=3) (λi=>(3-i).toNat) dA dG λi hi=> ?_;have st: ∀ {a:f0K} (k:Int),C0C a->0<=k/\k<3/\i=k->zA .i64 (k+1)=k+1->Tot (jA (f0X s a) λy1=>bif !y1 then wA (.inr<|.inr yA)else wA<|.inl<|zA .i64<|k+1) (λx:Int⊕(Unit⊕Bool)=>match x with| .inl s'=>(0<=s'/\s'<=3)/\(3-s').toNat<(3-i).toNat| .inr o=>True):=λ{a} k ha hk e=>tB (L0n ha) (λ_ _=>tI dI λ_=>tR<|by rw[e];simp only;omega)
  have fin:Tot (jA (jA (g0Y a.g_ a.h_) λy4=>bif !y4 then jA (g0Y a.h_ a.m_) λy5=>wA (!y5)else wA yA) λs1=>wA s1) (λ_=>True):=zC (tB (F0M ha.1) λ_ _=>tI (λ_=>tB (F0M ha.2.1) dJ) dI) dJ;refine Tot.mono (p:=λx:Int⊕(Unit⊕Bool)=>match x with| .inl s'=>(0<=s'/\s'<=3)/\(3-s').toNat<(3-i).toNat| .inr o=>True) ?_ λx hx=> ?_;refine tI (λh=>tI (λh0=>st 0 ha.1 ⟨dA,dA,dTT h0⟩ dG) λh0=>tI (λh1=>st 1 ha.2.1 ⟨dA,dA,dTT h1⟩ dG) λh1=>tI (λh2=>st 2 ha.2.2 ⟨dA,dA,dTT h2⟩ dG) λh2=> ?_) dI;have:=dTT h;have:=dFF h0;have:=dFF h1;have:=dFF h2;omega
  match x,hx with
  | .inl _,h=>exact h
  | .inr (.inl _),_=>exact fin
  | .inr (.inr _),_=>trivial
theorem F0v (hl:l.length<=4294967296):Tot (b0d l x) (λ_=>True):=by
  unfold b0d m0U;exact zC (tJ<|tW (λs:Int=>s) l.length (λ_=>True) hl ⟨trivial,av _,dE⟩ (λi _ g0 g1=>tY (dT g1)<|tY (a0c g0 g1)<|tI dI λ_=>tR ⟨trivial,w64 dA dA⟩) λi _ e=>tN (dF dA)<|tR<|tR trivial) dJ
def E0L(s:b0z)(x:Int):Tot (i0j s x) (λ_=>True):=by
  unfold i0j;refine zC ?_ λ_ _=>zC (tI dI λ_=>tB (I0S _ _) dJ) dJ;unfold s0S;exact tJ<|zC (tI dI dI) λ_ _=>tI dI λ_=>tR<|tR trivial
theorem H0a (hp:g0r p 1000):Tot (j0o s p) (λ_=>True):=by
  unfold j0o;refine tI dI λ_=>tB (P0z _) λ_ _=>tJ<|zC (tI (λ_=>tI dI λ_=>tB (E0L _ _) dJ) λ_=>tB (E0L _ _) dJ) λ_ _=>tI dI λ_=>tR (show Tot _ _ from ?_);refine tJ<|tB (B0k hp dE) λa ha=>tL (λi:Int=>0<=i/\i<=3) (λi=>(3-i).toNat) dA dG λi hi=> ?_;have st: ∀ {a:f0K},C0C a->Tot (jA (b0d a.d_ p.y_) λy4=>bif y4 then wA oA else jA (b0d a.e_ p.y_) λy5=>wA y5) (λ_=>True):=λha=>tB (F0v<|aF ha.1 dG) (λ_ _=>tI dI λ_=>tB (F0v<|aF ha.2 dG) dJ)
  refine tI (λh=>tJ<|Tot.mono (p:=λx:Int⊕(Int⊕(Unit⊕Bool))=>match x with| .inl s'=>s'=i| .inr (.inl _)=>False| .inr (.inr<|.inl _)=>False| .inr (.inr<|.inr _)=>True) ?_ λx hx=> ?_) λ_=>tR<|tR trivial;refine tI (λh0=>tB (st ha.1) λ_ _=>tI dI λ_=>tR (dTT h0).symm) λh0=>tI (λh1=>tB (st ha.2.1) λ_ _=>tI dI λ_=>tR (dTT h1).symm) λh1=>tI (λh2=>tB (st ha.2.2) λ_ _=>tI dI λ_=>tR (dTT h2).symm) λh2=> ?_;have:=dTT h;have:=dFF h0;have:=dFF h1;have:=dFF h2;omega
  match x,hx with
  | .inl s',e=>
    have:=dTT h;subst e;refine tR ?_;rw[w64 (n:=s'+1) dA dA];exact⟨dA,dA⟩
  | .inr (.inr<|.inr _),_=>trivial
theorem w0a (ht:t.length<=100000):Tot (l0P t) (λr=>g0r r.1 1000):=by
  unfold l0P;refine tB (z0f ht) (λy hy=> ?_)
  have hy:g0r y.1 1000:=⟨by have:=hy.1;omega,by have:=hy.2.1;omega,by have:=hy.2.2.1;omega,by have:=hy.2.2.2;omega⟩
  exact zC (tI (λ_=>tB (J0F hy) dJ) dI) λ_ _=>tR hy
def M0v(p:a0h)(s:Int):Tot (k0w p s) (λ_=>True):=by
  unfold k0w
  repeat' (first|exact tR trivial|refine zI ?_ ?_|refine zB ?_ λ_=> ?_)
def M0G: ∀ {a c d e:List a0b},a=[]->c=[]->d=[]->e=[]->g0r (⟨a,c,d,e,yA,0,0,0,0,0,0,0,0,0,yA,0,0⟩:a0h) 1000:=by
  rintro _ _ _ _ rfl rfl rfl rfl;exact⟨dE,dE,dE,dE⟩
def f0A (ht:t.length<=100000):Tot (b0w s k t) (λr=>g0r r.1 1000):=by
  have z:=M0G rfl rfl rfl rfl;unfold b0w;refine tB (w0a ht) λy hy=> ?_;obtain⟨h1,h2,h3,h4⟩:=id hy;refine tJ<|zC (tI dI λ_=>tI dI dI) λ_ _=>tI (λ_=>tR z) λ_=>tR (show Tot _ _ from ?_);refine tJ<|zC (tB (M0v _ _) λ_ _=>tI dI λ_=>tB (v0Q h1 h2) λ_ _=>tI dI λ_=>tI (λ_=>tB (v0Q h3 h4) dJ) dI) λ_ _=>tI (λ_=>tR z) λ_=>tR (show Tot _ _ from ?_);exact tJ<|zC (tB (C0S hy dE) λ_ _=>tI dI λ_=>tB (H0a hy) dJ) λ_ _=>tI (λ_=>tR z) λ_=>tR (show Tot _ _ from tR hy)
theorem M0A(c:Int):Tot (q0u c) (λ_=>True):=by
  unfold q0u;refine zC (by unfold l0d;exact tR trivial) λ_ _=>tJ<|tB (p:=λb=>b=yA->0<=c/\c<6) (tI (λ_=>tR dH) λh=>tR λh2=> ?_) λb hb=>tI dI λe=>tR (show Tot _ _ from ?_);have:=dFF h;have:=dFF h2;omega;have:=hb e;refine tI dI λh0=>tI dI λh1=>tI dI λh2=>tI dI λh3=>tI dI λh4=>tI dI λh5=> ?_;have:=dFF h0;have:=dFF h1;have:=dFF h2;have:=dFF h3;have:=dFF h4;have:=dFF h5;omega
def v0B {c:j0s} (ht:c.X_.length<=100000):Tot (d0y s c) (λr=>g0r r.1 1000):=by
  have z:=M0G rfl rfl rfl rfl;unfold d0y;refine tB (w0a ht) λy hy=> ?_;obtain⟨h1,h2,h3,h4⟩:=id hy;refine tJ<|zC (tI dI λ_=>tI dI λ_=>tI dI λ_=>tB (M0A _) dJ) λ_ _=>tI (λ_=>tR z) λ_=>tR (show Tot _ _ from ?_);refine tJ<|zC (tI dI λ_=>tI dI λ_=>tI dI dI) λ_ _=>tI (λ_=>tR z) λ_=>tR (show Tot _ _ from tI (λ_=>tR z) λ_=> ?_);exact tJ<|zC (tB (v0Q h1 h2) λ_ _=>tI dI λ_=>tB (C0S hy dE) dJ) λ_ _=>tI (λ_=>tR z) λ_=>tR (show Tot _ _ from tR hy)
/-! Rules are read, and written: it answers. -/
def inI(n:Int):Prop:= -9223372036854775808<=n/\n<=9223372036854775807
def A0e(n:Int):inI (zA .i64 n):=by
  have h:zA .i64 n=if n%18446744073709551616≥9223372036854775808 then n%18446744073709551616-18446744073709551616 else n%18446744073709551616:=by
    unfold zA;simp[oF,zH]
  unfold inI;rw[h];split<;>omega
def P0G:inI 0:=⟨dA,dA⟩
def rb(t:List UInt8)(i:Int):Prop:=0<=i/\i<=(t.length:Int)
def P0x(k:Int->Option Bool)(x0:List UInt8)(x1:Int):Option ((List UInt8)×Int):=
  (jA (a0m (λ(s1:Int)=>(jA (jA (bif(vA<|s1<(x0.length:Int))then(bif inR s1 x0.length then(wA<|(vA<|((((x0.getD (s1:Int).toNat 0).toNat:Nat):Int))=32))else none)else(wA yA)) λ(s2:Bool)=>(bif s2 then(wA<|.inl ())else(wA<|.inr<|.inr s1)))<|a0j λ(s3:Unit)=>(wA<|.inl<|zA .i64<|s1+1))) big x1) λ(s4:Int)=>(jA (a0m (λ(s5:Int)=>(jA (jA (bif(vA<|s5<(x0.length:Int))then(bif inR s5 x0.length then(jA (k<|(((x0.getD (s5:Int).toNat 0).toNat:Nat):Int)) λy0=>(wA y0))else none)else(wA yA)) λ(s6:Bool)=>(bif s6 then(wA<|.inl ())else(wA<|.inr<|.inr s5)))<|a0j λ(s7:Unit)=>(wA<|.inl<|zA .i64<|s5+1))) big s4) λ(s8:Int)=>(bif inS s4 s8 x0.length then(wA ((cut x0 s4 s8),s4))else none)))
section
variable {t : List UInt8} (ht : t.length <= 400)
include ht
theorem I0d {k:Int->Option Bool} (hk: ∀x,Tot (k x) λ_=>True) (h:rb t i):Tot (a0m (λ(s5:Int)=>(jA (jA (bif(vA<|s5<(t.length:Int))then(bif inR s5 t.length then(k<|(((t.getD (s5:Int).toNat 0).toNat:Nat):Int))else none)else(wA yA)) λ(s6:Bool)=>(bif s6 then(wA<|.inl ())else(wA<|.inr<|.inr s5)))<|a0j λ(s7:Unit)=>(wA<|.inl<|zA .i64<|s5+1))) big i) (λr=>rb t r/\i<=r):=by
  refine tL (λs=>rb t s/\i<=s) (λs=>((t.length:Int)-s).toNat) ⟨h,av _⟩ (by have:=h.1;omega) λs hs=> ?_;obtain⟨⟨g0,g1⟩,g2⟩:=hs;refine tJ<|tB (p:=λr=>r=oA->s<t.length) (tI (λe=>tY (a0c g0<|dTT e)<|(hk _).mono λ_ _ _=>dTT e) λ_=>tR dH) λr hr=>tI (λe=>tR (show Tot _ _ from tR ?_)) λ_=>tR ⟨⟨g0,g1⟩,g2⟩;have:=hr e;rw[w64 (n:=s+1) dA dA];exact⟨⟨⟨dA,dA⟩,dA⟩,dA⟩
theorem J0x {k:Int->Option Bool} (hk: ∀x,Tot (k x) λ_=>True) (h:rb t i):Tot (P0x k t i) (λr=>rb t r.2/\i<=r.2/\r.2+r.1.length<=t.length):=by
  unfold P0x;have hk2: ∀x,Tot (jA (k x) λy0=>wA y0) (λ_=>True):=λx=>tB (hk x) dJ
  refine tB (I0d ht (k:=λx=>wA<|vA<|x=32) dI h) λa ha=>tB (I0d ht hk2 ha.1) λb hb=>tY (l0j ha.1.1 hb.2 hb.1.2)<|tR ⟨ha.1,ha.2, ?_⟩;have h1:=ha.1.1;have h2:=hb.2;have h3:=hb.1.2;unfold cut;simp;omega
theorem y0t {q:List UInt8} (h:rb t i)(hq:q.length<=3):Tot (b0u q t i) (λr=>rb t r.2/\i<=r.2):=by
  unfold b0u;refine tB (J0x ht (k:=h0d) dI h) λa ha=>tY (l0j ha.1.1 ha.1.2<|av _)<|tB (p:=λr=>r=oA->a.2+q.length<=t.length) ?_ λy hy=>tI (λ_=>tR ⟨ha.1,ha.2.1⟩) λe=>tR ?_;unfold h0F f0v;refine tB (p:=λr=>r=oA->a.2+q.length<=t.length) (tB (p:=λr=>r=oA->a.2+q.length<=t.length) (tI (λe=> ?_) λ_=>tR dH) λ_ h=>tR h) λ_ h=>tR h;have e:=dTT e;refine tY (l0j (av _) dA e)<|tR λ_=> ?_;have h1:=ha.1.1;have h2:=ha.1.2;unfold cut at e;simp at e;omega;have:=hy (by simpa using e);have h1:=ha.1.1;have h2:=ha.2.1;rw[w64 (n:=a.2+q.length) dA dA];exact⟨⟨dC,dC⟩,dC⟩
theorem C0O (h:rb t i):Tot (c0Z t i) (λr=>rb t r.2/\i<=r.2/\r.2+r.1.length<=t.length):=by
  unfold c0Z;refine tB (J0x ht (k:=e0H) (λx=> ?_) h) λa ha=>tR ha;unfold e0H;refine zC ?_ dJ
  repeat' (first|exact tR trivial|refine tI (λ_=> ?_) λ_=> ?_)
theorem E0d (h:rb t i):Tot (b0I v t i) (λr=>rb t r.2.2/\i<=r.2.2/\inI r.1/\(r.2.1=oA->i<r.2.2)):=by
  unfold b0I;have z:=P0G;refine tB (J0x ht (k:=d0L) (λx=> ?_) h) (λa ha=>tJ<|tB (p:=λr=>r=yA->0<a.1.length) ?_ λr hr=>tI (λ_=>tR ⟨ha.1,ha.2.1,z,λh=>by cases h⟩) λe=>tR (show Tot _ _ from ?_));unfold d0L;exact zC (tI dI dI) dJ;refine tI (λ_=>tR dH) λe=> ?_;have e:=dFF e;refine tI (λ_=>tR dH) λ_=>tI (λ_=>tY (a0c (av _) dA)<|tR λ_=>dA) λ_=>tR λ_=>dA;have:=hr e;obtain⟨⟨h0,h1⟩,h2,h3⟩:=ha;have hL:(b0l a.1).length=a.1.length:=d0w _;refine tB (p:=inI) (tW (λs:Int×Int=>s.2) (b0l a.1).length (λs=>inI s.1) dA ⟨z,av _,dE⟩ (λs hs g0 g1=> ?_) λs hs e=> ?_) (λn hn=>tI (λ_=>tR ⟨⟨h0,h1⟩,h2,z,λh=>by cases h⟩) λ_=>tR ?_);exact tY (dT g1)<|tY (a0c g0 g1) (tR ⟨A0e _,w64 dA dA⟩)
  rw[dF (show¬s.2<((b0l a.1).length:Int) by omega)];exact tR hs;have:=h.1;rw[w64 (n:=a.2+a.1.length) dA dA];exact⟨⟨dC,dC⟩,dC,hn,λ_=>dC⟩
theorem M0q (h:rb t i) {x2 x3 x4} :Tot (d0j t i x2 x3 x4) (λr=>r.1=oA->rb t r.2.1/\i<r.2.1):=by
  unfold d0j;refine tB (C0O ht h) λa ha=>tJ<|tB (p:=λr=>r=yA->a.1.length=1) ?_ λr hr=>tI (λ_=>tR dH) λe=>tR (show Tot _ _ from ?_);refine tI (λ_=>tR dH) λe=>zC ?_ λ_ _=>tR λ_=> ?_;unfold i0E l0w h0E stringslite_IndexByte;have e:(a.1.length:Int)=1:=by have:=dFF e;omega
  rw[dF (show¬(a.1.length:Int)=0 by omega),dT e];refine zC (zC (zC (tR trivial) λ_ _=>tI dI λ_=>tY rfl<|tY (a0c (av _) dA)<|tR trivial) dJ) dJ;have:=dFF e;omega;have:=hr e;obtain⟨⟨h0,h1⟩,h2,h3⟩:=ha;refine tY (a0c (av _) dA)<|tR λ_=> ?_;rw[w64 (n:=a.2+1) dA dA];exact⟨⟨dC,dC⟩,dC⟩
theorem M0B (h:rb t i) {x2 x4} :Tot (e0I t i x2 0 x4) (λr=>rb t r.2.1/\i<=r.2.1/\inI r.2.2):=by
  unfold e0I;exact tB (y0t ht h dE) λa ha=>tI (λ_=>tR ⟨ha.1,ha.2,P0G⟩) λ_=>tB (E0d ht ha.1) λc hc=>tR ⟨hc.1,bM ha.2 hc.2.1,hc.2.2.1⟩
theorem J0p (h:rb t i) {x2 x3 x4} :Tot (e0j t i x2 x3 x4) (λr=>rb t r.2.1/\i<=r.2.1):=by
  unfold e0j;exact tB (y0t ht h dE) λa ha=>tI (λ_=>tR ha) λ_=>tB (y0t ht ha.1 dE) λc hc=>tR ⟨hc.1,bM ha.2 hc.2⟩
def J0C(l:List a0T):Prop:=l.length<=400/\ ∀x∈l,inI x.g_/\inI x.h_
theorem G0T (h:rb t i) {x2 x3 x4} :Tot (d0C t i x2 x3 x4) (λr=>rb t r.2.1/\i<=r.2.1/\J0C r.2.2):=by
  unfold d0C;refine tL (λs:Int×List a0T=>rb t s.1/\i<=s.1/\(s.2.length:Int)<=s.1/\ ∀x∈s.2,inI x.g_/\inI x.h_) (λs=>((t.length:Int)-s.1).toNat) ⟨h,av _,by have:=h.1;simpa using this,dE⟩ (by have:=h.1;simp only;omega) λs hs=> ?_;obtain⟨g1,g2,g3,g4⟩:=hs;refine tB (E0d ht g1) λa ha=>tB (p:=λr:Bool×Int×Int=>rb t r.2.2/\a.2.2<=r.2.2/\inI r.2.1/\(r.1=oA->a.2.1=oA)) ?_ λc hc=> ?_;refine tB (p:=λr:Bool×Int=>rb t r.2/\a.2.2<=r.2/\(r.1=oA->a.2.1=oA)) (tI (λe=>tB (y0t ht ha.1 dE) λc hc=>tR ⟨hc.1,hc.2,λ_=>e⟩) λ_=>tR ⟨ha.1,av _,λh=>by cases h⟩) λc hc=> ?_;exact tI (λe=>tB (E0d ht hc.1) λd hd=>tR ⟨hd.1,bM hc.2.1 hd.2.1,hd.2.2.1,λ_=>hc.2.2 e⟩) λ_=>tR ⟨hc.1,hc.2.1,ha.2.2.1,id⟩;obtain⟨⟨c0,c1⟩,c2,c3,c4⟩:=hc;have a2:=ha.2.1
  have hall: ∀x∈s.2++ [(⟨a.1,c.2.1⟩:a0T)],inI x.g_/\inI x.h_:=λx hx=>by
    rcases al.1 hx with hx|hx;exact g4 x hx;obtain rfl:=aE.1 hx;exact⟨ha.2.2.1,c3⟩
  have g1':=g1.2;refine tI (λ_=>tR ⟨⟨c0,c1⟩,dC,dC,g4⟩) λe=>tY (a0e dD)<|tB (y0t ht ⟨c0,c1⟩ dE) λd hd=> ?_;have:=ha.2.2.2 (c4<|by simpa using e);obtain⟨⟨d0,d1⟩,d2⟩:=hd;exact tI (λ_=>tR ⟨⟨d0,d1⟩,dC,dD,hall⟩) λ_=>tR ⟨⟨⟨d0,d1⟩,dC,dD,hall⟩,dC⟩
def B0K(r:a0z):Prop:=inI r.an_/\J0C r.R_
theorem B0J (h:rb t i):Tot (c0R t i) (λr=>r.2.1=oA->rb t r.2.2/\i<r.2.2/\B0K r.1):=by
  unfold c0R;refine tJ<|tB (p:=λs:Bool×Int×Int×Int×Bool×List a0T=>s.1=oA->rb t s.2.1/\i<s.2.1/\inI s.2.2.2.1/\J0C s.2.2.2.2.2) ?_ λs hs=>tI (λe=>tR λ_=>⟨(hs e).1,(hs e).2.1,(hs e).2.2.1,(hs e).2.2.2⟩) λ_=>tR (show Tot _ _ from tR dH);refine tB (M0q ht h) λa ha=>tI (λe=> ?_) λ_=>tR dH;have ha:=ha e;refine tB (M0B ht ha.1) λc hc=>tI (λ_=>tB (J0p ht hc.1) λd hd=>tI (λ_=>tB (G0T ht hd.1) λf hf=>tR λ_=>⟨hf.1, ?_,hc.2.2,hf.2.2⟩) λ_=>tR dH) λ_=>tR dH;exact Int.lt_of_lt_of_le ha.2<|bM hc.2.1<|bM hd.2 hf.2.1
def D0z(l:List a0z):Prop:=l.length<=400/\ ∀r∈l,B0K r
def n0S(c:List<|List a0z):Prop:=c.length<=401/\ ∀l∈c,D0z l
theorem L0X:Tot (e0k t 0) (λr=>n0S r.1):=by
  unfold e0k;refine tJ<|Tot.mono (p:=λx=>match x with| .inl s=>(s.2.1.length:Int)<=400/\(∀l∈s.2.1,D0z l)/\D0z s.2.2| .inr r=>n0S r.1) (tL (λs:Int×List (List a0z)×List a0z=>rb t s.1/\(s.2.1.length:Int)<=s.1/\(s.2.2.length:Int)<=s.1/\(∀l∈s.2.1,D0z l)/\ ∀r∈s.2.2,B0K r) (λs=>((t.length:Int)-s.1).toNat) ⟨⟨av _,dC⟩,dE,dE,dE,dE⟩ dC λs hs=> ?_) λx hx=> ?_;obtain⟨g1,g2,g3,g4,g5⟩:=hs;refine tB (B0J ht g1) λa ha=>tI (λ_=>tR ⟨dE,dE⟩) λe=> ?_;obtain⟨a1,a2,a3⟩:=ha (by simpa using e);have g1':=g1.2;have a1':=a1.2
  have hall: ∀r∈s.2.2++ [a.1],B0K r:=λx hx=>by
    rcases al.1 hx with hx|hx;exact g5 x hx;obtain rfl:=aE.1 hx;exact a3
  have hrow:D0z (s.2.2++ [a.1]):=⟨dD,hall⟩
  refine tY (a0e dD)<|tB (C0O ht a1) λw hw=> ?_;obtain⟨⟨w0,w1⟩,w2,w3⟩:=hw;have ew:zA .i64 (w.2+w.1.length)=w.2+w.1.length:=w64 dA dA;rw[ew];refine tI (λ_=>tR ⟨⟨⟨dC,dC⟩,dC,dD,g4,hall⟩,dC⟩) λ_=>tI (λ_=>tY (a0e dD)<|tR ⟨⟨⟨dC,dC⟩,dD,dD,λl hl=> ?_,dE⟩,dC⟩) λ_=>tR ⟨dC,g4,hrow⟩;rcases al.1 hl with hl|hl;exact g4 l hl;obtain rfl:=aE.1 hl;exact hrow
  cases x with
  |inr r=>exact hx
  |inl s=>
    obtain⟨s1,s2,s3⟩:=hx;refine show Tot _ _ from tY (a0e dD) (tR ⟨dD,λl hl=> ?_⟩)
    rcases al.1 hl with hl|hl;exact s2 l hl;obtain rfl:=aE.1 hl;exact s3
end
theorem c0x [Inhabited T] {l:List T} (h0:0<=i)(h1:i<l.length):nth l i∈l:=by
  obtain⟨k,rfl⟩:=Int.eq_ofNat_of_zero_le h0;rw[k0J dA];exact ca _
theorem C0R {c:List (List a0z)} (hc:n0S c):Tot (k0p c) (λ_=>True):=by
  unfold k0p;have hn:=hc.1;refine tJ<|tW (λs:Int×Int=>s.2) c.length (λ_=>True) dA ⟨trivial,av _,dE⟩ (λs _ g0 g1=> ?_) λs _ e=> ?_;rw[dT g1];have hm:=(hc.2 _<|c0x g0 g1).1;refine tJ<|tY (a0c g0 g1)<|tW (λs:Int=>s) (nth c s.2).length (λ_=>True) dA ⟨trivial,av _,dE⟩ (λu _ f0 f1=> ?_) λu _ e=> ?_;exact tY (dT f1)<|tY (a0c f0 f1) (tI dI λ_=>tR ⟨trivial,w64 dA dA⟩)
  rw[dF (show¬u<((nth c s.2).length:Int) by omega)];exact tR<|tR ⟨trivial,w64 dA dA⟩;rw[dF (show¬s.2<(c.length:Int) by omega)];exact tR<|tR trivial
theorem A0p(t:List UInt8):Tot (k0Z t) (λr=>n0S r.1):=by
  unfold k0Z
  have z:n0S []:=⟨dE,dE⟩
  refine tI (λ_=>tR z) λe=> ?_;have e:=dFF e;exact tB (L0X dA) λa ha=>tI (λ_=>tR z) λ_=>tB (C0R ha) λ_ _=>tI (λ_=>tR z) λ_=>tR ha
/-! Decimal numerals: what the library's functions lay. -/
def dgs(u:Nat):Nat->List Int
  |0=> []
  |n+1=>dgs (u/10) n++ [((48+u%10:Nat):Int)]
def F0p: ∀(n u:Nat),(dgs u n).length=n
  |0,u=>rfl
  |n+1,u=>by simp[dgs,F0p n]
def K0Q(u n:Nat):dgs u (n+2)=dgs (u/100) n++ [((48+u/10%10:Nat):Int),((48+u%10:Nat):Int)]:=by
  show dgs (u/10) (n+1)++_=_;show(dgs (u/10/10) n++_)++_=_;rw[cU,aP];rfl
def N0o: ∀(u:Nat),dgs u (Lib.nDigits u)=b0l (Lib.decDigits u):=by
  intro u
  induction u using Nat.strongRecOn with
  |_ u ih=>
    by_cases h:u<10;rw[Lib.nDigits_small h,Lib.decDigits,dif_pos h];simp only[dgs,b0l,ao,aI,aU];rw[UInt8.toNat_ofNat_of_lt'<|by simp only[UInt8.size];omega,cX h];rw[Lib.nDigits_big h,Lib.decDigits,dif_neg h];show dgs (u/10) (Lib.nDigits<|u/10)++_=_;rw[ih (u/10) dA];simp only[b0l,cA,ao,aI];rw[UInt8.toNat_ofNat_of_lt'<|by simp only[UInt8.size];omega]
theorem O0D(p:Nat)(h:p<100):(k1_.getD (p*2) 0).toNat=48+p/10:=by
  have: ∀q:Fin 100,(k1_.getD (q.val*2) 0).toNat=48+q.val/10:=by decide+kernel
  exact this ⟨p,h⟩
theorem O0C(p:Nat)(h:p<100):(k1_.getD (p*2+1) 0).toNat=48+p%10:=by
  have: ∀q:Fin 100,(k1_.getD (q.val*2+1) 0).toNat=48+q.val%10:=by decide+kernel
  exact this ⟨p,h⟩
def tm8(a:Nat):oC (a:Int) 100000000=((a%100000000:Nat):Int):=by rw[ck dA];omega
def tm4(a:Nat):oC (a:Int) 10000=((a%10000:Nat):Int):=by rw[ck dA];omega
def tm2(a:Nat):oC (a:Int) 100=((a%100:Nat):Int):=by rw[ck dA];omega
def td8(a:Nat):wE (a:Int) 100000000=((a/100000000:Nat):Int):=by rw[bz dA];omega
def td4(a:Nat):wE (a:Int) 10000=((a/10000:Nat):Int):=by rw[bz dA];omega
def td2(a:Nat):wE (a:Int) 100=((a/100:Nat):Int):=by rw[bz dA];omega
def C0K (h:a<4294967296):IntKind.u32.wrap (a:Int)=(a:Int):=P0M dA dA
def O0a (h:a<18446744073709551616):IntKind.u64.wrap (a:Int)=(a:Int):=L0s dA dA
def J0Z(a:Nat):(a:Int)*2=((a*2:Nat):Int):=by omega
def M0N:k1_.length=200:=by kernel_rfl
def O0J (h:a<200):inR (a:Int) k1_.length=true:=k0M (by rw[M0N];exact h)
def s0Y (xs:List T)(j:Int)(y:T):(c0X xs j y).length=xs.length:=by simp[c0X]
def G0b(x:Int):((0:Nat):Int)+x=x:=by simp
def D0r (p l:List T)(k:Nat)(v:T):c0X (p++l) (((p.length+k:Nat):Int)) v=p++l.set k v:=by
  unfold c0X;rw[bF,List.set_append_right _ _ dA];congr 2;omega
def O0L {o j n:Nat} (h:o+j<n):inP o (j:Int) n=true:=by simp[inP];omega
def w0O {b:Nat} (h:b<=a)(h2:a<1000):zA .i64 ((a:Int)-(b:Int))=((a-b:Nat):Int):=by rw[w64 dA dA];omega
def J0a (h:1<=a)(h2:a<1000):zA .i64 ((a:Int)-1)=((a-1:Nat):Int):=w0O h h2
def I0Z (h:2<=a)(h2:a<1000):zA .i64 ((a:Int)-2)=((a-2:Nat):Int):=w0O h h2
def L0E (h:3<=a)(h2:a<1000):zA .i64 ((a:Int)-3)=((a-3:Nat):Int):=w0O h h2
def L0D (h:4<=a)(h2:a<1000):zA .i64 ((a:Int)-4)=((a-4:Nat):Int):=w0O h h2
def O0e (h:5<=a)(h2:a<1000):zA .i64 ((a:Int)-5)=((a-5:Nat):Int):=w0O h h2
def O0d (h:6<=a)(h2:a<1000):zA .i64 ((a:Int)-6)=((a-6:Nat):Int):=w0O h h2
def O0c (h:7<=a)(h2:a<1000):zA .i64 ((a:Int)-7)=((a-7:Nat):Int):=w0O h h2
def O0b (h:8<=a)(h2:a<1000):zA .i64 ((a:Int)-8)=((a-8:Nat):Int):=w0O h h2
def FB(R:List Int)(x0:Nat)(s:Int×Int×List Int):Prop:= ∃(v n:Nat) (p q:List Int),s=((v:Int),(n:Int),p++q)/\p.length=n/\v<10^n/\v<18446744073709551616/\p.length+q.length=24/\n<=x0/\dgs v n++q=R
def O0x {p:List Int} {k:Nat} (h:p.length=k+8): ∃p' a b c d e f g i,p=p'++ [a,b,c,d,e,f,g,i]/\p'.length=k:=by
  refine⟨p.take k, ?_⟩;have h2:(p.drop k).length=8:=by simp;omega
  match hd:p.drop k,h2 with
  | [a,b,c,d,e,f,g,i],_=>exact⟨a,b,c,d,e,f,g,i,by rw[<-hd,bv],dD⟩
def Q0u(u n:Nat):dgs u (n+8)=dgs (u/100000000) n++ [((48+u%100000000/10000/100/10:Nat):Int),((48+u%100000000/10000/100%10:Nat):Int),((48+u%100000000/10000%100/10:Nat):Int),((48+u%100000000/10000%100%10:Nat):Int),
    ((48+u%100000000%10000/100/10:Nat):Int),((48+u%100000000%10000/100%10:Nat):Int),((48+u%100000000%10000%100/10:Nat):Int),((48+u%100000000%10000%100%10:Nat):Int)]:=by
  rw[K0Q,K0Q,K0Q,K0Q];simp only[aP,bh,aU,cU];congr 1;congr 1;omega;congr 1;omega;congr 1;omega;congr 1;omega;congr 1;omega;congr 1;omega;congr 1;omega;congr 1;omega
def L0m(a:Nat):(a:Int)+1=((a+1:Nat):Int):=by omega
def E0G(p:Nat)(h:p<100):(((k1_.getD (((p*2:Nat):Int)).toNat 0).toNat:Nat):Int)=((48+p/10:Nat):Int):=by rw[bF,O0D p h]
def E0F(p:Nat)(h:p<100):(((k1_.getD (((p*2+1:Nat):Int)).toNat 0).toNat:Nat):Int)=((48+p%10:Nat):Int):=by rw[bF,O0C p h]
def w8c (h:a<256):IntKind.u8.wrap (a:Int)=(a:Int):=w8 dA dA
def P0g(a:Nat):(48:Int)+(a:Int)=((48+a:Nat):Int):=by omega
def L0C:((0:Nat):Int)+0=((0:Nat):Int):=rfl
def O0M {n:Nat} (h:0<n):inP 0 0 n=true:=by simp[inP];omega
def O0K {n:Nat} (hx:x.toNat=n)(h:0<n):inR 0 x.toNat=true:=a0c dA dA
def J0t (p:List T)(k:Nat)(v:T):c0X p ((k:Nat):Int) v=p.set k v:=by simp[c0X]
def FA(R:List Int)(x0 b:Nat)(s:Int×Int×List Int):Prop:= ∃(v n:Nat) (p q:List Int),s=((n:Int),(v:Int),p++q)/\p.length=n/\v<4294967296/\v<10^n/\n<b/\p.length+q.length=24/\n<=x0/\dgs v n++q=R
def O0y {p:List Int} {k:Nat} (h:p.length=k+4): ∃p' a b c d,p=p'++ [a,b,c,d]/\p'.length=k:=by
  refine⟨p.take k, ?_⟩;have h2:(p.drop k).length=4:=by simp;omega
  match hd:p.drop k,h2 with
  | [a,b,c,d],_=>exact⟨a,b,c,d,by rw[<-hd,bv],dD⟩
def O0z {p:List Int} {k:Nat} (h:p.length=k+2): ∃p' a b,p=p'++ [a,b]/\p'.length=k:=by
  refine⟨p.take k, ?_⟩;have h2:(p.drop k).length=2:=by simp;omega
  match hd:p.drop k,h2 with
  | [a,b],_=>exact⟨a,b,by rw[<-hd,bv],dD⟩
def Q0v(u n:Nat):dgs u (n+4)=dgs (u/10000) n++ [((48+u%10000/100/10:Nat):Int),((48+u%10000/100%10:Nat):Int),((48+u%10000%100/10:Nat):Int),((48+u%10000%100%10:Nat):Int)]:=by
  rw[K0Q,K0Q];simp only[aP,bh,aU,cU];congr 1;congr 1;omega;congr 1;omega;congr 1;omega;congr 1;omega
set_option maxHeartbeats 4000000 in
theorem O0P {v n:Nat} {a:List Int} (hn:n<=24)(ha:a.length=24)(hv:v<10^n)(hv2:v<18446744073709551616):d0i (n:Int) (v:Int) a=wA (dgs v n++a.drop n):=by
  unfold d0i;have tn:((n:Int)).toNat=n:=by omega
  refine r0F (λs=>FB (dgs v n++a.drop n) n s/\s.2.1<8) (x0R (FB (dgs v n++a.drop n) n) (λs=>s.2.1.toNat) _ (λs hs=> ?_) _ _ ?_ ?_) ?_;obtain⟨w,k,p,q,rfl,hp,hw,hw2,hl,hk,hR⟩:=hs;by_cases h8:8<=k;left
  obtain⟨j,rfl⟩: ∃j,k=j+8:=⟨k-8,dA⟩
  obtain⟨p,a0,a1,a2,a3,a4,a5,a6,a7,rfl,hp'⟩:=O0x hp;have hpl:p.length+8+q.length=24:=by simp at hl;omega
  refine⟨(((w/100000000:Nat):Int),((j:Nat):Int),p++([((48+w%100000000/10000/100/10:Nat):Int),((48+w%100000000/10000/100%10:Nat):Int),((48+w%100000000/10000%100/10:Nat):Int),((48+w%100000000/10000%100%10:Nat):Int),
    ((48+w%100000000%10000/100/10:Nat):Int),((48+w%100000000%10000/100%10:Nat):Int),((48+w%100000000%10000%100/10:Nat):Int),((48+w%100000000%10000%100%10:Nat):Int)]++q)), ?_,⟨w/100000000,j,p,_,rfl,hp', ?_,dA, ?_,dA, ?_⟩,by simp only[bF];omega⟩
  simp only[];have d8:vA (((j+8:Nat):Int)≥8)=true:=dT dA;rw[d8];have hlen0:(p++ [a0,a1,a2,a3,a4,a5,a6,a7]++q).length=24:=by simp;omega
  have e1:j+8-1=p.length+7:=by omega
  have e2:j+8-2=p.length+6:=by omega
  have e3:j+8-3=p.length+5:=by omega
  have e4:j+8-4=p.length+4:=by omega
  have e5:j+8-5=p.length+3:=by omega
  have e6:j+8-6=p.length+2:=by omega
  have e7:j+8-7=p.length+1:=by omega
  have e8:j+8-8=p.length+0:=by omega
  simp(disch:=omega) only[tm8,tm4,tm2,td8,td4,td2,C0K,O0a,J0Z,L0m,O0J,J0a,I0Z,L0E,L0D,O0e,O0d,O0c,O0b,e1,e2,e3,e4,e5,e6,e7,e8,tn,k0M,jC];simp(disch:=omega) only[s0Y,hlen0,O0L,jC,E0G,E0F,G0b];simp only[aP,D0r,bh,aU,cB,cC]
  try simp only[cG,hp']
  rw[Nat.pow_add]at hw;exact cK (by rw[db];exact hw);simp;omega;rw[<-hR,Q0u,aP];right;refine⟨((w:Int),(k:Int),p++q), ?_,⟨w,k,p,q,rfl,hp,hw,hw2,hl,hk,hR⟩,dC⟩;rw[dF dC];rfl;exact⟨v,n,a.take n,a.drop n,by rw[bv,tn],dD,hv,hv2,dD,aj _,rfl⟩;simp only[bF];exact F0H dA;rintro s ⟨⟨w,k,p,q,rfl,hp,hw,hw2,hl,hk,hR⟩,h8⟩;simp only at h8;have hk8:k<8:=by omega
  have hw7:w<10000000:=be hw (aF (Nat.pow_le_pow_right dG (show k<=7 by omega)) dG);simp only;refine r0F (FA (dgs v n++a.drop n) n 4) ?_ λs hs=> ?_;by_cases h4:4<=k
  obtain⟨j,rfl⟩: ∃j,k=j+4:=⟨k-4,dA⟩
  obtain⟨p,a0,a1,a2,a3,rfl,hp'⟩:=O0y hp;have hpl:p.length+4+q.length=24:=by simp at hl;omega
  refine⟨((j:Int),((w/10000:Nat):Int),p++([((48+w%10000/100/10:Nat):Int),((48+w%10000/100%10:Nat):Int),((48+w%10000%100/10:Nat):Int),((48+w%10000%100%10:Nat):Int)]++q)), ?_,⟨w/10000,j,p,_,rfl,hp',dA, ?_,dA, ?_,dA, ?_⟩⟩;rw[dT (show((j+4:Nat):Int)≥4 by omega)];have hlen0:(p++ [a0,a1,a2,a3]++q).length=24:=by simp;omega
  have e1:j+4-1=p.length+3:=by omega
  have e2:j+4-2=p.length+2:=by omega
  have e3:j+4-3=p.length+1:=by omega
  have e4:j+4-4=p.length+0:=by omega
  simp(disch:=omega) only[tm4,tm2,td4,td2,C0K,J0Z,L0m,O0J,J0a,I0Z,L0E,L0D,e1,e2,e3,e4,tn,k0M,jC];simp(disch:=omega) only[s0Y,hlen0,O0L,jC,E0G,E0F,G0b];simp only[aP,D0r,bh,aU,cB,cC]
  try simp only[cG,hp']
  rw[Nat.pow_add]at hw;exact cK (by rw[db];exact hw);simp;omega;rw[<-hR,Q0v,aP];refine⟨((k:Int),(w:Int),p++q), ?_,⟨w,k,p,q,rfl,hp,dA,hw,dA,hl,hk,hR⟩⟩;rw[dF dA,C0K dA];rfl;obtain⟨w,k,p,q,rfl,hp,hw7,hw,hk4,hl,hk,hR⟩:=hs;simp only;refine r0F (FA (dgs v n++a.drop n) n 2) ?_ λs hs=> ?_;by_cases h2:2<=k
  obtain⟨j,rfl⟩: ∃j,k=j+2:=⟨k-2,dA⟩
  obtain⟨p,a0,a1,rfl,hp'⟩:=O0z hp;have hpl:p.length+2+q.length=24:=by simp at hl;omega
  refine⟨((j:Int),((w/100:Nat):Int),p++([((48+w%100/10:Nat):Int),((48+w%100%10:Nat):Int)]++q)), ?_,⟨w/100,j,p,_,rfl,hp',dA, ?_,dA, ?_,dA, ?_⟩⟩;rw[dT (show((j+2:Nat):Int)≥2 by omega)];have hlen0:(p++ [a0,a1]++q).length=24:=by simp;omega
  have e1:j+2-1=p.length+1:=by omega
  have e2:j+2-2=p.length+0:=by omega
  simp(disch:=omega) only[tm2,td2,C0K,J0Z,L0m,O0J,J0a,I0Z,e1,e2,tn,k0M,jC];simp(disch:=omega) only[s0Y,hlen0,O0L,jC,E0G,E0F,G0b];simp only[aP,D0r,bh,aU,cB,cC]
  try simp only[cG,hp']
  rw[Nat.pow_add]at hw;exact cK (by rw[db];exact hw);simp;omega;rw[<-hR,K0Q,aP];congr 2;congr 1;omega;congr 1;omega;refine⟨((k:Int),(w:Int),p++q), ?_,⟨w,k,p,q,rfl,hp,dA,hw,dA,hl,hk,hR⟩⟩;rw[dF dA];rfl;obtain⟨w,k,p,q,rfl,hp,hw7,hw,hk2,hl,hk,hR⟩:=hs;simp only;rw[<-hR];by_cases h1:1<=k;obtain rfl:k=1:=by omega
  obtain⟨a0,rfl⟩:=List.length_eq_one_iff.1 hp;have hw10:w<10:=by simpa using hw
  rw[dT dA,O0K tn dA,O0M dE];simp only[jC,L0C,J0t,bh,aU,cC,dgs,P0g];rw[C0K dA,w8c dA,cX hw10];obtain rfl:k=0:=by omega
  obtain rfl:=aw hp;rw[dF dA];rfl
def O0B: ∀q:Fin 256,(k2_.getD q.val 0).toNat=Lib.bitLen q.val:=by decide+kernel
def M0M:k2_.length=256:=by kernel_rfl
def P0i(u b m:Nat)(s:Int×Int):Prop:= ∃x k:Nat,s=((x:Int),(k:Int))/\x<b/\x<18446744073709551616/\Lib.bitLen u=k+Lib.bitLen x/\k<=m
def fd(a b:Nat):vE (a:Int) (b:Int)=((a/b:Nat):Int):=by rw[cm _ dA];rfl
theorem H0o (h:u<18446744073709551616):o0v (u:Int)=wA (Lib.bitLen u:Int):=by
  unfold o0v;refine r0F (P0i u 4294967296 32) ?_ λs hs=> ?_;by_cases c:4294967296<=u;refine⟨_,by rw[dT dA];rfl,u/4294967296,32, ?_,dA,dA,Lib.bitLen_shift32 u c h,dA⟩;rw[show(4294967296:Int)=((4294967296:Nat):Int)from rfl,fd];rfl;exact⟨((u:Int),0),by rw[dF dA];rfl,u,0,rfl,dA,h,dA,dA⟩;obtain⟨x,k,rfl,hx,hx2,hb,hk⟩:=hs;simp only;refine r0F (P0i u 65536 48) ?_ λs hs=> ?_;by_cases c:65536<=x;refine⟨_,by rw[dT dA];rfl,x/65536,k+16, ?_,dA,dA,by rw[hb,Lib.bitLen_shift16 x c hx2];omega,dA⟩;rw[show(65536:Int)=((65536:Nat):Int)from rfl,fd,w64 dA dA];rfl;exact⟨((x:Int),(k:Int)),by rw[dF dA];rfl,x,k,rfl,dA,hx2,hb,dA⟩;obtain⟨x,k,rfl,hx,hx2,hb,hk⟩:=hs;simp only;refine r0F (P0i u 256 56) ?_ λs hs=> ?_;by_cases c:256<=x;refine⟨_,by rw[dT dA];rfl,x/256,k+8, ?_,dA,dA,by rw[hb,Lib.bitLen_shift8 x c hx2];omega,dA⟩;rw[show(256:Int)=((256:Nat):Int)from rfl,fd,w64 dA dA];rfl;exact⟨((x:Int),(k:Int)),by rw[dF dA];rfl,x,k,rfl,dA,hx2,hb,dA⟩;obtain⟨x,k,rfl,hx,hx2,hb,hk⟩:=hs;simp only;have h8:=Lib.bitLen_le8 ⟨x,hx⟩;simp only at h8;rw[w8c hx,k0M<|by rw[M0M];omega,bF,O0B ⟨x,hx⟩];simp only[jC];rw[w64 (n:=(Lib.bitLen x:Int)) dA dA,w64 dA dA,hb];rfl
def O0A: ∀q:Fin 20,nth k3_ (q.val:Int)=((10^q.val:Nat):Int):=by decide+kernel
theorem numDigits_eq (h1:1<=u)(h:u<18446744073709551616):e0o (u:Int)=wA (Lib.nDigits u:Int):=by
  unfold e0o;rw[H0o h];have hb:Lib.bitLen u<=64:=Lib.bitLen_le u 64 dA h;obtain⟨e1,e2⟩:=Lib.numDigits_eq u h1 h;simp only[ah];unfold h0G
  have e3:vE (zA .i64<|(Lib.bitLen u:Int)*78913) 262144=(Lib.l10 (Lib.bitLen u):Int):=by
    rw[w64 dA dA,show(262144:Int)=((262144:Nat):Int)from rfl,show(Lib.bitLen u:Int)*78913=((Lib.bitLen u*78913:Nat):Int) by omega,fd];rfl
  rw[e3];simp only[ah];rw[k0M dA,O0A ⟨Lib.l10<|Lib.bitLen u,dA⟩];simp only[jC];rw[<-e1];unfold l0x;by_cases c:10^Lib.l10 (Lib.bitLen u)<=u;rw[dT dA,wB c];simp only[jC,ah];rw[w64 dA dA];rfl;rw[dF dA,vB c];simp only[wD,ah];rw[w64 dA dA];rfl
theorem L0N (h:u<100):h0a (u:Int)=wA (Lib.decDigits u):=by
  have: ∀q:Fin 100,h0a (q.val:Int)=wA (Lib.decDigits q.val):=by
    intro q;have e: ∀q:Fin 100,h0a (q.val:Int)=wA (if q.val<10 then [oI<|48+q.val]else [oI<|48+q.val/10,oI<|48+q.val%10]):=by decide+kernel
    rw[e q];split;rename_i c;rw[Lib.decDigits_one c];rename_i c;rw[Lib.decDigits_two c q.isLt]
  exact this ⟨u,h⟩
theorem v0f {x0:List Int} (hu:u<18446744073709551616)(hl:x0.length<=4000000000):d0J x0 (u:Int) 10=wA (x0++b0l (Lib.decDigits u)):=by
  have hd:=Lib.nDigits_le20 u hu;unfold d0J;rw[dT rfl];simp only[jC];by_cases c:u<100;rw[dT dA,w64 dA dA,L0N c];simp only[jC,ah];rw[a0e<|by rw[Lib.decDigits_length];omega];rfl;rw[dF dA,numDigits_eq dA hu];simp only[wD,ah];rw[l0j dA dA dA];simp only[jC];rw[O0P dA rfl (Lib.lt_pow_nDigits u) hu];simp only[ah];rw[l0j dA dA<|by simp[F0p,rep];omega,G0L dA];simp only[Bool.and_self,jC];congr 2;rw[G0b,cut,N0o];simp only[bF,Int.toNat_zero,cP];rw[List.take_append_of_le_length<|by simp[b0l,Lib.decDigits_length]];exact bn (by simp[b0l,Lib.decDigits_length])
theorem C0u {x0:List Int} (h0: -9223372036854775808<=n)(h1:n<=9223372036854775807)(hl:x0.length<=3000000000):c0v x0 n 10=wA (x0++b0l (Lib.itoa n)):=by
  unfold c0v f0w;by_cases c:n<0;rw[dT c,a0e dD];simp only[jC,ah]
  have e:zA .u64 (0-zA .u64 n)=((n.natAbs:Nat):Int):=by
    unfold zA;simp only[oF,zH,cv,aD,if_false];omega
  rw[e,v0f dA dD];simp only[ah];unfold Lib.itoa;rw[wB c,aP];rfl;rw[dF c];simp only[wD,ah];have e:zA .u64 n=((n.toNat:Nat):Int):=by rw[L0s dA dA];omega
  rw[e,v0f dA dA];simp only[ah];unfold Lib.itoa;rw[vB c]
def L0j {x:List Int} (hn:inI n)(hl:x.length<=2999999000):Tot (c0v x n 10) (λr=>r.length<=x.length+21):=by
  rw[C0u hn.1 hn.2 dA];have:=Lib.itoa_length_le n hn.1 hn.2;exact tR (by simp[b0l];omega)
theorem L0W {x:List Int} {r:a0z} (hr:B0K r)(hx:x.length<=2950000000):Tot (i0Y x r) (λo=>o.length<=x.length+18100):=by
  obtain⟨h1,h2,h3⟩:=hr;unfold i0Y;refine tY (a0e dD)<|tB (p:=λo:List Int=>o.length<=x.length+25) ?_ λa ha=>tB (p:=λo:List Int=>o.length<=x.length+29) ?_ λc hc=>tB (p:=λo:List Int=>o.length<=x.length+18100) ?_ λ_ h=>tR h;refine tI (λ_=>tY (a0e dD)<|tB (L0j h1<|by simp[b0l];omega) λa ha=>tR<|by simp[b0l]at ha;omega) λ_=>tR dE;refine tI (λ_=>tY (a0e dD)<|tR<|by simp[b0l];omega) (λ_=>tY (a0e dD)<|tR<|by simp[b0l];omega);refine tW (λs:Int×List Int=>s.1) r.R_.length (λs=>(s.2.length:Int)<=x.length+29+45*s.1) dA ⟨dC,av _,dE⟩ (λs hs g0 g1=> ?_) λs hs e=> ?_;obtain⟨m1,m2⟩:=h3 _<|c0x g0 g1;refine tY (dT g1) (tB (p:=λo:List Int=>(o.length:Int)<=s.2.length+45) (tY (a0c g0 g1)<|tB (p:=λo:List Int=>(o.length:Int)<=s.2.length+1) (tI (λ_=>tY (a0e dD)<|tR dE) λ_=>tR dA) λa ha=>tB (L0j m1 dA) λc hc=>tI (λ_=>tY (a0e dD)<|tB (L0j m2<|by simp[b0l];omega) λd hd=>tR<|by simp[b0l]at hd;omega) λ_=>tR dA) λa ha=>tR ⟨?_,w64 dA dA⟩);rw[w64 (n:=s.1+1) dA dA];simp only;omega;refine tN (dF dA)<|tR dA
theorem J0y {c:List (List a0z)} (hc:n0S c):Tot (q0g c) (λ_=>True):=by
  unfold q0g;have hn:=hc.1;refine zC (tW (λs:Int×List Int=>s.1) c.length (λs=>(s.2.length:Int)<=7242000*s.1) dA ⟨dE,av _,dE⟩ (λs hs g0 g1=> ?_) λs hs e=>zE e trivial) dJ;obtain⟨m1,m2⟩:=hc.2 _<|c0x g0 g1;refine tY (dT g1) (tB (p:=λo:List Int=>(o.length:Int)<=s.2.length+7242000) (tY (a0c g0 g1)<|tW (λu:Int×List Int=>u.1) (nth c s.1).length (λu=>(u.2.length:Int)<=s.2.length+18105*u.1) dA ⟨dE,av _,dE⟩ (λu hu f0 f1=> ?_) λu hu e=>tN (dF dA)<|tR dA) λo ho=>tR ⟨?_,w64 dA dA⟩)
  · refine tY (dT f1) (tB (p:=λo:List Int=>(o.length:Int)<=u.2.length+18105) (tY (a0c f0 f1)<|tB (p:=λo:List Int=>(o.length:Int)<=u.2.length+5) (tI (λ_=>tR dA) λ_=>tI (λ_=>tY (a0e dD)<|tR<|by simp[b0l]<;>omega) λ_=>tY (a0e dD)<|tR<|by simp[b0l]<;>omega) λa ha=>tB (L0W (m2 _<|c0x f0 f1) dA) λd hd=>tR dA) λo ho=>tR ⟨?_,w64 dA dA⟩)
    rw[w64 (n:=u.1+1) dA dA];simp only;omega
  rw[w64 (n:=s.1+1) dA dA];simp only;omega
theorem O0S {x y:List a0T} (hx:x.length<=4294967296):Tot (g0y x y) (λ_=>True):=by
  unfold g0y;exact w0n hx λs g0 g1 e=>tY (a0c g0 g1)<|tY (a0c g0 dA)<|tI (λ_=>tR<|.inr ⟨_,rfl⟩) λ_=>tR<|.inl rfl
theorem J0z {c d:List (List a0z)} (hc:n0S c):Tot (q0h c d) (λ_=>True):=by
  unfold q0h p0S;refine tB (w0n (aF hc.1 dG) λs g0 g1 e=>tY (a0c g0 g1)<|tY (a0c g0 dA)<|zC ?_ λ_ _=>tI (λ_=>tR<|.inr ⟨_,rfl⟩) λ_=>tR<|.inl rfl) dJ;have hm:=hc.2 _<|c0x g0 g1;unfold p0u k0b;refine tB (w0n (aF hm.1 dG) λu f0 f1 e=>tY (a0c f0 f1)<|tY (a0c f0 dA)<|zC ?_ λ_ _=>tI (λ_=>tR<|.inr ⟨_,rfl⟩) λ_=>tR<|.inl rfl) dJ;have hr:=(hm.2 _<|c0x f0 f1).2.1;unfold m0X;refine zC (tI (λ_=>tI (λ_=>tI (λ_=>tB (O0S<|aF hr dG) dJ) dI) dI) dI) dJ
theorem G0J {c:List (List a0z)} (hc:n0S c):Tot (o0h c) (λ_=>True):=by
  unfold o0h;exact tB (J0y hc) λt _=>tB (A0p t) λd _=>zC (tI (λ_=>tB (J0z hc) dJ) dI) dJ
theorem K0c {g:List Int} (hp:g0r p 1000)(hg:g.length<=100000):Tot (l0h s p g) (λ_=>True):=by
  unfold l0h;refine tJ (tB (p:=λb=>b=yA->g.length<=20) (tI (λ_=>tR dH) λ_=>tI (λ_=>tR dH) λh=>tB (D0t dA) λ_ _=>tR λ_=>by have:=dFF h;omega) λb hb=>tI dI λe=>tR (show Tot _ _ from ?_));exact tJ (zC (tI (λ_=>tB (F0v dA) dJ) dI) λ_ _=>tI dI λ_=>tR (show Tot _ _ from tB (C0S hp<|by have:=hb e;omega) dJ))
/-! The certificate of a locale: it answers. -/
def inB(x:Int):Prop:=0<=x/\x<=20000000
theorem L0G (hp:g0r p 1000):Tot (j0R p) inB:=by
  unfold j0R;obtain⟨p1,p2,_⟩:=hp;refine tB (s0I p) λn hn=>tR ?_;rw[w64 (n:=(n.length:Int)+p.d_.length) dA dA,w64 dA dA];exact⟨dA,dA⟩
theorem I0Q {l:f0f} (hk:0<=k/\k<=4)(h:l.b_.g_.length<=100000/\l.b_.h_.length<=100000/\l.b_.m_.length<=100000/\l.b_.s_.length<=100000):Tot (i0B l k) (λr=>g0r r 1000):=by
  unfold i0B;refine tB (p:=λs:Int=>0<=s/\s<=3) (tI (λ_=>tR dA) λe=>tR<|by have:=dFF e;omega) λs hs=> ?_;refine tI (λ_=>tB (f0A h.1) λ_ hr=>tR hr) λe0=>tI (λ_=>tB (f0A h.2.1) λ_ hr=>tR hr) λe1=>tI (λ_=>tB (f0A h.2.2.1) λ_ hr=>tR hr) λe2=>tI (λ_=>tB (f0A h.2.2.2) λ_ hr=>tR hr) λe3=> ?_;have:=dFF e0;have:=dFF e1;have:=dFF e2;have:=dFF e3;omega
def P0S {a b:Int} (ha:inB a)(hb:inB b):inB (r0p a b):=by unfold r0p;split<;>assumption
theorem F0O {c:List Int} (hp:g0r p 1000)(hc:c.length<=6100) {x2 x3 x4 x5 x6 x7 x8 x9 x10 x11 x12 x13 x14 x15 x16 x17} (hx:inB x17):Tot (d0I p c x2 x3 x4 x5 x6 x7 x8 x9 x10 x11 x12 x13 x14 x15 x16 x17) inB:=by
  unfold d0I;refine tW (λs:Int×Int=>s.1) 3 (λs=>inB s.2) dA ⟨hx,dE⟩ (λs hs h0 h1=>tY (dT h1)<|tB (z0X hp hc) λa ha=>tR ⟨P0S hs ?_, ?_⟩) λs hs e=>tN (dF dA)<|tR hs;obtain⟨a1,a2⟩:=ha;rw[w64 dA dA];exact⟨dA,dA⟩;exact w64 (n:=s.1+1) dA dA
def r0J(s:ByteArray): ∀(n i:Nat) (acc:Array Value),(oE s n i acc).size<=acc.size+n
  |0,i,acc=>by simp[oE]
  |n+1,i,acc=>by
    simp only[oE];split;have:=r0J s n (i+(Utf8.decode s i).2)<|acc.push<|.int .i32<|Int.ofNat (Utf8.decode s i).1;simp at this;simp only[Int.ofNat_eq_natCast]at this⊢;omega;omega
def t0a(t:List UInt8):(f0x t).length<=t.length:=by
  unfold f0x;have:=r0J ⟨t.toArray⟩ t.length 0 #[];simp at this;simpa using this
theorem P0d {l:f0f} (hk:0<=k/\k<=4)(h:l.b_.g_.length<=100000/\l.b_.h_.length<=100000/\l.b_.m_.length<=100000/\l.b_.s_.length<=100000)(hc:l.k_.length<=105)(hs: ∀c∈l.k_,c.r_.length<=6000)(hm:l.c_.length<=95)(ht: ∀c∈l.c_,c.X_.length<=6000):Tot (m0g l k) inB:=by
  unfold m0g;refine tB (I0Q hk h) λp hp=>tB (F0O hp dE ⟨dG,dG⟩) λa ha=>tB (p:=inB) ?_ λ_ h=>tR h;refine tI (λ_=> ?_) λ_=>tI (λ_=> ?_) λ_=>tR ha;refine tW (λs:Int×Int=>s.1) l.k_.length (λs=>inB s.2) dA ⟨ha,dE⟩ (λs hi h0 h1=>tY (dT h1)<|tY (a0c h0 h1)<|tB (F0O hp ?_ hi) λ_ h=>tR ⟨h, ?_⟩) λs hi e=>tN (dF dA)<|tR hi;have:=hs _<|c0x h0 h1;have:=t0a (nth l.k_ s.1).r_;omega;exact w64 (n:=s.1+1) dA dA;refine tW (λs:Int×Int=>s.1) l.c_.length (λs=>inB s.2) dA ⟨ha,dE⟩ (λs hi h0 h1=>tY (dT h1)<|tY (a0c h0 h1)<|tB (v0B ?_) λq hq=>tB (F0O hq dE hi) λ_ h=>tR ⟨h, ?_⟩) λs hi e=>tN (dF dA)<|tR hi;have:=ht _<|c0x h0 h1;omega;exact w64 (n:=s.1+1) dA dA
theorem w0P {l:f0f} (hk:0<=k/\k<=4)(h:l.b_.g_.length<=100000/\l.b_.h_.length<=100000/\l.b_.m_.length<=100000/\l.b_.s_.length<=100000):Tot (i0A l k) inB:=by
  unfold i0A;refine tB (I0Q hk h) λp hp=> ?_;refine tJ (Tot.mono (p:=λx:Unit⊕Int=>match x with| .inl _=>True| .inr o=>inB o) (zC (tI dI dI) λb _=>tI (λ_=>tR ⟨dG,dG⟩) dI) λx hx=> ?_)
  cases x with
  |inl u=>exact tB (L0G hp) (λ_ h=>tR h)
  |inr u=>exact hx
theorem w0u [DecidableEq T] {x:List T} (h:x.length<=4294967296):(bif(yB x.length 0)then l0p (wA ([]:List T)) (bif room x.length then(wA x)else none)else(bif room x.length then(wA x)else none))=wA x:=by
  rw[a0e h];simp only[jC]
  cases x with
  |nil=>simp[l0p]
  |cons a r=>simp[yB]
def ofB(r:C0D):Prop:=(inB r.aq_.g_/\inB r.aq_.h_/\inB r.aq_.m_/\inB r.aq_.s_/\inB r.aq_.a4_)/\inB r.ar_.g_/\inB r.ar_.h_/\inB r.ar_.m_/\inB r.ar_.s_/\inB r.ar_.a4_
def stB(s:Int×Int×Int×Int×Int×Int×Int×Int×Int×Int):Prop:=(inB s.1/\inB s.2.1/\inB s.2.2.1/\inB s.2.2.2.1/\inB s.2.2.2.2.1)/\inB s.2.2.2.2.2.1/\inB s.2.2.2.2.2.2.1/\inB s.2.2.2.2.2.2.2.1/\inB s.2.2.2.2.2.2.2.2.1/\inB s.2.2.2.2.2.2.2.2.2
theorem O0Z {l:f0f} (h:l.b_.g_.length<=100000/\l.b_.h_.length<=100000/\l.b_.m_.length<=100000/\l.b_.s_.length<=100000)(hr:l.B_.length<=8)(hc:l.k_.length<=105)(hs: ∀c∈l.k_,c.r_.length<=6000)(hm:l.c_.length<=95)(ht: ∀c∈l.c_,c.X_.length<=6000):Tot (u0a l) (λr=>ofB r/\r.L_=l):=by
  unfold u0a u0c w0G u0d;rw[w0u dA,w0u dA,w0u dA];simp only[ah]
  have z:inB 0:=⟨dG,dG⟩
  refine tB (p:=stB) (tW (λs:Int×Int×Int×Int×Int×Int×Int×Int×Int×Int×Int=>s.1) 5 (λs=>stB s.2) dA ⟨⟨⟨z,z,z,z,z⟩,z,z,z,z,z⟩,dE⟩ (λs hi h0 h1=> ?_) λs hi e=>tN (dF dA)<|tR hi) (λ_ h=>tR ⟨h,rfl⟩)
  have hk:0<=s.1/\s.1<=4:=⟨h0,dA⟩
  obtain⟨⟨b0,b1,b2,b3,b4⟩,b5,b6,b7,b8,b9⟩:=hi;refine tY (dT h1)<|tB (P0d hk h hc hs hm ht) λ_ a=> ?_;refine tI (λe=>tB (w0P ⟨dA,dA⟩ h) λ_ w=>tR ⟨⟨⟨a,b1,b2,b3,b4⟩,w,b6,b7,b8,b9⟩, ?_⟩) λe0=>tI (λe=>tB (w0P ⟨dA,dA⟩ h) λ_ w=>tR ⟨⟨⟨b0,a,b2,b3,b4⟩,b5,w,b7,b8,b9⟩, ?_⟩) λe1=>tI (λe=>tB (w0P ⟨dA,dA⟩ h) λ_ w=>tR ⟨⟨⟨b0,b1,a,b3,b4⟩,b5,b6,w,b8,b9⟩, ?_⟩) λe2=>tI (λe=>tB (w0P ⟨dA,dA⟩ h) λ_ w=>tR ⟨⟨⟨b0,b1,b2,a,b4⟩,b5,b6,b7,w,b9⟩, ?_⟩) λe3=>tI (λe=>tB (w0P ⟨dA,dA⟩ h) λ_ w=>tR ⟨⟨⟨b0,b1,b2,b3,a⟩,b5,b6,b7,b8,w⟩, ?_⟩) λe4=> ?_;have:=dTT e;show zA .i64 (0+1)=s.1+1;rw[this];decide;have:=dTT e;show zA .i64 (1+1)=s.1+1;rw[this];decide;have:=dTT e;show zA .i64 (2+1)=s.1+1;rw[this];decide;have:=dTT e;show zA .i64 (3+1)=s.1+1;rw[this];decide;have:=dTT e;show zA .i64 (4+1)=s.1+1;rw[this];decide;have:=dFF e0;have:=dFF e1;have:=dFF e2;have:=dFF e3;have:=dFF e4;omega
theorem N0h {S:Type} [Inhabited T] [DecidableEq T] {xs ys:List T} (hlen:xs.length=ys.length)(hb:xs.length<=4611686018427387904)(ok bad:O) {step:Int->Option (Int⊕O)}
    (hs: ∀i:Nat,i<xs.length->step (i:Int)=wA (if nth xs (i:Int)=nth ys (i:Int)then .inl ((i:Int)+1)else .inr bad)) (he:step (xs.length:Int)=wA (.inr ok)):
    a0m step big 0=wA (if xs=ys then ok else bad):=by
  obtain⟨o,h1,h2⟩:=C0b (step:=step) xs.length (λi=>(i:Int)) (λi=> ∀j,j<i->nth xs (j:Int)=nth ys (j:Int)) (λo=>o=if xs=ys then ok else bad) rfl (λj hj=>dA) (λi hi hI=>by
    rw[hs i hi];by_cases c:nth xs (i:Int)=nth ys (i:Int);left;rw[wB c];refine⟨dE,λj hj=> ?_⟩;by_cases e:j=i;subst e;exact c;exact hI j dA;right;rw[vB c];refine⟨bad,rfl, ?_⟩
    rw[vB λe=>c<|by rw[e]]) (λhI=>⟨ok,he,by
    rw[wB];apply List.ext_getElem hlen;intro i h1 h2;have:=hI i h1
    rwa [k0J h1,k0J h2]at this⟩) dA
  have h1':a0m step big 0=wA o:=h1;rw[h1',h2]
/-! Two patterns are compared. -/
theorem L0K {x:List a0b} (hl:x.length<=4611686018427387904):j0j x y=wA (vA<|x=y):=by
  unfold j0j;by_cases h:x.length=y.length
  · rw[dF dA]
    simp only[wD];rw[N0h (S:=Unit) h dA (.inl ():Unit⊕Bool)<|.inr yA];by_cases e:x=y;rw[wB e,dT e];rfl;rw[vB e,dF e];rfl
    · intro i hi
      rw[dT dA,k0M hi,k0M dA,w64 dA dA];simp only[jC];generalize nth x (i:Int)=a;generalize nth y (i:Int)=b;obtain⟨a1,a2⟩:=a;obtain⟨b1,b2⟩:=b;by_cases h1:a1=b1<;>by_cases h2:a2=b2<;>simp[h1,h2]
    rw[A0L];rfl
  rw[dT dA,dF<|by rintro rfl;exact h rfl];rfl
def P0T(a:a0h):Prop:=a.d_.length<=4611686018427387904/\a.e_.length<=4611686018427387904/\a.x_.length<=4611686018427387904/\a.w_.length<=4611686018427387904
/-! Parsers that always answer. -/
def y0b(x:Int):Tot (a0J x) (λ_=>True):=by
  unfold a0J;refine zC ?_ dJ
  repeat' (first|exact tR trivial|refine tI (λ_=> ?_) λ_=> ?_)
theorem v0z(x:Int):Tot (d0v x) (λn=>0<=n/\n<=4/\(a0J x=wA oA->1<=n)):=by
  unfold d0v;obtain⟨b,hb,_⟩:=y0b x;rw[hb]
  cases b with
  |false=>exact⟨0,rfl,dA,dA,λh=>by cases h⟩
  |true=>
    show Tot (bif _ then _ else _) _
    repeat' (first|exact tR ⟨dA,dA,λ_=>dA⟩|refine tI (λ_=> ?_) λ_=> ?_)
def F0F(x:Int):Tot (c0j x) (λl=>l.length<=4):=by
  unfold c0j;refine tB (v0z x) (λ_ _=> ?_)
  repeat' (first|exact tR dE|refine tI (λ_=> ?_) λ_=> ?_)
def v0u(x:Int):Tot (d0r x) (λl=>l.length<=4):=by
  unfold d0r;exact tB (F0F x) (λo h=>tR<|by simpa [e0Z]using h)
theorem p0m(x:Int):Tot (d0g x) (λ_=>True):=by
  unfold d0g;refine tJ (zC ?_ λb _=> ?_)
  · repeat' (first|exact tR trivial|refine tI (λ_=> ?_) λ_=> ?_)
  refine tI dI λ_=>tR ?_;refine tJ<|tL (λs=>0<=s/\s<=11) (λs=>(11-s).toNat) dA dA λs hs=> ?_;refine tI (λh=> ?_) λ_=>tR<|tR trivial;have h:=dTT h;refine tY (a0c dA<|by simpa using h)<|tI dI λ_=>tR ?_;rw[w64 dA dA];omega
def A0k(x:Int):Tot (d0t x) (λ_=>True):=by
  unfold d0t
  repeat' (first|exact tR trivial|refine tI (λ_=> ?_) λ_=> ?_)
def atV(l:List Int)(i:Int):Int:=if i<l.length then nth l i else-1
def k0C (h:0<=i):a0S l i=wA (atV l i):=by
  unfold a0S atV;by_cases hi:i<l.length;rw[dT hi,wB hi,a0c h hi];rfl;rw[dF hi,vB hi];rfl
def s0o (hc:atV l i=c)(h:c≠ -1):i<l.length:=by
  unfold atV at hc;split at hc
  assumption
  exact absurd hc.symm h
theorem q0C (hl:l.length<=10000)(h:0<=i)(hi:i<=l.length)(hc:c≠ -1):Tot (b0U l i c) (λn=>0<=n/\i+n<=l.length):=by
  unfold b0U;refine tB (p:=λn=>0<=n/\i+n<=l.length) ?_ λ_ h=>tR h;refine tL (λs=>0<=s/\i+s<=l.length) (λs=>(l.length-i-s).toNat) dA dA λs hs=> ?_;rw[w64 (n:=i+s) dA dA,k0C dA];show Tot (bif _ then _ else _) _;refine tI (λhh=>tR ?_) λ_=>tR hs;have:=s0o (dTT hh) hc;rw[w64 dA dA];omega
def B0Z(p:a0h):Int×Int×Int×Int×Int×Int×Int×Int×Int×Bool:=(p.ab_,p.N_,p.U_,p.J_,p.H_,p.T_,p.Q_,p.M_,p.i_,p.af_)
theorem p0z {w:Int} (hl:l.length<=10000)(h:0<=i)(hi:i<=l.length):Tot (b0K p l i w) (λo=>0<=o.2.1/\(o.2.2=oA->o.2.1<=l.length)/\B0Z o.1=B0Z p):=by
  unfold b0K;refine tJ<|zC ?_ λb _=> ?_;refine tI dI λ_=> ?_;rw[k0C h];exact tR trivial;refine tI (λ_=>tR ⟨h,λ_=>hi,rfl⟩) λ_=>tR ?_;show Tot _ _;rw[w64 (n:=i+1) dA dA];refine tI (λ_=>tR ⟨dC,λh=>(by cases h),rfl⟩) λhh=> ?_;have:=dFF hh;refine tY (a0c dA dA)<|tR ⟨?_,λ_=> ?_,rfl⟩;simp only;rw[w64 dA dA];omega;simp only;rw[w64 dA dA];omega
theorem k0d (hl:l.length<=10000)(h:0<=i)(hi:i<=l.length):Tot (a0v l i) (λo=>0<=o.2.1/\o.2.1<=l.length):=by
  unfold a0v;refine tJ (tL (λs:Int×List a0b=>0<=s.1/\s.1<=(l.length:Int)/\(s.2.length:Int)<=s.1) (λs=>((l.length:Int)-s.1).toNat) ⟨h,hi,by simpa using h⟩ dC λs hs=> ?_);refine tI (λhh=> ?_) λhh=>tR<|tR ⟨hs.1,hs.2.1⟩;have hlt:=dTT hh;refine tY (a0c hs.1 hlt)<|tB (A0k _) λy _=>tB (p0m _) λy2 _=> ?_;have e1:zA .i64 (s.1+1)=s.1+1:=w64 dA dA;rw[e1];refine tI (λ_=>tY (a0e dD)<|tR ⟨⟨dC,dC,dD⟩,dC⟩) λ_=> ?_;refine tI (λ_=>tI (λ_=>tR ⟨hs.1,hs.2.1⟩) λ_=>tY (a0e dD)<|tR ⟨⟨dC,dC,dD⟩,dC⟩) λ_=> ?_;rw[k0C dA];show Tot (bif _ then _ else _) _;refine tI (λhq=> ?_) λhq=> ?_;have:=s0o (dTT hq) dA;refine tY (a0e dD)<|tR ?_;have e2:zA .i64 (s.1+2)=s.1+2:=w64 dA dA;rw[e2];exact⟨⟨dC,dC,dD⟩,dC⟩;refine tB (p:=λo:Int×List a0b=>s.1+1<=o.1/\o.1<=(l.length:Int)/\(o.2.length:Int)<=o.1) ?_ λo ho=> ?_;refine tL (λt:Int×List a0b=>s.1+1<=t.1/\t.1<=(l.length:Int)/\(t.2.length:Int)<=t.1) (λt=>((l.length:Int)-t.1).toNat) ⟨dC,dC,dC⟩ dC λt ht=> ?_;have f1:zA .i64 (t.1+1)=t.1+1:=w64 dA dA;rw[f1];refine tJ<|tB (p:=λb=>b=oA->t.1<l.length/\(nth l t.1=39->t.1+1<l.length)) ?_ λb hb=> ?_;refine tI (λhh=> ?_) λ_=>tR dH;have h3:=dTT hh;refine tY (a0c dA h3)<|tI (λhn=>tR λ_=>⟨h3,λhe=>absurd he<|dTT hn⟩) λ_=> ?_;rw[k0C dA];exact tR (λhb=>⟨h3,λ_=>s0o (dTT hb) dA⟩)
  cases b with
  |false=>exact tR ht
  |true=>
    obtain⟨g1,g2⟩:=hb rfl;refine tR (show Tot _ _ from ?_);refine tY (a0c dA g1)<|tY (a0e dD) ?_;refine tB (p:=λv=>t.1<=v/\v<l.length) (tY (a0c dA g1)<|tI (λhh=>tR ⟨dA,g2<|dTT hh⟩) λ_=>tR ⟨dA,g1⟩) λv hv=>tR ?_;have f2:zA .i64 (v+1)=v+1:=w64 dA dA;rw[f2];exact⟨⟨dC,dC,dD⟩,dC⟩
  refine tI (λ_=>tR ⟨hs.1,hs.2.1⟩) λhh=>tR ?_;have h3:=dFF hh;have f1:zA .i64 (o.1+1)=o.1+1:=w64 dA dA;rw[f1];exact⟨⟨dC,dC,dC⟩,dC⟩
def Tot.joinQ {x:Option (A⊕O)} {k:A->Option O} {q:O->Prop} (h:Tot x (λy=>match y with| .inl _=>True| .inr r=>q r))(hk: ∀a,Tot (k a) q):Tot (jA x<|a0j k) q:=by
  refine tJ (h.mono λy hy=> ?_)
  cases y with
  |inl a=>exact hk a
  |inr r=>exact hy
/-! Patterns that are read: where the reader stands. -/
def stP (I:S->Prop)(μ:S->Nat)(m:Nat)(q:O->Prop)(x:S⊕O):Prop:=match x with
  | .inl s'=>I s'/\μ s'<m
  | .inr o=>q o
theorem Tot.loopS {step:S->Option (S⊕O)} (I:S->Prop)(μ:S->Nat) {q:O->Prop} {s0:S} (h0:I s0)(hb:μ s0<18446744073709551616)(hs: ∀s,I s->Tot (step s) (stP I μ (μ s) q)):Tot (a0m step big s0) q:=by
  refine tL I μ h0 hb λs hi=>(hs s hi).mono λx hx=> ?_;cases x<;>exact hx
theorem B0T (hl:l.length<=10000)(h:0<=i)(hi:i<=l.length):Tot (c0z p l i) (λo=>0<=o.2.1/\o.2.1<=l.length):=by
  unfold c0z;refine Tot.loopS (λs:Int×Int×Int×Int×List Int=>0<=s.1/\s.1<=(l.length:Int)/\(s.2.2.2.2.length:Int)<=s.1) (λs=>((l.length:Int)-s.1).toNat) ⟨h,hi,by simpa using h⟩ dC λs hs=> ?_;obtain⟨s1,n,ha,mi,gr⟩:=s;obtain⟨q1,q2,q3⟩:=hs;simp only at q1 q2 q3⊢;have e1:zA .i64 (s1+1)=s1+1:=w64 dA dA;rw[e1,k0C q1,k0C (l:=l) (i:=s1+1) dA];simp only[ah]
  have go: ∀ {c:Int} (a b d:Int) (g:List Int),atV l s1=c->c≠ -1->g.length<=gr.length+1->stP (λs:Int×Int×Int×Int×List Int=>0<=s.1/\s.1<=(l.length:Int)/\(s.2.2.2.2.length:Int)<=s.1) (λs=>((l.length:Int)-s.1).toNat) ((l.length:Int)-s1).toNat (λo:a0h×Int×Bool=>0<=o.2.1/\o.2.1<=l.length) (.inl (s1+1,a,b,d,g)):=λa b d g hc hn hg=>by
    have:=s0o hc hn;exact⟨⟨dC,dC,dC⟩,dC⟩
  refine Tot.joinQ (tB (p:=λb=>b=oA->atV l s1=35) (tI (λe=>tR λ_=>dTT e) λ_=>tR λe=>by cases e) λb hb=>tI (λe=>tR<|go _ _ _ _ (hb e) dA dE) dI) λ_=> ?_;refine tI (λe=>tR<|go _ _ _ _ (dTT e) dA dE) λ_=> ?_;refine Tot.joinQ (tB (p:=λb=>b=oA->atV l s1=44) ?_ λb hb=>tI (λe=> ?_) dI) (λ_=> ?_)
  · refine tI (λe=> ?_) (λ_=>tR λe=>by cases e)
    have e:=dTT e
    repeat' (first|exact tR (λ_=>e)|refine tI (λ_=> ?_) λ_=> ?_)
  have hin:=s0o (hb e) dA;refine Tot.joinQ (zC (tI (λe=> ?_) dI) λb _=>tI (λ_=>tR ⟨q1,q2⟩) dI) λ_=>tY (a0e dD)<|tR<|go _ _ _ _ (hb e) dA dE;have e:=dTT e;exact tY (a0c dA dA)<|tY (a0c dA dA)<|tR trivial;refine zC (tI dI dI) λa _=>zC (tI (λe=> ?_) dI) λb _=>tR ⟨q1,q2⟩;have e:=dTT e;exact tY (a0c dA dA)<|tY (a0c dA dA)<|tR trivial
theorem u0Q (hl:l.length<=10000)(h:0<=i)(hi:i<=l.length):Tot (c0A p l i) (λo=>0<=o.2.1/\o.2.1<=l.length):=by
  unfold c0A;refine tB (q0C hl h hi dA) λn hn=> ?_;have e1:zA .i64 (i+n)=i+n:=w64 dA dA;rw[e1]
  refine tJ (Tot.mono (p:=λx=>match x with
    | .inl s=>0<=s.1/\s.1<=l.length
    | .inr r=>0<=r.2.1/\r.2.1<=l.length) ?_ λx hx=> ?_)
  refine tI (λhq=> ?_) λhq=> ?_;refine tB (q0C hl (i:=i+n) dA dA dA) λm hm=>tR ?_;rw[w64 (n:=i+n+m) dA dA];exact⟨dC,dC⟩;refine tB (B0T hl h hi) λy hy=> ?_;obtain⟨y1,y2⟩:=hy;refine tI (λ_=>tR ⟨y1,y2⟩) λ_=> ?_;rw[k0C y1];show Tot (bif _ then _ else _) _;refine tI (λhq=> ?_) λ_=>tR ⟨y1,y2⟩;have hin:=s0o (dTT hq) dA;have f1:zA .i64 (y.2.1+1)=y.2.1+1:=w64 dA dA;rw[f1];refine tB (q0C hl (i:=y.2.1+1) dA dA dA) λa ha=> ?_;have f2:zA .i64 (y.2.1+1+a)=y.2.1+1+a:=w64 dA dA;rw[f2];refine tB (q0C hl (i:=y.2.1+1+a) dA dA dA) λb hb=> ?_;have f3:zA .i64 (y.2.1+1+a+b)=y.2.1+1+a+b:=w64 dA dA;rw[f3];exact tI (λ_=>tR ⟨dC,dC⟩) (λ_=>tR ⟨dC,dC⟩)
  cases x with
  |inr r=>exact hx
  |inl s=>
    obtain⟨s1,s2⟩:=hx;show Tot (jA _ _) _;rw[k0C s1];show Tot (bif _ then _ else _) _;refine tI (λ_=>tR ⟨s1,s2⟩) λhq=> ?_;have hq:atV l s.1=69:=by have:=dFF hq;omega
    have hin:=s0o hq dA;have f1:zA .i64 (s.1+1)=s.1+1:=w64 dA dA;rw[f1,k0C dA];refine tB (p:=λt:Int×Bool=>0<=t.1/\t.1<=(l.length:Int)) ?_ λt ht=> ?_;show Tot (bif _ then _ else _) _;refine tI (λhq=> ?_) λ_=>tR ⟨dC,dC⟩;have:=s0o (dTT hq) dA;rw[w64 (n:=s.1+1+1) dA dA];exact tR ⟨dC,dC⟩;refine tB (q0C hl ht.1 ht.2 dA) λn hn=>tR ?_;rw[w64 (n:=t.1+n) dA dA];exact⟨dC,dC⟩
theorem y0i (hl:l.length<=10000):Tot (b0H l) (λo=>o.2.2.2.2=oA->0<=o.2.1/\o.2.2.1<=l.length/\0<=o.2.2.2.1/\o.2.2.2.1<=l.length):=by
  unfold b0H;refine tB (p0z hl dA dA) λa ha=>tI (λ_=>tR dH) λh1=> ?_;have h1:a.2.2=true:=by simpa using h1
  refine tB (k0d hl ha.1<|ha.2.1 h1) λb hb=>tI (λ_=>tR dH) λh2=> ?_;refine tB (p0z hl hb.1 hb.2) λc hc=>tI (λ_=>tR dH) λh3=> ?_;have h3:c.2.2=true:=by simpa using h3
  refine tB (u0Q hl hc.1<|hc.2.1 h3) λd hd=>tI (λ_=>tR dH) λh4=> ?_;refine tB (p0z hl hd.1 hd.2) λe he=>tI (λ_=>tR dH) λh5=> ?_;have h5:e.2.2=true:=by simpa using h5
  refine tB (k0d hl he.1<|he.2.1 h5) λf hf=>tI (λ_=>tR dH) λh6=> ?_;exact tB (p0z hl hf.1 hf.2) λg hg=>tR λh7=>⟨hc.1,hd.2,hg.1,hg.2.1 h7⟩
/-! Patterns that are read. -/
theorem F0R (hl:l.length<=10000)(h:0<=i):Tot (a0v l i) (λ_=>True):=by
  by_cases hi:i<=l.length;exact(k0d hl h hi).any;unfold a0v;refine tJ<|tL (λs:Int×List a0b=>(l.length:Int)<s.1) (λ_=>0) dC dG λs hs=> ?_;rw[dF (show¬s.1<(l.length:Int) by omega)];exact tR<|tR trivial
theorem B0A {a b:Int} (hl:l.length<=10000)(h:0<=i)(hi:i<=l.length)(ha:0<=a)(hb:b<=l.length):
    Tot (b0y p l i a b) (λo=>B0Z o.1=B0Z p):=by
  unfold b0y;refine tB (k0d hl h hi) λc hc=>tI (λ_=>tR rfl) λ_=> ?_;refine tJ<|Tot.mono (p:=λx=>match x with| .inl s=>0<=s| .inr r=>B0Z r.1=B0Z p) ?_ λx hx=> ?_;refine tL (λs:Int×Int=>0<=s.1/\s.1<=(l.length:Int)+s.2/\0<=s.2) (λs=>(b-s.2).toNat) ⟨hc.1,dC,ha⟩ dC λs hs=> ?_;refine tI (λhh=> ?_) λ_=>tR hs.1;have hh:=dTT hh;rw[k0C hs.1];show Tot (bif _ then _ else _) _;refine tY (a0c hs.2.2 dA)<|tI (λ_=>tR rfl) λhq=>tR ?_;have e1:zA .i64 (s.1+1)=s.1+1:=w64 dA dA;have e2:zA .i64 (s.2+1)=s.2+1:=w64 dA dA;rw[e1,e2];exact⟨⟨dC,dC,dC⟩,dC⟩
  cases x with
  |inr r=>exact hx
  |inl s=>
    show Tot _ _;exact tB (F0R hl hx) λd hd=>tR rfl
/-! Texts of patterns, read: there is an answer. -/
theorem D0f {b:List Int} {at':Int} (hl:b.length<=100000)(h:0<=at')(ha:at'<=b.length)(hk:0<=k)(hk2:k<=3):Tot (c0i b at' k n) (λ_=>True):=by
  unfold c0i;rw[w64 (n:=at'+k) dA dA];refine tI dI λhh=> ?_;have hh:=dFF hh;refine tJ<|tL (λs:Int×Int=>1<=s.2/\s.2<=k+1) (λs=>(k+1-s.2).toNat) ⟨dC,dC⟩ dC λs hs=> ?_;refine tI (λhq=> ?_) λ_=>tR<|tR trivial;have hq:=dTT hq;have e1:zA .i64 (at'+s.2)=at'+s.2:=w64 dA dA;have e2:zA .i64 (s.2+1)=s.2+1:=w64 dA dA;rw[e1,e2];refine tJ<|tY (a0c dA dA) ?_;refine tJ<|zC ?_ λc _=> ?_;exact tI dI dI
  cases c with
  |true=>exact tR trivial
  |false=>exact tR<|tR<|tR ⟨⟨dC,dC⟩,dC⟩
theorem E0c {b:List Int} {at':Int} (hl:b.length<=100000)(h:0<=at')(ha:at'<b.length):Tot (g0C b at') (λn=>n<0\/a0J (zA .i32 n)=wA oA):=by
  unfold g0C;refine tY (a0c h ha) ?_;have ht: ∀k n,0<=k->k<=3->Tot (c0i b at' k n) (λ_=>True):=λk n h1 h2=>D0f hl h dA h1 h2
  refine zC (tI dI dI) λa _=> ?_;refine zC ?_ λa _=>zC ?_ λa _=>zC ?_ λa _=> ?_;refine zC (tI dI dI) λ_ _=>tI (λ_=>tB (ht 1 _ dA dA) dJ) dI;refine zC (tI dI dI) λ_ _=>tI (λ_=>tB (ht 2 _ dA dA) dJ) dI;refine zC (tI dI dI) λ_ _=>tI (λ_=>tB (ht 3 _ dA dA) dJ) dI;obtain⟨v,hv,_⟩:=y0b<|zA .i32 a.1;rw[hv];show Tot (jA _ _) _;refine tJ (tB (p:=λc=>c=yA->v=oA) (tI (λ_=>tR dH) λ_=>tR λh=>by simpa using h) λc hc=> ?_)
  cases c with
  |true=>exact tR (.inl dG)
  |false=>exact tR (tR<|.inr<|by rw[hv,hc rfl])
theorem C0m {b:List Int} (hl:b.length<=100000):Tot (b0N b) (λ_=>True):=by
  unfold b0N;refine tJ<|tL (λs:Int×List Int=>0<=s.1/\s.1<=(b.length:Int)+4/\(s.2.length:Int)<=s.1) (λs=>((b.length:Int)+4-s.1).toNat) ⟨dC,dC,dE⟩ dC λs hs=> ?_;refine tI (λhq=> ?_) λ_=>tR<|tR trivial;have hq:=dTT hq;refine tB (E0c hl hs.1 hq) λn hn=>tI dI λhneg=> ?_;have hneg:=dFF hneg;have his:=hn.resolve_left hneg;refine tY (a0e dD)<|tB (v0z _) λz hz=>tR ?_;have h1:=hz.2.2 his;have e1:zA .i64 (s.1+z)=s.1+z:=w64 dA dA;rw[e1];exact⟨⟨dC,dC,dD⟩,dC⟩
theorem m0P (ht:t.length<=1)(hn:n<=1000):Tot (b0G t n) (λl=>l.length<=1000):=by
  unfold b0G;refine tB (p:=λl=>l.length<=1000) ?_ λ_ h=>tR h;refine tL (λs:List UInt8×Int=>0<=s.2/\s.2<=1000/\(s.1.length:Int)<=s.2) (λs=>(1000-s.2).toNat) ⟨dC,dC,dE⟩ dC λs hs=> ?_;refine tI (λhq=> ?_) λ_=>tR dC;have hq:=dTT hq;refine tY (a0e dA)<|tR ?_;have e1:zA .i64 (s.2+1)=s.2+1:=w64 dA dA;rw[e1];exact⟨⟨dC,dC,dD⟩,dC⟩
def P0a(p:a0h):Prop:=(0<=p.ab_/\p.ab_<=40)/\(0<=p.N_/\p.N_<=40)/\(0<=p.U_/\p.U_<=40)/\(0<=p.J_/\p.J_<=40)/\(0<=p.H_/\p.H_<=40)/\(0<=p.T_/\p.T_<=40)/\(0<=p.Q_/\p.Q_<=40)/\(0<=p.M_/\p.M_<=40)/\(0<=p.i_/\p.i_<=40)
theorem t0x (hp:P0a p):Tot (d0B p) (λl=>l.length<=8000):=by
  obtain⟨c1,c2,c3,c4,c5,c6,c7,c8,c9⟩:=hp;unfold d0B;have e0:zA .i64 (p.ab_+p.N_)=p.ab_+p.N_:=w64 dA dA;have e1:zA .i64 (p.M_-p.Q_)=p.M_-p.Q_:=w64 dA dA;have e2:zA .i64 (p.J_-p.U_)=p.J_-p.U_:=w64 dA dA;rw[e0,e1,e2];refine tB (p:=λl=>l.length<=200) ?_ λa ha=> ?_;refine tL (λs:List UInt8×Int=>0<=s.2/\s.2<=80/\(s.1.length:Int)<=2*s.2) (λs=>(80-s.2).toNat) ⟨dC,dC,dE⟩ dC λs hs=> ?_;refine tI (λhq=> ?_) λ_=>tR dC;have hq:=dTT hq;have f1:zA .i64 (s.2+1)=s.2+1:=w64 dA dA;rw[f1];refine tB (p:=λl=>(l.length:Int)<=s.1.length+2) ?_ λb hb=>tR ⟨⟨dC,dC,dC⟩,dC⟩;refine tB (p:=λl=>(l.length:Int)<=s.1.length+1) ?_ λb hb=> ?_;refine zC ?_ λg _=>tI (λ_=>tY (a0e dD)<|tR dE) λ_=>tR dA;refine tI (λ_=>tI dI λ_=>tI (λ_=>tI (λhg=> ?_) dI) dI) dI;have hg:=dTT hg;exact tY (by unfold nz;rw[dF dA];rfl)<|tR trivial;exact tI (λ_=>tY (a0e dD)<|tR dD) λ_=>tY (a0e dD)<|tR dD;refine tB (m0P dE dA) λb hb=>tB (m0P dE dA) λc hc=> ?_;refine tY (a0e dA)<|tY (a0e dD) ?_;refine tB (p:=λl=>l.length<=5000) ?_ λd hd=> ?_;refine tI (λ_=>tY (a0e dD)<|tB (m0P dE dA) λe he=>tY (a0e dD)<|tB (m0P dE dA) λf hf=>tY (a0e dD)<|tR dD) λ_=>tR dD;refine tB (p:=λl=>l.length<=8000) ?_ λd hd=>tR hd;refine tI (λ_=>tY (a0e dD)<|tB (p:=λl=>l.length<=5002) ?_ λe he=>tB (m0P dE dA) λf hf=>tY (a0e dA)<|tR dD) λ_=>tR dA;exact tI (λ_=>tY (a0e dD)<|tR dD) λ_=>tR dD
theorem l0r {l:List a0b} (hl:l.length<=300):Tot (b0E l) (λt=>t.length<=3000):=by
  unfold b0E;refine tB (p:=λs=>s.1.length<=2999) ?_ λs hs=>tB (p:=λt=>t.length<=3000) (tI (λ_=>tY (a0e dD)<|tR dD) λ_=>tR dA) λ_ h=>tR h;refine tL (λs:List UInt8×Bool×Int=>0<=s.2.2/\s.2.2<=(l.length:Int)/\(s.1.length:Int)<=8*s.2.2) (λs=>((l.length:Int)-s.2.2).toNat) ⟨dC,dC,dE⟩ dC λs hs=> ?_;refine tI (λhq=> ?_) λ_=>tR dC;have hq:=dTT hq;have hin:=a0c hs.1 hq;have f1:zA .i64 (s.2.2+1)=s.2.2+1:=w64 dA dA;rw[f1];refine tB (p:=λt=>(t.1.length:Int)<=s.1.length+8) ?_ λt ht=>tR ⟨⟨dC,dC,dC⟩,dC⟩;refine tY hin<|tB (p0m _) λsp _=>zC ?_ λap _=>zC ?_ λqu _=>tB (p:=λt=>(t.1.length:Int)<=s.1.length+1) ?_ λt ht=> ?_;exact tY hin<|tI (λ_=>tY hin<|tR trivial) dI;exact tY hin<|tI dI dI;exact zC (tI dI dI) λ_ _=>tI (λ_=>tY (a0e dD)<|tR dE) λ_=>tR dC;have sgn: ∀c:UInt8,Tot (bif room (t.1.length+([c]:List UInt8).length)then(wA ((t.1++([c]:List UInt8)),t.2))else none) (λu=>(u.1.length:Int)<=s.1.length+8):=λc=>tY (a0e dD) (tR dD)
  refine tY hin<|tI (λ_=>tY hin<|tB (v0u _) λx hx=>tY (a0e dA)<|tI (λ_=>tY (a0e dD)<|tR dD) λ_=>tR dD) λ_=>tI (λ_=>sgn _) λ_=>tI (λ_=>sgn _) λ_=>tI (λ_=>sgn _) λ_=>tI (λ_=> ?_) λ_=>tR dC;exact tB (v0u _) λx hx=>tY (a0e dA)<|tR dD
def o0m(p:a0h)(w:Int):Tot (b0M p w) (λt=>t.length<=5):=by
  unfold b0M;exact tI (λ_=>tB (v0u _) λx hx=>tY (a0e dD)<|tR dD) λ_=>tR dE
def D0N (hp:P0a p)(h1:p.d_.length<=300)(h2:p.e_.length<=300)(h3:p.x_.length<=300)(h4:p.w_.length<=300):Tot (f0S p) (λt=>t.length<=50000):=by
  unfold f0S;refine tB (o0m p 1) λa ha=>tB (l0r h1) λb hb=>tY (a0e dA) ?_;refine tB (o0m p 2) λc hc=>tY (a0e dD)<|tB (t0x hp) λd hd=>tY (a0e dD) ?_;refine tB (o0m p 3) λe he=>tY (a0e dD)<|tB (l0r h2) λf hf=>tY (a0e dD) ?_;refine tB (o0m p 4) λg hg=>tY (a0e dD) ?_;refine tB (p:=λt=>t.length<=50000) ?_ λ_ h=>tR h;refine tI (λ_=> ?_) λ_=>tR dD;refine tY (a0e dD)<|tB (l0r h3) λi hi=>tY (a0e dD)<|tB (t0x hp) λj hj=>tY (a0e dD)<|tB (l0r h4) λk hk=>tY (a0e dD)<|tR dD
theorem x0E (ht:t.length<=100000):Tot (a0F t) (λ_=>True):=by
  unfold a0F;refine tB (C0m<|by rw[d0w];exact ht) λd _=>tI dI λ_=>tI dI λh1=> ?_;have h1:=dFF h1;have hl:d.1.length<=10000:=by omega
  refine tB (y0i hl) λf hf=> ?_;refine zC ?_ λs _=> ?_;refine tB (p:=λb=>b=oA->f.2.2.2.2=oA/\f.2.2.2.1<d.1.length) ?_ λb hb=> ?_;refine tI (λhq=> ?_) λ_=>tR dH;rw[k0C (hf hq).2.2.1];exact tR λh=>⟨hq,s0o (dTT h) dA⟩;refine tI (λhq=> ?_) dI;obtain⟨g1,g2⟩:=hb hq;have g:=hf g1;have f1:zA .i64 (f.2.2.2.1+1)=f.2.2.2.1+1:=w64 dA dA;rw[f1];exact tB (B0A hl dA dA g.1 g.2.1) (λo ho=>tR trivial)
  · refine Tot.joinQ (zC (tI dI dI) λb _=>tI dI dI) (λ_=> ?_)
    refine Tot.joinQ (zC ?_ λb _=>tI dI dI) dI
    repeat' (first|exact tR trivial|refine tI (λ_=> ?_) λ_=> ?_)
def v0t {x:List a0b} (hl:x.length<=4611686018427387904):d0s x y=wA (vA<|x=y):=L0K hl
def G0I {a b:a0h} (hl:P0T a):f0T a b=wA (vA<|a=b):=by
  obtain⟨l1,l2,l3,l4⟩:=hl;unfold f0T;rw[v0t l1,v0t l2,v0t l3,v0t l4];simp only[ah];obtain⟨p1,p2,p3,p4,p5,p6,p7,p8,p9,p10,p11,p12,p13,p14,p15,p16,p17⟩:=a;obtain⟨q1,q2,q3,q4,q5,q6,q7,q8,q9,q10,q11,q12,q13,q14,q15,q16,q17⟩:=b;simp only[a0h.mk.injEq];by_cases h1:p1=q1
  · by_cases h2:p2=q2
    · by_cases h3:p3=q3
      · by_cases h4:p4=q4
        · by_cases h16:p16=q16
          · by_cases h17:p17=q17
            · by_cases h6:p6=q6<;>by_cases h7:p7=q7<;>by_cases h10:p10=q10<;>by_cases h11:p11=q11<;>cases p5<;>cases q5<;>cases p15<;>cases q15<;>simp[h1,h2,h3,h4,h6,h7,h10,h11,h16,h17,a0j]<;>(by_cases h8:p8=q8<;>by_cases h9:p9=q9<;>by_cases h12:p12=q12<;>by_cases h13:p13=q13<;>simp[h8,h9,h12,h13])
            · cases p5<;>cases q5<;>simp[h1,h2,h3,h4,h16,h17,a0j]
          · cases p5<;>cases q5<;>simp[h1,h2,h3,h4,h16,a0j]
        simp[h1,h2,h3,h4,a0j]
      simp[h1,h2,h3,a0j]
    · by_cases h3:p3=q3<;>simp[h1,h2,h3,a0j]
  · by_cases h3:p3=q3<;>simp[h1,h3,a0j]
theorem q0d {l:List a0b} (hl:l.length<=1000):Tot (c0f l) (λ_=>True):=by
  unfold c0f;refine tJ<|tL (λs:Int=>0<=s/\s<=(l.length:Int)) (λs=>((l.length:Int)-s).toNat) ⟨dA,dA⟩ dA λs hs=> ?_;refine tI (λhq=> ?_) λ_=>tR<|tR trivial;have hq:=dTT hq;have f1:zA .i64 (s+1)=s+1:=w64 dA dA;rw[f1];exact tY (a0c hs.1 hq)<|tB (y0b _) λ_ _=>tI dI λ_=>tR ⟨⟨dA,dA⟩,dA⟩
theorem B0O (h1:p.d_.length<=300)(h2:p.e_.length<=300)(h3:p.x_.length<=300)(h4:p.w_.length<=300):Tot (c0g p) (λ_=>True):=by
  unfold c0g;generalize hL:([p.ab_,p.N_,p.U_,p.J_,p.H_,p.T_,p.Q_,p.M_,p.i_]:List Int)=L;have hlen:L.length=9:=by rw[<-hL];rfl
  refine tJ<|tL (λs:Int=>0<=s/\s<=(L.length:Int)/\ ∀j:Nat,(j:Int)<s->0<=nth L j/\nth L j<=40) (λs=>((L.length:Int)-s).toNat) ⟨dA,dA,λj hj=>dA⟩ dA λs hs=> ?_;refine tI (λhq=> ?_) λhq=>tR (show Tot _ _ from ?_);have hq:=dTT hq;have hin:=a0c hs.1 hq;refine tJ<|tB (p:=λb=>b=yA->0<=nth L s/\nth L s<=40) ?_ λb hb=> ?_;refine tY hin<|tY hin<|tI (λ_=>tR dH) λg1=>tY hin<|tY hin<|tR λg2=> ?_;have g1:=dFF g1;have g2:=dFF g2;omega
  cases b with
  |true=>exact tR trivial
  |false=>
    have hb:=hb rfl;refine tR (show Tot _ _ from tR ?_);have f1:zA .i64 (s+1)=s+1:=w64 dA dA;rw[f1];refine⟨⟨dA,dA,λj hj=> ?_⟩,dA⟩;by_cases hjs:(j:Int)<s;exact hs.2.2 j hjs;have:(j:Int)=s:=by omega
    rw[this];exact hb
  · have hq:=dFF hq
    have hall:=hs.2.2;have hs9:s=9:=by omega
    subst hs9;subst hL
    have hc:P0a p:=⟨hall 0 dA,hall 1 dA,hall 2 dA,hall 3 dA,hall 4 dA,hall 5 dA,hall 6 dA,hall 7 dA,hall 8 dA⟩
    have r1:=q0d (l:=p.d_) dA;have r2:=q0d (l:=p.e_) dA;have r3:=q0d (l:=p.x_) dA;have r4:=q0d (l:=p.w_) dA;refine tB (y0b _) λ_ _=> ?_;refine zC (tB r1 λ_ _=>tI (λ_=>tB r2 dJ) dI) λ_ _=> ?_;refine zC (tB r3 λ_ _=>tI (λ_=>tB r4 dJ) dI) λ_ _=> ?_;refine tJ (zC ?_ λb _=> ?_)
    · repeat' (first|exact tR trivial|refine tI (λ_=> ?_) λ_=> ?_)
    cases b with
    |true=>exact tR trivial
    |false=>
      obtain⟨t,ht,htl⟩:=D0N hc h1 h2 h3 h4;rw[ht];refine tR (show Tot _ _ from ?_);show Tot (jA (a0F t) _) _;refine tB (x0E (t:=t) dA) λo _=> ?_;refine zC (tI (λg=> ?_) dI) λ_ h=>tR h;rw[G0I ⟨dA,dA,dA,dA⟩];exact tR trivial
/-! What is read of a pattern is no longer than its runes. -/
def Im (x:Option α)(p:α->Prop):Prop:= ∀o,x=wA o->p o
theorem qA {a:α} {p:α->Prop} (h:p a):Im (wA a) p:=λo e=>by cases e;exact h
theorem qQ {p:α->Prop} :Im (Option.none:Option α) p:=λo e=>by cases e
theorem qC {x:Option α} {k:α->Option β} {p:α->Prop} {q:β->Prop} (h:Im x p)(hk: ∀o,p o->Im (k o) q):Im (jA x k) q:=by
  intro o e
  cases x with
  |none=>cases e
  |some a=>exact hk a (h a rfl) o e
theorem qB {x:Option α} {k:α->Option β} {q:β->Prop} (hk: ∀o,Im (k o) q):Im (jA x k) q:=qC (p:=λ_=>True) (λ_ _=>trivial) λo _=>hk o
def qE {t e:Option α} {p:α->Prop} (ht:Im t p)(he:Im e p):Im (bif b then t else e) p:=by cases b<;>assumption
def qG {x:Option (S⊕X)} {k:S->Option X} {q:X->Prop} (P:S->Prop)(h:Im x (λy=>match y with| .inl s=>P s| .inr r=>q r))(hk: ∀s,P s->Im (k s) q):Im (jA x<|a0j k) q:=by
  refine qC h (λy hy=> ?_)
  cases y with
  |inl s=>exact hk s hy
  |inr r=>exact qA hy
theorem qL {step:S->Option (S⊕O)} {q:O->Prop} (I:S->Prop) {s0:S} (h0:I s0)(hs: ∀s,I s->Im (step s) (λy=>match y with| .inl s=>I s| .inr o=>q o)): ∀(n:Nat),Im (a0m step n s0) q:=by
  intro n
  induction n generalizing s0 with
  |zero=>intro o e;cases e
  |succ n ih=>
    intro o e;simp only[a0m]at e
    cases hx:step s0 with
    |none=>rw[hx]at e;cases e
    |some y=>
      rw[hx]at e;have:=hs s0 h0 y hx
      cases y with
      |inl s=>exact ih this o e
      |inr r=>cases e;exact this
theorem Tot.im {x:Option α} {p q:α->Prop} (h:Tot x p)(h2:Im x q):Tot x (λo=>p o/\q o):=by
  obtain⟨o,e,hp⟩:=h;exact⟨o,e,hp,h2 o e⟩
theorem qS {x:Option α} {p:α->Prop} (h:Tot x p):Im x p:=by
  obtain⟨o,e,hp⟩:=h;intro o' e';rw[e]at e';cases e';exact hp
theorem qT {x:Option α} {p q:α->Prop} (h:Im x p)(h2:Im x q):Im x (λo=>p o/\q o):=λo e=>⟨h o e,h2 o e⟩
abbrev Im.and:=@qT
def qD {t e:Option α} {p:α->Prop} (ht:b=oA->Im t p)(he:b=yA->Im e p):Im (bif b then t else e) p:=by
  cases b with
  |true=>exact ht rfl
  |false=>exact he rfl
def keepP(p q:a0h):Prop:=q.d_=p.d_/\q.e_=p.e_/\q.x_=p.x_/\q.w_=p.w_
def keepP.refl(p:a0h):keepP p p:=⟨rfl,rfl,rfl,rfl⟩
def k0t(p:a0h)(l:List Int)(i w:Int):Im (b0K p l i w) (λo=>keepP p o.1):=by
  unfold b0K;refine qG (λ_=>True) (qB λb=>qE (qA<|keepP.refl p)<|qA trivial) λ_ _=> ?_;exact qE (qA<|keepP.refl p)<|qE (qA ⟨rfl,rfl,rfl,rfl⟩) qQ
def z0b(p:a0h)(l:List Int)(i:Int):Im (c0z p l i) (λo=>keepP p o.1):=by
  unfold c0z;refine qL (λ_=>True) trivial (λs _=>qB λy0=>qB λy1=> ?_) _;refine qG (λ_=>True) (qB λb=>qE (qA trivial)<|qA trivial) λ_ _=>qE (qA trivial) ?_;refine qG (λ_=>True) (qB λb=>qE ?_<|qA trivial) λ_ _=>qB λs1=>qB λs2=>qA ⟨rfl,rfl,rfl,rfl⟩;exact qG (λ_=>True) (qB λb=>qE (qA (show keepP p _ from⟨rfl,rfl,rfl,rfl⟩))<|qA trivial) λ_ _=>qE (qA trivial) qQ
theorem t0y(p:a0h)(l:List Int)(i:Int):Im (c0A p l i) (λo=>keepP p o.1):=by
  unfold c0A;refine qB λy2=>qG (λs=>s.2.1=p.d_/\s.2.2.1=p.e_/\s.2.2.2.1=p.x_/\s.2.2.2.2.1=p.w_) ?_ λs hs=>qB λy7=> ?_;refine qE (qB λ_=>qA ⟨rfl,rfl,rfl,rfl⟩) (qC (z0b p l i) λy0 hk=>qE (qA<|keepP.refl p)<|qB λ_=>qE (qB λ_=>qB λ_=>qE (qA ⟨hk.1,hk.2.1,hk.2.2.1,hk.2.2.2⟩)<|qA ⟨hk.1,hk.2.1,hk.2.2.1,hk.2.2.2⟩)<|qA ⟨hk.1,hk.2.1,hk.2.2.1,hk.2.2.2⟩)
  · obtain⟨a,b,c,d⟩:=hs
    repeat' (first|exact qA ⟨a,b,c,d⟩|refine qB (λ_=> ?_)|refine qE ?_ ?_|exact qQ)
theorem C0x (hl:l.length<=10000)(h:0<=i)(hi:i<=l.length):Tot (a0v l i) (λo=>(o.1.length:Int)<=l.length):=by
  unfold a0v;refine tJ (tL (λs:Int×List a0b=>0<=s.1/\s.1<=(l.length:Int)/\(s.2.length:Int)<=s.1) (λs=>((l.length:Int)-s.1).toNat) ⟨h,hi,by simpa using h⟩ dC λs hs=> ?_);refine tI (λhh=> ?_) (λhh=>tR<|tR<|by have:=hs.2;simp only;omega);have hlt:=dTT hh;refine tY (a0c hs.1 hlt)<|tB (A0k _) λy _=>tB (p0m _) λy2 _=> ?_;have e1:zA .i64 (s.1+1)=s.1+1:=w64 dA dA;rw[e1];refine tI (λ_=>tY (a0e dD)<|tR ⟨⟨dC,dC,dD⟩,dC⟩) λ_=> ?_;refine tI (λ_=>tI (λ_=>tR (show((s.2.length:Nat):Int)<=l.length by omega)) λ_=>tY (a0e dD)<|tR ⟨⟨dC,dC,dD⟩,dC⟩) λ_=> ?_;rw[k0C dA];show Tot (bif _ then _ else _) _;refine tI (λhq=> ?_) λhq=> ?_;have:=s0o (dTT hq) dA;refine tY (a0e dD)<|tR ?_;have e2:zA .i64 (s.1+2)=s.1+2:=w64 dA dA;rw[e2];exact⟨⟨dC,dC,dD⟩,dC⟩;refine tB (p:=λo:Int×List a0b=>s.1+1<=o.1/\o.1<=(l.length:Int)/\(o.2.length:Int)<=o.1) ?_ λo ho=> ?_;refine tL (λt:Int×List a0b=>s.1+1<=t.1/\t.1<=(l.length:Int)/\(t.2.length:Int)<=t.1) (λt=>((l.length:Int)-t.1).toNat) ⟨dC,dC,dC⟩ dC λt ht=> ?_;have f1:zA .i64 (t.1+1)=t.1+1:=w64 dA dA;rw[f1];refine tJ<|tB (p:=λb=>b=oA->t.1<l.length/\(nth l t.1=39->t.1+1<l.length)) ?_ λb hb=> ?_;refine tI (λhh=> ?_) λ_=>tR dH;have h3:=dTT hh;refine tY (a0c dA h3)<|tI (λhn=>tR λ_=>⟨h3,λhe=>absurd he<|dTT hn⟩) λ_=> ?_;rw[k0C dA];exact tR (λhb=>⟨h3,λ_=>s0o (dTT hb) dA⟩)
  cases b with
  |false=>exact tR ht
  |true=>
    obtain⟨g1,g2⟩:=hb rfl;refine tR (show Tot _ _ from ?_);refine tY (a0c dA g1)<|tY (a0e dD) ?_;refine tB (p:=λv=>t.1<=v/\v<l.length) (tY (a0c dA g1)<|tI (λhh=>tR ⟨dA,g2<|dTT hh⟩) λ_=>tR ⟨dA,g1⟩) λv hv=>tR ?_;have f2:zA .i64 (v+1)=v+1:=w64 dA dA;rw[f2];exact⟨⟨dC,dC,dD⟩,dC⟩
  refine tI (λ_=>tR (show((([]:List a0b).length:Nat):Int)<=l.length by simp)) λhh=>tR ?_;have h3:=dFF hh;have f1:zA .i64 (o.1+1)=o.1+1:=w64 dA dA;rw[f1];exact⟨⟨dC,dC,dC⟩,dC⟩
theorem q0U (hl:l.length<=10000)(h:0<=i):Im (a0v l i) (λo=>(o.1.length:Int)<=l.length):=by
  by_cases hi:i<=l.length;obtain⟨o,e,h1⟩:=C0x hl h hi;intro o' e';rw[e]at e';cases e';exact h1;unfold a0v;refine qG (λs=>s.2=[]) (qL (λs:Int×List a0b=>(l.length:Int)<s.1/\s.2=[]) ⟨dC,rfl⟩ (λs hs=> ?_) _) (λs hs=>qA<|by rw[hs];simp);rw[dF (show¬s.1<(l.length:Int) by omega)];exact qA hs.2
def nb (h:(!b)=yA):b=true:=by simpa using h
theorem E0U (hl:l.length<=10000):Im (b0H l) (λo=>g0r o.1 l.length):=by
  unfold b0H;refine qC ((qS<|p0z hl dA dA).and<|k0t _ _ _ _) λa ha=> ?_;obtain⟨ha,k1,k2,k3,k4⟩:=ha;have z1:a.1.d_.length<=l.length:=by rw[k1];simp
  have z2:a.1.e_.length<=l.length:=by rw[k2];simp
  have z3:a.1.x_.length<=l.length:=by rw[k3];simp
  have z4:a.1.w_.length<=l.length:=by rw[k4];simp
  refine qD (λ_=>qA ⟨z1,z2,z3,z4⟩) λh1=>qC ((qS<|k0d hl ha.1<|ha.2.1<|nb h1).and<|q0U hl ha.1) λb hb=> ?_;obtain⟨hb,kb⟩:=hb;have kb:b.1.length<=l.length:=by omega
  refine qD (λ_=>qA ⟨z1,z2,z3,z4⟩) λh2=>qC ((qS<|p0z hl hb.1 hb.2).and<|k0t _ _ _ _) λc hc=> ?_;obtain⟨hc,c1,c2,c3,c4⟩:=hc;refine qD (λ_=>qA ⟨kb,z2,z3,z4⟩) λh3=>qC ((qS<|u0Q hl hc.1<|hc.2.1<|nb h3).and<|t0y _ _ _) λd hd=> ?_;obtain⟨hd,d1,d2,d3,d4⟩:=hd;refine qD (λ_=>qA ⟨kb,z2,z3,z4⟩) λh4=>qC ((qS<|p0z hl hd.1 hd.2).and<|k0t _ _ _ _) λe he=> ?_;obtain⟨he,e1,e2,e3,e4⟩:=he;refine qD (λ_=>qA ⟨kb,z2,z3,z4⟩) λh5=>qC ((qS<|k0d hl he.1<|he.2.1<|nb h5).and<|q0U hl he.1) λf hf=> ?_;obtain⟨hf,kf⟩:=hf;have kf:f.1.length<=l.length:=by omega
  refine qD (λ_=>qA ⟨kb,z2,z3,z4⟩) λh6=>qC (k0t _ _ _ _) λg hg=>qA ?_;obtain⟨g1,g2,g3,g4⟩:=hg;refine⟨?_, ?_, ?_, ?_⟩;rw[g1];show e.1.d_.length<=_;rw[e1,d1,c1];exact kb;rw[g2];exact kf;rw[g3];show e.1.x_.length<=_;rw[e3,d3,c3];exact z3;rw[g4];show e.1.w_.length<=_;rw[e4,d4,c4];exact z4
theorem B0B {a b:Int} (hl:l.length<=10000)(h:0<=i)(hi:i<=l.length)(ha:0<=a)(hb:b<=l.length)(hp:g0r p l.length):Im (b0y p l i a b) (λo=>g0r o.1 l.length):=by
  unfold b0y;obtain⟨p1,p2,p3,p4⟩:=hp;refine qC ((qS<|k0d hl h hi).and<|q0U hl h) λc hc=>qE (qA ⟨p1,p2,p3,p4⟩) ?_;obtain⟨hc,kc⟩:=hc;have kc:c.1.length<=l.length:=by omega
  refine qG (λs=>0<=s) (qL (λs:Int×Int=>0<=s.1/\s.1<=(l.length:Int)+s.2/\0<=s.2) ⟨hc.1,dC,ha⟩ (λs hs=> ?_) _) λs hs=> ?_;refine qD (λhh=>qB λy=>qE (qE (qA ⟨p1,p2,kc,p4⟩)<|qA ?_) qQ) λ_=>qA hs.1;have hh:=dTT hh;have e1:zA .i64 (s.1+1)=s.1+1:=w64 dA dA;have e2:zA .i64 (s.2+1)=s.2+1:=w64 dA dA;rw[e1,e2];exact⟨dC,dC,dC⟩;refine qC (q0U hl hs) λd hd=>qA ⟨p1,p2,kc, ?_⟩;show d.1.length<=l.length;omega
theorem D0V (ht:t.length<=100000):Im (a0F t) (λo=>g0r o.1 120):=by
  unfold a0F;refine qB λd=>qE (qA ⟨dE,dE,dE,dE⟩)<|qD (λ_=>qA ⟨dE,dE,dE,dE⟩) λh1=> ?_;have h1:=dFF h1;have hl:d.1.length<=10000:=by omega
  have hw: ∀p:a0h,g0r p d.1.length->g0r p 120:=λp h=>⟨by have:=h.1;omega,by have:=h.2.1;omega,by have:=h.2.2.1;omega,by have:=h.2.2.2;omega⟩
  refine qC ((qS<|y0i hl).and<|E0U hl) λf hf=> ?_;obtain⟨hf,kf⟩:=hf;refine qC (p:=λs=>s.2.2.1.length<=120/\s.2.2.2.1.length<=120/\s.2.2.2.2.1.length<=120/\s.2.2.2.2.2.1.length<=120) ?_ λs hs=> ?_;refine qC (p:=λb=>b=oA->f.2.2.2.2=oA/\f.2.2.2.1<d.1.length) ?_ λb hb=> ?_;refine qD (λhq=> ?_) λ_=>qA dH;rw[k0C (hf hq).2.2.1];exact qA λh=>⟨hq,s0o (dTT h) dA⟩;refine qD (λhq=> ?_) λ_=>qA<|hw _ kf;obtain⟨g1,g2⟩:=hb hq;have g:=hf g1;have f1:zA .i64 (f.2.2.2.1+1)=f.2.2.2.1+1:=w64 dA dA;rw[f1];exact qC (B0B hl dA dA g.1 g.2.1 kf) λo ho=>qA<|hw _ ho;refine qG (λ_=>True) (qB λb=>qE (qA ⟨dE,dE,dE,dE⟩)<|qA trivial) λ_ _=> ?_;refine qG (λ_=>True) (qB λb=>qE (qA ⟨dE,dE,dE,dE⟩)<|qA trivial) λ_ _=> ?_;exact qA hs
theorem P0P (ht:t.length<=100000):Tot (a0F t) (λo=>g0r o.1 120/\Tot (c0g o.1) λ_=>True):=by
  obtain⟨o,e,_⟩:=x0E ht;have h:=D0V ht o e;exact⟨o,e,h,B0O (by have:=h.1;omega) (by have:=h.2.1;omega) (by have:=h.2.2.1;omega)<|by have:=h.2.2.2;omega⟩
/-! The reference's classes, signs and affixes: they answer. -/
def goP (s:Int)(x:Int⊕O):Prop:=match x with
  | .inl s'=>s'=s+1
  | .inr _=>True
def P0Y (x:Int⊕O):Prop:=match x with
  | .inl _=>False
  | .inr _=>True
theorem Tot.srch {step:Int->Option (Int⊕O)} (n:Nat)(hn:n<=4294967296)(h: ∀s:Int,0<=s->s<(n:Int)->Tot (step s) (goP s))(he: ∀s:Int,s=n->Tot (step s) P0Y):Tot (a0m step big 0) (λ_=>True):=by
  refine tW (λs:Int=>s) n (λ_=>True) hn ⟨trivial,dA,dA⟩ (λs _ h0 h1=>(h s h0 h1).mono λo ho=> ?_) (λs _ e=>(he s e).mono λo ho=> ?_)
  cases o with
  |inl s'=>exact⟨trivial,ho⟩
  |inr r=>trivial
  cases o with
  |inl s'=>exact ho.elim
  |inr r=>trivial
def y0H (s:Int)(x:A⊕(Int⊕O)):Prop:=match x with
  | .inl _=>True
  | .inr y=>goP s y
theorem Tot.joinG {x:Option (A⊕(Int⊕O))} {k:A->Option (Int⊕O)} {s:Int} (h:Tot x<|y0H s)(hk: ∀a,Tot (k a)<|goP s):Tot (jA x<|a0j k) (goP s):=by
  refine tJ (h.mono λy hy=> ?_)
  cases y with
  |inl a=>exact hk a
  |inr r=>exact hy
theorem Tot.joinT {x:Option (A⊕O)} {k:A->Option O} (h:Tot x λ_=>True)(hk: ∀a,Tot (k a) λ_=>True):Tot (jA x<|a0j k) (λ_=>True):=by
  refine tJ (h.mono λy _=> ?_)
  cases y with
  |inl a=>exact hk a
  |inr r=>trivial
def nx {s:Int} (h0:0<=s)(h1:s<=4294967296):zA .i64 (s+1)=s+1:=w64 dA dA
def A0s:Tot d0h (λl=>l.length=20):=tR rfl
theorem J0v(x:Int):Tot (d0u x) (λ_=>True):=by
  unfold d0u;refine tB A0s λl hl=>Tot.joinT (Tot.srch l.length dA (λs h0 h1=>tY (dT h1)<|tY (a0c h0 h1)<|tI dI λ_=>tR<|nx h0 dA) λs e=>zE e trivial) dI
theorem G0B(x:Int):Tot (f0q x) (λ_=>True):=by
  unfold f0q;refine tB A0s λl hl=>Tot.joinT (Tot.srch l.length dA (λs h0 h1=>tY (dT h1)<|Tot.joinG ?_ λ_=>tR<|nx h0 dA) λs e=>zE e trivial) dI;refine Tot.mono (p:=λy=>y0H s y) ?_ λ_ h=>h;refine tW (λs:Int=>s) 10 (λ_=>True) dA ⟨trivial,dA,dA⟩ (λu _ g0 g1=>tY (dT g1)<|tY (a0c h0 h1)<|tI dI λ_=>tR ⟨trivial,nx g0 dA⟩) λu _ e=>zE e trivial
def G0M(x:Int):Tot (c0h x) (λ_=>True):=by
  unfold c0h;refine tB (y0b x) (λ_ _=>zC ?_ λ_ _=>zC ?_ λ_ _=>tB (G0B x) λ_ _=>tI dI λ_=>Tot.joinT ?_ λ_=>tI dI λ_=>Tot.joinT ?_ λ_=> ?_)
  · unfold g0k;repeat' (first|exact tR trivial|refine zI ?_ ?_|refine zB ?_ λ_=> ?_)
  · unfold h0t;repeat' (first|exact tR trivial|refine zI ?_ ?_|refine zB ?_ λ_=> ?_)
  · repeat' (first|exact tR trivial|refine zI ?_ ?_|refine zB ?_ λ_=> ?_)
  · repeat' (first|exact tR trivial|refine zI ?_ ?_|refine zB ?_ λ_=> ?_)
  · repeat' (first|exact tR trivial|refine zI ?_ ?_|refine zB ?_ λ_=> ?_)
theorem J0M (hl:l.length<=4294967296):Tot (f0V l) (λ_=>True):=by
  unfold f0V;refine Tot.joinT (Tot.srch l.length hl (λs h0 h1=>tY (dT h1)<|Tot.joinG (tY (a0c h0 h1)<|tB (G0M _) λ_ _=> ?_) λ_=>tR<|nx h0 dA) λs e=>zE e trivial) dI
  repeat' (first|exact tR trivial|refine zI ?_ ?_|refine zB ?_ λ_=> ?_)
theorem G0G (hl:l.length<=4294967296):Tot (f0r l) (λ_=>True):=by
  unfold f0r;refine Tot.joinT (tW (λs:Int×Int=>s.2) l.length (λ_=>True) hl ⟨trivial,dE⟩ (λs _ h0 h1=>tY (dT h1) ?_) λs _ e=>zE e trivial) dI;refine tJ (Tot.mono (p:=λx:Int⊕((Int×Int)⊕(Int⊕Bool))=>match x with| .inl _=>True| .inr (.inl _)=>False| .inr (.inr _)=>True) (tY (a0c h0 h1)<|tJ<|Tot.mono (p:=λx:Unit⊕(Int⊕((Int×Int)⊕(Int⊕Bool)))=>match x with| .inl _=>True| .inr (.inl _)=>True| .inr (.inr<|.inl _)=>False| .inr (.inr<|.inr _)=>True) ?_ λx hx=> ?_) λx hx=> ?_)
  · repeat' (first|exact tR trivial|refine zI ?_ ?_|refine zB ?_ λ_=> ?_)
  · cases x with
    |inl u=>
      show Tot _ _;refine zC ?_ (λ_ _=> ?_)<;>repeat' (first|exact tR trivial|refine zI ?_ ?_|refine zB ?_ λ_=> ?_)
    |inr r=>
      cases r with
      |inl s=>trivial
      |inr q=>
        cases q with
        |inl _=>exact hx.elim
        |inr _=>trivial
  cases x with
  |inl u=>exact tR ⟨trivial,nx h0 dA⟩
  |inr r=>
    cases r with
    |inl _=>exact hx.elim
    |inr _=>trivial
theorem G0C(s:b0z)(x:Int):Tot (f0n s x) (λ_=>True):=by
  unfold f0n;exact Tot.joinT (Tot.srch 10 dA (λs h0 h1=>tY (dT h1)<|tI dI λ_=>tR<|nx h0 dA) λs e=>zE e trivial) dI
def I0f(s:b0z)(x:Int):Tot (c0P s x) (λ_=>True):=by
  unfold c0P;refine tB (G0C s x) (λ_ _=> ?_)
  repeat' (first|exact tR trivial|refine zI ?_ ?_|refine zB ?_ λ_=> ?_)
theorem x0u (hl:l.length<=4294967296):Tot (e0u s l) (λ_=>True):=by
  unfold e0u;refine tB (J0M hl) (λ_ _=>tB (G0G hl) λ_ _=>Tot.joinT dK λ_=>Tot.joinT (Tot.srch l.length hl (λs h0 h1=>tY (dT h1)<|Tot.joinG (tY (a0c h0 h1)<|tB (I0f _ _) λ_ _=>zC (tI dI λ_=>tY (a0c h0 h1)<|tB (G0M _) dJ) λ_ _=> ?_) λ_=>tR<|nx h0 dA) λs e=>zE e trivial) dI)
  repeat' (first|exact tR trivial|refine zI ?_ ?_|refine zB ?_ λ_=> ?_)
def t0s {a:f0K} (ha:C0C a):Tot (d0p s a) (λ_=>True):=by
  obtain⟨h1,h2⟩:=ha;unfold d0p;exact tY (a0e dA)<|tY (a0e dA)<|tB (x0u dD) dJ
theorem A0o {x y:List Int} (hl:x.length<=4294967296):Tot (b0i x y) (λ_=>True):=by
  unfold b0i;refine tI dI λh=>Tot.joinT (Tot.srch x.length hl (λs h0 h1=>tY (dT h1)<|tY (a0c h0 h1)<|tY (a0c h0 ?_)<|tI dI λ_=>tR<|nx h0 dA) λs e=>zE e trivial) dI;have:=dFF h;omega
def t0f {a c:f0K} (ha:C0C a):Tot (d0o a c) (λ_=>True):=by
  obtain⟨h1,h2⟩:=ha;unfold d0o;refine tB (A0o dA) λ_ _=>zC (tI (λ_=>tB (A0o dA) dJ) dI) dJ
theorem A0y {l:List a0b} (hl:l.length<=4294967296):Tot (d0T l k) (λ_=>True):=by
  unfold d0T;refine zC (tW (λs:Int×Int=>s.2) l.length (λ_=>True) hl ⟨trivial,dE⟩ (λs _ h0 h1=>tY (dT h1)<|zC (tY (a0c h0 h1) ?_) λ_ _=>tR ⟨trivial,nx h0 dA⟩) λs _ e=>zE e trivial) dJ
  repeat' (first|exact tR trivial|refine zI ?_ ?_|refine zB ?_ λ_=> ?_)
theorem D0v {l:List a0b} (hl:l.length<=1000):Tot (e0t l) (λr=>r.length<=1001):=by
  unfold e0t;refine tB (p:=λr:List a0b=>r.length<=1001) (tW (λs:Int×List a0b=>s.1) l.length (λs=>(s.2.length:Int)<=s.1) dA ⟨dE,dE⟩ (λs hs h0 h1=>tY (dT h1)<|tB (p:=λr:List a0b=>(r.length:Int)<=s.2.length+1) (tY (a0c h0 h1)<|tI (λ_=>tY (a0e dD)<|tR dE) λ_=>tY (a0c h0 h1)<|tY (a0e dD)<|tR dE) λr hr=>tR ⟨?_,nx h0 dA⟩) λs hs e=>tN (dF dA)<|tR dC) λ_ h=>tR h;rw[nx h0 dA];simp only;omega
def D0w (hp:g0r p 1000)(g:Int):Tot (e0P p g) (λr=>r.1.length<=1001/\r.2.length<=1001):=by
  obtain⟨p1,p2,p3,p4⟩:=hp;unfold e0P;refine tJ<|zC dK λb _=>tI (λ_=>tR ⟨dC,dC⟩) λ_=>tR (show Tot _ _ from ?_);refine tJ<|zC dK λb _=>tI (λ_=>tR ⟨dC,dC⟩) λ_=>tR (show Tot _ _ from ?_);refine tJ<|zC (tI (λ_=>tB (A0y dA) λ_ _=>tB (A0y dA) dJ) dI) λb _=>tI (λ_=>tB (D0v p3) λa ha=>tB (D0v p4) λc hc=>tR ⟨ha,hc⟩) λ_=>tR (show Tot _ _ from ?_);exact tY (a0e dD)<|tR ⟨dD,dC⟩
theorem I0e {l:List a0b} (hl:l.length<=1001)(hc:cur.length<=6100):Tot (d0d l s cur) (λr=>r.length<=10000000):=by
  unfold d0d;refine tB (p:=λr:List Int=>r.length<=10000000) (tW (λs:Int×List Int=>s.1) l.length (λs=>(s.2.length:Int)<=6100*s.1) dA ⟨dE,dE⟩ (λu hu g0 g1=>tY (dT g1) ?_) λu hu e=>tN (dF dA)<|tR dC) λ_ h=>tR h;have one: ∀x:Int,Tot (bif room (u.2.length+([x]:List Int).length)then wA (u.2++ [x])else none) (λr:List Int=>(r.length:Int)<=u.2.length+6100):=λx=>tY (a0e dD) (tR<|by simp<;>omega)
  refine tB (p:=λr:List Int=>(r.length:Int)<=u.2.length+6100) (tY (a0c g0 g1)<|tI (λ_=>tY (a0c g0 g1)<|one _) λ_=>tI (λ_=>one _) λ_=>tI (λ_=>one _) λ_=>tI (λ_=>one _) λ_=>tI (λ_=>tY (a0e dA)<|tR dD) λ_=>tR dA) λr hr=>tR ⟨?_,nx g0 dA⟩;rw[nx g0 dA];simp only;omega
def r0g (hp:g0r p 1000)(hc:cur.length<=6100):Tot (c0d p s g cur) C0C:=by
  unfold c0d;exact tB (D0w hp g) λa ha=>tB (I0e ha.1 hc) λc hc1=>tB (I0e ha.2 hc) λd hd=>tR ⟨hc1,hd⟩
theorem L0V (ht:t.length<=4294967296):Tot (g0B t) (λ_=>True):=by
  unfold g0B;refine Tot.joinT (Tot.srch t.length ht (λs h0 h1=>tY (dT h1)<|Tot.joinG (tY (a0c h0 h1)<|zC ?_ λ_ _=> ?_) λ_=>tR<|nx h0 dA) λs e=>zE e trivial) (λ_=> ?_)
  · repeat' (first|exact tR trivial|refine zI ?_ ?_|refine zB ?_ λ_=> ?_)
  · repeat' (first|exact tR trivial|refine zI ?_ ?_|refine zB ?_ λ_=> ?_)
  · repeat' (first|exact tR trivial|refine zI ?_ ?_|refine zB ?_ λ_=> ?_)
theorem D0D(s:b0z):Tot (d0q s) (λ_=>True):=by
  unfold d0q;generalize hL:([s.n_,s.z_,s.u_,s.o_,s.v_,s.i_]:List Int)=L;have hl:L.length=6:=by rw[<-hL];rfl
  refine Tot.joinT (Tot.srch L.length dA (λi h0 h1=>tY (dT h1)<|Tot.joinG (tY (a0c h0 h1)<|tY (a0c h0 h1)<|tB (G0M _) λ_ _=> ?_) λ_=>tR<|nx h0 dA) λs e=>zE e trivial) λ_=>tB (J0v _) dJ;refine tJ (Tot.mono (p:=λx:Unit⊕(Unit⊕(Int⊕(Unit⊕Bool)))=>match x with| .inl _=>True| .inr y=>y0H i y) ?_ λx hx=> ?_)
  · refine zC dK (λb _=>tI dI dI)
  cases x with
  |inr y=>exact hx
  |inl u=>
    show Tot _ (y0H i);exact tW (λs:Int=>s) i.toNat (λ_=>True) dA ⟨trivial,dA,dA⟩ (λu _ g0 g1=>tY (dT dA)<|tY (a0c g0 dA)<|tY (a0c g0 dA)<|tY (a0c h0 h1)<|tY (a0c h0 h1)<|tI dI λ_=>tR ⟨trivial,nx g0 dA⟩) λu _ e=>tN (dF dA)<|tR trivial
theorem z0U {l:List a0b} (hl:l.length<=4294967296)(hk: ∀x∈l,0<=x.G_/\x.G_<=4):Tot (c0T k l n) (λ_=>True):=by
  unfold c0T;refine zC (tW (λs:Int×Int×Int×Int×Int×Int=>s.1) l.length (λ_=>True) hl ⟨trivial,dE⟩ (λs _ h0 h1=>tY (dT h1)<|tY (a0c h0 h1)<|tY (a0c h0 h1) ?_) λs _ e=>zE e trivial) (λ_ _=> ?_)
  · have hk:=hk _ (c0x h0 h1)
    repeat' (first|exact tR ⟨trivial,nx h0 dA⟩|(refine tI (λe=> ?_) λe=> ?_))
    all_goals(exfalso;simp only[decide_eq_false_iff_not,decide_eq_true_eq]at*;omega)
  · repeat' (first|exact tR trivial|refine zI ?_ ?_|refine zB ?_ λ_=> ?_)
theorem F0S {c:List Int} (hp:g0r p 1000)(hc:c.length<=6100):Tot (e0O s p c x) (λ_=>True):=by
  unfold e0O;refine Tot.joinT (Tot.srch 3 dA (λi h0 h1=>tY (dT h1)<|Tot.joinG (tB (r0g hp hc) λa ha=> ?_) λ_=>tR<|nx h0 dA) λs e=>zE e trivial) dI;obtain⟨h1',h2'⟩:=ha;refine tY (a0e dA)<|tY (a0e dA)<|Tot.mono (p:=λy=>y0H i y) ?_ λ_ h=>h;exact tW (λs:Int=>s) (a.d_++a.e_).length (λ_=>True) dD ⟨trivial,dA,dA⟩ (λu _ g0 g1=>tY (dT g1)<|tY (a0c g0 g1)<|tY (a0c g0 g1)<|tI dI λ_=>tR ⟨trivial,nx g0<|by simp at g1;omega⟩) λu _ e=>zE e trivial
def x0n {c:List Int} (hp:g0r p 1000)(hc:c.length<=6100):Tot (d0A s p c) (λ_=>True):=by
  unfold d0A;refine tB (G0M _) (λ_ _=>tB (I0f _ _) λ_ _=>tB (F0S hp hc) λ_ _=> ?_)
  repeat' (first|exact tR trivial|refine zI ?_ ?_|refine zB ?_ λ_=> ?_)
def v0L {c:List Int} (hp:g0r p 1000)(hc:c.length<=6100):Tot (c0U s p c) (λ_=>True):=by
  unfold c0U;refine tB (r0g hp hc) (λa ha=>tB (r0g hp hc) λb hb=>tB (r0g hp hc) λd hd=>zC (tB (t0s ha) λ_ _=>tI (λ_=>tB (t0s hb) λ_ _=>tI (λ_=>tB (t0s hd) dJ) dI) dI) λ_ _=>tB (t0f ha) λ_ _=>tB (t0f hb) λ_ _=> ?_)
  repeat' (first|exact tR trivial|refine zI ?_ ?_|refine zB ?_ λ_=> ?_)
def G0O {c:List Int} (hp:g0r p 1000)(hc:c.length<=6100):Tot (f0l s p c) (λ_=>True):=by
  unfold f0l;refine tB (x0u dA) (λ_ _=>tB (v0L hp hc) λ_ _=>tB (x0n hp hc) λ_ _=> ?_)
  repeat' (first|exact tR trivial|refine zI ?_ ?_|refine zB ?_ λ_=> ?_)
theorem J0L(a b:List UInt8):Tot (f0O a b) (λ_=>True):=by
  unfold f0O;refine tJ (Tot.mono (p:=λx:Unit⊕Bool=>match x with| .inl _=>a.length=3| .inr _=>True) (tB (p:=λb=>b=yA->a.length=3) (tI (λ_=>tR dH) λh=>tR λ_=>by have:=dFF h;omega) λb hb=>tI dI λe=>tR<|hb e) λx hx=> ?_)
  cases x with
  |inr r=>trivial
  |inl u=>
    have hx:a.length=3:=hx;have i0:inR 0 a.length=true:=a0c dA dA;have i1:inR 1 a.length=true:=a0c dA dA;have i2:inR 2 a.length=true:=a0c dA dA;show Tot _ _;rw[i0,i1,i2];simp only[jC]
    repeat' (first|exact tR trivial|refine zI ?_ ?_|refine zB ?_ λ_=> ?_)
/-! Of what kinds the pieces of a pattern are. -/
def okK(l:List a0b):Prop:= ∀x∈l,0<=x.G_/\x.G_<=4
def okK.nil:okK []:=λx h=>by cases h
theorem okK.snoc {l:List a0b} {x:a0b} (h:okK l)(hx:0<=x.G_/\x.G_<=4):okK (l++ [x]):=by
  intro y hy;rcases al.1 hy with hy|hy;exact h y hy;rw[aE.1 hy];exact hx
theorem okK.app {l m:List a0b} (h:okK l)(h2:okK m):okK (l++m):=by
  intro y hy;rcases al.1 hy with hy|hy;exact h y hy;exact h2 y hy
def D0p(x:Int):Im (d0t x) (λr=>0<=r/\r<=4):=by
  unfold d0t
  repeat' (first|exact qA ⟨dA,dA⟩|refine qE ?_ ?_|refine qB λ_=> ?_)
theorem o0w(l:List Int)(i:Int):Im (a0v l i) (λo=>okK o.1):=by
  unfold a0v
  have z: ∀r:Int,(0:Int)<=(⟨0,r⟩:a0b).G_/\(⟨0,r⟩:a0b).G_<=4:=λr=>⟨dE,dE⟩
  refine qG (λs=>okK s.2) (qL (λs:Int×List a0b=>okK s.2) okK.nil (λs hs=> ?_) _) λs hs=>qA hs;refine qE (qE (qC (D0p _) λy hy=>qB λy2=> ?_) qQ)<|qA hs;refine qE (qE (qA<|hs.snoc hy) qQ)<|qE (qE (qA hs)<|qE (qA<|hs.snoc<|z _) qQ)<|qB λy3=>qE (qE (qA<|hs.snoc<|z _) qQ)<|qC (p:=λo=>okK o.2) ?_ λo ho=>qE (qA okK.nil)<|qA ho;refine qL (λt:Int×List a0b=>okK t.2) (s0:=(zA .i64<|s.1+1,s.2)) hs (λt ht=> ?_) _;refine qG (λ_=>True) (qB λb=>qE (qA trivial)<|qA ht) λ_ _=> ?_;exact qE (qE (qB λv=>qA<|ht.snoc<|z _) qQ) qQ
def H0t(p:a0h):Prop:=okK p.d_/\okK p.e_/\okK p.x_/\okK p.w_
theorem q0E {q:a0h} (h:H0t p)(k:keepP p q):H0t q:=by
  obtain⟨a,b,c,d⟩:=h;obtain⟨k1,k2,k3,k4⟩:=k;exact⟨by rw[k1];exact a,by rw[k2];exact b,by rw[k3];exact c,by rw[k4];exact d⟩
theorem C0j(l:List Int):Im (b0H l) (λo=>H0t o.1):=by
  unfold b0H;refine qC (k0t _ _ _ _) λa ka=> ?_;have ka:H0t a.1:=q0E ⟨okK.nil,okK.nil,okK.nil,okK.nil⟩ ka;obtain⟨a1,a2,a3,a4⟩:=id ka;refine qE (qA ka) (qC (o0w _ _) λb kb=>qE (qA ka)<|qC (k0t _ _ _ _) λc kc=> ?_)
  have z:H0t (⟨b.1,a.1.e_,a.1.x_,a.1.w_,a.1.A_,a.1.ab_,a.1.N_,a.1.U_,a.1.J_,a.1.H_,a.1.T_,a.1.Q_,a.1.M_,a.1.i_,a.1.af_,a.1.y_,a.1.P_⟩:a0h):=⟨kb,a2,a3,a4⟩
  have kc:=q0E z kc;refine qE (qA z)<|qC (t0y _ _ _) λd kd=>qE (qA z)<|qC (k0t _ _ _ _) λe ke=>qE (qA z)<|qC (o0w _ _) λf kf=>qE (qA z)<|qC (k0t _ _ _ _) λg kg=>qA ?_;obtain⟨e1,e2,e3,e4⟩:=q0E (q0E kc kd) ke;exact q0E (p:=⟨e.1.d_,f.1,e.1.x_,e.1.w_,e.1.A_,e.1.ab_,e.1.N_,e.1.U_,e.1.J_,e.1.H_,e.1.T_,e.1.Q_,e.1.M_,e.1.i_,e.1.af_,e.1.y_,e.1.P_⟩) ⟨e1,kf,e3,e4⟩ kg
def y0U (l:List Int)(i a b:Int)(hp:H0t p):Im (b0y p l i a b) (λo=>H0t o.1):=by
  unfold b0y;obtain⟨p1,p2,p3,p4⟩:=hp;refine qC (o0w _ _) λc kc=>qE (qA ⟨p1,p2,p3,p4⟩) ?_;refine qG (λ_=>True) (qL (λ_:Int×Int=>True) trivial (λs hs=> ?_) _) λs _=>qC (o0w _ _) λd kd=>qA ⟨p1,p2,kc,kd⟩;exact qE (qB λy=>qE (qE (qA ⟨p1,p2,kc,p4⟩)<|qA trivial) qQ)<|qA trivial
theorem B0U(t:List UInt8):Im (a0F t) (λo=>H0t o.1):=by
  unfold a0F;have z:okK ([]:List a0b):=okK.nil;refine qB λd=>qE (qA ⟨z,z,z,z⟩)<|qE (qA ⟨z,z,z,z⟩) ?_;refine qC (C0j _) λf kf=> ?_;refine qC (p:=λs=>okK s.2.2.1/\okK s.2.2.2.1/\okK s.2.2.2.2.1/\okK s.2.2.2.2.2.1) ?_ λs hs=> ?_;exact qB λb=>qE (qC (y0U _ _ _ _ kf) λo ho=>qA ho)<|qA kf;refine qG (λ_=>True) (qB λb=>qE (qA ⟨z,z,z,z⟩)<|qA trivial) λ_ _=> ?_;refine qG (λ_=>True) (qB λb=>qE (qA ⟨z,z,z,z⟩)<|qA trivial) λ_ _=> ?_;exact qA hs
theorem M0i (ht:t.length<=100000):Tot (a0F t) (λo=>(g0r o.1 120/\H0t o.1)/\Tot (c0g o.1) λ_=>True):=by
  obtain⟨o,e,h1,h2⟩:=P0P ht;exact⟨o,e,⟨h1,B0U t o e⟩,h2⟩
theorem M0H (h:g0r p 120):g0r p 1000:=by
  obtain⟨a,b,c,d⟩:=h;exact⟨dA,dA,dA,dA⟩
def I0u:g0r (⟨([]:List a0b),([]:List a0b),([]:List a0b),([]:List a0b),yA,0,0,0,0,0,0,0,0,0,yA,0,0⟩:a0h) 1000:=⟨dE,dE,dE,dE⟩
theorem x0m (ht:t.length<=100000):Tot (b0k s k t) (λr=>g0r r.1 1000):=by
  unfold b0k;refine tB (M0i ht) λy hy=>tB hy.2 λ_ _=> ?_;obtain⟨⟨hl,hk1,hk2,hk3,hk4⟩,_⟩:=hy;have l12:=M0H hl;obtain⟨l1,l2,l3,l4⟩:=hl;refine Tot.joinQ (zC dK λb _=>tI (λ_=>tR I0u) dI) λ_=> ?_;refine Tot.joinQ (zC dK λb _=>tI (λ_=>tR I0u) dI) λ_=> ?_;refine Tot.joinQ (zC dK λb _=>tI (λ_=>tR I0u) dI) λ_=> ?_;refine tY (a0e dA)<|tY (a0e dA)<|tB (z0U dD<|okK.app hk1 hk2) λ_ _=>tY (a0e dA)<|tY (a0e dA)<|tB (z0U dD<|okK.app hk3 hk4) λ_ _=> ?_;refine Tot.joinQ (zC dK λb _=>tI (λ_=>tR I0u) dI) λ_=> ?_;refine tB (v0L l12 dE) λ_ _=>tB (x0n l12 dE) λ_ _=> ?_;exact Tot.joinQ (zC dK λb _=>tI (λ_=>tR I0u) dI) λ_=>tR l12
theorem s0t {c:j0s} (ht:c.X_.length<=100000):Tot (c0b s c) (λr=>g0r r.1 1000):=by
  unfold c0b;refine tB (M0i ht) λy hy=>tB hy.2 λ_ _=> ?_;obtain⟨⟨hl,hk1,hk2,hk3,hk4⟩,_⟩:=hy;have l12:=M0H hl;obtain⟨l1,l2,l3,l4⟩:=hl;refine Tot.joinQ (zC dK λb _=>tI (λ_=>tR I0u) dI) λ_=> ?_;refine Tot.joinQ (zC dK λb _=>tI (λ_=>tR I0u) dI) λ_=> ?_;refine tY (a0e dA)<|tY (a0e dA)<|tB (z0U dD<|okK.app hk1 hk2) λ_ _=>tB (v0L l12 dE) λ_ _=> ?_;exact Tot.joinQ (zC dK λb _=>tI (λ_=>tR I0u) dI) λ_=>tR l12
theorem D0L {q:a0h} {a b:Int} (hp:g0r p 1000)(hq:g0r q 1000):Tot (c0O s p a q b) (λ_=>True):=by
  unfold c0O;generalize hL:([(⟨0,0⟩:a0T),(⟨0,1⟩:a0T),(⟨1,0⟩:a0T),(⟨1,1⟩:a0T),(⟨1,2⟩:a0T),(⟨2,1⟩:a0T),(⟨2,2⟩:a0T)]:List a0T)=L;have hl:L.length=7:=by rw[<-hL];rfl
  refine Tot.joinT (Tot.srch L.length dA (λi h0 h1=>tY (dT h1)<|Tot.joinG (tY (a0c h0 h1)<|tY (a0c h0 h1)<|tB (r0g hp dE) λx hx=>tB (r0g hq dE) λy hy=>tB (t0f hx) λ_ _=>zC dK λ_ _=> ?_) λ_=>tR<|nx h0 dA) λs e=>zE e trivial) dI
  repeat' (first|exact tR trivial|refine zI ?_ ?_|refine zB ?_ λ_=> ?_)
def H0g {l:List j0s} (h: ∀c∈l,c.X_.length<=6000) (h0:0<=i)(h1:i<l.length):(nth l i).X_.length<=100000:=by
  have:=h _<|c0x h0 h1;omega
theorem D0E {l:List j0s} (hl:l.length<=1000)(h0:0<=i)(h1:i<l.length):Tot (f0m l (nth l i).ak_) (λr=>0<=r/\r<l.length):=by
  unfold f0m;refine tJ<|Tot.mono (p:=λx:Unit⊕Int=>match x with| .inl _=>False| .inr r=>0<=r/\r<l.length) (tL (λs:Int=>0<=s/\s<=i) (λs=>(i-s).toNat) dA dA λs hs=>tY (dT dA)<|tY (a0c hs.1 dA)<|tI (λ_=>tR ⟨hs.1,dA⟩) λe=> ?_) λx hx=> ?_;have e:=dFF e;have hne:s≠i:=λh=>e (by rw[h])
  rw[nx hs.1 dA];exact tR ⟨⟨dA,dA⟩,dA⟩
  cases x with
  |inl u=>exact hx.elim
  |inr r=>exact hx
theorem J0K {l:f0f} (hm:l.c_.length<=95)(ht: ∀c∈l.c_,c.X_.length<=6000):Tot (e0m l) (λ_=>True):=by
  unfold e0m;refine Tot.joinT (Tot.srch l.c_.length dA (λi h0 h1=>tY (dT h1)<|Tot.joinG (tY (a0c h0 h1)<|tB (s0t<|H0g ht h0 h1) λy hy=> ?_) λ_=>tR<|nx h0 dA) λs e=>zE e trivial) dI;refine tJ (Tot.mono (p:=λx:Unit⊕(Unit⊕(Int⊕(Unit⊕Int)))=>match x with| .inl _=>True| .inr z=>y0H i z) (zC dK λb _=>tI dI dI) λx hx=> ?_)
  cases x with
  |inr z=>exact hx
  |inl u=>
    show Tot _ (y0H i);refine tJ (Tot.mono (p:=λx:Unit⊕(Unit⊕(Int⊕(Unit⊕Int)))=>match x with| .inl _=>True| .inr z=>y0H i z) (zC ?_ λb _=>tI dI dI) λx hx=> ?_)
    · refine tI (λe=> ?_) dI
      have e:=dTT e;have w:zA .i64 (i-1)=i-1:=w64 dA dA;rw[w];have i1:inR (i-1) l.c_.length=true:=a0c dA dA;rw[i1];simp only[jC]
      repeat' (first|exact tR trivial|refine zI ?_ ?_|refine zB ?_ λ_=> ?_)
    · cases x with
      |inr z=>exact hx
      |inl u=>
        show Tot _ (y0H i);refine tB (D0E dA h0 h1) λf hf=> ?_;refine tJ (Tot.mono (p:=λx:Unit⊕(Unit⊕(Int⊕(Unit⊕Int)))=>match x with| .inl _=>True| .inr z=>y0H i z) (zC dK λb _=>tI dI dI) λx hx=> ?_)
        cases x with
        |inr z=>exact hx
        |inl u=>
          show Tot _ (y0H i);exact tY (a0c hf.1 hf.2)<|tB (s0t<|H0g ht hf.1 hf.2) λz hz=>tB (show Tot (b0o _ _) (λ_=>True)from tR trivial) λ_ _=>tY (a0c hf.1 hf.2)<|tB (show Tot (b0o _ _) (λ_=>True)from tR trivial) λ_ _=>tI dI dI
theorem L0T {l:f0f} (hp:l.b_.g_.length<=100000)(hm:l.c_.length<=95)(ht: ∀c∈l.c_,c.X_.length<=6000):Tot (e0N l) (λ_=>True):=by
  unfold e0N;refine tB (x0m hp) λp hp=>Tot.joinT (Tot.srch l.c_.length dA (λi h0 h1=>tY (dT h1)<|Tot.joinG (tY (a0c h0 h1)<|tB (s0t<|H0g ht h0 h1) λy hy=>tY (a0c h0 h1)<|tB (show Tot (b0o _ _) (λ_=>True)from tR trivial) λ_ _=>tB (D0L hp hy) λ_ _=>tI dI λ_=> ?_) λ_=>tR<|nx h0 dA) λs e=>zE e trivial) dI;refine Tot.mono (p:=λy=>y0H i y) ?_ λ_ h=>h;exact tW (λs:Int=>s) (i.toNat+1) (λ_=>True) dA ⟨trivial,dA,dA⟩ (λu _ g0 g1=>tY (dT dA)<|tY (a0c g0 dA)<|tB (s0t<|H0g ht g0 dA) λz hz=>tY (a0c g0 dA)<|tB (show Tot (b0o _ _) (λ_=>True)from tR trivial) λ_ _=>tB (D0L hz hy) λ_ _=>tI dI λ_=>tR ⟨trivial,nx g0 dA⟩) λu _ e=>tN (dF dA)<|tR trivial
theorem G0R {b:List Int} (hl:b.length<=100000):Tot (b0N b) (λo=>(o.1.length:Int)<=b.length+4):=by
  unfold b0N;refine tJ<|tL (λs:Int×List Int=>0<=s.1/\s.1<=(b.length:Int)+4/\(s.2.length:Int)<=s.1) (λs=>((b.length:Int)+4-s.1).toNat) ⟨dC,dC,dE⟩ dC λs hs=> ?_;refine tI (λhq=> ?_) (λ_=>tR<|tR (show((s.2.length:Nat):Int)<=b.length+4 by omega));have hq:=dTT hq;refine tB (E0c hl hs.1 hq) (λn hn=>tI (λ_=>tR (show((([]:List Int).length:Nat):Int)<=b.length+4 by simp;omega)) λhneg=> ?_);have hneg:=dFF hneg;have his:=hn.resolve_left hneg;refine tY (a0e dD)<|tB (v0z _) λz hz=>tR ?_;have h1:=hz.2.2 his;have e1:zA .i64 (s.1+z)=s.1+z:=w64 dA dA;rw[e1];exact⟨⟨dC,dC,dD⟩,dC⟩
theorem M0b {l:f0f} (hp:g0r p 1000)(hc:l.k_.length<=105)(hs: ∀c∈l.k_,c.r_.length<=6000):Tot (f0j l p) (λ_=>True):=by
  unfold f0j;refine Tot.joinT (tW (λs:List UInt8×Int=>s.2) l.k_.length (λ_=>True) dA ⟨trivial,dE⟩ (λs _ h0 h1=>tY (dT h1) ?_) λs _ e=>zE e trivial) dI;have hsl:=hs _<|c0x h0 h1;have hbl:(b0l (nth l.k_ s.2).r_).length<=6000:=by rw[d0w];exact hsl
  refine tJ (Tot.mono (p:=λx:Unit⊕((List UInt8×Int)⊕(Unit⊕Int))=>match x with| .inl _=>True| .inr (.inl _)=>False| .inr (.inr _)=>True) (tY (a0c h0 h1)<|tB (G0R dA) λd hd=>tB (G0O hp dA) λ_ _=>tB (J0L _ _) λ_ _=> ?_) λx hx=> ?_)
  · refine tJ (Tot.mono (p:=λx:Unit⊕(Unit⊕((List UInt8×Int)⊕(Unit⊕Int)))=>match x with| .inl _=>True| .inr (.inl _)=>True| .inr (.inr<|.inl _)=>False| .inr (.inr<|.inr _)=>True) (zC dK λb _=>tI dI dI) λx hx=> ?_)
    cases x with
    |inl u=>exact tR trivial
    |inr r=>
      cases r with
      |inl _=>trivial
      |inr q=>
        cases q with
        |inl _=>exact hx.elim
        |inr _=>trivial
  cases x with
  |inl u=>exact tR ⟨trivial,nx h0 dA⟩
  |inr r=>
    cases r with
    |inl _=>exact hx.elim
    |inr _=>trivial
def txt(s:List UInt8)(i:Int):Prop:=0<=i/\i<=s.length
def M0O(s:List UInt8)(i a:Int)(l:List a0T):(Int×Int)⊕((Int×List a0T)⊕(List a0T×Int×Bool))->Prop
  | .inl w=>a<w.1/\w.1<=s.length
  | .inr (.inl _)=>False
  | .inr (.inr o)=>txt s o.2.1/\i<=o.2.1/\o.1.length<=s.length
theorem j0C {s:List UInt8} (hl:s.length<=1000000)(h:txt s i):Tot (b0h s i) (λo=>i<=o/\o<=s.length):=by
  obtain⟨h0,h1⟩:=h;unfold b0h;refine tB (tL (λq=>i<=q/\q<=s.length) (λq=>(s.length-q).toNat) ⟨dA,dA⟩ dA λq hq=> ?_) λo ho=>tR ho;refine tJ<|tB (p:=λb=>b=oA->q<s.length) ?_ λb hb=> ?_;refine tI (λh=> ?_) λ_=>tR dE;have h:=dTT h;exact tY (a0c dA h)<|tR λ_=>h;refine tI (λh=>tR ?_) λ_=>tR hq;have:=hb h;refine tR ?_;simp only;rw[w64 dA dA];omega
theorem x0e {s:List UInt8} (hl:s.length<=1000000)(h:txt s i):Tot (e0v s i) (λo=>i<=o/\o<=s.length):=by
  obtain⟨h0,h1⟩:=h;unfold e0v;refine tB (tL (λq=>i<=q/\q<=s.length) (λq=>(s.length-q).toNat) ⟨dA,dA⟩ dA λq hq=> ?_) λo ho=>tR ho;refine tJ<|tB (p:=λb=>b=oA->q<s.length) ?_ λb hb=> ?_;refine tI (λh=> ?_) λ_=>tR dE;have h:=dTT h;refine tY (a0c dA h)<|tI (λ_=> ?_) λ_=>tR λ_=>h;exact tY (a0c dA h)<|tR λ_=>h;refine tI (λh=>tR ?_) λ_=>tR hq;have:=hb h;refine tR ?_;simp only;rw[w64 dA dA];omega
theorem n0a {s:List UInt8} {x:List UInt8} (hl:s.length<=1000000)(h:txt s i)(hx:x.length<=10):Tot (b0T s i x) (λb=>b=oA->i+x.length<=s.length):=by
  obtain⟨h0,h1⟩:=h;unfold b0T;rw[w64 (n:=i+(x.length:Int)) dA dA];refine tB (p:=λb=>b=oA->i+x.length<=s.length) ?_ λb hb=>tR hb;refine tI (λh=> ?_) λ_=>tR dE;have h:=dTT h;exact tY (l0j dA dA dA)<|tR λ_=>h
theorem p0w {s:List UInt8} {l:Int} (hl:s.length<=1000000)(h:txt s i):Tot (b0x s i l) (λo=>txt s o.2/\i<=o.2/\(0<=o.1->i<o.2)):=by
  unfold b0x;refine tB (j0C hl h) λy hy=> ?_;obtain⟨h0,h1⟩:=h;refine tB (tL (λq:Int×Int=>y<=q.1/\q.1<=s.length) (λq:Int×Int=>((s.length:Int)-q.1).toNat) (post:=λq:Int×Int=>y<=q.1/\q.1<=s.length) ⟨dC,dC⟩ dC λq hq=> ?_) λo ho=> ?_;refine tJ<|tB (p:=λb=>b=oA->q.1<s.length) ?_ λb hb=> ?_;refine tI (λh=> ?_) λ_=>tR dE;have h:=dTT h;refine tY (a0c dA h)<|tI (λ_=> ?_) λ_=>tR λ_=>h;exact tY (a0c dA h)<|tR λ_=>h;refine tI (λh=>tR ?_) λ_=>tR hq;have:=hb h;refine zC ?_ λv _=>tR ?_;refine tI (λ_=> ?_) dI;exact tY (a0c dA this)<|tR trivial;simp only;rw[w64 (n:=q.1+1) dA dA];omega;refine tJ<|tB (p:=λb=>b=yA->y<o.1) ?_ λb hb=> ?_;refine tI (λ_=>tR dE) λh=> ?_;have h:=dFF h;have hlt:y<o.1:=by omega
  refine tI (λ_=>tR dE) λ_=> ?_;refine tY (a0c dA dA)<|tI (λ_=> ?_) λ_=>tR λ_=>hlt;exact tI (λ_=>tR dE) λ_=>tR λ_=>hlt;refine tI (λ_=>tR ?_) λh=>tR ?_;exact⟨⟨dC,dC⟩,dC,dC⟩;have:=hb h;exact tR ⟨⟨dC,dC⟩,dC,λ_=>dC⟩
theorem y0V {s:List UInt8} (hl:s.length<=1000000)(h:txt s i):Tot (c0y s i) (λo=>txt s o.2.1/\i<=o.2.1/\o.1.length<=s.length):=by
  unfold c0y;obtain⟨h0,h1⟩:=h;refine tL (λq:Int×List a0T=>i<=q.1/\q.1<=s.length/\(q.2.length:Int)<=q.1) (λq:Int×List a0T=>((s.length:Int)-q.1).toNat) ⟨dC,dC,dD⟩ dC (λq hq=> ?_)
  have tq:txt s q.1:=⟨dA,dA⟩
  refine tB (p0w hl tq) λy hy=> ?_;obtain⟨⟨y1,y2⟩,y3,y4⟩:=hy;refine tI (λ_=>tR ?_) λhn=> ?_;exact⟨⟨y1,y2⟩,dC,dE⟩;have hn:=dFF hn;have y4:=y4 dA;refine tB (j0C hl ⟨y1,y2⟩) λz hz=> ?_;refine tJ<|Tot.mono (p:=M0O s i q.1 q.2) ?_ λw hw=> ?_;refine tB (n0a (x:=[46,46]) hl ⟨dA,hz.2⟩ dE) λb hb=> ?_;refine tI (λh=> ?_) λ_=>tR ⟨dC,dC⟩;have hb:=hb h;simp at hb;rw[w64 (n:=z+2) dA dA];refine tB (p0w hl ⟨dA,dA⟩) λv hv=> ?_;obtain⟨⟨v1,v2⟩,v3,v4⟩:=hv;refine tI (λ_=>tR ⟨⟨v1,v2⟩,dC,dE⟩) (λhn=>tR ⟨dC,dC⟩)
  cases w with
  |inr r=>
    cases r with
    |inl x=>exact hw.elim
    |inr o=>exact hw
  |inl w=>
    obtain⟨w1,w2⟩:=hw;refine tY (a0e dD) ?_;refine tB (j0C hl ⟨dA,w2⟩) λc hc=> ?_;refine tB (n0a (x:=[44]) hl ⟨dA,hc.2⟩ dE) λb hb=> ?_;refine tI (λ_=>tR ?_) λh=>tR ?_;exact⟨⟨dC,dC⟩,dC,dD⟩;have hb:=hb (by simpa using h);simp at hb;simp only;rw[w64 (n:=c+1) dA dA];simp;omega
def J0B(x:Int):Tot (h0q x) (λ_=>True):=by
  unfold h0q;refine zC ?_ dJ
  repeat' (first|exact tR trivial|refine tI (λ_=> ?_) λ_=> ?_)
def P0y(s:List UInt8)(i:Int)(o:a0z×Int×Bool):Prop:=txt s o.2.1/\(o.2.2=oA->i<o.2.1)/\o.1.R_.length<=s.length
theorem G0K {s:List UInt8} (hl:s.length<=1000000)(h:txt s i):Tot (d0G s i) (P0y s i):=by
  unfold d0G;obtain⟨h0,h1⟩:=h;refine tB (j0C hl ⟨h0,h1⟩) λy hy=> ?_;refine tJ<|tB (p:=λb=>b=yA->y<s.length) ?_ λb hb=> ?_;refine tB (x0e hl ⟨dA,hy.2⟩) λw hw=> ?_;refine tI (λ_=>tR dE) λh=> ?_;have h:=dFF h;rw[w64 (n:=y+1) dA dA]at h;have hlt:y<s.length:=by omega
  refine tY (a0c dA hlt) ?_;exact tB (J0B _) λ_ _=>tR λ_=>hlt;refine tI (λ_=>tR ?_) λh=>tR ?_;exact⟨⟨dC,hy.2⟩,dE,dE⟩;have hlt:=hb h;refine tY (a0c dA hlt) ?_;rw[w64 (n:=y+1) dA dA];refine tB (j0C hl ⟨dA,dA⟩) λz hz=> ?_;refine tJ<|Tot.mono (p:=λx:(Int×Int)⊕(a0z×Int×Bool)=>match x with| .inl w=>y<w.1/\w.1<=s.length| .inr o=>P0y s i o) ?_ λw hw=> ?_;refine tB (n0a (x:=[37]) hl ⟨dA,hz.2⟩ dE) λb2 hb2=> ?_;refine tI (λh=> ?_) λ_=>tR ⟨dC,hz.2⟩;have hb2:=hb2 h;simp at hb2;rw[w64 (n:=z+1) dA dA];refine tB (p0w hl ⟨dA,dA⟩) λv hv=> ?_;obtain⟨⟨v1,v2⟩,v3,v4⟩:=hv;refine tI (λ_=>tR ⟨⟨v1,v2⟩,dE,dE⟩) λ_=> ?_;exact tB (j0C hl ⟨v1,v2⟩) (λu hu=>tR ⟨dC,hu.2⟩)
  cases w with
  |inr o=>exact hw
  |inl w=>
    obtain⟨w1,w2⟩:=hw;refine tB (p:=λu:Int×Bool=>y<u.1/\u.1<=s.length) ?_ λu hu=> ?_;refine tB (n0a (x:=[33,61]) hl ⟨dA,w2⟩ dE) λb3 hb3=> ?_;refine tI (λh=>tR ?_) λ_=>tR ⟨w1,w2⟩;have hb3:=hb3 h;simp at hb3;rw[w64 (n:=w.1+1) dA dA];exact⟨dC,dC⟩;refine tB (n0a (x:=[61]) hl ⟨dA,hu.2⟩ dE) λb4 hb4=> ?_;refine tI (λ_=>tR ⟨⟨dC,hu.2⟩,dE,dE⟩) λh=> ?_;have hb4:=hb4 (by simpa using h);simp at hb4;rw[w64 (n:=u.1+1) dA dA];refine tB (y0V hl ⟨dA,dA⟩) λo ho=>tR ?_;obtain⟨⟨o1,o2⟩,o3,o4⟩:=ho;exact⟨⟨o1,o2⟩,λ_=>dC,o4⟩
/-! Rules: what is read of them, and that it answers. -/
def J0d(n:Int):zA .i64 n<=9223372036854775807:=by
  have h:zA .i64 n=if n%18446744073709551616≥9223372036854775808 then n%18446744073709551616-18446744073709551616 else n%18446744073709551616:=by
    unfold zA;simp[oF,zH]
  rw[h];split<;>omega
theorem r0o(s:List UInt8)(i l:Int):Im (b0x s i l) (λo=>o.1<=9223372036854775807):=by
  unfold b0x;refine qB λy=>qC (p:=λq:Int×Int=>q.2<=9223372036854775807) (qL (λq:Int×Int=>q.2<=9223372036854775807) dE (λq hq=> ?_) _) λq hq=> ?_;refine qG (λ_=>True) (qB λb=>qE (qA trivial)<|qA hq) λ_ _=>qC (p:=λv:Int=>v<=9223372036854775807) (qE (qE (qA<|J0d _) qQ)<|qA hq) λv hv=>qA hv;exact qG (λ_=>True) (qB λb=>qE (qA dE)<|qA trivial) λ_ _=>qA hq
def I0o(n:Int):Prop:=0<=n/\n<=9223372036854775807
def A0c(g:a0T):Prop:=I0o g.g_/\I0o g.h_
def s0H(r:a0z):Prop:=I0o r.an_/\ ∀g∈r.R_,A0c g
theorem B0M(s:List UInt8)(i:Int):Im (c0y s i) (λo=> ∀g∈o.1,A0c g):=by
  unfold c0y;refine qL (λq:Int×List a0T=> ∀g∈q.2,A0c g) (λg h=>by cases h) (λq hq=> ?_) _;refine qC (r0o _ _ _) (λy hy=>qD (λ_=>qA λg h=>by cases h) λhn=>qB λz=> ?_);have hn:=dFF hn;refine qG (λw:Int×Int=>I0o w.2) (qB λb=>qE (qC (r0o _ _ _) λv hv=>qD (λ_=>qA λg h=>by cases h) λhn=>qA ⟨by have:=dFF hn;simp only;omega,hv⟩)<|qA ⟨dC,hy⟩) (λw hw=> ?_)
  have hs: ∀g∈q.2++ [(⟨y.1,w.2⟩:a0T)],A0c g:=by
    intro g hg;rcases al.1 hg with h|h;exact hq g h;rw[aE.1 h];exact⟨⟨dC,hy⟩,hw⟩
  exact qE (qB λ_=>qB λ_=>qE (qA hs)<|qA hs) qQ
theorem J0I(s:List UInt8)(i:Int):Im (d0G s i) (λo=>s0H o.1):=by
  unfold d0G
  have z:I0o 0:=⟨dA,dA⟩
  have e: ∀ {a b:Int} {c:Bool},I0o b->s0H (⟨a,b,c,[]⟩:a0z):=λh=>⟨h,λg hg=>by cases hg⟩
  refine qB λy=>qG (λ_=>True) (qB λb=>qE (qA<|e z)<|qA trivial) λ_ _=>qE (qB λz2=> ?_) qQ;refine qG (λw:Int×Int=>I0o w.2) (qB λb=>qE (qC (r0o _ _ _) λv hv=>qD (λ_=>qA<|e z) λhn=>qB λ_=>qA ⟨by have:=dFF hn;simp only;omega,hv⟩)<|qA z) λw hw=> ?_;refine qB λu=>qB λb=>qE (qA<|e hw)<|qC (B0M _ _) λo ho=>qA ⟨hw,ho⟩
def G0j(c:List<|List a0z):Prop:= ∀x∈c,∀r∈x,s0H r
theorem D0U(s:List UInt8):Im (c0e s) (λo=>G0j o.1):=by
  unfold c0e;have z:G0j []:=λx hx=>by cases hx
  refine qE (qA z) (qG (λq:Bool×List (List a0z)×List a0z=>G0j q.2.1/\ ∀r∈q.2.2,s0H r) (qL (λq:Int×Bool×Int×List (List a0z)×List a0z=>G0j q.2.2.2.1/\ ∀r∈q.2.2.2.2,s0H r) ⟨z,λr h=>by cases h⟩ (λq hq=> ?_) _) λq hq=> ?_);refine qC (J0I _ _) (λy hy=>qE (qA z)<|qB λf=>qE (qB λzz=> ?_) qQ)
  have h2: ∀r∈q.2.2.2.2++ [y.1],s0H r:=by
    intro r hr;rcases al.1 hr with h|h;exact hq.2 r h;rw[aE.1 h];exact hy
  have h3:G0j (q.2.2.2.1++ [q.2.2.2.2++ [y.1]]):=by
    intro x hx;rcases al.1 hx with h|h;exact hq.1 x h;rw[aE.1 h];exact h2
  refine qE (qA ⟨hq.1,h2⟩)<|qB λw=>qG (λ_=>True) (qB λb=>qE (qA z)<|qA trivial) λ_ _=> ?_;refine qC (p:=λu:List (List a0z)×List a0z=>G0j u.1/\ ∀r∈u.2,s0H r) (qE (qE (qE (qA ⟨h3,λr h=>by cases h⟩) qQ)<|qA ⟨hq.1,h2⟩) qQ) λu hu=>qA hu;refine qE (qA z)<|qE (qA ?_) qQ;intro x hx;rcases al.1 hx with h|h;exact hq.1 x h;rw[aE.1 h];exact hq.2
def fewC(c:List<|List a0z):Prop:=c.length<=401/\ ∀x∈c,x.length<=401/\ ∀r∈x,r.R_.length<=400
def fewC.nil:fewC []:=⟨dE,λx h=>by cases h⟩
theorem w0N(s:List UInt8):Tot (c0e s) (λo=>fewC o.1):=by
  unfold c0e;refine tI (λ_=>tR fewC.nil) λhs4=> ?_;have hs4:=dFF hs4;have hl:s.length<=1000000:=by omega
  have hl4:s.length<=400:=by omega
  refine tJ<|tL (λq:Int×Bool×Int×List (List a0z)×List a0z=>txt s q.2.2.1/\((q.2.2.2.1.length:Int)<=q.2.2.1/\(q.2.2.2.2.length:Int)<=q.2.2.1)/\(∀x∈q.2.2.2.1,x.length<=401/\ ∀r∈x,r.R_.length<=400)/\ ∀r∈q.2.2.2.2,r.R_.length<=400) (λq:Int×Bool×Int×List (List a0z)×List a0z=>((s.length:Int)-q.2.2.1).toNat) ⟨⟨dE,dE⟩,⟨dE,dE⟩,dE,dE⟩ dC λq hq=> ?_;obtain⟨⟨q1,q2⟩,⟨q3,q4⟩,q5,q6⟩:=hq;refine tB (G0K hl ⟨q1,q2⟩) λy hy=> ?_;obtain⟨⟨y1,y2⟩,y3,y4⟩:=hy;refine tI (λ_=>tR (show fewC _ from fewC.nil)) λhok=> ?_;have y3:=y3 (by simpa using hok)
  have h2: ∀r∈q.2.2.2.2++ [y.1],r.R_.length<=400:=by
    intro r hr;rcases al.1 hr with h|h;exact q6 r h;rw[aE.1 h];omega
  have h3: ∀x∈q.2.2.2.1++ [q.2.2.2.2++ [y.1]],x.length<=401/\ ∀r∈x,r.R_.length<=400:=by
    intro x hx;rcases al.1 hx with h|h;exact q5 x h;rw[aE.1 h];exact⟨dD,h2⟩
  refine zC ?_ (λf _=> ?_)
  · repeat' (first|exact tR trivial|refine zI ?_ ?_|refine zB ?_ λ_=> ?_)
  refine tY (a0e dD) ?_;refine tB (j0C hl ⟨y1,y2⟩) λz hz=> ?_;refine tI (λ_=>tR ?_) λhne=> ?_;show Tot (bif f then _ else _) _;refine tI (λ_=>tR fewC.nil) λ_=> ?_;exact tY (a0e dD) (tR ⟨dD,h3⟩)
  · refine tB (x0e hl ⟨dA,hz.2⟩) (λw hw=> ?_)
    have hin:inS z w s.length=true:=l0j dA dA dA;rw[hin];simp only[jC];refine tJ (zC ?_ λb _=> ?_)
    · repeat' (first|exact tR trivial|refine zI ?_ ?_|refine zB ?_ λ_=> ?_)
    refine tI (λ_=>tR (show fewC _ from fewC.nil)) λ_=>tR ?_;refine tB (p:=λu:List (List a0z)×List a0z=>((u.1.length:Int)<=z/\(u.2.length:Int)<=z)/\(∀x∈u.1,x.length<=401/\ ∀r∈x,r.R_.length<=400)/\ ∀r∈u.2,r.R_.length<=400) ?_ λu hu=>tR ?_;refine tI (λ_=>tY (a0e dD)<|tR ⟨⟨dD,dD⟩,h3,λr h=>by cases h⟩) λ_=>tR ⟨⟨dD,dD⟩,q5,h2⟩;obtain⟨⟨u1,u2⟩,u3,u4⟩:=hu;refine⟨⟨⟨dC,dC⟩,⟨dC,dC⟩,u3,u4⟩,dC⟩
def Q0x: ∃m,big=m+1:=⟨big-1,by unfold big;omega⟩
theorem J0U (h:I0o x):Tot (a0V big x) (λr=>r.length<=20):=by
  obtain⟨h0,h1⟩:=h;obtain⟨m,hm⟩:=Q0x;rw[show a0V big x=a0V (m+1) x by rw[<-hm]];simp only[a0V];refine tN (dF dA)<|tB (p:=λr:List UInt8=>r.length<=20) ?_ λ_ h=>tR h;refine tL (λq:Int×List UInt8=>(0<=q.1/\q.1<=9223372036854775807)/\q.2.length<=20/\q.1<10^(20-q.2.length)) (λq=>q.1.toNat) ⟨⟨h0,h1⟩,by simp[e0Z],by simp[e0Z];omega⟩ dC λq hq=> ?_;obtain⟨⟨q0,q0'⟩,q1,q2⟩:=hq;refine tI (λe=> ?_) λ_=>tR q1;have e:=dTT e
  have hlen:q.2.length<=18:=by
    rcases bL q.2.length 19 with h|h;omega;have:20-q.2.length<=1:=by omega
    have h5:(10:Int)^(20-q.2.length)<=10^1:=by
      have:=Nat.pow_le_pow_right (show 0<10 by omega) this
      exact_mod_cast this
    omega
  have hq10:wE q.1 10=q.1/10:=bz q0;have w1:zA .i64 (wE q.1 10)=q.1/10:=by rw[hq10];exact w64 dA dA
  rw[w1];refine tY (a0e<|by simp[e0Z];omega) (tR ⟨⟨⟨dC,dC⟩,by simp[e0Z];omega, ?_⟩,dC⟩);have e1:20-q.2.length=(20-(q.2.length+1))+1:=by omega
  rw[e1,Int.pow_succ]at q2;have l1:(e0Z [zA .u8<|zA .i64<|48+oC (q.1/10) 10]++q.2).length=q.2.length+1:=by simp[e0Z]
  show q.1/10<10^(20-(e0Z [zA .u8<|zA .i64<|48+oC (q.1/10) 10]++q.2).length);rw[l1];generalize(10:Int)^(20-(q.2.length+1))=K at q2⊢;omega
theorem G0c {c:List (List a0z)} (hc:fewC c)(hv:G0j c):Tot (f0Q c) (λ_=>True):=by
  obtain⟨c1,c2⟩:=hc;unfold f0Q;refine zC (tW (λs:List UInt8×Int=>s.2) c.length (λs=>(s.1.length:Int)<=7000000*s.2) dA ⟨dE,dE⟩ (λs hs h0 h1=>tY (dT h1) ?_) λs _ e=>zE e trivial) dJ;have i0:inR s.2 c.length=true:=a0c h0 h1;have hm:=c0x h0 h1;obtain⟨d1,d2⟩:=c2 _ hm;have hv1:=hv _ hm;generalize hd:nth c s.2=d at d1 d2 hv1⊢;refine tB (p:=λr:List UInt8=>(r.length:Int)<=7000000*s.2+7000000) ?_ (λr hr=>tR ⟨by rw[nx h0 dA];simp only;omega,nx h0 dA⟩);refine tB (p:=λr:List UInt8=>(r.length:Int)<=7000000*s.2+4) (tI (λ_=>tY (a0e dD)<|tR dD) λ_=>tR dA) λa ha=> ?_;refine tW (λt:List UInt8×Int=>t.2) d.length (λt=>(t.1.length:Int)<=7000000*s.2+4+17300*t.2) dA ⟨dC,dE⟩ (λt ht g0 g1=>tY i0<|tY (dT g1) ?_) λt ht e=>tY i0<|tN (dF dA)<|tR dC;have i1:inR t.2 d.length=true:=a0c g0 g1;have hm2:=c0x g0 g1;have e1:=d2 _ hm2;obtain⟨e2,e3⟩:=hv1 _ hm2;generalize nth d t.2=q at e1 e2 e3⊢;refine tB (p:=λr:List UInt8=>(r.length:Int)<=7000000*s.2+4+17300*t.2+17300) (tY i0<|tY i1 ?_) (λr hr=>tR ⟨by rw[nx g0 dA];simp only;omega,nx g0 dA⟩);refine tB (p:=λr:List UInt8=>(r.length:Int)<=7000000*s.2+4+17300*t.2+5) (tI (λ_=>tY (a0e dD)<|tR dD) λ_=>tR dA) λu hu=> ?_;have lo: ∀o:Int,(e0Z ([o]:List Int)).length=1:=λo=>by simp[e0Z]
  refine tY (a0e<|by rw[lo];omega) ?_;refine tB (p:=λr:List UInt8=>(r.length:Int)<=7000000*s.2+4+17300*t.2+29) (tI (λ_=>tY (a0e<|by simp[lo];omega)<|tB (J0U e2) λn hn=>tY (a0e<|by simp[lo];omega)<|tR<|by simp[lo];omega) λ_=>tR<|by simp[lo];omega) λv hv=> ?_;refine tB (p:=λr:List UInt8=>(r.length:Int)<=7000000*s.2+4+17300*t.2+33) (tI (λ_=>tY (a0e dD)<|tR dD) λ_=>tY (a0e dD)<|tR dD) λw hw=> ?_;refine tW (λz:List UInt8×Int=>z.2) q.R_.length (λz=>(z.1.length:Int)<=7000000*s.2+4+17300*t.2+33+43*z.2) dA ⟨dC,dE⟩ (λz hz k0 k1=>tY (dT k1) ?_) λz hz e=>tN (dF dA)<|tR dC;have i2:inR z.2 q.R_.length=true:=a0c k0 k1;obtain⟨r1,r2⟩:=e3 _<|c0x k0 k1;refine tB (p:=λr:List UInt8=>(r.length:Int)<=z.1.length+43) ?_ (λr hr=>tR ⟨by rw[nx k0 dA];simp only;omega,nx k0 dA⟩);refine tB (p:=λr:List UInt8=>(r.length:Int)<=z.1.length+1) (tI (λ_=>tY (a0e dD)<|tR dE) λ_=>tR dA) λx hx=> ?_;refine tY i2<|tB (J0U r1) λn hn=>tY (a0e dA)<|tY i2<|tY i2<|tI (λ_=> ?_) λ_=>tR dD;refine tY (a0e dD)<|tY i2<|tB (J0U r2) λn2 hn2=>tY (a0e dD)<|tR dD
theorem D0y {x y:List (List a0z)} (hx:x.length<=401)(hx2: ∀c∈x,c.length<=401/\ ∀r∈c,r.R_.length<=400):Tot (f0R x y) (λ_=>True):=by
  unfold f0R;refine tI dI λhl=> ?_;have hl:=dFF hl;refine Tot.joinT (Tot.srch x.length dA (λs h0 h1=>tY (dT h1)<|Tot.joinG (tY (a0c h0 h1)<|tY (a0c h0 dA)<|tI dI λhl2=> ?_) λ_=>tR<|nx h0 dA) λs e=>zE e trivial) dI;have hl2:=dFF hl2;have i0:inR s x.length=true:=a0c h0 h1;have i0':inR s y.length=true:=a0c h0 dA;obtain⟨d1,d2⟩:=hx2 _<|c0x h0 h1;generalize nth x s=a at d1 d2 hl2⊢;generalize nth y s=b at hl2⊢;refine tW (λt:Int=>t) a.length (λ_=>True) dA ⟨trivial,dA,dA⟩ (λt _ g0 g1=>tY i0<|tY (dT g1) ?_) λt _ e=>tY i0<|tN (dF dA)<|tR trivial;have i1:inR t a.length=true:=a0c g0 g1;have i1':inR t b.length=true:=a0c g0 dA;have e1:=d2 _<|c0x g0 g1;generalize nth a t=q at e1⊢;generalize nth b t=p;refine tJ<|Tot.mono (p:=λz:Unit⊕(Int⊕(Unit⊕(Int⊕(Unit⊕Bool))))=>match z with| .inl _=>True| .inr (.inl _)=>False| .inr (.inr o)=>y0H s o) (tY i0<|tY i1<|tY i0'<|tY i1' ?_) λz hz=> ?_;refine tJ<|Tot.mono (p:=λw:Unit⊕(Unit⊕(Int⊕(Unit⊕(Int⊕(Unit⊕Bool)))))=>match w with| .inl _=>q.R_.length=p.R_.length| .inr (.inl _)=>True| .inr (.inr<|.inl _)=>False| .inr (.inr<|.inr o)=>y0H s o) (tB (p:=λb=>b=yA->q.R_.length=p.R_.length) ?_ λb hb=>tI dI λe=>tR<|hb e) λw hw=> ?_;exact tI (λ_=>tR dH) (λ_=>tI (λ_=>tR dH) λ_=>tI (λ_=>tR dH) λ_=>tR λh=>by have:=dFF h;omega)
  cases w with
  |inl u=>
    have hw:q.R_.length=p.R_.length:=hw;exact tW (λz:Int=>z) q.R_.length (λ_=>True) dA ⟨trivial,dA,dA⟩ (λz _ k0 k1=>tY (dT k1)<|tY (a0c k0 k1)<|tY (a0c k0 dA)<|tI dI λ_=>tR ⟨trivial,nx k0 dA⟩) (λz _ e=>zE e trivial)
  |inr r=>
    cases r with
    |inl _=>trivial
    |inr r=>
      cases r with
      |inl _=>exact hw.elim
      |inr o=>exact hw
  cases z with
  |inl u=>exact tR ⟨trivial,nx g0 dA⟩
  |inr r=>
    cases r with
    |inl _=>exact hz.elim
    |inr o=>exact hz
theorem C0I {c:List (List a0z)} (hc:fewC c)(hv:G0j c):Tot (f0o c) (λ_=>True):=by
  unfold f0o;refine tB (G0c hc hv) λt _=>tB (w0N t) λo ho=> ?_;exact zC (tI (λ_=>tB (D0y hc.1 hc.2) dJ) dI) dJ
theorem J0A {x:List p0T} (hx:x.length<=1000):Tot (f0P x) (λ_=>True):=by
  unfold f0P;refine Tot.joinT (tW (λs:Int×List c0m=>s.1) x.length (λs=>(s.2.length:Int)<=s.1) dA ⟨dE,dE⟩ (λs hs h0 h1=>tY (dT h1) ?_) λs _ e=>zE e trivial) dI;have i0:inR s.1 x.length=true:=a0c h0 h1;refine tJ (Tot.mono (p:=λy:List c0m⊕((Int×List c0m)⊕(List c0m⊕(List c0m×Int×Int)))=>match y with| .inl l=>(l.length:Int)<=s.1+1| .inr (.inl _)=>False| .inr (.inr _)=>True) ?_ λy hy=> ?_)
  · refine tJ (Tot.mono (p:=λw:Unit⊕(List c0m⊕((Int×List c0m)⊕(List c0m⊕(List c0m×Int×Int))))=>match w with| .inl _=>True| .inr (.inl _)=>False| .inr (.inr<|.inl _)=>False| .inr (.inr<|.inr _)=>True) (zC ?_ λb _=>tI dI dI) λw hw=> ?_)
    refine tY i0<|tI dI λ_=>tY i0<|tI dI λ_=>tI (λe=> ?_) dI;have e:=dTT e;have w1:zA .i64 (s.1-1)=s.1-1:=w64 dA dA;rw[w1];exact tY i0 (tY (a0c dA dA)<|tR trivial)
    · cases w with
      |inr r=>
        cases r with
        |inl _=>exact hw.elim
        |inr r=>
          cases r with
          |inl _=>exact hw.elim
          |inr _=>trivial
      |inl u=>
        refine tY i0<|tB (p:=λo=>fewC o.1/\G0j o.1) ?_ λo ho=>tB (C0I ho.1 ho.2) λ_ _=> ?_;obtain⟨o,e,h⟩:=w0N (nth x s.1).at_;exact⟨o,e,h,D0U _ o e⟩
        · refine tJ (Tot.mono (p:=λw:Unit⊕(List c0m⊕((Int×List c0m)⊕(List c0m⊕(List c0m×Int×Int))))=>match w with| .inl _=>True| .inr (.inl _)=>False| .inr (.inr<|.inl _)=>False| .inr (.inr<|.inr _)=>True) (zC dK λb _=>tI dI dI) λw hw=> ?_)
          cases w with
          |inr r=>
            cases r with
            |inl _=>exact hw.elim
            |inr r=>
              cases r with
              |inl _=>exact hw.elim
              |inr _=>trivial
          |inl u=>exact tY i0 (tY (a0e dD)<|tR (show((_:List c0m).length:Int)<=_ by simp;omega))
  cases y with
  |inl l=>exact tR ⟨by rw[nx h0 dA];exact hy,nx h0 dA⟩
  |inr r=>
    cases r with
    |inl _=>exact hy.elim
    |inr _=>trivial
theorem G0S {l:f0f} (h0:l.O_.length<=4294967296)(h:l.b_.g_.length<=100000/\l.b_.h_.length<=100000/\l.b_.m_.length<=100000/\l.b_.s_.length<=100000)(hr:l.B_.length<=8)(hc:l.k_.length<=105)(hs: ∀c∈l.k_,c.r_.length<=6000)(hm:l.c_.length<=95)(ht: ∀c∈l.c_,c.X_.length<=6000):Tot (d0S l) (λ_=>True):=by
  unfold d0S;obtain⟨p0,p1,p2,p3⟩:=h;refine tB (L0V h0) λ_ _=>tI dI λ_=>tB (D0D _) λ_ _=>tI dI λ_=> ?_;refine tJ<|Tot.mono (p:=λx=>match x with| .inl s=>s.1.length<=1000/\s.2.1.length<=1000/\s.2.2.1.length<=1000/\s.2.2.2.1.length<=1000| .inr _=>True) (tW (λs:Int×(List a0b)×(List a0b)×(List a0b)×(List a0b)×Bool×Int×Int×Int×Int×Int×Int×Int×Int×Int×Bool×Int×Int=>s.1) 4 (λs=>s.2.1.length<=1000/\s.2.2.1.length<=1000/\s.2.2.2.1.length<=1000/\s.2.2.2.2.1.length<=1000) dA ⟨⟨dE,dE,dE,dE⟩,dE⟩ (λs hs' g0 g1=>tY (dT g1) ?_) λs hs' e=>tN (dF dA)<|tR hs') λx hx=> ?_;have st:zA .i64 (s.1+1)=s.1+1:=nx g0 dA;refine tI (λ_=>tB (x0m p0) λy hy=>tI dI λ_=>tR ⟨hy,st⟩) λe0=>tI (λ_=>tB (x0m p1) λy hy=>tI dI λ_=>tR ⟨hy,st⟩) λe1=>tI (λ_=>tB (x0m p2) λy hy=>tI dI λ_=>tR ⟨hy,st⟩) λe2=>tI (λ_=>tB (x0m p3) λy hy=>tI dI λ_=>tR ⟨hy,st⟩) λe3=> ?_;have:=dFF e0;have:=dFF e1;have:=dFF e2;have:=dFF e3;omega
  cases x with
  |inr _=>trivial
  |inl s=>
    show Tot _ _;refine tB (J0A dA) λ_ _=>tI dI λ_=>tB (M0b hx hc hs) λ_ _=>tI dI λ_=>tB (J0K hm ht) λ_ _=>tI dI λ_=>tB (L0T p0 hm ht) λ_ _=>tI dI dI
/-! Decimals, rounded: they answer. -/
def k0Q(d:a0X):Prop:=d.D_.length<=1000/\ -1000<=d.E_/\d.E_<=1000
def m0c(n:Int):Tot (e0G n) (λr=>0<=r/\r<=1000):=by
  unfold e0G;refine tR ?_;unfold r0p N0O;constructor<;>(repeat' split)<;>omega
theorem I0P (hl:l.length<=4294967296):Tot (j0Y l) (λ_=>True):=by
  unfold j0Y;refine tJ<|tW (λs:Int=>s) l.length (λ_=>True) hl ⟨trivial,dE⟩ (λs _ h0 h1=>tY (dT h1)<|tY (a0c h0 h1)<|tI dI λ_=>tR ⟨trivial,w64 (n:=s+1) dA dA⟩) λs _ e=>tN (dF dA)<|tR<|tR trivial
theorem q0P (hl:d.D_.length<=4294967296):Tot (j0Z d) (λr=>r=oA->k0Q d):=by
  unfold j0Z;refine tI (λe=>tR λh=> ?_) λe0=> ?_;have:=dTT h;have:=dTT e;exact⟨dA,dA,dA⟩;have e0:=dFF e0;refine tJ (tB (p:=λc=>c=yA->k0Q d) (tI (λ_=>tR dH) λe1=>tI (λ_=>tR dH) λe2=>tR λe3=>⟨by have:=dFF e1;omega,by have:=dFF e2;omega,by have:=dFF e3;omega⟩) λc hc=>tI (λ_=>tR dH) λe=>tR ?_);have hd:=hc e;refine zC (tY (a0c dA dA)<|tI (λ_=> ?_) dI) λ_ _=>tR λ_=>hd;rw[w64 (n:=(d.D_.length:Int)-1) dA dA];exact tY (a0c dA dA)<|tI (λ_=>tB (I0P hl) dJ) dI
theorem z0I(d:r0H):Tot (f0W d) (λr=>k0Q d.n_-> -1000<=r/\r<=2000):=by
  unfold f0W;refine tI (λ_=>tR λ_=>dA) λe=>tR λh=> ?_;obtain⟨h1,h2,h3⟩:=h;have:=dFF e;rw[w64 (n:=d.n_.E_+d.n_.D_.length) dA dA,w64 dA dA];omega
def t0V(d:a0X):Tot (k0O d) (λr=>k0Q d-> -1000<=r/\r<=2000):=by
  unfold k0O;exact tB (z0I ⟨d⟩) λ_ h=>tR h
def F0A (h:l.length<=4294967296):a0P l=wA l:=w0u h
theorem z0K (hl:l.length<=100000):Tot (j0h b l e) (λr=>k0Q r.1):=by
  have z:k0Q (⟨yA,([]:List Int),0⟩:a0X):=⟨dE,dG,dG⟩
  unfold j0h;refine tB (I0P dA) λ_ _=>tI (λ_=>tR z) λ_=> ?_;refine tJ<|zC (tI dI dI) λc _=>tI (λ_=>tR z) λ_=>tR ?_;refine tB (p:=λi:Int=>0<=i/\i<=l.length) (tL (λs:Int=>0<=s/\s<=l.length) (λs=>((l.length:Int)-s).toNat) ⟨dA,dA⟩ dA λs hs=> ?_) λi hi=> ?_;refine tJ<|tB (p:=λc=>c=oA->s<l.length) (tI (λe=>tY (a0c hs.1<|dTT e)<|tR λ_=>dTT e) λ_=>tR dH) λc hc=>tI (λe=>tR<|tR ?_) λ_=>tR hs;have:=hc e;rw[w64 (n:=s+1) dA dA];exact⟨⟨dA,dA⟩,dA⟩;refine tB (p:=λj:Int=>i<=j/\j<=l.length) (tL (λs:Int=>i<=s/\s<=l.length) (λs=>(s-i).toNat) ⟨dA,dA⟩ dA λs hs=> ?_) λj hj=> ?_;refine tJ<|tB (p:=λc=>c=oA->i<s) (tI (λe=> ?_) λ_=>tR dH) λc hc=>tI (λe=>tR<|tR ?_) λ_=>tR hs;have:=dTT e;rw[w64 (n:=s-1) dA dA];exact tY (a0c dA dA)<|tR λ_=>this;have:=hc e;rw[w64 (n:=s-1) dA dA];exact⟨⟨dA,dA⟩,dA⟩;refine tI (λ_=>tR ⟨dE,by show(-1000:Int)<=0;decide,by show(0:Int)<=1000;decide⟩) λ_=>tY (l0j hi.1 hj.1 hj.2) ?_;have hc:=F0s l i j;rw[F0A dA,ah];refine tB (q0P<|by show(cut l i j).length<=_;omega) (λr hr=>tI (λ_=>tR z) λe=>tR<|hr<|by cases r<;>simp_all)
theorem K0R(d:r0H)(i:Int):Tot (d0H d i) (λ_=>True):=by
  unfold d0H;refine tJ (tB (p:=λc=>c=yA->0<=i/\i<d.n_.D_.length) (tI (λ_=>tR dH) λe=>tR λh=>⟨by have:=dFF e;omega,by have:=dFF h;omega⟩) λc hc=>tI dI λe=>tR ?_);exact tY (a0c (hc e).1 (hc e).2)<|tR trivial
def K0U(d:a0X)(i:Int):Tot (r0Q d i) (λ_=>True):=by
  unfold r0Q;refine tJ<|zC (tI dI λ_=>tB (z0I ⟨d⟩) (λ_ _=>tR trivial)) λc _=>tI dI λ_=>tR ?_;exact tB (z0I ⟨d⟩) λ_ _=>tB (K0R _ _) dJ
def J0w(k p:Int):Tot (o0i k p) (λr=>r=oA->1<=k/\ -1000<=p/\p<=1000):=by
  unfold o0i;refine tB (p:=λr=>r=oA->1<=k/\ -1000<=p/\p<=1000) (tI (λe1=>tI (λ_=>tI (λe3=>tR λe4=>⟨by have:=dTT e1;omega,by have:=dTT e3;omega,dTT e4⟩) λ_=>tR dH) λ_=>tR dH) λ_=>tR dH) λ_ h=>tR h
theorem G0H {p:Int} (hd:k0Q d)(hk:1<=k)(hp: -1000<=p/\p<=1000):Tot (l0D d k p) (λr=>r.1.length<=3001):=by
  unfold l0D;refine tB (p:=λr:Int×List Int=>r.2.length<=3001) (tB (t0V d) λm hm=> ?_) λ_ h=>tR h;have hm:=hm hd;refine tL (λs:Int×Int×List Int=>s.2.1<=2000/\(s.2.2.length:Int)+s.2.1<=2000/\ -1001<=s.2.1) (λs=>(s.2.1+1001).toNat) ⟨hm.2,dD,by show-1001<=m;omega⟩ (by show(m+1001).toNat<_;omega) (λs hs=>tI (λe=> ?_) λ_=>tR<|by show s.2.2.length<=3001;omega);have e:=dTT e;have hz:nz k=true:=by simp[nz];omega
  refine tB (K0U _ _) λy _=>tY hz<|tY (a0e dD)<|tY hz<|tR ?_;rw[w64 (n:=s.2.1-1) dA dA];simp only[ay,aR,bX];exact⟨⟨dA,dA,dA⟩,dA⟩
def A0z(d:a0X)(p:Int):Tot (j0J d p) (λ_=>True):=by
  unfold j0J;exact zC (tI dI dI) dJ
def M0c(d:a0X)(l k p:Int):Tot (k0q d l k p) (λ_=>True):=by
  unfold k0q;refine tB (K0U _ _) λy _=>zC (tI dI dI) λs _=>tJ ?_;refine tI dI λ_=>zC (tI dI λ_=>tI dI λ_=>tB (A0z _ _) dJ) λc _=>tI dI λ_=>tR<|tR trivial
theorem J0D (hl:l.length<=100000):Tot (l0b l) (λr=>r.length<=l.length+1):=by
  unfold l0b;rw[w64 (n:=(l.length:Int)-1) dA dA];refine tJ (Tot.mono (p:=λx:List Int⊕List Int=>match x with| .inl r=>r.length=l.length| .inr r=>r.length=l.length) (tL (λs:Int×List Int=> -1<=s.1/\s.1<l.length/\s.2.length=l.length) (λs=>(s.1+1).toNat) ⟨by show(-1:Int)<=l.length-1;omega,by show(l.length:Int)-1<_;omega,rfl⟩ (by show((l.length:Int)-1+1).toNat<_;omega) λs hs=> ?_) λx hx=> ?_);refine tI (λe=> ?_) λ_=>tR hs.2.2;have e:=dTT e;have hr:inR s.1 s.2.length=true:=a0c dA dA;refine tY hr<|tY hr<|tI (λ_=>tY hr<|tY hr<|tY hr<|tY hr<|tR<|(q0a _ _ _).trans hs.2.2) λ_=>tY hr<|tY hr<|tR ?_;rw[w64 (n:=s.1-1) dA dA];exact⟨⟨by show-1<=s.1-1;omega,by show s.1-1<_;omega,(q0a _ _ _).trans hs.2.2⟩,by show(s.1-1+1).toNat<_;omega⟩
  cases x with
  |inl r=>exact tY (a0e dD) (tR dD)
  |inr r=>show r.length<=_;omega
theorem M0d (hl:l.length<=100000):Tot (c0w l) (λr=>r.length=l.length):=by
  unfold c0w;rw[w64 (n:=(l.length:Int)-1) dA dA];refine tL (λs:Int×Int×List Int=>0<=s.1/\s.2.1<l.length/\s.2.2.length=l.length/\ -1<=s.2.1/\s.1<=l.length) (λs=>(s.2.1-s.1+1+100002).toNat) ⟨by show(0:Int)<=0;omega,by show(l.length:Int)-1<_;omega,rfl,by show-1<=(l.length:Int)-1;omega,by show(0:Int)<=_;omega⟩ (by show((l.length:Int)-1-0+1+100002).toNat<_;omega) λs hs=>tI (λe=> ?_) λ_=>tR hs.2.2.1;have e:=dTT e;have h1:inR s.1 s.2.2.length=true:=a0c dA dA;have h2:inR s.2.1 s.2.2.length=true:=a0c dA dA;refine tY h2<|tY h2<|tY h1<|tY h1<|tY h1<|tY h1 ?_;rw[q0a];refine tY h2<|tY h2<|tR ?_;rw[w64 (n:=s.1+1) dA dA,w64 (n:=s.2.1-1) dA dA];simp only[q0a];exact⟨⟨by show 0<=s.1+1;omega,by show s.2.1-1<_;omega,hs.2.2.1,by show-1<=s.2.1-1;omega,by show s.1+1<=_;omega⟩,by show(s.2.1-1-(s.1+1)+1+100002).toNat<(s.2.1-s.1+1+100002).toNat;omega⟩
def wle(n:Int): -9223372036854775808<=zA .i64 n/\zA .i64 n<9223372036854775808:=by have h:=A0e n;unfold inI at h;omega
theorem B0d (hl:l.length<=100000)(hc:c<9223372036854775808):Tot (a0m (λ(s1:Int×(List Int))=>(bif(vA<|s1.1>0)then(bif room (s1.2.length+(([(zA .u8<|oC s1.1 10)]:List Int)).length)then(wA<|.inl ((zA .i64<|wE s1.1 10),(s1.2++(([(zA .u8<|oC s1.1 10)]:List Int)))))else none)else(wA<|.inr s1.2))) big (c,l)) (λr=>r.length<=l.length+19):=by
  refine tL (λs:Int×List Int=> ∃j:Nat,s.1<(10:Int)^j/\s.2.length+j<=l.length+19/\s.1<9223372036854775808) (λs=>s.1.toNat) ⟨19,by show c<_;omega,dE,hc⟩ (by show c.toNat<_;omega) λs hs=> ?_;obtain⟨j,h1,h2,h3⟩:=hs;refine tI (λe=> ?_) λ_=>tR dA;have e:0<s.1:=dTT e;refine tY (a0e dD)<|tR ?_;have hd:wE s.1 10=s.1/10:=bz dA;rw[hd,w64 (n:=s.1/10) dA dA];refine⟨?_,by show(s.1/10).toNat<s.1.toNat;omega⟩
  cases j with
  |zero=>simp at h1;omega
  |succ j=>
    refine⟨j, ?_,dD,by show s.1/10<_;omega⟩;show s.1/10<_;rw[Int.pow_succ]at h1;omega
theorem J0k (hl:l.length<=5000):Tot (h0O l k) (λr=>r.length<=l.length+19):=by
  unfold h0O;rw[w64 (n:=(l.length:Int)-1) dA dA];refine tB (p:=λr:Int×List Int=>r.1<9223372036854775808/\r.2.length<=l.length) (tL (λs:Int×Int×List Int=>s.1<9223372036854775808/\ -1<=s.2.1/\s.2.1<l.length/\(s.2.2.length:Int)+s.2.1+1=l.length) (λs=>(s.2.1+1).toNat) ⟨by show(0:Int)<_;decide,by show(-1:Int)<=l.length-1;omega,by show(l.length:Int)-1<_;omega,dE⟩ (by show((l.length:Int)-1+1).toNat<_;omega) λs hs=> ?_) λs hs=>tB (B0d dA hs.1) λr hr=>tB (M0d dA) λq hq=>tR dA;refine tI (λe=> ?_) (λ_=>tR ⟨hs.1,by show s.2.2.length<=_;omega⟩);have e:=dTT e;refine tY (a0c dA dA)<|tY (a0e dD)<|tR ?_;rw[w64 (n:=s.2.1-1) dA dA];refine⟨⟨(wle _).2,by show-1<=s.2.1-1;omega,by show s.2.1-1<_;omega,dD⟩,by show(s.2.1-1+1).toNat<(s.2.1+1).toNat;omega⟩
theorem J0E(m:Int):Tot (o0j m) (λr=>r=oA->0<=m/\m<=7):=by
  unfold o0j;exact tB (p:=λr=>r=oA->0<=m/\m<=7) (tI (λe=>tR λh=>⟨by have:=dTT e;omega,dTT h⟩) λ_=>tR dH) λ_ h=>tR h
def w0Q (hl:l.length<=3001):Tot (bif b then(jA (l0b l) λy=>wA y)else wA l) (λr=>r.length<=3002):=
  tI (λ_=>tB (J0D dA) λ_ h=>tR dA) (λ_=>tR dA)
def A0g(a b c:Bool)(n:Int):Tot (d0x a b c n) (λ_=>True):=by
  unfold d0x;exact zC (tI dI λ_=>tI dI dI) dJ
theorem I0g {p:Int} (hl:d.D_.length<=4294967296):Tot (j0K d k p m) (λr=>k0Q r.1):=by
  have z:k0Q (⟨yA,([]:List Int),0⟩:a0X):=⟨dE,dG,dG⟩
  unfold j0K;refine tJ (tB (p:=λc=>c=yA->(0<=m/\m<=7)/\(1<=k/\ -1000<=p/\p<=1000)/\k0Q d) ?_ λc hc=>tI (λ_=>tR z) λe=>tR ?_)
  · refine tB (J0E m) (λa ha=>tI (λ_=>tR dH) λe1=>tB (J0w k p) λb hb=>tI (λ_=>tR dH) λe2=>tB (q0P hl) λc hc=>tR λe3=>⟨ha (by cases a<;>simp_all),hb (by cases b<;>simp_all),hc<|by cases c<;>simp_all⟩)
  obtain⟨hm,hk,hd⟩:=hc e;refine tB (G0H hd hk.1 hk.2) (λy hy=>tJ<|zC (tI (λ_=>tB (A0z _ _) dJ) dI) λc _=>tI (λ_=>tB (z0K<|by have:=hd.1;omega) λ_ h=>tR h) λ_=>tR ?_);refine zC (tI (λe=> ?_) dI) λs _=>tB (M0c _ _ _ _) λh _=>tB (p:=λr:List Int=>r.length<=3002) ?_ λr hr=>tB (J0k dA) λt ht=>tB (z0K dA) λ_ h=>tR h;have e:=dTT e;rw[w64 (n:=(y.1.length:Int)-1) dA dA];have hr:inR ((y.1.length:Int)-1) y.1.length=true:=a0c dA dA;exact tY hr<|tY hr<|tR trivial;unfold l0C n0c n0b j0I j0H j0G j0F j0E j0D;simp only[ah];refine tI (λ_=>w0Q hy) λe0=>tI (λ_=>w0Q hy) λe1=>tI (λ_=>w0Q hy) λe2=>tI (λ_=>w0Q hy) λe3=>tI (λ_=>tB (tB (A0g _ _ _ _) dJ) λ_ _=>w0Q hy) λe4=>tI (λ_=>tB (tB (A0g _ _ _ _) dJ) λ_ _=>w0Q hy) λe5=>tI (λ_=>tB (tB (A0g _ _ _ _) dJ) λ_ _=>w0Q hy) λe6=>tI (λ_=>tB (tB (A0g _ _ _ _) dJ) λ_ _=>w0Q hy) λe7=> ?_;have:=dFF e0;have:=dFF e1;have:=dFF e2;have:=dFF e3;have:=dFF e4;have:=dFF e5;have:=dFF e6;have:=dFF e7;omega
def D0x (hl:d.D_.length<=100000):Tot (i0n d n m) (λr=>k0Q r.1):=by
  have z:k0Q (⟨yA,([]:List Int),0⟩:a0X):=⟨dE,dG,dG⟩
  unfold i0n;refine tJ<|zC (tI dI λ_=>tB (J0E m) λa _=>tI dI λ_=>tB (q0P dA) (λ_ _=>tR trivial)) λc _=>tI (λ_=>tR z) λ_=>tR ?_;refine tJ<|zC (tI dI λ_=>tB (t0V _) (λ_ _=>tR trivial)) λc _=>tI (λ_=>tB (z0K hl) λ_ h=>tR h) λ_=>tR ?_;exact tB (t0V _) λ_ _=>tB (I0g dA) λ_ h=>tR h
def L0U {p:Int} (hl:d.D_.length<=100000):Tot (l0E d p m) (λr=>k0Q r.1):=by
  unfold l0E;exact tB (I0g dA) λ_ h=>tR h
def G0r (hl:d.D_.length<=100000):Tot (h0K p g d m) (λr=>k0Q r.1):=by
  unfold h0K;exact tI (λ_=>tB (m0c _) λ_ _=>tB (D0x hl) λ_ h=>tR h) λ_=>tI (λ_=>tB (D0x hl) λ_ h=>tR h) λ_=>tI (λ_=>tB (L0U hl) λ_ h=>tR h) λ_=>tB (L0U hl) λ_ h=>tR h
theorem s0V (hd:k0Q d):Tot (e0Y d n) (λr=>k0Q r.1):=by
  have z:k0Q (⟨yA,([]:List Int),0⟩:a0X):=⟨dE,dG,dG⟩
  have hd0:=hd;obtain⟨h1,h2,h3⟩:=hd;unfold e0Y;refine tJ<|zC (tI dI dI) λc _=>tI (λ_=>tR z) λ_=>tR ?_;rw[F0A dA,ah];refine tI (λ_=>tR ⟨h1,h2,h3⟩) (λ_=>tJ<|tB (p:=λc=>c=yA-> -1000<=zA .i64 (d.E_+n)/\zA .i64 (d.E_+n)<=1000) (tI (λ_=>tR dH) λe=>tR λh=>⟨by have:=dFF e;omega,by have:=dFF h;omega⟩) λc hc=>tI (λ_=>tR z) λe=>tR<|tR ⟨h1,hc e⟩)
/-! Numbers, spelled in a pattern's shape: they answer, and are not long. -/
def I0T (hd:k0Q d):Tot (j0k p d) (λr=>k0Q r.1/\ -1000<=r.2/\r.2<=2000):=by
  unfold j0k;refine tI (λ_=>tR ⟨hd,by show(-1000:Int)<=0;decide,by show(0:Int)<=2000;decide⟩) λ_=>tB (t0V d) λm hm=>tB (s0V hd) λr hr=>tR ⟨hr,hm hd⟩
def A0J {a b:Int} (h1:a<=c)(h2:b<=c):r0p a b<=c:=by unfold r0p;split<;>omega
def I0q {a b:Int} (h1:c<=a):c<=r0p a b:=by unfold r0p;split<;>omega
theorem F0Q (hd:k0Q d):Tot (l0z p d) (λr=>0<=r/\r<=2001):=by
  unfold l0z;refine tB (m0c _) λy hy=>tB (p:=λs:Int=>0<=s/\s<=1000) (zC (tI dI dI) λb _=>tI (λ_=>tR ⟨dG,dG⟩) λ_=>tR hy) λs hs=>tI (λ_=>tR ⟨hs.1,dA⟩) λ_=>tB (t0V d) λm hm=>tR ?_;have:=hm hd;rw[w64 (n:=m+1) dA dA];exact⟨I0q hs.1,A0J dA dA⟩
theorem E0Z (h1:x1<=5000):Tot (b0X x0 x1 b l e) (λr=>r.length<=5000):=by
  unfold b0X;refine tB (tL (λs:Int×List Int=>0<=s.1/\(s.1<=x1\/s.2.length=0)/\(s.2.length:Int)=s.1) (λs=>(x1-s.1).toNat) ⟨by show(0:Int)<=0;decide, .inr rfl,rfl⟩ (by show(x1-0).toNat<_;omega) λs hs=>tI (λc=> ?_) λc=>tR dA) λr hr=>tR hr;have c:=dTT c;refine tB (K0U _ _) λy _=>tY (a0e dD)<|tR ?_;rw[w64 (n:=s.1+1) dA dA];exact⟨⟨by show 0<=s.1+1;omega, .inl<|by show s.1+1<=x1;omega,by show((s.2++ [y]).length:Int)=s.1+1;simp;omega⟩,by show(x1-(s.1+1)).toNat<(x1-s.1).toNat;omega⟩
theorem B0j (hd:k0Q d):Tot (k0o p x1 d) (λr=>r<=3000):=by
  unfold k0o;refine tB (m0c _) λy0 h0=>tB (p:=λs:Int=>s<=3000) (tI (λ_=>tR dA) λ_=>tI (λ_=>tB (m0c _) λy1 h1=>tB (t0V d) λm hm=>tR ?_) λ_=>tI (λ_=>tB (m0c _) λy3 h3=>tR dA) λ_=>tR dA) λs hs=>tR ?_;have:=hm hd;rw[w64 (n:=y1-1) dA dA,w64 (n:=y1-1-m) dA dA];omega;obtain⟨_,h2,h3⟩:=hd;rw[w64 (n:=0-d.E_) dA dA];exact A0J (A0J dG hs) dA
def y0l (hl:d.D_.length<=4294967296):Tot (d0K p x1 d) (λr=>r.1.length<=5000/\r.2.1.length<=5000/\ -1000<=r.2.2/\r.2.2<=2000):=by
  unfold d0K;refine tB (q0P hl) λy5 h5=>tI (λ_=>tR ⟨dE,dE,dG,dG⟩) λe=> ?_;have hd:k0Q d:=h5 (by cases y5<;>simp_all);exact tB (I0T hd) λy0 h0=>tB (F0Q h0.1) λy1 h1=>tB (E0Z dA) λy3 h3=>tB (B0j h0.1) λy2 h2=>tB (E0Z dA) λy4 h4=>tR ⟨h3,h4,h0.2.1,h0.2.2⟩
theorem O0V(a b c:Int):Tot (v0w a b c) (λ_=>True):=by
  unfold v0w;refine tJ (zC (tI dI dI) λs _=>tI dI λ_=>tR<|zC (tI dI λ_=>tI (λe=>tY (A0G.2<|by have:=dTT e;omega)<|tR trivial) dI) dJ)
theorem A0m {a b:Int} (hl:l.length<=5000):Tot (g0F s l a b) (λr=>r.length<=10000):=by
  unfold g0F;refine tB (tW (λs:Int×List Int=>s.1) l.length (λs=>(s.2.length:Int)<=2*s.1) dA ⟨dE,dE,dE⟩ (λs hs h0 h1=>tY (dT h1)<|tB (p:=λr:List Int=>(r.length:Int)<=2*s.1+2) (tB (p:=λr:List Int=>(r.length:Int)<=2*s.1+1) (zC (tI (λ_=>tB (O0V _ _ _) dJ) dI) λc _=>tI (λ_=>tY (a0e dD)<|tR dD) λ_=>tR dA) λr hr=>tY (a0c h0 h1)<|tY (a0e dD)<|tR dD) λr hr=>tR ⟨?_,w64 (n:=s.1+1) dA dA⟩) λs hs e=>tN (dF dA)<|tR dA) λr hr=>tR hr;show(r.length:Int)<=2*zA .i64 (s.1+1);rw[w64 (n:=s.1+1) dA dA];omega
theorem F0o (hl:l.length<=5000):Tot (g0N s l) (λr=>r.length<=5000):=by
  unfold g0N;refine tB (tW (λs:Int×List Int=>s.1) l.length (λs=>(s.2.length:Int)=s.1) dA ⟨dE,dE,dE⟩ (λs hs h0 h1=>tY (dT h1)<|tY (a0c h0 h1)<|tY (a0e dD)<|tR ⟨?_,w64 (n:=s.1+1) dA dA⟩) λs hs e=>tN (dF dA)<|tR dA) λr hr=>tR hr;rw[w64 (n:=s.1+1) dA dA];simp;omega
theorem D0l: ∀(m n:Nat) (x0 x1:Int),m<n->m<=4000->0<=x0-> -10000<=x1-x0->x0+r0p x1 0<=m->Tot (e0d n x0 x1) (λr=>r.length<=m):=by
  intro m
  induction m with
  |zero=>
    intro n x0 x1 hn hm h0 hd hs
    obtain⟨n,rfl⟩: ∃k,n=k+1:=⟨n-1,dA⟩
    unfold e0d;have e:x0=0/\x1<1:=by unfold r0p at hs;split at hs<;>omega
    rw[e.1];exact tJ (tB (p:=λr=>r=oA) (tY rfl<|tR<|dT e.2) λs h=>tY h<|tR<|by show([]:List Int).length<=0;simp)
  |succ m ih=>
    intro n x0 x1 hn hm h0 hd hs
    obtain⟨n,rfl⟩: ∃k,n=k+1:=⟨n-1,dA⟩
    unfold e0d;refine tJ (tB (p:=λr=>r=yA->x0≠0\/1<=x1) (tI (λe=>tR λh=>by have:=dFF h;omega) λe=>tR λ_=> .inl<|dFF e) λs h=>tI (λ_=>tR<|by show([]:List Int).length<=_;simp) λe=>tR ?_);have h:=h e;have hb:x0<=4001/\x1<=4001:=by unfold r0p at hs;split at hs<;>omega
    have ht:wE x0 10=x0/10:=bz h0;show Tot (jA (e0d n _ _) _) _;rw[ht,w64 (n:=x0/10) dA dA,w64 (n:=x1-1) dA dA];refine tB (ih n (x0/10) (x1-1) dA dA dA dA<|by unfold r0p at hs⊢;split at hs<;>split<;>omega) λy hy=>tY (a0e dD)<|tR dD
theorem N0d (h1: -1000<=e)(h2:e<=2000):Tot (f0a s p e) (λr=>r.length<=6000):=by
  unfold f0a;refine tB (p:=λr:Int×List Int=>0<=r.1/\r.1<=2000/\r.2.length<=1) (tI (λc=>tY (a0e dE)<|tR ?_) λc=>tI (λ_=>tY (a0e dE)<|tR ⟨by have:=dFF c;show 0<=e;omega,h2,dE⟩) λ_=>tR ⟨by have:=dFF c;show 0<=e;omega,h2,dE⟩) (λr hr=>tB (m0c _) λk hk=>tB (D0l 4000 big r.1 k (by unfold big;omega) dA hr.1 dA<|by unfold r0p;split<;>omega) λy hy=>tB (F0o dA) λz hz=>tY (a0e dA)<|tR dD);have c:=dTT c;rw[w64 (n:=0-e) dA dA];exact⟨by show 0<=0-e;omega,by show 0-e<=2000;omega,dE⟩
def J0c (hl:d.D_.length<=4294967296):Tot (h0J s p g d) (λr=>r.length<=30000):=by
  unfold h0J;refine tB (y0l hl) λy0 h0=>tB (A0m h0.1) λy1 h1=>tB (p:=λr:List Int=>r.length<=15001) (tI (λ_=>tY (a0e dD)<|tB (F0o h0.2.1) λy2 h2=>tY (a0e dD)<|tR dD) λ_=>tR dA) λr hr=>tB (p:=λr:List Int=>r.length<=30000) (tI (λ_=>tY (a0e dD)<|tB (N0d h0.2.2.1 h0.2.2.2) λy3 h3=>tY (a0e dD)<|tR dD) λ_=>tR dA) λq hq=>tR hq
/-! Rows of pads, and rows put together. -/
def N0A(x:Int):0<=bits .and .u64 x 4294967295/\bits .and .u64 x 4294967295<=4294967295:=by
  have h:(BitVec.ofInt 64 x&&&BitVec.ofInt 64 4294967295).toNat<=4294967295:=by
    rw[BitVec.toNat_and];exact aF Nat.and_le_right dG
  show 0<=zA .u64 ((BitVec.ofInt 64 x&&&BitVec.ofInt 64 4294967295).toNat:Int)/\zA .u64 ((BitVec.ofInt 64 x&&&BitVec.ofInt 64 4294967295).toNat:Int)<=4294967295;rw[L0s dA dA];omega
def K0a (h0:0<=k)(h1:k<=4294967295):o0u 1 k=wA (0,k):=by
  have ha:bits .and .u64 1 4294967295=1:=by decide+kernel
  have hz:bits .and .u64 0 4294967295=0:=by decide+kernel
  have f1:vE 1 4294967296=0:=by decide
  have fz:vE 0 4294967296=0:=by decide
  have fk:vE k 4294967296=0:=by rw[cm _ dG];omega
  have hb:=N0A k;have fb:vE (bits .and .u64 k 4294967295) 4294967296=0:=by rw[cm _ dG];omega
  have z:zA .u64 0=0:=by decide
  unfold o0u;simp only[f1,fk,ha,Int.zero_mul,Int.mul_zero,z,Int.one_mul,L0s hb.1 dA,fb,Int.add_zero,hz,fz,L0s h0 dA]
theorem M0e (h0:0<=k)(h1:k<=4000000000):Tot (e0D [x] k) (λr=>(r.length:Int)=k):=by
  unfold e0D;have z:zA .u64 (([x]:List Int).length:Int)=1:=by show zA .u64 1=1;decide
  rw[z,L0s h0 dA];have hm:s0F 1 k=wA (0,k):=by unfold s0F;rw[K0a h0 dA];rfl
  rw[hm];refine zC (tN (dF dA)<|tR trivial) λ_ _=>tB (p:=λy=>y=((0:Int),k)) (tR rfl) λy hy=> ?_;subst hy;refine zC (tB (p:=λb=>b=yA) (tN (dF<|by show¬(0:Int)>0;decide)<|tR<|dF<|by show¬k>_;omega) λb hb=>tN hb<|tR trivial) λ_ _=> ?_;show Tot (bif mk (zA .i64 k) (zA .i64 k)then _ else none) _;rw[w64 (n:=k) dA dA];refine tY (M0C h0 dA dA)<|tB (tL (λs:Int×List Int=>(s.2.length:Int)=k/\s.1<=k/\(k=0/\0<=s.1\/1<=s.1)) (λs=>(k-s.1).toNat) ?_ ?_ λs hs=>tI (λe=> ?_) λe=>tR hs.1) λr hr=>tR hr;have hr:((rep k (0:Int)).length:Int)=k:=by simp[rep];omega
  refine⟨?_, ?_, ?_⟩;show((u0O (rep k (0:Int)) [x]).length:Int)=k;simp[u0O,rep];omega;show((min 1 (rep k (0:Int)).length:Nat):Int)<=k;omega;show k=0/\0<=((min 1 (rep k (0:Int)).length:Nat):Int)\/1<=((min 1 (rep k (0:Int)).length:Nat):Int);omega;show(k-((min 1 (rep k (0:Int)).length:Nat):Int)).toNat<_;omega;have e:=dTT e;obtain⟨g1,g2,g3⟩:=hs;have g1:(s.2.length:Int)=k:=g1;have g3:k=0/\0<=s.1\/1<=s.1:=g3;have g5:s.1<(s.2.length:Int):=e;have g4:1<=s.1:=by omega
  have c2:(vA (s.1.toNat<=s.2.length)&&vA (s.1.toNat<=s.2.length))=true:=by simp;omega
  refine tY (a0c dA dA) (tY (by simp[cZ];omega)<|tY c2<|tR ?_);have hl:=F0r c2;have hw:((min s.1.toNat (s.2.length-s.1.toNat):Nat):Int)<=k-s.1/\1<=((min s.1.toNat (s.2.length-s.1.toNat):Nat):Int):=by omega
  rw[w64 dA dA];exact⟨⟨by rw[hl];exact g1,by show s.1+_<=k;omega, .inr<|by show 1<=s.1+_;omega⟩,by show(k-(s.1+_)).toNat<(k-s.1).toNat;omega⟩
theorem K0v (h0:0<=k)(h1:k<=4000000000):h0I [] k=wA []:=by
  unfold h0I;have z:zA .i64 (0-0)=0:=by decide
  rw[z,w64 (n:=k-0) dA dA,dF (dA: ¬k<0)];by_cases c:k-0>0;rw[dT c,dT (dA:(0:Int)<=k-0),a0e (dA:(k-0).toNat<=4294967296)];have hb:yD 0 (rep (k-0) (0:Int)).length=true:=by simp[rep,cZ];omega
  rw[hb];rfl;rw[dF c];rfl
theorem H0P {l:List (List Int)} {m:Nat} (hn:l.length<=10)(hm:m<=100000000)(hl: ∀x∈l,x.length<=m):Tot (f0L l) (λr=>r.length<=10*m):=by
  unfold f0L;refine tB (tW (λs:Int×Int=>s.2) l.length (λs:Int×Int=>0<=s.1/\s.1<=(m:Int)*s.2) (post:=λr:Int=>0<=r/\r<=10*(m:Int)) dA ⟨⟨by show(0:Int)<=0;decide,by show(0:Int)<=m*0;simp⟩,by show(0:Int)<=0;decide,by show(0:Int)<=_;omega⟩ (λs hs h0 h1=>tY (dT h1) ?_) λs hs e=>tN (dF dA)<|tR ⟨hs.1, ?_⟩) λk hk=>tB (p:=λr=>r=[]) ⟨[],K0v hk.1 dA,rfl⟩ λy hy=> ?_;have hx:=hl _<|c0x h0 h1;have:(m:Int)*s.2<=m*10:=bY dA dA;have w:=w64 (n:=s.1+((nth l s.2).length:Int)) dA dA;rw[w];refine zC (tY (a0c h0 h1)<|tN (dF dA)<|tR trivial) λ_ _=>tR ?_;rw[w64 (n:=s.2+1) dA dA];exact⟨⟨by show 0<=s.1+_;omega,by show s.1+_<=m*(s.2+1);rw[Int.mul_add];omega⟩,rfl⟩;have:(m:Int)*s.2<=m*10:=bY dA dA;omega;subst hy;refine tB (tW (λs:Int×List Int=>s.1) l.length (λs=>(s.2.length:Int)<=m*s.1) (post:=λr=>r.length<=10*m) dA ⟨dE,dE,dE⟩ (λs hs h0 h1=>tY (dT h1)<|tY (a0c h0 h1) ?_) λs hs e=>tN (dF dA)<|tR ?_) λr hr=>tR hr;have hx:=hl _<|c0x h0 h1;have:(m:Int)*s.1<=m*10:=bY dA dA;refine tY (a0e dA)<|tR ?_;rw[w64 (n:=s.1+1) dA dA];exact⟨by show((s.2++nth l s.1).length:Int)<=m*(s.1+1);rw[Int.mul_add];simp;omega,rfl⟩;have:(m:Int)*s.1<=m*10:=bY dA dA;omega
/-! Plural operands and rules: they answer. -/
def nxn {s:Int} {n:Nat} (h0:0<=s)(h1:s<=n)(hn:n<=4294967296):zA .i64 (s+1)=s+1:=w64 (n:=s+1) dA dA
theorem A0E (hl:l.length<=4294967296):Tot (f0D l) (λ_=>True):=by
  unfold f0D;exact Tot.joinT (Tot.srch l.length hl (λs h0 h1=>tY (dT h1)<|tY (a0c h0 h1)<|tI dI λ_=>tR<|nxn h0 dA hl) λs e=>zE e trivial) dI
theorem v0y (hl:l.length<=4294967296):Tot (h0S l) (λr=>r.length<=l.length):=by
  unfold h0S;refine tB (tL (λs:List Int=>s.length<=l.length) (λs=>s.length) (post:=λr:List Int=>r.length<=l.length) (aj _) dA λs hs=>tJ<|tB (p:=λb=>b=oA->0<s.length) (tI (λe=>tY (a0c dG<|by have:=dTT e;omega)<|tR λ_=>by have:=dTT e;omega) λ_=>tR dH) λb hb=>tI (λe=>tR (show Tot _ _ from ?_)) λ_=>tR hs) (λs hs=>tB (p:=λr=>r=s) ⟨s,F0A dA,rfl⟩ λr hr=>tR<|by rw[hr];exact hs);have h1:=hb e;refine tY (l0j dG dA dA)<|tR ?_;have hc:(cut s 1 (s.length:Int)).length=s.length-1:=by simp[cut]
  exact⟨by show(cut s 1 (s.length:Int)).length<=_;omega,by show(cut s 1 (s.length:Int)).length<_;omega⟩
theorem A0C (hl:l.length<=4294967296):Tot (l0g l) (λr=>0<=r/\r<=l.length):=by
  unfold l0g;refine tB (tL (λs:Int=>0<=s/\s<=l.length) (λs=>s.toNat) (post:=λr:Int=>0<=r/\r<=l.length) ⟨dA,dA⟩ dA λs hs=>tJ<|tB (p:=λb=>b=oA->0<s) (tI (λe=> ?_) λ_=>tR dH) λb hb=>tI (λe=>tR (show Tot _ _ from tR ?_)) λ_=>tR hs) λs hs=>tR hs;have:=dTT e;rw[w64 (n:=s-1) dA dA];exact tY (a0c dA dA)<|tR λ_=>this;have:=hb e;rw[w64 (n:=s-1) dA dA];exact⟨⟨dA,dA⟩,dA⟩
def x0G(o:f0Y):Prop:=o.I_.length<=5000/\o.F_.length<=5000/\(0<=o.W_/\o.W_<=o.F_.length)/\0<=o.C_/\o.C_<=1000
theorem O0o {i f:List Int} (hi:i.length<=5000)(hf:f.length<=5000):Tot (v0T i f c) (λr=>x0G r.1):=by
  have z:x0G ⟨[],[],0,0⟩:=⟨dE,dE,⟨dG,dE⟩,dG,dG⟩
  unfold v0T;refine tJ (tB (p:=λb=>b=yA->0<=c/\c<=1000) (tB (A0E dA) λa _=>tI (λ_=>tR dH) λ_=>tB (A0E dA) λb _=>tI (λ_=>tR dH) λ_=>tI (λ_=>tR dH) λe=>tR λh=>⟨by have:=dFF e;omega,by have:=dFF h;omega⟩) λb hb=>tI (λ_=>tR z) λe=>tR (show Tot _ _ from ?_));exact tB (v0y dA) (λs hs=>tB (p:=λr=>r=f) ⟨f,F0A dA,rfl⟩ λr hr=>tB (A0C dA) λw hw=>tR ⟨by show s.length<=5000;omega,by show r.length<=5000;rw[hr];exact hf,⟨hw.1,by show w<=r.length;rw[hr];exact hw.2⟩,hb e⟩)
theorem H0c (h:x0G o):Tot (o0n o) (λ_=>True):=by
  obtain⟨h1,h2,_⟩:=h;unfold o0n;refine Tot.joinT (zC (tB (A0E dA) λa _=>tI dI λ_=>tB (A0E dA) λb _=>tI dI λ_=>tI (λe=>tY (a0c dG<|by have:=dTT e;omega)<|tR trivial) dI) λ_ _=>tI dI dI) λ_=>zC (tB (A0C dA) λw _=>tI (λ_=>tI dI dI) dI) dJ
def s0w (h:n<9223372036854775808):Tot (j0n n) (λr=>r.length<=5000):=by
  unfold j0n;exact tB (B0d dE h) (λr hr=>tB (M0d<|by simp at hr;omega) λq hq=>tR<|by simp at hr;omega)
def A0F (h:l.length<=5000):Tot (a0P l) (λr=>r.length<=5000):=⟨l,F0A dA,h⟩
theorem D0X (h:x0G o):Tot (k0u o c) (λr=>r.1.length<=5000):=by
  have hr:=H0c h;obtain⟨h1,h2,h3,h4⟩:=h;have z:([]:List Int).length<=5000:=by simp
  unfold k0u e0K h0k h0T i0K h0U i0J j0S f0M;refine tB hr (λy _=>tI (λ_=>tR z) λ_=>zC (tR trivial) λ_ _=>tI (λ_=>tB (p:=λr:List Int×Bool=>r.1.length<=5000) (tI (λ_=>tR z) λ_=>tB (A0F h1) λ_ h=>tR h) λ_ h=>tR h) λ_=>tI (λ_=>tB (p:=λr:List Int×Bool=>r.1.length<=5000) (tB (A0F h1) λ_ h=>tR h) λ_ h=>tR h) λ_=>tI (λ_=>tB (p:=λr:List Int×Bool=>r.1.length<=5000) (tB (s0w<|by show(o.F_.length:Int)<_;omega) λ_ h=>tR h) λ_ h=>tR h) λ_=>tI (λ_=>tB (p:=λr:List Int×Bool=>r.1.length<=5000) (tB (s0w<|by show o.W_<_;omega) λ_ h=>tR h) λ_ h=>tR h) λ_=>tI (λ_=>tB (p:=λr:List Int×Bool=>r.1.length<=5000) (tB (v0y<|by show o.F_.length<=_;omega) λr h=>tR<|by show r.length<=5000;have:r.length<=o.F_.length:=h;omega) λ_ h=>tR h) λ_=>tI (λ_=>tB (p:=λr:List Int×Bool=>r.1.length<=5000) (tY (l0j dG h3.1 h3.2)<|tB (v0y ?_) λr h=>tR ?_) λ_ h=>tR h) λ_=>tI (λ_=>tB (p:=λr:List Int×Bool=>r.1.length<=5000) (tB (s0w<|by show o.C_<_;omega) λ_ h=>tR h) λ_ h=>tR h) λ_=>tI (λ_=>tB (p:=λr:List Int×Bool=>r.1.length<=5000) (tB (s0w<|by show o.C_<_;omega) λ_ h=>tR h) λ_ h=>tR h) λ_=>tR z);simp[cut];omega;have:(cut o.F_ 0 o.W_).length<=o.F_.length:=by simp[cut];omega
  show r.length<=5000;have h:r.length<=(cut o.F_ 0 o.W_).length:=h;omega
theorem M0u (hl:l.length<=4294967296):Tot (s0x l m) (λ_=>True):=by
  unfold s0x;refine tJ (tB (p:=λb=>b=yA->1<=m) (tI (λ_=>tR dH) λe=>tR λ_=>by have:=dFF e;omega) λb hb=>tI dI λe=>tR (show Tot _ _ from ?_));have:=hb e;exact zC (tW (λs:Int×Int=>s.2) l.length (λ_=>True) hl ⟨trivial,by show(0:Int)<=0;decide,by show(0:Int)<=_;omega⟩ (λs _ h0 h1=>tY (dT h1)<|tY (a0c h0 h1)<|tY (A0G.2 dA)<|tR ⟨trivial,nxn h0 dA hl⟩) λs _ e=>zE e trivial) dJ
theorem O0s {a b:Int} (hl:l.length<=4294967296):Tot (v0U l a b) (λ_=>True):=by
  unfold v0U;refine tB (v0y hl) (λq hq=>Tot.joinT (zC (tI dI dI) λ_ _=>tI dI dI) λ_=>zC (tW (λs:Int×Int=>s.2) q.length (λ_=>True) dA ⟨trivial,by show(0:Int)<=0;decide,by show(0:Int)<=_;omega⟩ (λs _ h0 h1=>tY (dT h1)<|tY (a0c h0 h1)<|tR ⟨trivial,nxn h0 (bg h1) dA⟩) λs _ e=>zE e trivial) λ_ _=>zC (tI dI dI) dJ)
theorem M0V {r:List a0T} (hr:r.length<=400)(hl:l.length<=4294967296):Tot (c0q r l) (λ_=>True):=by
  unfold c0q e0F h0N;exact zC (Tot.joinT (Tot.srch r.length dA (λs h0 h1=>tY (dT h1)<|tY (a0c h0 h1)<|zC (tB (O0s hl) dJ) λ_ _=>tI dI λ_=>tR<|nxn h0 (bg h1) dA) λs e=>zE e trivial) dI) dJ
theorem M0U {r:List a0T} (hr:r.length<=400):Tot (c0p r n) (λ_=>True):=by
  unfold c0p e0E h0M;exact zC (Tot.joinT (Tot.srch r.length dA (λs h0 h1=>tY (dT h1)<|tY (a0c h0 h1)<|zC (zC (tI dI dI) dJ) λ_ _=>tI dI λ_=>tR<|nxn h0 (bg h1) dA) λs e=>zE e trivial) dI) dJ
def N0x {r:a0z} (hr:B0K r)(ho:x0G o):Tot (g0n r o.I_ o.F_ o.W_ o.C_) (λ_=>True):=by
  unfold g0n e0p;refine tB (D0X ho) λy hy=>zC (tI (λ_=> ?_) dI) dJ;refine zC (tI dI λ_=>tB (M0u dA) dJ) λx _=> ?_;exact tM (λ_ _=>tB (M0V hr.2.1 dA) dJ) λ_ _=>tB (M0U hr.2.1) dJ
theorem K0t {c:List (List a0z)} (hc:n0S c)(ho:x0G o):Tot (l0a c o) (λ_=>True):=by
  obtain⟨c1,c2⟩:=hc;unfold l0a m0Z;refine zC (tR trivial) λ_ _=>Tot.joinT (Tot.srch c.length dA (λs h0 h1=>tY (dT h1)<|Tot.joinG (tY (a0c h0 h1)<|Tot.mono (p:=y0H s) ?_ λ_ h=>h) λ_=>tR<|nxn h0 (bg h1) dA) λs e=>zE e trivial) dI;obtain⟨r1,r2⟩:=c2 _<|c0x h0 h1;refine tJ<|tW (λs:Int=>s) (nth c s).length (λ_=>True) dA ⟨trivial,dG,dA⟩ (λq _ g0 g1=>tY (dT g1)<|tY (a0c g0 g1)<|tB (N0x (r2 _<|c0x g0 g1) ho) λ_ _=>tI dI λ_=>tR ⟨trivial,nxn g0 (bg g1) dA⟩) λq _ e=>tN (dF dA)<|tR (show Tot _ _ from tR trivial)
def D0J(l:List c0m):Prop:=l.length<=1000/\ ∀x∈l,n0S x.C_
theorem M0k {l:List c0m} (hl:D0J l)(ho:x0G o):Tot (t0t l o) (λ_=>True):=by
  obtain⟨l1,l2⟩:=hl;unfold t0t;exact Tot.joinT (Tot.srch l.length dA (λs h0 h1=>tY (dT h1)<|tY (a0c h0 h1)<|tB (K0t (l2 _<|c0x h0 h1) ho) λ_ _=>tI dI λ_=>tR<|nxn h0 (bg h1) dA) λs e=>zE e trivial) dI
theorem G0W {l:List p0T} (hl:l.length<=1000):Tot (q0s l) (λr=>D0J r.1):=by
  have z:D0J []:=⟨dE,λx h=>by cases h⟩
  unfold q0s;refine tJ (tW (λs:Int×Int×List c0m=>s.2.1) l.length (λs=>(s.2.2.length:Int)<=s.2.1/\ ∀x∈s.2.2,n0S x.C_) dA ⟨⟨dE,λx h=>by cases h⟩,av _,dE⟩ (λs hs g0 g1=>tY (dT g1) ?_) λs hs e=>tN (dF dA)<|tR (show Tot _ _ from tR ⟨by show s.2.2.length<=1000;omega,hs.2⟩));have e1:zA .i64 (s.2.1+1)=s.2.1+1:=w64 dA dA;rw[e1];refine tJ<|tY (a0c g0 g1) ?_;refine zC ?_ λy _=> ?_;unfold r0k l0d;exact zC (tI dI dI) dJ;refine tI (λ_=>tR z) λ_=> ?_;refine tB (A0p _) λc hc=> ?_;refine tJ<|zC (tI dI λ_=>tB (G0J hc) dJ) λ_ _=> ?_;refine tI (λ_=>tR z) λ_=>tR (show Tot _ _ from ?_);refine tY (a0e dD)<|tR (show Tot _ _ from tR ⟨⟨dD,λx hx=> ?_⟩,rfl⟩);rcases al.1 hx with h|h;exact hs.2 x h;rw[aE]at h;rw[h];exact hc
/-! What is written of a number: it answers. -/
def E0t(l:f0f):Prop:=(l.b_.g_.length<=100000/\l.b_.h_.length<=100000/\l.b_.m_.length<=100000/\l.b_.s_.length<=100000)/\l.B_.length<=8/\l.k_.length<=105/\(∀c∈l.k_,c.r_.length<=6000)/\l.c_.length<=95/\ ∀c∈l.c_,c.X_.length<=6000
def u0i(w:c0I):Prop:=(0<=w.ac_.V_/\w.ac_.V_<=4)/\E0t w.l_/\g0r w.p_ 1000/\w.ap_.length<=6100
theorem A0O (hl:l.length<=4294967296):Tot (a0x l) (λ_=>True):=by
  unfold a0x g0G g0d;exact zC (Tot.joinT (Tot.srch l.length hl (λs h0 h1=>tY (dT h1)<|tY (a0c h0 h1)<|zC (tB (P0z _) dJ) λ_ _=>tI dI λ_=>tR<|nxn h0 (bg h1) hl) λs e=>zE e trivial) dI) dJ
def z0T {s3:Int} {c:List Int} (hp:g0r p 1000)(hc:c.length<=6100)(hg:s3=g) {Z:Type} (z:Z):Tot (jA (b0c p s g c) λy1=>(jA (jA (a0x y1.d_) λy4=>(bif y4 then(wA oA)else(jA (a0x y1.e_) λy5=>(wA y5)))) λ(s4:Bool)=>(bif s4 then(wA<|.inr z)else(wA<|.inl g)))) (λx:Int⊕Z=>match x with| .inl s'=>s'=s3| .inr q=>q=z):=
  tB (z0X hp hc) (λa ha=>zC (tB (A0O<|by have:=ha.1;omega) λ_ _=>tI dI λ_=>tB (A0O<|by have:=ha.2;omega) dJ) λ_ _=>tI (λ_=>tR rfl) λ_=>tR hg.symm)
theorem A0d (h:u0i w):Tot (d0N w) (λ_=>True):=by
  obtain⟨_,⟨_,_,_,_,hm,ht⟩,hp,hc⟩:=h;have h1: ∀x∈ [w.p_],g0r x 1000:=λx hx=>by rw[aE]at hx;rw[hx];exact hp
  unfold d0N;refine tB (p:=λq:List a0h=>q.length<=96/\ ∀x∈q,g0r x 1000) (tI (λ_=> ?_) λ_=>tR ⟨dE,h1⟩) λq hq=>Tot.joinT (Tot.srch q.length dA (λs h0 h1=>tY (dT h1)<|Tot.joinG (tY (a0c h0 h1)<|tY (a0c h0 h1)<|Tot.mono (p:=y0H s) ?_ λ_ h=>h) λ_=>tR<|nxn h0 (bg h1) dA) λs e=>zE e trivial) dI;refine tW (λs:Int×List a0h=>s.1) w.l_.c_.length (λs=>(s.2.length:Int)<=s.1+1/\ ∀x∈s.2,g0r x 1000) dA ⟨⟨dE,h1⟩,by show(0:Int)<=0;decide,by show(0:Int)<=_;omega⟩ (λs hs h0 h1=>tY (dT h1)<|tY (a0c h0 h1)<|tB (v0B<|by have:=ht _<|c0x h0 h1;omega) λy hy=>tY (a0e dD)<|tR ?_) λs hs e=>tN (dF dA)<|tR ⟨dA,hs.2⟩;rw[nxn h0 (bg h1) dA];refine⟨⟨by show((s.2++ [y.1]).length:Int)<=s.1+1+1;simp;omega,λx hx=> ?_⟩,rfl⟩;rcases al.1 hx with h|h;exact hs.2 x h;rw[aE]at h;rw[h];exact hy
  · have hx:=hq.2 _ (c0x h0 h1)
    refine tW (λs:Int=>s) 3 (λ_=>True) dA ⟨trivial,dG,dA⟩ (λs3 _ g0 g1=>tY (dT g1)<|tJ<|tI (λe=>Tot.mono (z0T hx hc (dTT e) _) λo ho=> ?_) λe0=>tI (λe=>Tot.mono (z0T hx hc (dTT e) _) λo ho=> ?_) λe1=>tI (λe=>Tot.mono (z0T hx hc (dTT e) _) λo ho=> ?_) λe2=>by have:=dFF e0;have:=dFF e1;have:=dFF e2;omega) (λs3 _ e=>zE e trivial)
    all_goals
      cases o with
      |inl s'=>have ho:s'=s3:=ho;rw[ho];exact tR ⟨trivial,nxn g0 (bg g1) dA⟩
      |inr q=>have ho:q=_:=ho;rw[ho];trivial
theorem O0X {l:f0f} {k:Int} (hl:E0t l)(hp:g0r p 1000)(hq:q.r_.length<=50) {x2:List UInt8} {x4 x5 x6:Bool} {x7 x15 x16 x17 x18:List UInt8} {x8 x9 x10 x11 x12 x13 x14:Int} {x19 x21 x26 x27 x28 x29 x30 x31 x32 x33 x34 x35 x36 x37 x38 x39} {x22 x23 x24 x25:List a0b} (g1:x22.length<=1000)(g2:x23.length<=1000)(g3:x24.length<=1000)(g4:x25.length<=1000):Tot (b0r x0 x1 x2 q.r_ x4 x5 x6 x7 x8 x9 x10 x11 x12 x13 x14 x15 x16 x17 x18 x19 l.k_ x21 x22 x23 x24 x25 x26 x27 x28 x29 x30 x31 x32 x33 x34 x35 x36 x37 x38 x39) (λr=>r.2.1.length<=6100):=by
  obtain⟨_,_,hc,hs,_,_⟩:=hl;unfold b0r k0c d0F;refine tB (p:=λy:Int=>y<l.k_.length) (tJ<|tW (λs:Int=>s) l.k_.length (λ_=>True) dA ⟨trivial,dG,dA⟩ (λs _ h0 h1=>tY (dT h1)<|tY (a0c h0 h1)<|zC (tR trivial) λ_ _=>tI (λ_=>tR (show s<_ from h1)) λ_=>tR ⟨trivial,nxn h0 (bg h1) dA⟩) λs _ e=>tN (dF dA)<|tR (show Tot _ _ from tR dA)) λy hy=>tI (λ_=>tR dE) λe=> ?_;have e:=dFF e;refine tY (a0c dA hy) (tI (λ_=>tY (a0c dA hy)<|tR ?_) λ_=>tB (K0c ⟨g1,g2,g3,g4⟩ dA) λ_ _=>tR<|by show q.r_.length<=6100;omega);have:=hs _<|c0x (dA:(0:Int)<=y) hy;have:=t0a (nth l.k_ y).r_;show(f0x (nth l.k_ y).r_).length<=6100;omega
abbrev T17:=(List a0b)×(List a0b)×(List a0b)×(List a0b)×Bool×Int×Int×Int×Int×Int×Int×Int×Int×Int×Bool×Int×Int
def P0u(s:T17):Prop:=s.1.length<=1000/\s.2.1.length<=1000/\s.2.2.1.length<=1000/\s.2.2.2.1.length<=1000
theorem F0J {l:f0f} (hl:E0t l)(hq:q.r_.length<=50):Tot (g0O l q) (λr=>r.2=0->u0i r.1):=by
  have hl':=hl;obtain⟨⟨p0,p1,p2,p3⟩,_,hc,hs,_,_⟩:=hl;unfold g0O;refine tJ (tB (p:=λb=>b=yA->0<=q.V_/\q.V_<=4) (tI (λ_=>tR dH) λe0=>tI (λ_=>tR dH) λe1=>tB (J0E _) λ_ _=>tR λ_=>⟨by have:=dFF e0;omega,by have:=dFF e1;omega⟩) λb hb=>tI (λ_=>tR λh=>by have h:(9:Int)=0:=h;omega) λe=>tR (show Tot _ _ from ?_));have hst:=hb e;refine tB (p:=λs:Int=>0<=s/\s<=3) (tI (λ_=>tR ⟨dG,dG⟩) λe=>tR ⟨hst.1,by have:=dFF e;omega⟩) λk hk=>tB (p:=P0u) ?_ λs hs=> ?_;refine tI (λ_=>tB (f0A p0) λ_ h=>tR h) λe0=>tI (λ_=>tB (f0A p1) λ_ h=>tR h) λe1=>tI (λ_=>tB (f0A p2) λ_ h=>tR h) λe2=>tI (λ_=>tB (f0A p3) λ_ h=>tR h) λe3=> ?_;have:=dFF e0;have:=dFF e1;have:=dFF e2;have:=dFF e3;omega;obtain⟨s1,s2,s3,s4⟩:=hs;refine tJ (tB (p:=λr:Bool×List Int×Int=>r.2.1.length<=6100) (tI (λ_=>tB (O0X hl' (p:=⟨s.1,s.2.1,s.2.2.1,s.2.2.2.1,yA,0,0,0,0,0,0,0,0,0,yA,0,0⟩) (k:=0) ⟨s1,s2,s3,s4⟩ hq s1 s2 s3 s4) λy hy=>tI (λ_=>tR hy) λ_=>tI (λ_=>tB (A0d ⟨hst,hl',⟨s1,s2,s3,s4⟩,hy⟩) λ_ _=>tR hy) λ_=>tR hy) λ_=>tI (λ_=>tB (A0d ⟨hst,hl',⟨s1,s2,s3,s4⟩,dE⟩) λ_ _=>tR dE) λ_=>tR dE) λr hr=>tI (λ_=>tR λh=>by have h:(9:Int)=0:=h;omega) λ_=>tR (show Tot _ _ from tR λ_=>⟨hst,hl',⟨s1,s2,s3,s4⟩,hr⟩))
def w0A (hd:k0Q d):Tot (a0L w d) (λr=>k0Q r.1):=by
  unfold a0L;exact tB (G0r<|by have:=hd.1;omega) λ_ h=>tR h
def P0J:k0Q ⟨yA,[],0⟩:=⟨dE,dG,dG⟩
def M0X (hd:k0Q d):Tot (b0J w d) (λr=>k0Q r.1):=by
  unfold b0J;exact tB (s0V hd) λy hy=>tI (λ_=>tR P0J) λ_=>tB (w0A hy) λz hz=>tI (λ_=>tR P0J) λ_=>tB (s0V hz) λ_ h=>tR h
def K0f :Tot (j0l d) (λ_=>True):=by
  unfold j0l;exact tB (t0V d) (λ_ _=>tR trivial)
theorem D0O {l:f0f} (hl:E0t l):Tot (g0P l n) (λ_=>True):=by
  obtain⟨_,_,_,_,hm,ht⟩:=hl;unfold g0P n0u;rw[w64 (n:=(l.c_.length:Int)-1) dA dA];refine Tot.joinT (tL (λs:Int=> -1<=s/\s<l.c_.length) (λs=>(s+1).toNat) ⟨dA,dA⟩ dA λs hs=>tI (λe=> ?_) dI) dI;have e:=dTT e;refine tY (a0c dA dA) (tI (λ_=>tB (v0B<|by have:=ht _<|c0x (dA:(0:Int)<=s) dA;omega) λ_ _=>zC (tR trivial) dJ) λ_=>tR ?_);rw[w64 (n:=s-1) dA dA];exact⟨⟨dA,dA⟩,dA⟩
def L0h (hw:u0i w)(hd:k0Q d):Tot (b0s w d) (λr=>k0Q r.1):=by
  unfold b0s;exact tB K0f (λ_ _=>tB (D0O hw.2.1) λ_ _=>tB K0f λ_ _=>tB (D0x<|by have:=hd.1;omega) λ_ h=>tR h)
def x0p (hw:u0i w)(hd:k0Q d):Tot (b0A w d) (λr=>k0Q r.1):=by
  unfold b0A;refine tI (λ_=>tB (w0A hd) λ_ h=>tR h) λe0=>tI (λ_=>tB (M0X hd) λ_ h=>tR h) λe1=>tI (λ_=>tB (w0A hd) λ_ h=>tR h) λe2=>tI (λ_=>tB (w0A hd) λ_ h=>tR h) λe3=>tI (λ_=>tB (L0h hw hd) λ_ h=>tR h) λe4=> ?_;have:=dFF e0;have:=dFF e1;have:=dFF e2;have:=dFF e3;have:=dFF e4;have:=hw.1;omega
def I0a :Tot (e0r w d) (λ_=>True):=by
  unfold e0r;exact tI dI λ_=>tI dI dI
theorem M0n {a:f0K} {o:List Int} (hp:g0r p 1000)(ha:C0C a)(ho:o.length<=20000000):Tot (h0P p a o) (λr=>r.length<=200000000):=by
  obtain⟨a1,a2⟩:=ha;unfold h0P;refine tB (p:=inB) (tI (λ_=>tB (L0G hp) λy hy=>tR ?_) λ_=>tR ⟨dG,dG⟩) (λk hk=>tB (M0e hk.1<|by have:=hk.2;omega) λy hy=>tB (p:=λs:List Int×List Int×List Int×List Int=>s.1.length<=20000000/\s.2.1.length<=20000000/\s.2.2.1.length<=20000000/\s.2.2.2.length<=20000000) ?_ λs hs=>tB (H0P (m:=20000000) dE dA λx hx=> ?_) λ_ h=>tR dA);obtain⟨y1,y2⟩:=hy;rw[w64 (n:=y-a.d_.length) dA dA,w64 (n:=y-a.d_.length-o.length) dA dA,w64 (n:=y-a.d_.length-o.length-a.e_.length) dA dA];exact⟨I0q dA,A0J dA dA⟩;have hy:y.length<=20000000:=by have:=hk.2;omega
  have z:([]:List Int).length<=20000000:=by simp
  exact tI (λ_=>tR ⟨hy,z,z,z⟩) (λ_=>tI (λ_=>tR ⟨z,hy,z,z⟩) λ_=>tI (λ_=>tR ⟨z,z,hy,z⟩) λ_=>tI (λ_=>tR ⟨z,z,z,hy⟩) λ_=>tR ⟨z,z,z,z⟩)
  · obtain⟨h1,h2,h3,h4⟩:=hs
    simp only[aT,cf,or_false]at hx;rcases hx with rfl|rfl|rfl|rfl|rfl|rfl|rfl<;>omega
def v0m (hw:u0i w)(hd:k0Q d):Tot (b0n w d) (λr=>r.1.length<=200000000):=by
  unfold b0n;exact tB I0a (λ_ _=>tB (z0X hw.2.2.1 hw.2.2.2) λa ha=>tB (J0c<|by have:=hd.1;omega) λo ho=>tB (M0n hw.2.2.1 ha dA) λ_ h=>tR h)
def N0K:([]:List Int).length<=200000000:=by simp
def K0s (hw:u0i w)(hd:k0Q d):Tot (b0R w d) (λr=>r.1.length<=200000000):=by
  unfold b0R;exact tB (s0V hd) λy hy=>tI (λ_=>tR N0K) λ_=>tB (v0m hw hy) λ_ h=>tR h
theorem F0x (hw:u0i w)(ho:x0G o):Tot (c0o w n o) (λr=>g0r r 1000):=by
  obtain⟨_,⟨_,hr,_,_,hm,ht⟩,_,_⟩:=hw;unfold c0o;refine tB (G0W dA) (λy hy=>tB (M0k hy ho) λc _=>tB (p:=λs:Int×Int×List UInt8=>s.2.2.length<=6000) ?_ λs hs=>tB (v0B<|by show s.2.2.length<=_;omega) λ_ h=>tR h);refine tW (λs:Int×Int×Int×List UInt8=>s.1) w.l_.c_.length (λs=>s.2.2.2.length<=6000) dA ⟨dE,by show(0:Int)<=0;decide,by show(0:Int)<=_;omega⟩ (λs hs h0 h1=>tY (dT h1)<|tB (p:=λr:Int×Int×List UInt8=>r.2.2.length<=6000) (tY (a0c h0 h1)<|zC (tI (λ_=>tI dI dI) dI) λ_ _=>tI (λ_=>tR<|ht _<|c0x h0 h1) λ_=>tR hs) λr hr=>tR ⟨hr,nxn h0 (bg h1) dA⟩) λs hs e=>tN (dF dA)<|tR hs
theorem G0e (hw:u0i w)(hd:k0Q d):Tot (c0S w d) (λr=>r.1.length<=200000000):=by
  have hw':=hw;obtain⟨_,hl,hp,hc⟩:=hw;unfold c0S;refine tB K0f (λ_ _=>tB (D0O hl) λp _=>tB (s0V hd) λy hy=>tI (λ_=>tR N0K) λ_=>tB (y0l<|by have:=hy.1;omega) λf hf=>tB (A0m hf.1) λg hg=>tB (p:=λr:List Int=>r.length<=15001) (tI (λ_=>tY (a0e dD)<|tB (F0o hf.2.1) λy2 h2=>tY (a0e dD)<|tR dD) λ_=>tR dA) λo ho=>tB (p:=P0u) (tI (λ_=>tB (O0o hf.1 hf.2.1) λq hq=>tB (F0x hw' hq) λ_ h=>tR h) λ_=>tR hp) λt ht=>tB I0a λ_ _=>tB (z0X ht hc) λa ha=> ?_);obtain⟨a1,a2⟩:=ha;exact tY (a0e dA) (tY (a0e dD)<|tR<|by show((a.d_++o)++a.e_).length<=_;simp;omega)
def C0M (hw:u0i w)(hd:k0Q d):Tot (c0n w d) (λr=>r.1.length<=200000000):=by
  unfold c0n;refine tI (λ_=>tB (v0m hw hd) λ_ h=>tR h) λe0=>tI (λ_=>tB (K0s hw hd) λ_ h=>tR h) λe1=>tI (λ_=>tB (v0m hw hd) λ_ h=>tR h) λe2=>tI (λ_=>tB (v0m hw hd) λ_ h=>tR h) λe3=>tI (λ_=>tB (G0e hw hd) λ_ h=>tR h) λe4=> ?_;have:=dFF e0;have:=dFF e1;have:=dFF e2;have:=dFF e3;have:=dFF e4;have:=hw.1;omega
theorem J0P {l:f0f} (hl:E0t l)(hq:q.r_.length<=50)(hd:k0Q d):Tot (g0Q l q d) (λr=>r.1.length<=200000000):=by
  unfold g0Q;refine tB (F0J hl hq) λw hw=>tI (λ_=>tR N0K) λe=> ?_;have hw:=hw (by have:=dFF e;omega);exact tB (x0p hw hd) λy hy=>tI (λ_=>tR N0K) λ_=>tB (C0M hw hy) λ_ h=>tR h
theorem H0F (hl:l.length<=200000000):Tot (j0r l) (λr=>r.length<=1200000000):=by
  unfold j0r n0N;refine zC (tR trivial) (λ_ _=>tB (tW (λs:Int×List Int=>s.1) l.length (λs=>(s.2.length:Int)<=6*s.1) dA ⟨dE,by show(0:Int)<=0;decide,by show(0:Int)<=_;omega⟩ (λs hs h0 h1=>tY (dT h1)<|tB (p:=λr:List Int=>(r.length:Int)<=6*s.1+6) (tY (a0c h0 h1) ?_) λr hr=>tR ?_) λs hs e=>tN (dF dA)<|tR dA) λ_ h=>tR h)
  · repeat' (first|refine tI (λ_=>tY (a0e dD)<|tR dD) (λ_=> ?_)|exact tY (a0e dD)<|tR dD)
  rw[nxn h0 (bg h1) dA];exact⟨by show(r.length:Int)<=6*(s.1+1);omega,rfl⟩
theorem H0C {l:f0f} (hl:E0t l)(hq:q.r_.length<=50)(hd:k0Q d):Tot (b0Y l q d) (λr=>r.1.length<=1200000000):=by
  unfold b0Y;exact tB (J0P hl hq hd) λy hy=>tB (p:=λr:List Int=>r.length<=1200000000) (zC (tI dI dI) λ_ _=>tI (λ_=>tB (H0F hy) λ_ h=>tR h) λ_=>tR dA) λ_ h=>tR h
def u8w(n:Int):IntKind.u8.wrap n=n%256:=by
  unfold zA;simp only[oF,zH,cv,aD,if_false];rfl
theorem v0a(p:Int->Prop)(h: ∀k:Fin 256,p (k.val:Int)) (h0:0<=x)(h1:x<256):p x:=by
  obtain⟨n,rfl⟩:=Int.eq_ofNat_of_zero_le h0;exact h ⟨n,dA⟩
def P0f (h0:0<=x)(h1:x<256):bits .and .u8 x 63=x%64:=v0a (λx=>bits .and .u8 x 63=x%64) (by decide+kernel) h0 h1
def or0 (h0:0<=x)(h1:x<256):bits .or .u8 0 x=x:=v0a (λx=>bits .or .u8 0 x=x) (by decide+kernel) h0 h1
def O0n (h0:0<=x)(h1:x<64):bits .or .u8 128 x=128+x:=v0a (λx=>x<64->bits .or .u8 128 x=128+x) (by decide+kernel) h0 dA h1
def O0m (h0:0<=x)(h1:x<32):bits .or .u8 192 x=192+x:=v0a (λx=>x<32->bits .or .u8 192 x=192+x) (by decide+kernel) h0 dA h1
def O0l (h0:0<=x)(h1:x<16):bits .or .u8 224 x=224+x:=v0a (λx=>x<16->bits .or .u8 224 x=224+x) (by decide+kernel) h0 dA h1
def O0k (h0:0<=x)(h1:x<8):bits .or .u8 240 x=240+x:=v0a (λx=>x<8->bits .or .u8 240 x=240+x) (by decide+kernel) h0 dA h1
def tl (h0:0<=x):bits .or .u8 128 (bits .and .u8 (x%256) 63)=128+x%64:=by rw[P0f dA dA,O0n dA dA];omega
def u0y(x:Int):Bool:=vA<|0<=x/\x<=1114111/\(x<55296\/57343<x)
def H0J(x:Int):List Int:=if x<128 then [x]else if x<2048 then [192+x/64,128+x%64]else if x<65536 then [224+x/4096,128+x/64%64,128+x%64]else [240+x/262144,128+x/4096%64,128+x/64%64,128+x%64]
def y0Q(x:Int):Int:=if u0y x then(if x<128 then 1 else if x<2048 then 2 else if x<65536 then 3 else 4)else 0
def M0P(x:Int):p0V x=wA (u0y x):=by
  unfold p0V u0y;by_cases h1:0<=x<;>by_cases h2:x<=1114111<;>by_cases h3:x<55296<;>simp[h1,h2,h3]
def J0o(x:Int):k0m x=wA (y0Q x):=by
  unfold k0m y0Q;rw[M0P];cases h:u0y x;simp
  · by_cases h1:x<128<;>by_cases h2:x<2048<;>by_cases h3:x<65536<;>simp[h1,h2,h3]
theorem C0c {step:S->Option (S⊕O)} {o:O} : ∀(n:Nat) (s:S),a0m step n s=wA o-> ∀m,n<=m->a0m step m s=wA o:=by
  intro n
  induction n with
  |zero=>intro s h;cases h
  |succ n ih=>
    intro s h m hm
    obtain⟨k,rfl⟩: ∃k,m=k+1:=⟨m-1,dA⟩
    simp only[a0m]at h⊢;split at h;cases h;exact h;exact ih _ h k dA
def s0A {step:S->Option (S⊕O)} {o:O} {s:S} (n:Nat)(h:a0m step n s=wA o)(hn:n<=1000):a0m step big s=wA o:=C0c n s h _ (by unfold big;omega)
def z0G {a b:Int} (hb:0<b):vE a b=a/b:=cm _ dA
theorem M0J {out:List Int} (hr:u0y x=oA)(hl:out.length<=4000000):s0M out x (y0Q x)=wA (out++H0J x):=by
  have hb:0<=x/\x<=1114111/\(x<55296\/57343<x):=by simpa [u0y]using hr
  unfold s0M y0Q H0J;rw[hr];simp only[if_true];have rm: ∀n:Nat,n<=4000010->room n=true:=λn h=>a0e dA
  by_cases h1:x<128;rw[wB h1,wB h1];have e1:bits .or .u8 0 (x%256)=x:=by rw[or0 dA dA];omega
  have hm:k0l 1=wA 0:=rfl;have hw:zA .i64 (6*zA .i64 (1-1))=0:=by decide
  rw[hm];simp only[ah,hw];have hd:vE x (2^(min (0:Int).toNat 32))=x:=by simp
  rw[hd,u8w,e1];have hs:sh 0=true:=by decide
  have hr1:room (out.length+([x]:List Int).length)=true:=rm _ dD;rw[hs,hr1];simp only[jC];rw[s0A 1 rfl dA];rfl;rw[vB h1,vB h1];by_cases h2:x<2048;rw[wB h2,wB h2];have hm:k0l 2=wA 192:=rfl;have hw:zA .i64 (6*zA .i64 (2-1))=6:=by decide
  rw[hm];simp only[ah,hw];have hd:vE x (2^(min (6:Int).toNat 32))=x/64:=z0G dG;have e1:bits .or .u8 192 (x/64%256)=192+x/64:=by rw[O0m dA dA];omega
  rw[hd,u8w,e1];have hs:sh 6=true:=by decide
  rw[hs,rm _ dD];simp only[jC];rw[s0A (o:=out++ [192+x/64]++ [128+x%64]) 2 ?_ dA];simp;simp only[a0m];have g0:vE x (2^(min (0:Int).toNat 32))=x:=by simp
  have w0:zA .i64 ((6:Int)-6)=0:=by decide
  have s0:sh 0=true:=by decide
  have wz:zA .i64 (0:Int)=0:=by decide
  have t0:bits .or .u8 128 (bits .and .u8 (x%256) 63)=128+x%64:=tl dA;simp[wz,g0,u8w,t0,s0,rm (out.length+1) dA,rm (out.length+1+1) dA];rw[vB h2,vB h2];by_cases h3:x<65536;rw[wB h3,wB h3];have hm:k0l 3=wA 224:=rfl;have hw:zA .i64 (6*zA .i64 (3-1))=12:=by decide
  rw[hm];simp only[ah,hw];have hd:vE x (2^(min (12:Int).toNat 32))=x/4096:=z0G dG;have e1:bits .or .u8 224 (x/4096%256)=224+x/4096:=by rw[O0l dA dA];omega
  rw[hd,u8w,e1];have hs:sh 12=true:=by decide
  rw[hs,rm _ dD];simp only[jC];rw[s0A (o:=out++ [224+x/4096]++ [128+x/64%64]++ [128+x%64]) 3 ?_ dA];simp;simp only[a0m];have g0:vE x (2^(min (0:Int).toNat 32))=x:=by simp
  have g6:vE x (2^(min (6:Int).toNat 32))=x/64:=z0G dG;have w0:zA .i64 ((6:Int)-6)=0:=by decide
  have w6:zA .i64 ((12:Int)-6)=6:=by decide
  have s0:sh 0=true:=by decide
  have s6:sh 6=true:=by decide
  simp only[w0,w6,g0,g6,u8w,tl (show 0<=x by omega),tl (show 0<=x/64 by omega),s0,s6];have wz:zA .i64 (0:Int)=0:=by decide
  have wz6:zA .i64 (6:Int)=6:=by decide
  have t0:bits .or .u8 128 (bits .and .u8 (x%256) 63)=128+x%64:=tl dA;have t6:bits .or .u8 128 (bits .and .u8 (x/64%256) 63)=128+x/64%64:=tl dA;simp[wz,wz6,g0,g6,s0,s6,u8w,t0,t6,rm (out.length+1) dA,rm (out.length+1+1) dA,rm (out.length+1+1+1) dA];rw[vB h3,vB h3];have hm:k0l 4=wA 240:=rfl;have hw:zA .i64 (6*zA .i64 (4-1))=18:=by decide
  rw[hm];simp only[ah,hw];have hd:vE x (2^(min (18:Int).toNat 32))=x/262144:=z0G dG;have e1:bits .or .u8 240 (x/262144%256)=240+x/262144:=by rw[O0k dA dA];omega
  rw[hd,u8w,e1];have hs:sh 18=true:=by decide
  rw[hs,rm _ dD];simp only[jC];rw[s0A (o:=out++ [240+x/262144]++ [128+x/4096%64]++ [128+x/64%64]++ [128+x%64]) 4 ?_ dA];simp;simp only[a0m];have g0:vE x (2^(min (0:Int).toNat 32))=x:=by simp
  have g6:vE x (2^(min (6:Int).toNat 32))=x/64:=z0G dG;have g12:vE x (2^(min (12:Int).toNat 32))=x/4096:=z0G dG;have w0:zA .i64 ((6:Int)-6)=0:=by decide
  have w6:zA .i64 ((12:Int)-6)=6:=by decide
  have w12:zA .i64 ((18:Int)-6)=12:=by decide
  have s0:sh 0=true:=by decide
  have s6:sh 6=true:=by decide
  have s12:sh 12=true:=by decide
  simp only[w0,w6,w12,g0,g6,g12,u8w,tl (show 0<=x by omega),tl (show 0<=x/64 by omega),tl (show 0<=x/4096 by omega),s0,s6,s12];have wz:zA .i64 (0:Int)=0:=by decide
  have wz6:zA .i64 (6:Int)=6:=by decide
  have wz12:zA .i64 (12:Int)=12:=by decide
  have t0:bits .or .u8 128 (bits .and .u8 (x%256) 63)=128+x%64:=tl dA;have t6:bits .or .u8 128 (bits .and .u8 (x/64%256) 63)=128+x/64%64:=tl dA;have t12:bits .or .u8 128 (bits .and .u8 (x/4096%256) 63)=128+x/4096%64:=tl dA;have d64:vE x 64=x/64:=z0G dG;simp[d64,wz,wz6,wz12,g0,g6,g12,s0,s6,s12,u8w,t0,t6,t12,rm (out.length+1) dA,rm (out.length+1+1) dA,rm (out.length+1+1+1) dA,rm (out.length+1+1+1+1) dA]
def B0c(x:Int):(H0J x).length<=4:=by
  unfold H0J;split;simp;split;simp;split<;>simp
def n0Q(xs:List Int):List Int:=xs.flatMap H0J
theorem t0U(xs:List Int):(n0Q xs).length<=4*xs.length:=by
  induction xs with
  |nil=>simp[n0Q]
  |cons x xs ih=>
    have:=B0c x;simp only[n0Q,aC,ay,aR]at ih⊢;omega
theorem F0k {xs:List Int} (hl:xs.length<=900000):o0c xs=wA (if xs.all u0y then(n0Q xs,0)else([],3)):=by
  unfold o0c;generalize hst:(λ(s63:Int×(List Int))=>((bif(vA<|s63.1<(xs.length:Int))then(bif inR s63.1 xs.length then(jA (k0m<|nth xs s63.1) λy106=>(bif(vA<|y106=0)then(wA<|.inr<|.inr (([]:List Int),3))else(jA (s0M s63.2 (nth xs s63.1) y106) λy115=>(wA<|.inl ((zA .i64<|s63.1+1),y115)))))else none)else(wA<|.inr<|.inl s63.2)):Option<|(Int×(List Int))⊕((List Int)⊕((List Int)×Int))))=step
  obtain⟨o,h1,h2⟩:=x0R (step:=step)
    (λs=> ∃i:Nat,s.1=i/\i<=xs.length/\(xs.take i).all u0y=oA/\s.2=n0Q (xs.take i)) (λs=>xs.length-s.1.toNat)
    (λo=>match o with
      | .inl t=>xs.all u0y=oA/\t=n0Q xs
      | .inr t=>xs.all u0y=yA/\t=([],3)) (λs hs=>by
      obtain⟨s1,out⟩:=s;obtain⟨i,hi0,hi,ha,ho⟩:=hs;simp only at hi0 ho;subst hi0;subst ho;subst hst;simp only
      rcases bL i xs.length with h|h
      · rw[dT (show(i:Int)<xs.length by omega),k0M h,k0J h,J0o]
        simp only[jC,ah]
        cases hr:u0y xs[i]with
        |false=>
          refine .inr ⟨.inr ([],3),by simp[y0Q,hr], ?_,rfl⟩;rw[Bool.eq_false_iff];intro hall;have:=List.all_eq_true.1 hall xs[i]<|ca h;rw[hr]at this;cases this
        |true=>
          have hne:y0Q xs[i]≠0:=by
            unfold y0Q;rw[hr];simp only[if_true];split;omega;split;omega;split<;>omega
          have hlen:(n0Q<|xs.take i).length<=4000000:=by
            have:=t0U<|xs.take i;rw[aB]at this;omega
          refine .inl ⟨((i:Int)+1,n0Q (xs.take i)++H0J xs[i]), ?_,⟨i+1,dE,dA, ?_, ?_⟩,dC⟩;rw[dF hne,M0J hr hlen];simp only[wD,ah];rw[w64 dA dA];rw[bq h,bW,ha];simp[hr];rw[bq h];unfold n0Q;rw[bC];simp
      refine .inr ⟨.inl<|n0Q<|xs.take i,by rw[dF dA];rfl, ?_, ?_⟩;rw[bn h]at ha;exact ha
      rw[bn h]) big (0,[]) ⟨0,rfl,dA,rfl,rfl⟩ (F0H dC)
  rw[h1]
  cases o with
  |inl t=>
    obtain⟨h3,rfl⟩:=h2;simp only[ah,a0j];rw[h3];rfl
  |inr t=>
    obtain⟨h3,rfl⟩:=h2;simp only[ah,a0j];rw[h3];rfl
def z0t (hr:u0y x=oA):0<=x/\x<=1114111/\(x<55296\/57343<x):=by simpa [u0y]using hr
theorem I0w (hr:u0y x=oA):a0J x=wA true:=by
  have h:=z0t hr;unfold a0J;rw[w64 (n:=x) dA dA,dT (show x≥0 by omega)];by_cases h3:x<55296;rw[dT h3];rfl;rw[dF h3,dT (show x>57343 by omega),dT (show x<=1114111 by omega)];rfl
theorem F0G (hr:u0y x=oA):c0j x=wA (H0J x):=by
  have h:=z0t hr;have d1: ∀k:Int,0<k->wE x k=x/k:=λk hk=>bz h.1
  have m1: ∀(y k:Int),0<=y->oC y k=y%k:=λy k hy=>ck hy
  unfold c0j d0v H0J;rw[I0w hr];simp only[ah,cV,wD];rw[w64 (n:=x) dA dA];by_cases h1:x<128;rw[dT h1,wB h1];show wA [_]=_;rw[u8w];congr 2;omega;rw[dF h1,vB h1];by_cases h2:x<2048;rw[dT h2,wB h2,d1 64 dG,m1 x 64 h.1,w64 (n:=x/64) dA dA,w64 (n:=192+x/64) dA dA,w64 (n:=128+x%64) dA dA];show wA [_,_]=_;rw[u8w,u8w];congr 2;omega;congr 1;omega;rw[dF h2,vB h2];by_cases h3:x<65536;rw[dT h3,wB h3,d1 4096 dG,d1 64 dG,w64 (n:=x/4096) dA dA,w64 (n:=x/64) dA dA,m1 (x/64) 64 dA,m1 x 64 h.1,w64 (n:=224+x/4096) dA dA,w64 (n:=128+x/64%64) dA dA,w64 (n:=128+x%64) dA dA];show wA [_,_,_]=_;rw[u8w,u8w,u8w];congr 2;omega;congr 1;omega;congr 1;omega;rw[dF h3,vB h3,d1 262144 dG,d1 4096 dG,d1 64 dG,w64 (n:=x/262144) dA dA,w64 (n:=x/4096) dA dA,w64 (n:=x/64) dA dA,m1 (x/4096) 64 dA,m1 (x/64) 64 dA,m1 x 64 h.1,w64 (n:=240+x/262144) dA dA,w64 (n:=128+x/4096%64) dA dA,w64 (n:=128+x/64%64) dA dA,w64 (n:=128+x%64) dA dA];show wA [_,_,_,_]=_;rw[u8w,u8w,u8w,u8w];congr 2;omega;congr 1;omega;congr 1;omega;congr 1;omega
theorem F0l {xs:List Int} (hl:xs.length<=900000)(h:xs.all u0y=oA):Tot (e0R xs) (λr=>r=(n0Q xs,0)):=by
  unfold e0R;refine tJ (tW (λs:Int×List Int=>s.1) xs.length (λs=>s.2=n0Q (xs.take s.1.toNat)) dA ⟨rfl,by show(0:Int)<=0;decide,by show(0:Int)<=_;omega⟩ (λs hs h0 h1=> ?_) λs hs e=>tN (dF<|by have e:s.1=xs.length:=e;omega)<|tR<|tR<|by have e:s.1=xs.length:=e;rw[hs,e];simp)
  obtain⟨i,hi⟩: ∃i:Nat,s.1=i:=⟨s.1.toNat,dA⟩
  have hn:i<xs.length:=by omega
  have hr:u0y (nth xs s.1)=true:=by rw[hi,k0J hn];exact List.all_eq_true.1 h _ (ca hn)
  refine tY (dT h1)<|tY (a0c h0 h1) ?_;rw[I0w hr];refine tY (a0c h0 h1) ?_;rw[F0G hr];have q:=t0U<|xs.take s.1.toNat;have:=B0c<|nth xs s.1;rw[aB]at q;refine tY (a0e<|by rw[hs];omega)<|tR ⟨?_,nxn h0 (bg h1) dA⟩;rw[nxn h0 (bg h1) dA,hs,hi,k0J hn];show n0Q (xs.take i)++H0J xs[i]=n0Q (xs.take<|i+1);rw[bq hn];unfold n0Q;rw[bC];simp
/-! Rows of runes. -/
def okR(r:Int):Prop:=(0<=r/\r<55296)\/(57343<r/\r<=1114111)
def V(l:List Int):Prop:= ∀r∈l,okR r
def V.all (h:V l):l.all u0y=true:=List.all_eq_true.2 λr hr=>by have:=h r hr;unfold okR at this;unfold u0y;simp;omega
/-! Figures stay bytes. -/
def U(l:List Int):Prop:= ∀x∈l,0<=x/\x<=255
def U.nil:U []:=λ_ h=>by cases h
theorem U.app {a b:List Int} (ha:U a)(hb:U b):U (a++b):=λx hx=>(al.1 hx).elim (ha x)<|hb x
theorem U.one'{x:Int}(h:0<=x/\x<=255):U [x]:=λy hy=>by rw[List.mem_singleton] at hy;rw[hy];exact h
def U.one(n:Int):U [zA .u8 n]:=λx hx=>by
  rw[aE]at hx;rw[hx,u8w];omega
theorem U.nth (h:U l)(i:Int):0<=nth l i/\nth l i<=255:=by
  unfold Go.Sy.nth;rw[am]
  cases e:l[i.toNat]? with
  |none=>exact⟨dG,dG⟩
  |some x=>exact h x<|aH e
theorem U.set (h:U l) (hv:0<=v/\v<=255)(i:Int):U (c0X l i v):=λx hx=>by
  unfold c0X at hx;rcases List.mem_or_eq_of_mem_set hx with e|rfl;exact h x e;exact hv
theorem U.cut (h:U l)(a b:Int):U (cut l a b):=λx hx=>h x<|bc<|bA hx
theorem qF {x:Option (S⊕X)} {k:S->Option X} {q:X->Prop} (h:Im x (λy=> ∀r,y= .inr r->q r))(hk: ∀s,Im (k s) q):Im (jA x<|a0j k) q:=
  qG (λ_=>True) (λy e=>by have:=h y e;cases y with|inl s=>trivial|inr r=>exact this r rfl) (λs _=>hk s)
theorem qO {s:S} {q:X->Prop} :Im (wA (Sum.inl s:S⊕X)) (λy=> ∀r,y= .inr r->q r):=qA (λr e=>by cases e)
theorem qP {r:X} {q:X->Prop} (h:q r):Im (wA (Sum.inr r:S⊕X)) (λy=> ∀r,y= .inr r->q r):=qA (λr e=>by cases e;exact h)
def qH {t:Option α} {p:α->Prop} (h:Im t p):Im (bif b then t else Option.none) p:=qE h qQ
def qK {step:S->Option (S⊕O)} {q:O->Prop} (I:S->Prop) {s0:S} (h0:I s0)(hs: ∀s,I s->Im (step s) (λy=>match y with| .inl s=>I s| .inr o=>q o)):Im (a0m step big s0) q:=qL I h0 hs _
theorem O0i (h:U l):Im (c0w l) U:=by
  unfold c0w;exact qK (λs:Int×Int×List Int=>U s.2.2) h λs hs=>qE (qH<|qH<|qH<|qH<|qH<|qH<|qH<|qH<|qA<|(hs.set (hs.nth _) _).set (hs.nth _) _)<|qA hs
theorem J0j :Im (h0O l k) U:=by
  unfold h0O;exact qC (p:=λs:Int×List Int=>U s.2) (qK (λs:Int×Int×List Int=>U s.2.2) U.nil λs hs=>qE (qH<|qH<|qA<|hs.app<|U.one _)<|qA hs) λs hs=>qC (qK (λs:Int×List Int=>U s.2) hs λs hs=>qE (qH<|qA<|hs.app<|U.one _)<|qA hs) λt ht=>qC (O0i ht) λr hr=>qA hr
theorem F0z (h:U l):Im (a0P l) U:=by
  unfold a0P l0p;intro o e
  cases hb:yB l.length 0<;>rw[hb]at e<;>simp only[jC,wD]at e
  · cases hr:room l.length<;>rw[hr]at e<;>cases e;exact h
  · split at e
    · cases hr:room l.length<;>rw[hr]at e<;>cases e;exact h
    cases e
def E0e (h:U l):Im (j0h b l e) (λr=>U r.1.D_):=by
  unfold j0h;exact qB λ_=>qE (qA U.nil)<|qF (qB λ_=>qE (qP U.nil) qO) λ_=>qB λ_=>qB λ_=>qE (qA U.nil)<|qH<|qC (F0z<|h.cut _ _) λy hy=>qB λ_=>qE (qA U.nil)<|qA hy
theorem M0R {p:Int} (h:U d.D_):Im (j0K d k p m) (λr=>U r.1.D_):=by
  unfold j0K;exact qF (qB λ_=>qE (qP U.nil) qO) λ_=>qB λ_=>qF (qB λ_=>qE (qC (E0e h) λ_ h=>qP h) qO) λ_=>qB λ_=>qB λ_=>qB λ_=>qC J0j λ_ ht=>qC (E0e ht) λ_ h=>qA h
def J0q (h:U d.D_):Im (i0n d n m) (λr=>U r.1.D_):=by
  unfold i0n;exact qF (qB λ_=>qE (qP U.nil) qO) λ_=>qF (qB λ_=>qE (qC (E0e h) λ_ h=>qP h) qO) λ_=>qB λ_=>qC (M0R h) λ_ h=>qA h
def P0t {p:Int} (h:U d.D_):Im (l0E d p m) (λr=>U r.1.D_):=by
  unfold l0E;exact qC (M0R h) λ_ h=>qA h
def G0q (h:U d.D_):Im (h0K p g d m) (λr=>U r.1.D_):=by
  unfold h0K;exact qE (qB λ_=>qC (J0q h) λ_ h=>qA h)<|qE (qC (J0q h) λ_ h=>qA h)<|qE (qC (P0t h) λ_ h=>qA h)<|qC (P0t h) λ_ h=>qA h
def s0U (h:U d.D_):Im (e0Y d n) (λr=>U r.1.D_):=by
  unfold e0Y;exact qF (qB λ_=>qE (qP U.nil) qO) λ_=>qC (F0z h) λy hy=>qE (qA hy)<|qF (qB λ_=>qE (qP U.nil) qO) λ_=>qA hy
def w0z (h:U d.D_):Im (a0L w d) (λr=>U r.1.D_):=by
  unfold a0L;exact qC (G0q h) λ_ h=>qA h
def M0W (h:U d.D_):Im (b0J w d) (λr=>U r.1.D_):=by
  unfold b0J;exact qC (s0U h) λy hy=>qE (qA U.nil)<|qC (w0z hy) λz hz=>qE (qA U.nil)<|qC (s0U hz) λ_ h=>qA h
def L0g (h:U d.D_):Im (b0s w d) (λr=>U r.1.D_):=by
  unfold b0s;exact qB λ_=>qB λ_=>qB λ_=>qC (J0q h) λ_ h=>qA h
def D0A (h:U d.D_):Im (b0A w d) (λr=>U r.1.D_):=by
  unfold b0A;exact qE (qC (w0z h) λ_ h=>qA h)<|qE (qC (M0W h) λ_ h=>qA h)<|qE (qC (w0z h) λ_ h=>qA h)<|qE (qC (w0z h) λ_ h=>qA h)<|qH<|qC (L0g h) λ_ h=>qA h
/-! Runes that stay runes: what stands around a number. -/
def V.nil:V []:=λ_ h=>by cases h
theorem V.app {a b:List Int} (ha:V a)(hb:V b):V (a++b):=λx hx=>(al.1 hx).elim (ha x)<|hb x
def V.one {r:Int} (h:okR r):V [r]:=λx hx=>by rw[aE]at hx;rw[hx];exact h
def O0q (h:u0y x=oA):okR x:=by have:=z0t h;unfold okR;omega
def L0M {ms:List (a0K×Int)} :Im (a0s x ms) (λr=>r.1≠6->okR x):=by
  unfold a0s;rw[M0P,ah]
  cases hb:u0y x with
  |false=>exact qA (λh=>absurd rfl h)
  |true=>exact λ_ _ _=>O0q hb
def P0R :Im (i0f x) (λc=>c≠6->okR x):=by
  unfold i0f;exact qB λ_=>qC L0M λ_ h=>qA h
theorem L0L {p:Int->Prop} {s:Int} (h0:0<=s)(h1:s<l.length)(h: ∀r∈l.take s.toNat,p r)(hn:p<|nth l s): ∀r∈l.take (s+1).toNat,p r:=by
  obtain⟨i,rfl⟩: ∃i:Nat,s=i:=⟨s.toNat,dA⟩
  have hi:i<l.length:=by omega
  rw[show((i:Int)+1).toNat=i+1 by omega,bq hi];rw[k0J hi]at hn;intro r hr;rcases al.1 hr with h2|h2;exact h r h2;rw[aE]at h2;rw[h2];exact hn
theorem L0b (hl:l.length<=4294967296):Im (h0Z l) (λb=>b=oA->V l):=by
  unfold h0Z;refine qB λ_=>qG (λ_=>V l) (qK (λs:Int×List (a0K×Int)=>0<=s.1/\ ∀r∈l.take s.1.toNat,okR r) ⟨av _,dE⟩ λs hs=>qD (λe=> ?_) λe=> ?_) λ_ h=>qA λ_=>h;have e:=dTT e;refine qG (λ_=>okR<|nth l s.1) (qH<|qC L0M λy hy=>qC (p:=λb=>b=oA->okR (nth l s.1)) (qD (λe=>qA λ_=>hy<|by have:=dTT e;omega) λ_=>qD (λe=>qA λ_=>hy<|by have:=dTT e;omega) λ_=>qD (λe=>qA λ_=>hy<|by have:=dTT e;omega) λ_=>qA λe=>hy<|by have:=dTT e;omega) λb hb=>qD (λe=>qA<|hb e) λ_=>qA dH) λt ht=>qA ?_;show 0<=zA .i64 (s.1+1)/\ ∀r∈l.take (zA .i64<|s.1+1).toNat,okR r;rw[w64 (n:=s.1+1) dA dA];exact⟨dA,L0L hs.1 e hs.2 ht⟩;have e:=dFF e;refine qA (show V l from ?_);have h:=hs.2;rw[bn dA]at h;exact h
theorem D0s (hl:l.length<=4294967296):Im (k0n s l) (λb=>b=oA->V l):=by
  unfold k0n;exact qG (λ_=>True) (qK (λ_=>True) trivial λ_ _=>qE (qG (λ_=>True) (qH<|qB λ_=>qB λ_=>qE (qA dH)<|qA trivial) λ_ _=>qA trivial)<|qA trivial) λ_ _=>qC (p:=λb=>b=oA->V l) (qC (L0b hl) λb hb=>qD (λe=>qB λ_=>qA λ_=>hb e) λ_=>qA dH) λ_ h=>qA h
theorem cpy [DecidableEq T] {l:List T} :Im (bif(yB l.length 0)then l0p (wA ([]:List T)) (bif room l.length then(wA l)else none)else(bif room l.length then(wA l)else none)) (λr=>r=l):=by
  have h:Im (bif room l.length then(wA l)else none) (λr=>r=l):=qH<|qA rfl;refine qE ?_ h;intro o e;unfold l0p at e;split at e;exact h o e;cases e
theorem z0Z {a:f0K} (hl:a.d_.length+a.e_.length<=4294967296):Im (f0X s a) (λb=>b=oA->V a.d_/\V a.e_):=by
  unfold f0X i0l;refine qC cpy λy hy=>qH ?_;subst hy;exact qC (D0s<|by rw[ay];exact hl) λb hb=>qA λe=>⟨λr hr=>hb e r<|co _ hr,λr hr=>hb e r<|ci _ hr⟩
def VA(a:f0K):Prop:=V a.d_/\V a.e_
theorem L0J (hl: ∀g a,b0c p s g cur=wA a->a.d_.length+a.e_.length<=4294967296):Im (c0F s p cur) (λb=>b=oA-> ∃a0 a1 a2,b0c p s 0 cur=wA a0/\b0c p s 1 cur=wA a1/\b0c p s 2 cur=wA a2/\VA a0/\VA a1/\VA a2):=by
  unfold c0F h0V;refine qC (p:=λy:A0a=>b0c p s 0 cur=wA y.g_/\b0c p s 1 cur=wA y.h_/\b0c p s 2 cur=wA y.m_) (qC (λ_ e=>e) λa0 h0=>qC (λ_ e=>e) λa1 h1=>qC (λ_ e=>e) λa2 h2=>qA ⟨h0,h1,h2⟩) λy hy=> ?_;obtain⟨h0,h1,h2⟩:=hy;refine qG (λ_=>VA y.g_/\VA y.h_/\VA y.m_) (qK (λs:Int=>(0<s->VA y.g_)/\(1<s->VA y.h_)/\(2<s->VA y.m_)) ⟨dA,dA,dA⟩ λk hk=>qD (λe=> ?_) λe=>qA (show VA _/\VA _/\VA _ from⟨hk.1<|by have:=dFF e;omega,hk.2.1<|by have:=dFF e;omega,hk.2.2<|by have:=dFF e;omega⟩)) λ_ h=>qB λ_=>qA λ_=>⟨_,_,_,h0,h1,h2,h⟩;have e:=dTT e;have nb: ∀ {b:Bool},(!b)=yA->b=true:=λh=>by simpa using h
  have w1:zA .i64 (0+1)=1:=by decide
  have w2:zA .i64 (1+1)=2:=by decide
  have w3:zA .i64 (2+1)=3:=by decide
  rw[w1,w2,w3];refine qD (λe0=>qC (z0Z<|hl _ _ h0) λb hb=>qD (λ_=>qA dH) λeb=>qA ⟨λ_=>hb<|nb eb,λh=>absurd h dG,λh=>absurd h dG⟩) (λ_=>qD (λe0=>qC (z0Z<|hl _ _ h1) λb hb=>qD (λ_=>qA dH) λeb=>qA ⟨λ_=>hk.1<|by have:=dTT e0;omega,λ_=>hb<|nb eb,λh=>absurd h dG⟩) λ_=>qD (λe0=>qC (z0Z<|hl _ _ h2) λb hb=>qD (λ_=>qA dH) λeb=>qA ⟨λ_=>hk.1<|by have:=dTT e0;omega,λ_=>hk.2.1<|by have:=dTT e0;omega,λ_=>hb<|nb eb⟩) λ_=>qQ)
/-! Pieces as runes. -/
def row(s:b0z)(cur:List Int)(t:a0b):List Int:=if t.G_=0 then [t.R_]else if t.G_=1 then [s.u_]else if t.G_=2 then [s.o_]else if t.G_=3 then [s.v_]else if t.G_=4 then cur else []
theorem J0l [Inhabited T] {l:List T} {s:Int} (h0:0<=s)(h1:s<l.length):l.take (s+1).toNat=l.take s.toNat++ [nth l s]:=by
  obtain⟨i,rfl⟩: ∃i:Nat,s=i:=⟨s.toNat,dA⟩
  have hi:i<l.length:=by omega
  rw[show((i:Int)+1).toNat=i+1 by omega,bq hi,k0J hi];rfl
theorem i0p {l:List a0b} (hl:l.length<=4294967296):Im (e0S l s cur) (λr=>r=l.flatMap (row s cur)):=by
  unfold e0S;refine qB λ_=>qC (qK (λk:Int×List Int=>0<=k.1/\k.2=(l.take k.1.toNat).flatMap (row s cur)) ⟨av _,dE⟩ λk hk=>qD (λe=> ?_) λe=>qA (show k.2=_ from ?_)) λ_ h=>qA h;have e:=dTT e;refine qC (p:=λr=>r=k.2++row s cur (nth l k.1)) (qH ?_) λr hr=>qA ?_;unfold row;refine qD (λe=>qH<|qA<|by rw[wB<|dTT e]) λe=> ?_;rw[vB<|dFF e];refine qD (λe=>qH<|qA<|by rw[wB<|dTT e]) λe=> ?_;rw[vB<|dFF e];refine qD (λe=>qH<|qA<|by rw[wB<|dTT e]) λe=> ?_;rw[vB<|dFF e];refine qD (λe=>qH<|qA<|by rw[wB<|dTT e]) λe=> ?_;rw[vB<|dFF e];exact qD (λe=>qH<|qA<|by rw[wB<|dTT e]) (λe=>qH<|qA<|by rw[vB<|dFF e]);show 0<=zA .i64 (k.1+1)/\r=(l.take (zA .i64<|k.1+1).toNat).flatMap (row s cur);rw[w64 (n:=k.1+1) dA dA,J0l hk.1 e,hr,hk.2];exact⟨dA,dE⟩;have e:=dFF e;rw[hk.2,bn dA]
def c4(l:List a0b):Nat:=(l.filter λt=>vA<|t.G_=4).length
theorem t0g(s:b0z)(cur:List Int): ∀l:List a0b,(l.flatMap<|row s cur).length<=l.length+c4 l*cur.length
  | []=>by simp
  |t::l=>by
    have ih:=t0g s cur l
    have h:(row s cur t).length<=1+(if t.G_=4 then cur.length else 0):=by
      unfold row
      repeat' split
      all_goals simp_all
    unfold c4 at*;rw[aC,ay,cL];by_cases e:t.G_=4;rw[wB e]at h;simp only[e,decide_true,if_true,aR,bS]at*;omega;rw[vB e]at h;simp only[e,decide_false,aD,if_false,aR]at*;omega
def okT(l:List a0b):Prop:= ∀t∈l,t.G_=0->okR t.R_
theorem A0q {l:List a0b} (h:V<|l.flatMap<|row s cur):okT l:=λt ht e=>h t.R_ (cw.2 ⟨t,ht,by unfold row;rw[wB e];exact aE.2 rfl⟩)
def zOK(s:b0z):Prop:=(∀x:Int,0<=x->x<=255->okR (zA .i32<|s.Z_+zA .i32 x))/\okR s.n_/\okR s.z_/\okR s.u_/\okR s.o_/\okR s.v_/\okR s.i_
theorem L0Y {l:List a0b} (hs:zOK s)(hc:V cur)(h:okT l):V (l.flatMap<|row s cur):=λr hr=>by
  obtain⟨t,ht,hr⟩:=cw.1 hr;obtain⟨_,_,_,h1,h2,h3,_⟩:=hs;have h0:=h t ht;unfold row at hr
  repeat' split at hr
  all_goals first
    |exact hc r hr
    |(rw[aE]at hr;rw[hr];first|exact h0 (by assumption)|exact h1|exact h2|exact h3)
    |cases hr
/-! Pieces counted; patterns whose pieces are runes. -/
theorem F0t {l:List a0b} (hl:l.length<=4294967296):Im (e0U l k) (λn=>n=((l.filter λt=>vA<|t.G_=k).length:Int)):=by
  unfold e0U;refine qC (qK (λs:Int×Int=>0<=s.2/\s.1=(((l.take s.2.toNat).filter λt=>vA<|t.G_=k).length:Int)) ⟨av _,dE⟩ λs hs=>qD (λe=> ?_) λe=>qA (show s.1=_ from ?_)) λ_ h=>qA h;have e:=dTT e;have hb:((l.take s.2.toNat).filter λt=>vA<|t.G_=k).length<=l.length:=aF (cI _ _) (by rw[aB];omega);refine qC (p:=λr:Int=>r=s.1+if(nth l s.2).G_=k then 1 else 0) (qH<|qD (λe=>qA ?_) λe=>qA ?_) λr hr=>qA ?_;rw[wB<|dTT e,w64 dA dA];rw[vB<|dFF e];omega;show 0<=zA .i64 (s.2+1)/\r=(((l.take (zA .i64<|s.2+1).toNat).filter λt=>vA<|t.G_=k).length:Int);rw[w64 (n:=s.2+1) dA dA,J0l hs.1 e,hr,hs.2,List.filter_append,ay];refine⟨dA, ?_⟩;by_cases c:(nth l s.2).G_=k;simp[c];simp[c];have e:=dFF e;rw[hs.2,bn dA]
theorem v0P {a b:List a0b} {st:Int} (ha:a.length<=4294967296)(hb:b.length<=4294967296):Im (g0T a b st m) (λr=>r=oA->c4 a+c4 b<=1):=by
  unfold g0T c0N;refine qC (p:=λs:Int×Int=>s.2<=1) (qE (qA dG)<|qE (qA dG)<|qA dG) λs hs=>qC (p:=λr=>r=oA->c4 a+c4 b<=1) ?_ λ_ h=>qA h;refine qB λ_=>qE (qC (p:=λn:Int=>n=c4 a+c4 b) (qC (F0t ha) λx hx=>qC (F0t hb) λy hy=>qA ?_) λn hn=>qD (λe=> ?_) λ_=>qA dH)<|qA dH;have h1:(a.filter λt=>vA<|t.G_=4).length<=a.length:=cI _ _;have h2:(b.filter λt=>vA<|t.G_=4).length<=b.length:=cI _ _;rw[hx,hy,w64 dA dA];rfl;have e:=dTT e;exact λ_ _ _=>by omega
def o0G {l put:List a0b} :Im (c0l l put) (λr=>r=put++l):=by
  unfold c0l e0A;exact qC cpy (λy hy=>qH<|qA<|by rw[hy])
def I0R {t:a0b} (h:t.G_≠4): ∀(l:List a0b) (i:Nat),c4 (l.set i t)<=c4 l
  | [],_=>by simp
  |x::l,0=>by
    unfold c4;rw[cC,cL,cL];simp only[h,decide_false,aD,if_false];split<;>simp
  |x::l,i+1=>by
    have:=I0R h l i;unfold c4 at*;rw[cB,cL,cL];split<;>simp<;>omega
theorem A0h {l:List a0b} (h:okT l):Im (e0c l) (λr=>r.length=l.length/\okT r/\c4 r<=c4 l):=by
  unfold e0c e0A;refine qC cpy λy hy=> ?_;rw[hy];refine qC (qK (λs:Int×List a0b=>s.2.length=l.length/\okT s.2/\c4 s.2<=c4 l) ⟨rfl,h,aj _⟩ λs hs=>qE (qC (p:=λr:List a0b=>r.length=l.length/\okT r/\c4 r<=c4 l) (qH<|qH<|qE (qH<|qH<|qA ?_)<|qA hs) λr hr=>qA hr)<|qA hs) λ_ h=>qA h;refine⟨by unfold c0X;rw[cN];exact hs.1,λt ht e=> ?_,aF (I0R (by show(2:Int)≠4;decide) _ _) hs.2.2⟩;rcases List.mem_or_eq_of_mem_set ht with h2|h2;exact hs.2.1 t h2 e;rw[h2]at e;exact absurd e (by show(2:Int)≠0;decide)
def PV(p:a0h):Prop:=okT p.d_/\okT p.e_/\(p.A_=oA->okT p.x_/\okT p.w_/\c4 p.x_+c4 p.w_<=1)/\c4 p.d_+c4 p.e_<=1/\(p.P_=0\/okR p.y_)
def okT.nil:okT []:=λ_ h=>by cases h
theorem okT.cons {t:a0b} {l:List a0b} (ht:t.G_≠0)(h:okT l):okT ([t]++l):=λx hx e=>by
  rcases al.1 hx with h2|h2;rw[aE]at h2;rw[h2]at e;exact absurd e ht;exact h x h2 e
def L0e {t:a0b} {l:List a0b} (ht:t.G_≠4):c4 ([t]++l)=c4 l:=by
  unfold c4;simp[ht]
theorem G0w {n:Nat} (h:PV p)(hp:g0r p n):Im (d0m p g) (λy=>okT y.1/\okT y.2/\c4 y.1+c4 y.2<=1/\y.1.length+y.2.length<=2*n+1):=by
  obtain⟨h1,h2,h3,h4,_⟩:=h;obtain⟨p1,p2,p3,p4⟩:=hp
  have k1: ∀k:Int,k≠0->k≠4->Im (jA (c0l p.d_ [⟨k,0⟩]) λy2=>(jA (c0l p.e_ ([]:List a0b)) λy3=>(wA (y2,y3)))) (λy=>okT y.1/\okT y.2/\c4 y.1+c4 y.2<=1/\y.1.length+y.2.length<=2*n+1):=λk e0 e4=>
    qC o0G (λy hy=>qC o0G (λz hz=>qA (by
      rw[hy,hz,aU,L0e<|by exact e4]
      exact⟨okT.cons (by exact e0) h1,h2,h4,dD⟩)))
  unfold d0m;refine qE (qD (λe=>qC o0G λy hy=>qC o0G λz hz=>qA ?_) λ_=>k1 1 dG dG)<|qE (qF (qC (p:=λb=>b=oA->p.A_=oA) (qD (λe=>qB λ_=>qB λ_=>qA λ_=>e) λ_=>qA dH) λb hb=>qD (λe=> ?_) λ_=>qO) λ_=>k1 2 dG dG)<|qC o0G λy hy=>qC o0G λz hz=>qA ?_;obtain⟨n1,n2,n3⟩:=h3 e;rw[hy,hz,aU,aU];exact⟨n1,n2,n3,by show p.x_.length+p.w_.length<=_;omega⟩;obtain⟨n1,n2,n3⟩:=h3<|hb e;exact qC (A0h n1) (λy hy=>qC (A0h n2) λz hz=>qP ⟨hy.2.1,hz.2.1,by have:=hy.2.2;have:=hz.2.2;show c4 y+c4 z<=1;omega,by show y.length+z.length<=_;rw[hy.1,hz.1];omega⟩);rw[hy,hz,aU,aU];exact⟨h1,h2,h4,by show p.d_.length+p.e_.length<=_;omega⟩
theorem P0e {n:Nat} (h:PV p)(hp:g0r p n)(hn:n<=100000)(hs:zOK s)(hc:V cur):Im (b0c p s g cur) (λa=>VA a/\a.d_.length+a.e_.length<=2*n+1+cur.length):=by
  unfold b0c;refine qC (G0w h hp) (λy hy=>qC (i0p<|by have:=hy.2.2.2;omega) λa ha=>qC (i0p<|by have:=hy.2.2.2;omega) λb hb=>qA ⟨⟨?_, ?_⟩, ?_⟩);show V a;rw[ha];exact L0Y hs hc hy.1;show V b;rw[hb];exact L0Y hs hc hy.2.1;show a.length+b.length<=_;rw[ha,hb];have r1:=t0g s cur y.1;have r2:=t0g s cur y.2;have r3:=hy.2.2.1;have r4:=hy.2.2.2;have:c4 y.1*cur.length+c4 y.2*cur.length<=1*cur.length:=by rw[<-bS];exact aJ _ r3
  omega
/-! Patterns that may be said. -/
theorem L0P {n:Nat} (hp:g0r p n):Im (d0m p g) (λy=>y.1.length<=n+1/\y.2.length<=n):=by
  obtain⟨p1,p2,p3,p4⟩:=hp
  have tl: ∀ {l:List a0b},Im (e0c l) (λr=>r.length=l.length):=λ{l} =>by
    unfold e0c e0A;refine qC cpy λy hy=> ?_;rw[hy];exact qC (qK (λs:Int×List a0b=>s.2.length=l.length) rfl λs hs=>qE (qC (p:=λr:List a0b=>r.length=l.length) (qH<|qH<|qE (qH<|qH<|qA<|by unfold c0X;rw[cN];exact hs)<|qA hs) λr hr=>qA hr)<|qA hs) (λ_ h=>qA h)
  have k1: ∀t:a0b,Im (jA (c0l p.d_ [t]) λy2=>(jA (c0l p.e_ ([]:List a0b)) λy3=>(wA (y2,y3)))) (λy=>y.1.length<=n+1/\y.2.length<=n):=λt=>
    qC o0G (λy hy=>qC o0G λz hz=>qA<|by rw[hy,hz];exact⟨dD,dD⟩)
  unfold d0m;exact qE (qE (qC o0G λy hy=>qC o0G λz hz=>qA<|by rw[hy,hz];exact⟨dD,dD⟩)<|k1 _) (qE (qF (qB λ_=>qE (qC tl λy hy=>qC tl λz hz=>qP ⟨by show y.length<=_;omega,by show z.length<=_;omega⟩) qO) λ_=>k1 _)<|qC o0G λy hy=>qC o0G λz hz=>qA<|by rw[hy,hz];exact⟨dD,dD⟩)
theorem N0C {n:Nat} (hp:g0r p n)(hn:n<=100000):Im (b0c p s g []) (λa=>a.d_.length+a.e_.length<=4294967296):=by
  unfold b0c;refine qC (L0P hp) λy hy=>qC (i0p dA) λa ha=>qC (i0p dA) λb hb=>qA ?_;show a.length+b.length<=_;have r1:=t0g s [] y.1;have r2:=t0g s [] y.2;simp only[bX,Nat.mul_zero]at r1 r2;rw[ha,hb];omega
theorem N0z {n:Nat} (hp:g0r p n)(hn:n<=100000):Im (b0c p s 0 []) (λa=>a.d_=p.d_.flatMap (row s [])/\a.e_=p.e_.flatMap (row s [])):=by
  obtain⟨p1,p2,p3,p4⟩:=hp;unfold b0c d0m;rw[dF (dG: ¬(0:Int)=1),dF (dG: ¬(0:Int)=2)];refine qC (p:=λy=>y.1=p.d_/\y.2=p.e_) (qC o0G λy hy=>qC o0G λz hz=>qA ⟨hy,hz⟩) λy hy=> ?_;rw[hy.1,hy.2];exact qC (i0p dA) λa ha=>qC (i0p dA) λb hb=>qA ⟨ha,hb⟩
theorem N0y {n:Nat} (hp:g0r p n)(hn:n<=100000)(h:p.A_=oA):Im (b0c p s 1 []) (λa=>a.d_=p.x_.flatMap (row s [])/\a.e_=p.w_.flatMap (row s [])):=by
  obtain⟨p1,p2,p3,p4⟩:=hp;unfold b0c d0m;rw[dT (dG:(1:Int)=1),h];refine qC (p:=λy=>y.1=p.x_/\y.2=p.w_) (qC o0G λy hy=>qC o0G λz hz=>qA ⟨hy,hz⟩) λy hy=> ?_;rw[hy.1,hy.2];exact qC (i0p dA) λa ha=>qC (i0p dA) λb hb=>qA ⟨ha,hb⟩
theorem C0T (hp:g0r p 1000):Im (c0F s p []) (λb=>b=oA->okT p.d_/\okT p.e_/\(p.A_=oA->okT p.x_/\okT p.w_)):=by
  intro b e hb;obtain⟨a0,a1,a2,h0,h1,h2,v0,v1,v2⟩:=L0J (λg a ha=>N0C hp dG a ha) b e hb;obtain⟨q1,q2⟩:=N0z hp dG a0 h0;refine⟨A0q<|by rw[<-q1];exact v0.1,A0q<|by rw[<-q2];exact v0.2,λhn=> ?_⟩;obtain⟨q3,q4⟩:=N0y hp dG hn a1 h1;exact⟨A0q<|by rw[<-q3];exact v1.1,A0q<|by rw[<-q4];exact v1.2⟩
theorem G0Z :Im (j0o s p) (λb=>b=oA->p.P_=0\/okR p.y_):=by
  unfold j0o;refine qD (λe=>qA λ_=> .inl<|dTT e) (λ_=>qC P0R λc hc=>qG (λ_=>okR p.y_) (qC (p:=λb=>b=yA->c=0\/c=4) (qD (λe=>qD (λ_=>qA dH) λe4=>qB λ_=>qA λ_=> .inr<|by have:=dFF e4;omega) λe=>qB λ_=>qA λ_=> .inl<|by have:=dFF e;omega) λb hb=>qD (λ_=>qA dH) λe=>qA<|hc<|by have:=hb e;omega) λ_ h=> ?_);exact λb _ _=> .inr h
def PV0:PV (⟨([]:List a0b),([]:List a0b),([]:List a0b),([]:List a0b),yA,0,0,0,0,0,0,0,0,0,yA,0,0⟩:a0h):=⟨okT.nil,okT.nil,λh=>(by cases h),dG, .inl rfl⟩
def nt (h:(!b)=yA):b=true:=by simpa using h
theorem D0R (ht:t.length<=100000):Im (b0w s k t) (λr=>PV r.1):=by
  unfold b0w;refine qC (qS<|w0a ht) λy hy=> ?_;obtain⟨h1,h2,h3,h4⟩:=id hy;refine qF (qB λ_=>qE (qP PV0) qO) λ_=> ?_;refine qG (λ_=>c4 y.1.d_+c4 y.1.e_<=1/\(y.1.A_=oA->c4 y.1.x_+c4 y.1.w_<=1)) (qC (p:=λb=>b=yA->c4 y.1.d_+c4 y.1.e_<=1/\(y.1.A_=oA->c4 y.1.x_+c4 y.1.w_<=1)) (qB λ_=>qE (qA dH)<|qC (v0P dA dA) λb hb=>qD (λ_=>qA dH) λe=>qD (λ_=>qC (v0P dA dA) λc hc=>qA λh=>⟨hb<|nt e,λ_=>hc<|nt h⟩) λn=>qA λ_=>⟨hb<|nt e,λh=>by rw[n]at h;cases h⟩) λb hb=>qD (λ_=>qA PV0) λe=>qA<|hb e) λ_ hc=> ?_;refine qG (λ_=>PV y.1) (qC (p:=λb=>b=yA->PV y.1) (qC (C0T hy) λb hb=>qD (λ_=>qA dH) λe=>qC G0Z λc hp=>qA λh=> ?_) λb hb=>qD (λ_=>qA PV0) λe=>qA<|hb e) λ_ h=>qA h;obtain⟨o1,o2,o3⟩:=hb<|nt e;exact⟨o1,o2,λhn=>⟨(o3 hn).1,(o3 hn).2,hc.2 hn⟩,hc.1,hp<|nt h⟩
theorem J0r {c:j0s} (ht:c.X_.length<=100000):Im (d0y s c) (λr=>PV r.1):=by
  unfold d0y;refine qC (qS<|w0a ht) λy hy=> ?_;obtain⟨h1,h2,h3,h4⟩:=id hy;refine qF (qB λ_=>qE (qP PV0) qO) λ_=> ?_;refine qG (λ_=>y.1.A_=yA) (qC (p:=λb=>b=yA->y.1.A_=yA) (qE (qA dH)<|qE (qA dH)<|qD (λ_=>qA dH) λe=>qA λ_=>e) λb hb=>qD (λ_=>qA PV0) λe=>qA<|hb e) (λ_ hn=>qD (λ_=>qA PV0) λe0=> ?_)
  have pa:y.1.P_=0:=by
    have:=nt e0;simp only[aa,decide_eq_true_eq]at this;exact this.2.2.2.2.2.1
  refine qG (λ_=>PV y.1) (qC (p:=λb=>b=yA->PV y.1) (qC (v0P dA dA) λb hb=>qD (λ_=>qA dH) λe=>qC (C0T hy) λc hc=>qA λh=> ?_) λb hb=>qD (λ_=>qA PV0) λe=>qA<|hb e) λ_ h=>qA h;obtain⟨o1,o2,o3⟩:=hc<|nt h;exact⟨o1,o2,λh=>(by rw[hn]at h;cases h),hb<|nt e, .inl pa⟩
theorem K0b {g:List Int} (hg:g.length<=4294967296):Im (l0h s p g) (λb=>b=oA->V g/\g.length<=20):=by
  unfold l0h;refine qG (λ_=>V g/\g.length<=20) (qC (p:=λb=>b=yA->V g/\g.length<=20) (qE (qA dH)<|qD (λ_=>qA dH) λe=>qC (D0s hg) λb hb=>qA λh=>⟨hb<|nt h,by have:=dFF e;omega⟩) λb hb=>qD (λ_=>qA dH) λe=>qA<|hb e) λ_ h=> ?_;exact λ_ _ _=>h
/-! Figures as runes. -/
def O0O {d:r0H} (h:U d.n_.D_):Im (d0H d i) (λx=>0<=x/\x<=255):=by
  unfold d0H;exact qF (qB λ_=>qE (qP ⟨dG,dG⟩) qO) λ_=>qH<|qA<|h.nth _
def Q0y (h:U d.D_):Im (r0Q d i) (λx=>0<=x/\x<=255):=by
  unfold r0Q;exact qF (qB λ_=>qE (qP ⟨dG,dG⟩) qO) λ_=>qB λ_=>qC (O0O (d:=⟨d⟩) h) λ_ h=>qA h
theorem E0Y {m:Nat} (hl:U l)(h1:x1<=m)(hm:m<=100000):Im (b0X x0 x1 b l e) (λr=>U r/\r.length<=m):=by
  unfold b0X;refine qC (qK (λs:Int×List Int=>0<=s.1/\(s.2.length:Int)=s.1/\(s.1<=x1\/s.1=0)/\U s.2) ⟨av _,rfl, .inr rfl,U.nil⟩ λs hs=>qD (λc=>qC (Q0y (d:=⟨b,l,e⟩) hl) λy hy=>qH<|qA ?_) λc=>qA (show U s.2/\s.2.length<=m from⟨hs.2.2.2,dA⟩)) λ_ h=>qA h;have c:=dTT c;show 0<=zA .i64 (s.1+1)/\((s.2++ [y]).length:Int)=zA .i64 (s.1+1)/\(zA .i64 (s.1+1)<=x1\/zA .i64 (s.1+1)=0)/\U (s.2++ [y]);rw[w64 (n:=s.1+1) dA dA];exact⟨dA,dD, .inl dA,hs.2.2.2.app<|U.one' hy⟩
def N0w (h:U d.D_):Im (j0k p d) (λr=>U r.1.D_):=by
  unfold j0k;exact qE (qA h)<|qB λ_=>qC (s0U h) λ_ h=>qA h
theorem y0k (hl:d.D_.length<=4294967296)(h:U d.D_):Im (d0K p x1 d) (λr=>U r.1/\U r.2.1/\r.1.length<=2001/\r.2.1.length<=3000/\ -1000<=r.2.2/\r.2.2<=2000):=by
  unfold d0K;refine qC (qS<|q0P hl) λy5 h5=>qD (λ_=>qA ⟨U.nil,U.nil,dE,dE,dG,dG⟩) λe=> ?_;have hd:k0Q d:=h5<|nt e;refine qC (qT (qS<|I0T hd)<|N0w h) λy0 h0=>qC (qS<|F0Q h0.1.1) λy1 h1=>qC (E0Y (m:=2001) h0.2 dA dG) λy3 h3=>qC (qS<|B0j h0.1.1) λy2 h2=>qC (E0Y (m:=3000) h0.2 dA dG) λy4 h4=>qA ⟨h3.1,h4.1,h3.2,h4.2,h0.1.2.1,h0.1.2.2⟩
theorem A0l {a b:Int} (hs:zOK s)(h:U l)(hl:l.length<=100000):Im (g0F s l a b) (λr=>V r/\r.length<=2*l.length):=by
  unfold g0F;refine qC (qK (λk:Int×List Int=>0<=k.1/\(k.2.length:Int)<=2*k.1/\k.1<=l.length/\V k.2) ⟨av _,dE,dE,V.nil⟩ λk hk=>qD (λe=> ?_) λe=>qA (show V k.2/\k.2.length<=_ from⟨hk.2.2.2,dA⟩)) λ_ h=>qA h;have e:=dTT e;refine qC (p:=λr:List Int=>(r.length:Int)<=2*k.1+2/\V r) (qC (p:=λr:List Int=>(r.length:Int)<=2*k.1+1/\V r) (qB λ_=>qE (qH<|qA ⟨dD,hk.2.2.2.app<|V.one hs.2.2.1⟩)<|qA ⟨dA,hk.2.2.2⟩) λr hr=>qH<|qH<|qA ⟨dD,hr.2.app<|V.one<|hs.1 _ (h.nth _).1 (h.nth _).2⟩) λr hr=>qA ?_;show 0<=zA .i64 (k.1+1)/\(r.length:Int)<=2*zA .i64 (k.1+1)/\zA .i64 (k.1+1)<=l.length/\V r;rw[w64 (n:=k.1+1) dA dA];exact⟨dA,dA,dA,hr.2⟩
theorem F0n (hs:zOK s)(h:U l)(hl:l.length<=100000):Im (g0N s l) (λr=>V r/\r.length<=l.length):=by
  unfold g0N;refine qC (qK (λk:Int×List Int=>0<=k.1/\(k.2.length:Int)=k.1/\k.1<=l.length/\V k.2) ⟨av _,rfl,dE,V.nil⟩ λk hk=>qD (λe=>qH<|qH<|qA ?_) λe=>qA (show V k.2/\k.2.length<=_ from⟨hk.2.2.2,dA⟩)) λ_ h=>qA h;have e:=dTT e;show 0<=zA .i64 (k.1+1)/\_=zA .i64 (k.1+1)/\zA .i64 (k.1+1)<=l.length/\V _;rw[w64 (n:=k.1+1) dA dA];exact⟨dA,dD,dA,hk.2.2.2.app<|V.one<|hs.1 _ (h.nth _).1 (h.nth _).2⟩
def D0k: ∀(n:Nat) (x0 x1:Int),Im (e0d n x0 x1) U
  |0,_,_=>qQ
  |n+1,x0,x1=>by
    unfold e0d;exact qF (qB λ_=>qE (qP U.nil) qO) λ_=>qC (D0k n _ _) λy hy=>qH<|qA<|hy.app<|U.one _
theorem N0c (hs:zOK s)(h1: -1000<=e)(h2:e<=2000):Im (f0a s p e) (λr=>V r/\r.length<=3001):=by
  unfold f0a;obtain⟨_,_,_,z1,z2,_,_⟩:=id hs;refine qC (p:=λr:Int×List Int=>0<=r.1/\r.1<=2000/\r.2.length<=1/\V r.2) (qD (λc=>qH<|qA ?_) λc=>qE (qH<|qA ⟨by have:=dFF c;show 0<=e;omega,h2,dE,V.one z2⟩)<|qA ⟨by have:=dFF c;show 0<=e;omega,h2,dE,V.nil⟩) λr hr=>qC (qS<|m0c _) λy1 c1=>qC (qT (D0k _ _ _)<|qS<|D0l 3000 big r.1 y1 dG dG hr.1 dA ?_) λy2 g2=>qC (F0n hs g2.1 dA) λy0 g0=>qH<|qA ⟨hr.2.2.2.app g0.1,dD⟩;have c:=dTT c;rw[w64 (n:=0-e) dA dA];exact⟨by show 0<=0-e;omega,by show 0-e<=2000;omega,dE,V.one z1⟩
  · unfold r0p;split<;>omega
def J0b (hs:zOK s)(hl:d.D_.length<=4294967296)(h:U d.D_):Im (h0J s p g d) (λr=>V r/\r.length<=10005):=by
  unfold h0J;obtain⟨_,z1,_,_,_,_,z2⟩:=id hs;refine qC (y0k hl h) λy0 h0=>qC (A0l hs h0.1 dA) λy1 h1=>qC (p:=λr:List Int=>V r/\r.length<=7003) (qE (qH<|qC (F0n hs h0.2.1 dA) λy2 h2=>qH<|qA ⟨(h1.1.app<|V.one z1).app h2.1,dD⟩)<|qA ⟨h1.1,dA⟩) λs0 hs0=>qC (p:=λr:List Int=>V r/\r.length<=10005) (qE (qH<|qC (N0c hs h0.2.2.2.2.1 h0.2.2.2.2.2) λy3 h3=>qH<|qA ⟨(hs0.1.app<|V.one z2).app h3.1,dD⟩)<|qA ⟨hs0.1,dA⟩) λ_ h=>qA h
/-! What is written, as runes. -/
theorem v0Z [Inhabited T] {l:List T} {p:T->Prop} (h: ∀x∈l,p x)(h0:p default)(i:Int):p (nth l i):=by
  unfold Go.Sy.nth;rw[am]
  cases e:l[i.toNat]? with
  |none=>exact h0
  |some x=>exact h x<|aH e
theorem F0q(s:ByteArray)(i:Nat):okR ((Utf8.decode s i).1:Int):=by
  have e:okR ((Utf8.runeError:Nat):Int):=by unfold Utf8.runeError okR;omega
  have v: ∀ {c:Nat},Utf8.valid (c:Int)=oA->okR (c:Int):=λ{c} h=>by
    unfold Utf8.valid at h;simp only[bJ,aa,decide_eq_true_eq]at h;unfold okR;omega
  unfold Utf8.decode;simp only;split;rename_i h;unfold okR;simp only;omega;split;split;rename_i h1 _;unfold okR;simp only;omega;exact e;split;split;rename_i h;simp only[aa]at h;exact v h.2;exact e;split;split;rename_i h;simp only[aa]at h;exact v h.2;exact e;exact e
def r0I(s:ByteArray): ∀(n i:Nat) (acc:Array Value),(∀v∈acc.toList,okR<|Go.Sy.intOf v)-> ∀v∈(oE s n i acc).toList,okR (Go.Sy.intOf v)
  |0,i,acc,h=>by simp only[oE];exact h
  |n+1,i,acc,h=>by
    simp only[oE];split;refine r0I s n _ _ λv hv=> ?_;rw[Array.toList_push]at hv;rcases al.1 hv with h2|h2;exact h v h2;rw[aE]at h2;rw[h2];exact F0q s i;exact h
theorem G0F(t:List UInt8):V (f0x t):=λr hr=>by
  unfold f0x at hr;obtain⟨v,hv,rfl⟩:=aW.1 hr;exact r0I _ _ _ _ dE v hv
def ok0:okR 0:= .inl ⟨dG,dG⟩
def O0U (h:V l)(a b:Int):V (dbl l a b):=λr hr=>by
  unfold dbl at hr;rcases al.1 hr with h1|h1;rcases al.1 h1 with h2|h2;exact h r<|bc h2;exact h r<|bc<|bc h2;exact h r<|bA h1
theorem G0Q (h:okR x):Im (e0D [x] n) V:=by
  unfold e0D;refine qB λ_=>qB λy=>qB λ_=>qH<|qC (qK (λs:Int×List Int=>V s.2) (λr hr=> ?_) λs hs=>qE (qH<|qH<|qH<|qA<|O0U hs _ _)<|qA hs) λ_ h=>qA h;unfold u0O at hr;rcases al.1 hr with h1|h1;exact V.one h r<|bc h1;have:=bA h1;unfold rep at this;rw[(List.mem_replicate.1 this).2];exact ok0
def M0Z :Im (h0I [] n) (λr=>r=[]):=by
  unfold h0I;exact qB λ_=>qB λ_=>qA rfl
theorem H0O {l:List (List Int)} (hl:l.length<=4294967296):Im (f0L l) (λr=>r=l.flatten):=by
  unfold f0L;refine qB λn=>qC M0Z λy hy=> ?_;rw[hy];refine qC (qK (λk:Int×List Int=>0<=k.1/\k.2=(l.take k.1.toNat).flatten) ⟨av _,dE⟩ λk hk=>qD (λe=>qH<|qH<|qA ?_) λe=>qA (show k.2=_ from ?_)) λ_ h=>qA h;have e:=dTT e;show 0<=zA .i64 (k.1+1)/\k.2++nth l k.1=(l.take (zA .i64<|k.1+1).toNat).flatten;rw[w64 (n:=k.1+1) dA dA,J0l hk.1 e,hk.2];exact⟨dA,dE⟩;have e:=dFF e;rw[hk.2,bn dA]
def J0e (hp:g0r p 120):Im (j0R p) (λn=>0<=n/\n<=2240):=by
  obtain⟨p1,p2,_⟩:=hp;unfold j0R;refine qC (qS<|s0I p) λn hn=>qA ?_;rw[w64 (n:=(n.length:Int)+p.d_.length) dA dA,w64 dA dA];omega
theorem M0m {a:f0K} {o:List Int} (hv:p.P_=0\/okR p.y_)(hp:g0r p 120)(ha:VA a)(ho:V o)(hl:a.d_.length+o.length+a.e_.length<=16246):Im (h0P p a o) (λr=>V r/\r.length<=16246):=by
  unfold h0P;refine qC (p:=λk:Int=>0<=k/\(k=0\/k+a.d_.length+o.length+a.e_.length<=2240)) (qD (λe=>qC (J0e hp) λy hy=>qA ?_) λ_=>qA ⟨dG, .inl rfl⟩) (λk hk=>qC (p:=λy:List Int=>(y.length:Int)=k/\(p.P_≠0->V y)) (λy e=>⟨qS (M0e hk.1 dA) y e,λh=>G0Q (hv.resolve_left h) y e⟩) λy hy=>qC (p:=λs:List Int×List Int×List Int×List Int=>(s.1.length+s.2.1.length+s.2.2.1.length+s.2.2.2.length:Int)<=k/\V s.1/\V s.2.1/\V s.2.2.1/\V s.2.2.2) ?_ λs hs=>qC (H0O dE) λr hr=>qA ?_)
  · rw[w64 (n:=y-a.d_.length) dA dA,w64 (n:=y-a.d_.length-o.length) dA dA,w64 (n:=y-a.d_.length-o.length-a.e_.length) dA dA]
    unfold r0p;split<;>omega
  have z:V []:=V.nil;refine qD (λe=>qA ⟨dD,hy.2<|by have:=dTT e;omega,z,z,z⟩) (λ_=>qD (λe=>qA ⟨dD,z,hy.2<|by have:=dTT e;omega,z,z⟩) λ_=>qD (λe=>qA ⟨dD,z,z,hy.2<|by have:=dTT e;omega,z⟩) λ_=>qD (λe=>qA ⟨dD,z,z,z,hy.2<|by have:=dTT e;omega⟩) λ_=>qA ⟨dD,z,z,z,z⟩);obtain⟨h0,h1,h2,h3,h4⟩:=hs;rw[hr];refine⟨λx hx=> ?_,dD⟩;simp only[cR,List.flatten_nil,bH,al]at hx;rcases hx with h|h|h|h|h|h|h;exact h1 x h;exact ha.1 x h;exact h2 x h;exact ho x h;exact h3 x h;exact ha.2 x h;exact h4 x h
theorem H0E (h:V l)(hl:l.length<=4294967296):Im (j0r l) (λr=>V r/\r.length<=6*l.length):=by
  have c: ∀x∈([38,108,116,59,103,97,109,112,113,117,111,35,51,57]:List Int),okR x:=λx hx=>by simp only[aT,cf,or_false]at hx;unfold okR;omega
  have m: ∀ {q:List Int},(∀x∈q,x∈([38,108,116,59,103,97,109,112,113,117,111,35,51,57]:List Int))->V q:=λh x hx=>c x (h x hx)
  unfold j0r;refine qB λ_=>qC (qK (λk:Int×List Int=>0<=k.1/\(k.2.length:Int)<=6*k.1/\k.1<=l.length/\V k.2) ⟨av _,dE,dE,V.nil⟩ λk hk=>qD (λe=> ?_) λe=>qA (show V k.2/\k.2.length<=_ from⟨hk.2.2.2,dA⟩)) λ_ h=>qA h;have e:=dTT e;refine qC (p:=λr:List Int=>(r.length:Int)<=6*k.1+6/\V r) (qH ?_) (λr hr=>qA ?_)
  · repeat' (first|refine qE (qH<|qA ⟨dD,hk.2.2.2.app<|m dG⟩) ?_|exact qH<|qA ⟨dD,hk.2.2.2.app<|V.one<|v0Z h ok0 _⟩)
  show 0<=zA .i64 (k.1+1)/\(r.length:Int)<=6*zA .i64 (k.1+1)/\zA .i64 (k.1+1)<=l.length/\V r;rw[w64 (n:=k.1+1) dA dA];exact⟨dA,dA,dA,hr.2⟩
/-! What a request asks for, written. -/
def P0C {s:b0z} {k:Int} (ht:t.length<=100000):Im (l0P t) (λr=>g0r r.1 120):=by
  unfold l0P;exact qC (qS<|z0f ht) λy hy=>qB λ_=>qA hy
def z0r:g0r (⟨([]:List a0b),([]:List a0b),([]:List a0b),([]:List a0b),yA,0,0,0,0,0,0,0,0,0,yA,0,0⟩:a0h) 120:=⟨dE,dE,dE,dE⟩
def D0T (ht:t.length<=100000):Im (b0w s k t) (λr=>g0r r.1 120):=by
  unfold b0w;refine qC (P0C (s:=s) (k:=k) ht) λy hy=>qF (qB λ_=>qE (qP z0r) qO) λ_=>qF (qB λ_=>qE (qP z0r) qO) λ_=>qF (qB λ_=>qE (qP z0r) qO) λ_=>qA hy
theorem J0s {c:j0s} (ht:c.X_.length<=100000):Im (d0y s c) (λr=>g0r r.1 120):=by
  unfold d0y;refine qC (P0C (s:=s) (k:=0) ht) λy hy=>qF (qB λ_=>qE (qP z0r) qO) λ_=>qF (qB λ_=>qE (qP z0r) qO) λ_=>qE (qA z0r)<|qF (qB λ_=>qE (qP z0r) qO) λ_=>qA hy
def pOK(p:a0h):Prop:=PV p/\g0r p 120
def o0k (ht:t.length<=100000):Im (b0w s k t) (λr=>pOK r.1):=qT (D0R ht)<|D0T ht
def G0y {c:j0s} (ht:c.X_.length<=100000):Im (d0y s c) (λr=>pOK r.1):=qT (J0r ht)<|J0s ht
def wOK(w:c0I):Prop:=pOK w.p_/\V w.ap_/\w.ap_.length<=6000/\zOK w.l_.S_/\ ∀c∈w.l_.c_,c.X_.length<=6000
theorem I0U (h:wOK w)(hp:pOK p):Im (b0c p w.l_.S_ g w.ap_) (λa=>VA a/\a.d_.length+a.e_.length<=6241):=by
  obtain⟨_,hc,hl,hz,_⟩:=h
  exact λa e=>by
    have q:=P0e hp.1 hp.2 dG hz hc a e;exact⟨q.1,by have:=q.2;omega⟩
def v0l (h:wOK w)(hd:d.D_.length<=4294967296)(hu:U d.D_):Im (b0n w d) (λr=>V r.1/\r.1.length<=16246):=by
  unfold b0n;exact qB λ_=>qC (I0U h h.1) λa ha=>qC (J0b h.2.2.2.1 hd hu) λo ho=>qC (M0m h.1.1.2.2.2.2 h.1.2 ha.1 ho.1 dA) λ_ h=>qA h
def I0b :Im (e0Y d n) (λr=>r.1.D_.length<=d.D_.length):=by
  have cl:Im (a0P d.D_) (λr=>r=d.D_):=by unfold a0P;exact cpy
  unfold e0Y
  exact qF (qB λ_=>qE (qP dE) qO) (λ_=>qC cl (λy hy=>by
    rw[hy]
    exact qE (qA<|aj _)<|qF (qB λ_=>qE (qP dE) qO) λ_=>qA<|aj _))
def K0r (h:wOK w)(hd:d.D_.length<=4294967296)(hu:U d.D_):Im (b0R w d) (λr=>V r.1/\r.1.length<=16246):=by
  unfold b0R;exact qC (qT (s0U hu) I0b) λy hy=>qE (qA ⟨V.nil,dE⟩)<|qC (v0l h (aF hy.2 hd) hy.1) λ_ h=>qA h
theorem F0w (h:wOK w):Im (c0o w n o) pOK:=by
  unfold c0o;refine qB (λ_=>qB λ_=>qC (p:=λs:Int×Int×List UInt8=>s.2.2.length<=6000) (qK (λs:Int×Int×Int×List UInt8=>s.2.2.2.length<=6000) dE λs hs=>qE (qC (p:=λs:Int×Int×List UInt8=>s.2.2.length<=6000) (qH<|qB λ_=>qE (qA<|v0Z (p:=λc:j0s=>c.X_.length<=6000) h.2.2.2.2 dG _)<|qA hs) λs hs=>qA hs)<|qA hs) λs hs=>qC (G0y<|by show s.2.2.length<=_;omega) λ_ h=>qA h)
theorem G0d (h:wOK w)(hd:d.D_.length<=4294967296)(hu:U d.D_):Im (c0S w d) (λr=>V r.1/\r.1.length<=16246):=by
  obtain⟨_,z1,_,_,_,_,_⟩:=h.2.2.2.1;unfold c0S;refine qB (λ_=>qB λ_=>qC (qT (s0U hu) I0b) λy hy=>qE (qA ⟨V.nil,dE⟩)<|qC (y0k (by have:=hy.2;omega) hy.1) λf hf=>qC (A0l h.2.2.2.1 hf.1 dA) λg hg=>qC (p:=λr:List Int=>V r/\r.length<=7003) (qE (qH<|qC (F0n h.2.2.2.1 hf.2.1 dA) λy2 h2=>qH<|qA ⟨(hg.1.app<|V.one z1).app h2.1,dD⟩)<|qA ⟨hg.1,dA⟩) λs1 hs1=>qC (p:=λs:T17=>pOK ⟨s.1,s.2.1,s.2.2.1,s.2.2.2.1,s.2.2.2.2.1,s.2.2.2.2.2.1,s.2.2.2.2.2.2.1,s.2.2.2.2.2.2.2.1,s.2.2.2.2.2.2.2.2.1,s.2.2.2.2.2.2.2.2.2.1,s.2.2.2.2.2.2.2.2.2.2.1,s.2.2.2.2.2.2.2.2.2.2.2.1,s.2.2.2.2.2.2.2.2.2.2.2.2.1,s.2.2.2.2.2.2.2.2.2.2.2.2.2.1,s.2.2.2.2.2.2.2.2.2.2.2.2.2.2.1,s.2.2.2.2.2.2.2.2.2.2.2.2.2.2.2.1,s.2.2.2.2.2.2.2.2.2.2.2.2.2.2.2.2⟩) (qE (qB λ_=>qC (F0w h) λ_ h=>qA h)<|qA h.1) λs0 hs0=>qB λ_=>qC (I0U h hs0) λa ha=>qH<|qH<|qA ⟨(ha.1.1.app hs1.1).app ha.1.2, ?_⟩);have:=ha.2;have:=hs1.2;show((a.d_++s1)++a.e_).length<=_;simp;omega
def C0L (h:wOK w)(hd:d.D_.length<=4294967296)(hu:U d.D_):Im (c0n w d) (λr=>V r.1/\r.1.length<=16246):=by
  unfold c0n;exact qE (qC (v0l h hd hu) λ_ h=>qA h)<|qE (qC (K0r h hd hu) λ_ h=>qA h)<|qE (qC (v0l h hd hu) λ_ h=>qA h)<|qE (qC (v0l h hd hu) λ_ h=>qA h)<|qH<|qC (G0d h hd hu) λ_ h=>qA h
/-! What a request begins with; all of it. -/
theorem O0W {l:f0f} (hs: ∀c∈l.k_,c.r_.length<=6000)(hq:q.r_.length<=50) {x2:List UInt8} {x4 x5 x6:Bool} {x7 x15 x16 x17 x18:List UInt8} {x8 x9 x10 x11 x12 x13 x14:Int} {x19 x21 x26 x27 x28 x29 x30 x31 x32 x33 x34 x35 x36 x37 x38 x39} {x22 x23 x24 x25:List a0b} :Im (b0r x0 x1 x2 q.r_ x4 x5 x6 x7 x8 x9 x10 x11 x12 x13 x14 x15 x16 x17 x18 x19 l.k_ x21 x22 x23 x24 x25 x26 x27 x28 x29 x30 x31 x32 x33 x34 x35 x36 x37 x38 x39) (λr=>r.1=oA->V r.2.1/\r.2.1.length<=6000):=by
  unfold b0r;refine qB (λy=>qE (qA dH)<|qH<|qE (qH<|qA λ_=>⟨G0F _, ?_⟩)<|qC (K0b dA) λb hb=>qA λh=>⟨(hb h).1,by show q.r_.length<=6000;omega⟩);exact aF (t0a _)<|v0Z (p:=λc:p0g=>c.r_.length<=6000) hs dG y
theorem L0i {l:f0f} (hl:E0t l)(hz:zOK l.S_)(hq:q.r_.length<=50):Im (g0O l q) (λr=>r.2=0->wOK r.1):=by
  obtain⟨⟨p0,p1,p2,p3⟩,_,_,hs,_,hc⟩:=hl;unfold g0O;refine qF (qB λ_=>qE (qP λh=>by have h:(9:Int)=0:=h;omega) qO) λ_=>qB λk=>qC (p:=λs:T17=>pOK ⟨s.1,s.2.1,s.2.2.1,s.2.2.2.1,s.2.2.2.2.1,s.2.2.2.2.2.1,s.2.2.2.2.2.2.1,s.2.2.2.2.2.2.2.1,s.2.2.2.2.2.2.2.2.1,s.2.2.2.2.2.2.2.2.2.1,s.2.2.2.2.2.2.2.2.2.2.1,s.2.2.2.2.2.2.2.2.2.2.2.1,s.2.2.2.2.2.2.2.2.2.2.2.2.1,s.2.2.2.2.2.2.2.2.2.2.2.2.2.1,s.2.2.2.2.2.2.2.2.2.2.2.2.2.2.1,s.2.2.2.2.2.2.2.2.2.2.2.2.2.2.2.1,s.2.2.2.2.2.2.2.2.2.2.2.2.2.2.2.2⟩) ?_ λs hp=> ?_;exact qE (qC (o0k p0) λ_ h=>qA h)<|qE (qC (o0k p1) λ_ h=>qA h)<|qE (qC (o0k p2) λ_ h=>qA h)<|qH<|qC (o0k p3) λ_ h=>qA h;refine qG (λc:List Int×Int=>V c.1/\c.1.length<=6000) (qC (p:=λr:Bool×List Int×Int=>r.1=yA->V r.2.1/\r.2.1.length<=6000) (qE (qC (O0W hs hq) λy hy=>qD (λ_=>qA dH) λe=>qE (qB λ_=>qA λ_=>hy<|nt e)<|qA λ_=>hy<|nt e)<|qE (qB λ_=>qA λ_=>⟨V.nil,dE⟩)<|qA λ_=>⟨V.nil,dE⟩) λr hr=>qD (λ_=>qA λh=>by have h:(9:Int)=0:=h;omega) λe=>qA<|hr e) λc hc'=>qA λ_=>⟨hp,hc'.1,hc'.2,hz,hc⟩
theorem M0a (hw:u0i w)(hd:k0Q d):Im (b0A w d) (λr=>r.1.D_.length<=4294967296):=λr e=>by
  have:=(qS (x0p hw hd) r e).1;omega
theorem J0O {l:f0f} (hl:E0t l)(hz:zOK l.S_)(hq:q.r_.length<=50)(hd:k0Q d)(hu:U d.D_):Im (g0Q l q d) (λr=>V r.1/\r.1.length<=16246):=by
  unfold g0Q;refine qC (qT (qS<|F0J hl hq)<|L0i hl hz hq) λw hw=>qD (λ_=>qA ⟨V.nil,dE⟩) λe=> ?_;have e:w.2=0:=by have:=dFF e;omega
  exact qC (qT (M0a (hw.1 e) hd)<|D0A hu) λy hy=>qE (qA ⟨V.nil,dE⟩)<|qC (C0L (hw.2 e) hy.1 hy.2) λ_ h=>qA h
theorem H0B {l:f0f} (hl:E0t l)(hz:zOK l.S_)(hq:q.r_.length<=50)(hd:k0Q d)(hu:U d.D_):Im (b0Y l q d) (λr=>V r.1/\r.1.length<=99900):=by
  unfold b0Y;exact qC (J0O hl hz hq hd hu) (λy hy=>qC (p:=λr:List Int=>V r/\r.length<=99900) (qB λ_=>qE (qC (H0E hy.1<|by have:=hy.2;omega) λ_ h=>qA ⟨h.1,by have:=h.2;have:=hy.2;omega⟩)<|qA ⟨hy.1,by have:=hy.2;omega⟩) λ_ h=>qA h)
end Go.Proofs.YtafbfodcilkgmaaGreatDoor
