import Derived.Test.YtenbbnahajjhnaaGreatDoorGe
set_option linter.all false
namespace Go.Proofs.YtenbbnahajjhnaaGreatDoor
open Go Go.Sy Go.RowKit Go.ChangeShapes Go.WideShapes Go.ChangeAt
open Go.Conv renaming runesFrom->jF
open _root_.Int renaming fdiv->wF,tdiv->jD,tmod->vB
open Go.IntKind renaming bits->jG,signed->qF,wrap->jA
open _root_.List renaming all_eq_true->qD,range->wC
open _root_.Nat renaming beq->jC,ble->oC
open _root_.Option renaming bind->zA,some->qA
open _root_.Prod renaming fst->yE,snd->jJ
open _root_.Sum renaming elim->yD
open _root_.UInt8 renaming ofNat->zG,toNat->wJ
open Go.Utf8 renaming encode->oH
open _root_.Decidable renaming decide->vA
open _root_.Bool renaming false->oA,true->yA
set_option maxRecDepth 100000
set_option maxHeartbeats 4000000
variable {S O α β γ T:Type} {b R l m:List Nat} {x:o0r} {p:a0V} {c v k d a j u r:Nat} {i w n:Int} {o cur xs x16:List Int} {t:List UInt8} {s:e0r}
/-! What always answers. -/
theorem C0T {step:S->Option (S⊕O)} (I:S->Prop)(μ:S->Nat)(post:O->Prop) {s0:S} (h0:I s0)(hb:μ s0<18446744073709551616)
    (hs: ∀s,I s->(∃s',step s=qA (.inl s')/\I s'/\μ s'<μ s)\/ ∃o,step s=qA (.inr o)/\post o): ∃o,a0B step big s0=qA o/\post o:=by
  have key: ∀m s,I s->μ s<m-> ∃o,a0B step m s=qA o/\post o:=by
    intro m
    induction m with
    |zero=>intro s _ h;omega
    |succ m ih=>
      intro s hi hm;rcases hs s hi with⟨s',h1,h2,h3⟩|⟨o,h1,h2⟩;rw[a0J h1];exact ih s' h2 (by omega);exact⟨o,d0C h1,h2⟩
  exact key big s0 h0 hb
def Tot (x:Option α)(p:α->Prop):Prop:= ∃o,x=qA o/\p o
theorem tR {a:α} {p:α->Prop} (h:p a):Tot (qA a) p:=⟨a,rfl,h⟩
theorem tB {x:Option α} {k:α->Option β} {p:α->Prop} {q:β->Prop} (h:Tot x p)(hk: ∀o,p o->Tot (k o) q):Tot (zA x k) q:=by
  obtain⟨o,rfl,h⟩:=h;exact hk o h
theorem zC {x:Option α} {k:α->Option β} {q:β->Prop} (h:Tot x (λ_=>True))(g:∀ o,True->Tot (k o) q):Tot (zA x k) q:=tB h g
theorem tI {b:Bool} {t e:Option α} {p:α->Prop} (ht:b=yA->Tot t p)(he:b=oA->Tot e p):Tot (bif b then t else e) p:=by
  cases b with
  |true=>exact ht rfl
  |false=>exact he rfl
theorem zI {b:Bool} {t e:Option α} {p:α->Prop} (h:Tot t p)(g:Tot e p):Tot (bif b then t else e) p:=tI (λ_=>h) (λ_=>g)
theorem zB {x:Option α} {k:α->Option β} {q:β->Prop} (h:Tot x (λ_=>True))(g:∀ o,Tot (k o) q):Tot (zA x k) q:=tB h (λo _=>g o)
theorem tY {b:Bool} {t e:Option α} {p:α->Prop} (h:b=yA)(ht:Tot t p):Tot (bif b then t else e) p:=by subst h;exact ht
theorem tN {b:Bool} {t e:Option α} {p:α->Prop} (h:b=oA)(he:Tot e p):Tot (bif b then t else e) p:=by subst h;exact he
theorem zE {x y:Int} {t:Option α} {o:α} {p:α->Prop} (e:x=y)(h:p o):Tot (bif vA (x<y) then t else qA o) p:=tN (dF (by omega)) (tR h)
theorem Tot.mono {x:Option α} {p q:α->Prop} (h:Tot x p)(hq: ∀o,p o->q o):Tot x q:=by obtain⟨o,h1,h2⟩:=h;exact⟨o,h1,hq o h2⟩
def J0u {X:Type} (k:S->Option X)(p:X->Prop):S⊕X->Prop
  | .inl s=>Tot (k s) p
  | .inr r=>p r
theorem tJ {X:Type} {x:Option (S⊕X)} {k:S->Option X} {p:X->Prop} (h:Tot x (J0u k p)):Tot (zA x (a0x k)) p:=by
  obtain⟨o,rfl,h⟩:=h
  cases o with
  |inl s=>exact h
  |inr r=>exact⟨r,rfl,h⟩
theorem tL {step:S->Option (S⊕O)} (I:S->Prop)(μ:S->Nat) {post:O->Prop} {s0:S} (h0:I s0)(hb:μ s0<18446744073709551616)
    (hs: ∀s,I s->Tot (step s) (λx=>match x with| .inl s'=>I s'/\μ s'<μ s| .inr o=>post o)):Tot (a0B step big s0) post:=by
  refine C0T I μ post h0 hb (λs hi=> ?_);obtain⟨x,h1,h2⟩:=hs s hi
  cases x with
  |inl s'=>exact .inl ⟨s',h1,h2⟩
  |inr o=>exact .inr ⟨o,h1,h2⟩
theorem dTT {p:Prop} [Decidable p](h:vA p=yA):p:=jB h
theorem dFF {p:Prop} [Decidable p](h:vA p=oA): ¬p:=of_decide_eq_false h
theorem tM {x:α⊕β} {f:α->Option γ} {g:β->Option γ} {p:γ->Prop} (hf: ∀a,x= .inl a->Tot (f a) p)(hg: ∀b,x= .inr b->Tot (g b) p):Tot (yD f g x) p:=by
  cases x with
  |inl a=>exact hf a rfl
  |inr b=>exact hg b rfl
def x0W (p:α->Prop):α⊕β->Prop
  | .inl a=>p a
  | .inr _=>True
theorem tS {x:Option (α⊕β)} {f:α->Option γ} {g:β->Option γ} {p:α->Prop} {q:γ->Prop} (h:Tot x (x0W p))(hf: ∀a,p a->Tot (f a) q)(hg: ∀b,Tot (g b) q):Tot (zA x λy=>yD f g y) q:=by
  obtain⟨o,rfl,h⟩:=h
  cases o with
  |inl a=>exact hf a h
  |inr b=>exact hg b
theorem tW {step:S->Option (S⊕O)} (ix:S->Int)(n:Nat)(I:S->Prop) {post:O->Prop} {s0:S} (hn:n<=4294967296)(h0:I s0/\0<=ix s0/\ix s0<=n)
    (hs: ∀s,I s->0<=ix s->ix s<n->Tot (step s) (λx=>match x with| .inl s'=>I s'/\ix s'=ix s+1| .inr o=>post o)) (he: ∀s,I s->ix s=n->Tot (step s) (λx=>match x with| .inl _=>False| .inr o=>post o)):Tot (a0B step big s0) post:=by
  refine tL (λs=>I s/\0<=ix s/\ix s<=n) (λs=>((n:Int)-ix s).toNat) h0 (by omega) (λs hi=> ?_);by_cases h:ix s=n;refine Tot.mono (he s hi.1 h) (λo ho=> ?_)
  cases o with
  |inl _=>exact absurd ho id
  |inr _=>exact ho
  refine Tot.mono (hs s hi.1 hi.2.1 (by omega)) (λo ho=> ?_)
  cases o with
  |inl s'=>exact⟨⟨ho.1,by rw[ho.2];omega,by rw[ho.2];omega⟩,by rw[ho.2];omega⟩
  |inr _=>exact ho
def jp {R E:Type} (p:S->Prop):S⊕(R⊕E)->Prop
  | .inl s=>p s
  | .inr (.inl _)=>False
  | .inr (.inr _)=>True
theorem tE {R E:Type} {x:Option (S⊕(R⊕E))} {k:S->Option (R⊕E)} {p:S->Prop} {q:R->Prop} (h:Tot x (jp p))(hk: ∀s,p s->Tot (k s) (x0W q)):Tot (zA x (a0x k)) (x0W q):=by
  obtain⟨o,rfl,h⟩:=h
  match o,h with
  | .inl s,h=>exact hk s h
  | .inr (.inr e),_=>exact⟨_,rfl,trivial⟩
/-! Patterns are read, or not: it answers. -/
def ra(l:List Int)(i:Int):Prop:=0<=i/\i<=(l.length:Int)
section
variable {l : List Int} (hl : l.length <= 100000) {b m p k d : Int}
include hl
theorem F0C {c on:Int} (h:ra l i)(ho:0<=on/\on<=1):Tot (b0c c on l i b m p k d) (λr=>r=yA->i+on<l.length):=by
  obtain⟨h0,h1⟩:=h;unfold b0c;rw[w64 (n:=i+on) (by omega) (by omega)];refine tB (p:=λr=>r=yA->i+on<l.length) ?_ (λ_ h=>tR h);refine tI (λh=> ?_) (λ_=>tR (λh=>by cases h));exact tY (a0C (by omega) (dTT h)) (tR (λ_=>dTT h))
theorem B0e {c:Int} (h:ra l i):Tot (a0y c l i b m p k d) (λr=>(r.1=yA/\r.2=i+1/\i<l.length)\/(r.1=oA/\r.2=i)):=by
  unfold a0y;refine tB (F0C hl h (by omega)) (λy hy=> ?_);obtain⟨h0,h1⟩:=h
  cases y with
  |false=>exact tR (.inr ⟨rfl,rfl⟩)
  |true=>
    have:=hy rfl;exact tR (.inl ⟨rfl,w64 (by omega) (by omega),by omega⟩)
theorem y0e {c:Int} (h:ra l i):Tot (a0y c l i b m p k d) (λr=>ra l r.2/\i<=r.2):=by
  refine(B0e hl h).mono (λr hr=> ?_);obtain⟨h0,h1⟩:=h;rcases hr with⟨_,e,e2⟩|⟨_,e⟩;exact⟨⟨by omega,by omega⟩,by omega⟩;exact⟨⟨by omega,by omega⟩,by omega⟩
theorem t0R {c:Int} (h:ra l i):Tot (b0l c l i b m p k d) (λr=>ra l r.2/\i<=r.2):=by
  unfold b0l;refine tB (p:=λs:Int×Int=>ra l s.2/\i<=s.2) (tL (λs:Int×Int=>ra l s.2/\i<=s.2) (λs=>((l.length:Int)-s.2).toNat) ⟨h,ay _⟩ (by have:=h.1;simp only;omega) (λs hs=> ?_)) (λ_ h=>tR h);refine tB (B0e hl hs.1) (λy hy=> ?_);obtain⟨⟨h0,h1⟩,h2⟩:=hs;rcases hy with⟨e1,e2,e3⟩|⟨e1,e2⟩;rw[e1,e2];exact tR ⟨⟨⟨by simp only;omega,by simp only;omega⟩,by simp only;omega⟩,by simp only;omega⟩;rw[e1,e2];exact tR ⟨⟨h0,h1⟩,h2⟩
theorem z0N (h:ra l i) {x8 x18 x9 x10 x11 x12 x13 x14 x15 x16 x17 x19 x20} :Tot (c0k w l i b m p k d x8 x9 x10 x11 x12 x13 x14 x15 x16 x17 x18 x19 x20) (x0W λr=>ra l r.1/\i<=r.1):=by
  unfold c0k;refine tJ (tB (p:=λr:Bool×Int=>ra l r.2/\i<=r.2) (tI (λ_=>tR ⟨h,ay _⟩) (λ_=>tB (y0e hl h) (λy hy=>tR hy))) (λs hs=>tI (λ_=>tR hs) (λ_=>tR (show Tot _ _ from ?_))));refine tJ (tI (λ_=>tR trivial) (λhd=>tR (show Tot _ _ from ?_)));have:=dFF hd;obtain⟨⟨h0,h1⟩,h2⟩:=hs;have e:jA .i64 (s.2+1)=s.2+1:=w64 (by omega) (by omega);refine tY (a0C h0 (by omega)) (tR ?_);rw[e];exact⟨⟨by simp only;omega,by simp only;omega⟩,by simp only;omega⟩
theorem E0b (h:ra l i) {x8 x9 x19 x10 x11 x12 x13 x14 x15 x16 x17 x18 x20 x21} :Tot (c0j w l i b m p k d x8 x9 x10 x11 x12 x13 x14 x15 x16 x17 x18 x19 x20 x21) (x0W λr=>ra l r.1/\i<=r.1):=
  z0N (x8:=x9) (x9:=x10) (x10:=x11) (x11:=x12) (x12:=x13) (x13:=x14) (x14:=x15) (x15:=x16) (x16:=x17) (x17:=x18) (x18:=x19) (x19:=x20) (x20:=x21) hl h
theorem H0y (h:ra l i) {x8 x9 x10 x20 x11 x12 x13 x14 x15 x16 x17 x18 x19 x21 x22} :Tot (c0B w l i b m p k d x8 x9 x10 x11 x12 x13 x14 x15 x16 x17 x18 x19 x20 x21 x22) (x0W λr=>ra l r.1/\i<=r.1):=
  z0N (x8:=x10) (x9:=x11) (x10:=x12) (x11:=x13) (x12:=x14) (x13:=x15) (x14:=x16) (x15:=x17) (x16:=x18) (x17:=x19) (x18:=x20) (x19:=x21) (x20:=x22) hl h
theorem y0K (h:ra l i):Tot (c0n l i b m p k d) (λr=>(r.1=yA/\r.2=i+2/\i+1<l.length)\/(r.1=oA/\r.2=i)):=by
  unfold c0n;refine tJ (tB (p:=λr=>r=oA->i+1<l.length) (tB (F0C hl h (by omega)) (λy _=>tI (λ_=>tR (λh=>by cases h)) (λ_=>tB (F0C hl h (by omega)) (λz hz=>tR (λe=>hz (by simpa using e)))))) (λs hs=> ?_));obtain⟨h0,h1⟩:=h
  cases s with
  |true=>exact tR (.inr ⟨rfl,rfl⟩)
  |false=>
    have:=hs rfl;exact tR (tR (.inl ⟨rfl,w64 (by omega) (by omega),this⟩))
theorem C0E {o:List a0d} (h:ra l i)(hi:i<l.length)(ho:(o.length:Int)<=i):Tot (b0C l i b m p k d o) (x0W λr=>ra l r.1/\i<r.1/\(r.2.length:Int)<=r.1):=by
  unfold b0C;refine tB (y0K hl h) (λy hy=> ?_);obtain⟨h0,h1⟩:=h;rcases hy with⟨e1,e2,e3⟩|⟨e1,e2⟩;rw[e1,e2];exact tY rfl (tY (a0z (by simp;omega)) (tR ⟨⟨by simp only;omega,by simp only;omega⟩,by simp only;omega,by simp;omega⟩));rw[e1,e2,w64 (n:=i+1) (by omega) (by omega)];refine tJ (tL (λs:Int×List a0d=>ra l s.1/\i<s.1/\(s.2.length:Int)<=s.1) (λs=>((l.length:Int)-s.1).toNat) ⟨⟨by simp only;omega,by simp only;omega⟩,by simp only;omega,by simp only;omega⟩ (by simp only;omega) (λs hs=> ?_));refine tI (λhlt=> ?_) (λ_=>tR (tR trivial));have hlt:=dTT hlt;refine tB (y0K hl hs.1) (λy hy=> ?_);obtain⟨⟨g0,g1⟩,g2,g3⟩:=hs;rcases hy with⟨e1,e2,e3⟩|⟨e1,e2⟩;rw[e1,e2];exact tY rfl (tY (a0z (by simp;omega)) (tR ⟨⟨⟨by simp only;omega,by simp only;omega⟩,by simp only;omega,by simp;omega⟩,by simp only;omega⟩));rw[e1,e2];refine tB (B0e hl ⟨g0,g1⟩) (λy hy=> ?_);rcases hy with⟨e1,e2,e3⟩|⟨e1,e2⟩;rw[e1,e2];exact tR ⟨⟨by simp only;omega,by simp only;omega⟩,by simp only;omega,by simp only;omega⟩;rw[e1,e2,w64 (n:=s.1+1) (by omega) (by omega)];exact tN rfl (tY (a0C g0 hlt) (tY (a0z (by simp;omega)) (tR ⟨⟨⟨by simp only;omega,by simp only;omega⟩,by simp only;omega,by simp;omega⟩,by simp only;omega⟩)))
omit hl in
theorem t0h(x:Int):Tot (e0Q x) (λ_=>True):=by
  unfold e0Q;refine tJ (zC ?_ (λs _=>tI (λ_=>tR trivial) (λ_=>tR (zC ?_ (λ_ _=>tR trivial)))))
  · repeat' (first|exact tR trivial|refine tI (λ_=> ?_) (λ_=> ?_))
  exact tI (λ_=>tR trivial) (λ_=>tR trivial)
theorem s0R (h:ra l i):Tot (a0U l i b m p k d) (x0W λr=>ra l r.2/\i<=r.2/\(r.1.length:Int)<=r.2):=by
  unfold a0U;refine tJ (tL (λs:Int×List a0d=>ra l s.1/\i<=s.1/\(s.2.length:Int)<=s.1) (λs=>((l.length:Int)-s.1).toNat) ⟨h,ay _,by have:=h.1;simpa using this⟩ (by have:=h.1;simp only;omega) (λs hs=> ?_));refine tI (λhlt=> ?_) (λ_=>tR (tR hs));have hlt:=dTT hlt;obtain⟨⟨g0,g1⟩,g2,g3⟩:=hs;have e:jA .i64 (s.1+1)=s.1+1:=w64 (by omega) (by omega);rw[e];refine tY (a0C g0 hlt) ?_
  have step: ∀t:a0d,(ra l (s.1+1)/\i<=s.1+1/\((s.2++ [t]).length:Int)<=s.1+1)/\((l.length:Int)-(s.1+1)).toNat<((l.length:Int)-s.1).toNat:=λt=>⟨⟨⟨by omega,by omega⟩,by omega,by simp;omega⟩,by omega⟩
  have rm: ∀t:a0d,room (s.2.length+([t]:List a0d).length)=true:=λt=>a0z (by simp;omega)
  iterate 4 refine tI (λ_=>zC (tY (rm _) (tR trivial)) (λ_ _=>tR (step _))) (λ_=> ?_)
  refine tJ (tB (F0C hl ⟨g0,g1⟩ (by omega)) (λy hy=>tI (λ_=> ?_) (λ_=>tB (t0h _) (λ_ _=>tI (λ_=>tR ⟨⟨g0,g1⟩,g2,g3⟩) (λ_=>tY (rm _) (tR (tR (step _))))))));exact tS (C0E hl ⟨g0,g1⟩ hlt g3) (λa ha=>tR ⟨⟨ha.1,by have:=ha.2.1;simp only;omega,ha.2.2⟩,by have:=ha.2.1;have:=ha.1.2;simp only;omega⟩) (λa=>tR trivial)
theorem z0H (h:ra l i)(ho:0<=w/\w<=1) {x8 x9 x10 x11 x12 x13 x14 x15 x16 x17 x18 x19 x20 x21} :Tot (c0o w l i b m p k d x8 x9 x10 x11 x12 x13 x14 x15 x16 x17 x18 x19 x20 x21) (λr=>r=yA->i+w<l.length):=by
  unfold c0o;refine tB (p:=λr=>r=yA->i+w<l.length) (tB (F0C hl h ho) (λy hy=> ?_)) (λ_ h=>tR h);refine tI (λe=>tR (λ_=>hy e)) (λ_=>tI (λ_=>tB (F0C hl h ho) (λy hy=>tR hy)) (λ_=>tR (λh=>by cases h)))
theorem B0q (h:ra l i) {x8 x9 x10 x11 x12 x13 x14 x15 x16 x17 x18 x19 x20 x21} :Tot (c0p w l i b m p k d x8 x9 x10 x11 x12 x13 x14 x15 x16 x17 x18 x19 x20 x21) (λr=>r=yA->i<l.length):=by
  unfold c0p;refine tB (p:=λr=>r=yA->i<l.length) ?_ (λ_ h=>tR h);refine tI (λ_=>tB (F0C hl h (by omega)) (λy hy=>tI (λe=>tB (z0H hl h (by omega)) (λz _=>tR (λ_=> ?_))) (λ_=>tR (λh=>by cases h)))) (λ_=>tR (λh=>by cases h));have:=hy e;omega
theorem B0x {v:Int} (h:ra l i) {x9 x10 x11 x12 x13 x14 x15 x16 x17 x18 x19 x20 x21 x22} :Tot (b0r w v l i b m p k d x9 x10 x11 x12 x13 x14 x15 x16 x17 x18 x19 x20 x21 x22) (λ_=>True):=by
  unfold b0r;refine tJ (zC (tI (λ_=>tR trivial) (λ_=>tB (B0q hl h) (λ_ _=>tR trivial))) (λ_ _=>tI (λ_=>tR trivial) (λ_=>tR (show Tot _ _ from ?_))));exact tJ (zC (tI (λ_=>tR trivial) (λ_=>tR trivial)) (λ_ _=>tI (λ_=>tR trivial) (λ_=>tR (tR trivial))))
theorem C0F (h:ra l i) {x7 x8 x9 x10 x11 x12 x13 x14 x15 x16 x17 x18 x19 x20} :Tot (b0D l i b m p k d x7 x8 x9 x10 x11 x12 x13 x14 x15 x16 x17 x18 x19 x20) (x0W λr=>ra l r.1/\i<=r.1):=by
  unfold b0D;refine tJ (tL (λs:Int×Int×Int×Int×Int×Int=>ra l s.2.2.1/\i<=s.2.2.1) (λs=>((l.length:Int)-s.2.2.1).toNat) ⟨h,ay _⟩ (by have:=h.1;simp only;omega) (λs hs=> ?_));refine tJ (tB (p:=λr=>r=yA->s.2.2.1<l.length) (tB (z0H hl hs.1 (by omega)) (λy hy=>tI (λe=>tR (λ_=>by have:=hy e;omega)) (λ_=>tB (B0q hl hs.1) (λy hy=>tR hy)))) (λr hr=>tI (λe=>tR (show Tot _ _ from ?_)) (λ_=>tR (tJ (tI (λ_=>tR trivial) (λ_=>tR (show Tot _ _ from tI (λ_=>tR hs) (λ_=>tI (λ_=>tR hs) (λ_=>tR hs)))))))));have hlt:=hr e;refine tB (B0e hl hs.1) (λy hy=> ?_);obtain⟨⟨g0,g1⟩,g2⟩:=hs;rcases hy with⟨e1,e2,e3⟩|⟨e1,e2⟩;rw[e1,e2];exact tR ⟨⟨⟨by simp only;omega,by simp only;omega⟩,by simp only;omega⟩,by simp only;omega⟩;rw[e1,e2];refine tB (p:=λt:Int×Int×Int=>t.1=s.2.2.1+1) (tB (B0e hl ⟨g0,g1⟩) (λz hz=> ?_)) (λt ht=> ?_);rcases hz with⟨e1,e2,e3⟩|⟨e1,e2⟩;rw[e1,e2];exact tR rfl;rw[e1,e2,w64 (n:=s.2.2.1+1) (by omega) (by omega)];exact tR rfl;rw[ht];refine tB (B0x hl ⟨by omega,by omega⟩) (λy _=>tM (λa _=>tR ⟨⟨⟨by simp only;omega,by simp only;omega⟩,by simp only;omega⟩,by simp only;omega⟩) (λa _=>tR trivial))
theorem y0a (h:ra l i) {x7 x8 x9 x10 x11 x12 x13 x14 x15 x16 x17 x18 x19 x20} :Tot (b0m l i b m p k d x7 x8 x9 x10 x11 x12 x13 x14 x15 x16 x17 x18 x19 x20) (x0W λr=>ra l r.1/\i<=r.1):=by
  unfold b0m;refine tB (y0e hl h) (λy hy=>tI (λ_=>tR hy) (λ_=>tB (t0R hl hy.1) (λz hz=>tB (t0R hl hz.1) (λw hw=>tI (λ_=>tR trivial) (λ_=>tR ⟨hw.1, ?_⟩)))));have:=hy.2;have:=hz.2;have:=hw.2;simp only;omega
theorem C0M (h:ra l i) {x7 x8 x9 x10 x11 x12 x13 x14 x15 x16 x17 x18 x19 x20} :Tot (b0E l i b m p k d x7 x8 x9 x10 x11 x12 x13 x14 x15 x16 x17 x18 x19 x20) (x0W λr=>ra l r.1/\i<=r.1):=by
  unfold b0E;refine tB (t0R hl h) (λy hy=> ?_);refine tE (p:=λs=>ra l s.1/\i<=s.1) (tI (λ_=>tB (t0R hl hy.1) (λz hz=>tR ⟨hz.1,bH hy.2 hz.2⟩)) (λ_=>tS (C0F hl hy.1) (λa ha=>tS (y0a hl ha.1) (λc hc=>tR ⟨hc.1,bH hy.2 (bH ha.2 hc.2)⟩) (λc=>tR trivial)) (λa=>tR trivial))) (λs hs=> ?_);refine tB (y0e hl hs.1) (λz hz=>tI (λ_=>tR ⟨hz.1,bH hs.2 hz.2⟩) (λ_=>tB (y0e hl hz.1) (λu hu=>tB (t0R hl hu.1) (λv hv=>tI (λ_=>tR trivial) (λ_=>tR ⟨hv.1,bH hs.2 (bH hz.2 (bH hu.2 hv.2))⟩)))))
theorem x0S {q:List Int} (hq:q.length<=100000)(h:ra l i) {x8 x9 x10 x11 x12 x13 x14 x15 x16 x17 x18 x19 x20 x21 x22} :Tot (b0k q l i b m p k d x8 x9 x10 x11 x12 x13 x14 x15 x16 x17 x18 x19 x20 x21 x22) (x0W λr=>ra l r.1/\r.2.1.length<=l.length/\r.2.2.length<=l.length):=by
  unfold b0k;refine tS (s0R hl h) (λa ha=>tJ (tW (λs:Int×Int=>s.1) q.length (λs=>ra l s.2) (by omega) ⟨ha.1,ay _,by simp⟩ (λs hs g0 g1=> ?_) (λs hs e=> ?_))) (λa=>tR trivial);rw[dT g1];refine tJ (tY (a0C g0 g1) (tB (y0e hl hs) (λy hy=>tI (λ_=>tR trivial) (λ_=>tR (tR ⟨hy.1,w64 (by omega) (by omega)⟩)))));rw[dF (show¬s.1<(q.length:Int) by omega)];refine tR (tS (s0R hl hs) (λc hc=>tR ⟨hc.1, ?_, ?_⟩) (λc=>tR trivial));have:=ha.2.2;have:=ha.1.2;simp only;omega;have:=hc.2.2;have:=hc.1.2;simp only;omega
end
def q0J(x:a0V)(n:Nat):Prop:=x.z_.length<=n/\x.w_.length<=n/\x.T_.length<=n/\x.Q_.length<=n
theorem E0B(l:List Int)(a b:Int):(cut l a b).length<=l.length:=by unfold cut;simp;omega
theorem z0L {l:List Int} (hl:l.length<=100000) {b m p k d:Int} (h:ra l i):Tot (b0q l i b m p k d) (x0W λr=>q0J r.1 l.length):=by
  unfold b0q;refine tS (z0N hl h) (λy4 h4=> ?_) (λ_=>tR trivial);refine tS (s0R hl h4.1) (λy11 h11=> ?_) (λ_=>tR trivial);refine tE (p:=λs:Int×Int×Int=>ra l s.1) (tI (λ_=>tS (E0b hl h11.1) (λa ha=>tR ha.1) (λ_=>tR trivial)) (λ_=>tR h11.1)) (λs hs=> ?_);refine tS (C0M hl hs) (λy47 h47=> ?_) (λ_=>tR trivial);refine tY (i0k hs.1 h47.2 h47.1.2) ?_;refine tS (E0b hl h47.1) (λy55 h55=> ?_) (λ_=>tR trivial);refine tS (s0R hl h55.1) (λy62 h62=> ?_) (λ_=>tR trivial);refine tE (p:=λs:Int×Int×Int=>ra l s.1) (tI (λ_=>tS (H0y hl h62.1) (λa ha=>tR ha.1) (λ_=>tR trivial)) (λ_=>tR h62.1)) (λs2 hs2=> ?_);refine tE (p:=λs:Int×List a0d×List a0d×Bool=>ra l s.1/\s.2.1.length<=l.length/\s.2.2.1.length<=l.length) (tB (y0e hl hs2) (λy hy=>tI (λ_=>tS (x0S hl (az (E0B ..) hl) hy.1) (λa ha=>tR ha) (λ_=>tR trivial)) (λ_=>tR ⟨hy.1,by simp,by simp⟩))) (λs3 hs3=> ?_);refine tE (p:=λ_=>True) (tI (λ_=>tR trivial) (λ_=>tR trivial)) (λ_ _=>tR ⟨?_, ?_,hs3.2.1,hs3.2.2⟩);have:=h11.2.2;have:=h11.1.2;simp only;omega;have:=h62.2.2;have:=h62.1.2;simp only;omega
theorem H0s {l:List Int} (hl:l.length<=100000):Tot (m0T l) (λr=>q0J r.1 l.length):=by
  unfold m0T;refine tB (show Tot g0l (λ_=>True)from tR trivial) (λ_ _=>tS (z0L hl ⟨ay _,by omega⟩) (λa ha=>zC (by unfold g0V;exact tR trivial) (λ_ _=>tR ha)) (λa=>zC (by unfold g0U;exact tR trivial) (λ_ _=>tR ?_)));exact⟨by simp,by simp,by simp,by simp⟩
/-! Bytes are read, patterns written: it answers. -/
theorem E0J(x:Int):Tot (m0F x) (λn=>0<=n/\n<=4):=by
  unfold m0F;refine zC ?_ (λy _=> ?_)
  · unfold o0t
    refine zC ?_ (λ_ _=>tR trivial)
    repeat' (first|exact tR trivial|refine tI (λ_=> ?_) (λ_=> ?_))
  · repeat' (first|exact tR ⟨by omega,by omega⟩|refine tI (λ_=> ?_) (λ_=> ?_))
theorem F0S {l:List Int} (h0:0<l.length)(hl:l.length<=100000):Tot (k0A l) (λr=>0<=r.2/\r.2<=l.length):=by
  unfold k0A;have i0:inR 0 l.length=true:=a0C (ay _) (by omega);refine tY i0 (tB (p:=λn=>0<=n/\n<=4) ?_ (λy hy=> ?_))
  · unfold i0b
    repeat' (first|exact tR ⟨by omega,by omega⟩|refine tI (λ_=> ?_) (λ_=> ?_))
  refine tJ (tB (p:=λr=>r=oA->1<=y/\y<=l.length) (tI (λ_=>tR (λh=>by cases h)) (λe=>tR (λh=> ?_))) (λr hr=>tI (λ_=>tR ⟨ay _,by simp only;omega⟩) (λe=>tR (show Tot _ _ from ?_))));have:=dFF e;have:=dFF h;omega;obtain⟨y1,y2⟩:=hr e;refine tY i0 (zC ?_ (λm _=> ?_))
  · unfold p0c
    repeat' (first|exact tR trivial|refine tI (λ_=> ?_) (λ_=> ?_))
  have hc:(cut l 1 y).length<=l.length:=E0B ..;refine tJ (tY (i0k (by omega) y1 y2) (tW (λs:Int×Int=>s.2) (cut l 1 y).length (λ_=>True) (by omega) ⟨trivial,ay _,by simp⟩ (λs _ g0 g1=> ?_) (λs _ e=> ?_)));refine tY (dT g1)<|tY (a0C g0 g1) (tI (λ_=>tR ⟨ay _,by simp only;omega⟩) (λ_=>tR ⟨trivial,w64 (by omega) (by omega)⟩))
  rw[dF (show¬s.2<((cut l 1 y).length:Int) by omega)];exact tR (tB (E0J _) (λz hz=>tI (λ_=>tR ⟨ay _,by simp only;omega⟩) (λ_=>tR ⟨by simp only;omega,y2⟩)))
theorem x0c {l:List Int} (hl:l.length<=100000):Tot (f0S l) (λr=>r.1.length<=l.length):=by
  unfold f0S;refine tJ (tL (λs:Int×List Int=>ra l s.1/\(s.2.length:Int)<=s.1) (λs=>((l.length:Int)-s.1).toNat) ⟨⟨ay _,by simp only;omega⟩,by simp⟩ (by simp only;omega) (λs hs=> ?_));obtain⟨⟨g0,g1⟩,g2⟩:=hs;refine tI (λhlt=> ?_) (λ_=>tR (tR (by simp only;omega)));have hlt:=dTT hlt;have hc:((cut l s.1 (l.length:Int)).length:Int)=(l.length:Int)-s.1:=by unfold cut;simp;omega
  refine tY (i0k g0 g1 (by omega)) (tB (F0S (by omega) (by omega)) (λy hy=>tI (λ_=>tR (show([]:List Int).length<=_ by simp)) (λhn=>tY (a0z (by simp;omega)) (tR ?_))));have hn:=dFF hn;rw[w64 (n:=s.1+y.2) (by omega) (by omega)];exact⟨⟨⟨by simp only;omega,by simp only;omega⟩,by simp;omega⟩,by simp only;omega⟩
theorem z0M (ht:t.length<=100000):Tot (i0Y t) (λr=>q0J r.1 120):=by
  have z: ∀a c:Int,Tot (qA ((⟨([]:List a0d),([]:List a0d),([]:List a0d),([]:List a0d),oA,0,0,0,0,0,0,0,0,0,oA,0,0⟩:a0V),a,c)) (λr:a0V×Int×Int=>q0J r.1 120):=λa c=>tR ⟨by simp,by simp,by simp,by simp⟩
  unfold i0Y;refine tB (x0c (by rw[c0q];exact ht)) (λy hy=>tI (λ_=>z _ _) (λ_=>tI (λ_=>z _ _) (λh=> ?_)));have h:=dFF h;refine tB (H0s (by rw[c0q]at hy;omega)) (λq hq=>tI (λ_=>z _ _) (λ_=>tI (λ_=>z _ _) (λ_=>tR ?_)));obtain⟨q1,q2,q3,q4⟩:=hq;exact⟨by simp only;omega,by simp only;omega,by simp only;omega,by simp only;omega⟩
theorem t0i(n:Int):Tot (g0T n) (λr=>0<=r/\r<=121):=by
  unfold g0T F0u J0j;refine tR ?_;split<;>split<;>omega
theorem m0O {c:Int} (ho:o.length<=100000):Tot (e0e o c n) (λr=>r.length<=o.length+121):=by
  unfold e0e;refine tB (p:=λr:List Int=>r.length<=o.length+121) (tB (t0i n) (λy hy=>tL (λs:Int×List Int=>0<=s.1/\s.1<=y/\(s.2.length:Int)<=o.length+s.1) (λs=>(y-s.1).toNat) ⟨ay _,hy.1,by simp⟩ (by simp only;omega) (λs hs=> ?_))) (λ_ h=>tR h);refine tI (λhlt=>tY (a0z (by simp;omega)) (tR ?_)) (λ_=>tR (by simp only;omega));have hlt:=dTT hlt;rw[w64 (n:=s.1+1) (by omega) (by omega)];exact⟨⟨by simp only;omega,by simp only;omega,by simp;omega⟩,by simp only;omega⟩
theorem A0J(p:a0V)(n:Int):Tot (h0x p n) (λ_=>True):=by
  unfold h0x;refine tJ (zC (tI (λ_=>tR trivial) (λ_=>tR trivial)) (λ_ _=>tI (λ_=>tR trivial) (λ_=>tR (show Tot _ _ from zC ?_ (λ_ _=>tR trivial)))));refine tI (λ_=>tR trivial) (λ_=>tI (λh=>tY ?_ (tR trivial)) (λ_=>tR trivial));have:=dTT h;unfold nz;rw[dF (by omega)];rfl
theorem y0E (ho:o.length<=10000):Tot (i0X o p) (λr=>r.length<=o.length+500):=by
  unfold i0X;refine tB (t0i _) (λy hy=>tB (t0i _) (λz hz=> ?_));rw[w64 (n:=y+z) (by omega) (by omega)];refine tB (p:=λr:List Int=>r.length<=o.length+500) (tL (λs:Int×List Int=>0<=s.1/\s.1<=y+z/\(s.2.length:Int)<=o.length+s.1+s.1) (λs=>(y+z-s.1).toNat) ⟨ay _,by simp only;omega,by simp⟩ (by simp only;omega) (λs hs=> ?_)) (λ_ h=>tR h);refine tI (λhlt=> ?_) (λ_=>tR (by simp only;omega));have hlt:=dTT hlt;rw[w64 (n:=s.1+1) (by omega) (by omega)];refine tB (p:=λt:List Int=>(t.length:Int)<=s.2.length+2) (tB (p:=λt:List Int=>(t.length:Int)<=s.2.length+1) (zC (tI (λ_=>tB (A0J _ _) (λ_ _=>tR trivial)) (λ_=>tR trivial)) (λ_ _=>tI (λ_=>tY (a0z (by simp;omega)) (tR (by simp))) (λ_=>tR (by omega)))) (λt ht=>tI (λ_=>tY (a0z (by simp;omega)) (tR (by simp;omega))) (λ_=>tY (a0z (by simp;omega)) (tR (by simp;omega))))) (λt ht=>tR ?_);exact⟨⟨by simp only;omega,by simp only;omega,by simp only;omega⟩,by simp only;omega⟩
theorem s0X(p:a0V):Tot (h0g p) (λr=>r.length<=2000):=by
  unfold h0g;refine tB (p:=λr:List Int=>r.length<=1000) (zC (tI (λ_=>tR trivial) (λ_=>tR trivial)) (λ_ _=>tI (λ_=> ?_) (λ_=> ?_))) (λr hr=>tB (p:=λr:List Int=>r.length<=2000) ?_ (λ_ h=>tR h));exact tB (m0O (by simp)) (λa ha=>tB (t0i _) (λ_ _=>tB (m0O (by simp at ha;omega)) (λc hc=>tR (by simp at ha;omega))));refine tB (y0E (by simp)) (λa ha=>tI (λ_=>tY (a0z (by simp at ha⊢;omega)) (tB (m0O (by simp at ha⊢;omega)) (λc hc=>tB (t0i _) (λ_ _=>tB (m0O (by simp at ha hc⊢;omega)) (λe he=>tR (by simp at ha hc he;omega)))))) (λ_=>tR (by simp at ha;omega)));refine tI (λ_=>tY (a0z (by simp;omega)) (tB (p:=λt:List Int=>t.length<=r.length+2) (tI (λ_=>tY (a0z (by simp;omega)) (tR (by simp))) (λ_=>tR (by simp))) (λt ht=>tB (m0O (by omega)) (λu hu=>tR (by omega))))) (λ_=>tR (by omega))
theorem w0l (ho:o.length<=100000):Tot (k0Q o p w) (λr=>r.length<=o.length+2):=by
  unfold k0Q;exact tI (λ_=>tR (by omega)) (λ_=>tY (a0z (by simp;omega)) (tR (by simp)))
theorem n0W {E X:Type} [DecidableEq X] {f:E->Option (Unit⊕X)} {p:X->Prop} (hf: ∀e,f e=qA (.inl ())\/ ∃x,f e=qA (.inr x)/\p x): ∀ms:List E,(∀a∈ms,∀b∈ms,f a≠qA (.inl ())->f b≠qA (.inl ())->f a=f b)->Tot (k0Z f ms) (λo=>match o with| .inl _=> ∀e∈ms,f e=qA (.inl ())| .inr x=>p x/\ ∃e∈ms,f e=qA (.inr x))
  | [],_=>tR (λe h=>by cases h)
  |e::ms,h=>by
    obtain⟨o,ho,hp⟩:=n0W hf ms (λa ha b hb=>h a (ao _ ha) b (ao _ hb));simp only[k0Z,ho];rcases hf e with he|⟨x,he,hx⟩;rw[he]
    cases o with
    |inl u=>
      refine tR (λa ha=> ?_);rcases aG.1 ha with rfl|ha;exact he;exact hp a ha
    |inr y=>exact tR ⟨hp.1,hp.2.imp λa ha=>⟨ao _ ha.1,ha.2⟩⟩
    rw[he]
    cases o with
    |inl u=>exact tR ⟨hx,e,av ..,he⟩
    |inr y=>
      obtain⟨a,ha,hy⟩:=hp.2;have:=h e (av ..) a (ao _ ha) (by rw[he];simp) (by rw[hy];simp);rw[he,hy]at this;obtain rfl:=Sum.inr.inj (al this);simp only[if_true];exact tR ⟨hx,e,av ..,he⟩
theorem F0g(t:a0d):Tot (k0P t) (λr=>r.length<=2):=by
  unfold k0P;refine tI (λ_=>tI (λ_=>tR (by simp)) (λ_=>tR (by simp))) (λ_=> ?_);refine tJ (Tot.mono (p:=λx=>match x with| .inl _=>True| .inr r=>(r:List Int).length<=2) ?_ (λx hx=> ?_));show Tot (zA _ _) _;refine tJ (Tot.mono (n0W (p:=λx:Unit⊕List Int=>match x with| .inl _=>False| .inr r=>r.length<=2) (λe=> ?_) _ (λa ha c hc h1 h2=> ?_)) (λx hx=> ?_));by_cases h:e.2=t.U_;rw[dT h];exact .inr ⟨_,rfl,by simp⟩;rw[dF h];exact .inl rfl
  have f1:a.2=t.U_:=by
    by_cases h:a.2=t.U_;exact h;rw[dF h]at h1;exact absurd rfl h1
  have f2:c.2=t.U_:=by
    by_cases h:c.2=t.U_;exact h;rw[dF h]at h2;exact absurd rfl h2
  have:a=c:=by
    have key: ∀a∈([(45,1),(43,2),(37,3),(164,4)]:List (Int×Int)),∀c∈([(45,1),(43,2),(37,3),(164,4)]:List (Int×Int)),a.2=c.2->a=c:=by decide+kernel
    exact key a ha c hc (f1.trans f2.symm)
  rw[this]
  match x,hx with
  | .inl _,_=>exact tR trivial
  | .inr (.inr r),h=>exact h.1
  match x,hx with
  | .inl _,_=>exact tR (by simp)
  | .inr r,h=>exact h
theorem p0b {q:List a0d} (ho:o.length<=50000)(hq:q.length<=1000):Tot (g0m o q) (λr=>r.length<=o.length+3001):=by
  unfold g0m;refine tB (p:=λs:Bool×List Int=>s.2.length<=o.length+3000) (tW (λs:Bool×Int×List Int=>s.2.1) q.length (λs=>(s.2.2.length:Int)<=o.length+3*s.2.1) (by omega) ⟨by simp,ay _,by simp⟩ (λs hs g0 g1=> ?_) (λs hs e=> ?_)) (λs hs=>tB (p:=λr:List Int=>r.length<=o.length+3001) (tI (λ_=>tY (a0z (by simp;omega)) (tR (by simp;omega))) (λ_=>tR (by omega))) (λ_ h=>tR h))
  · rw[dT g1,w64 (n:=s.2.1+1) (by omega) (by omega)]
    refine tB (p:=λr:Bool×List Int=>(r.2.length:Int)<=s.2.2.length+3) (tY (a0C g0 g1) (zC (tI (λ_=>tR trivial) (λ_=>tR trivial)) (λu _=>zC ?_ (λv _=>tB (p:=λr:Bool×List Int=>(r.2.length:Int)<=s.2.2.length+1) (tI (λ_=>tY (a0z (by simp;omega)) (tR (by simp))) (λ_=>tR (by simp only;omega))) (λw hw=>tB (F0g _) (λz hz=>tY (a0z (by omega)) (tR (by simp;omega)))))))) (λr hr=>tR ⟨?_,rfl⟩)
    · repeat' (first|exact tR trivial|refine tI (λ_=> ?_) (λ_=> ?_)|exact tB (t0h _) (λ_ _=>tR trivial))
    simp only;omega
  rw[dF (show¬s.2.1<(q.length:Int) by omega)];exact tR (by simp only;omega)
theorem x0o (hp:q0J p 1000):Tot (h0v p) (λr=>r.length<=20000):=by
  unfold h0v;obtain⟨p1,p2,p3,p4⟩:=hp;refine tB (s0X p) (λn hn=>tB (w0l (by simp)) (λa ha=> ?_));simp only[aH]at ha;refine tB (p0b (by omega) p1) (λb hb=>tB (w0l (by omega)) (λc hc=>tY (a0z (by omega)) ?_));refine tB (w0l (by simp;omega)) (λd hd=> ?_);simp only[ac]at hd;refine tB (p0b (by omega) p2) (λe he=>tB (w0l (by omega)) (λf hf=>tB (p:=λr:List Int=>r.length<=20000) (tI (λ_=>tY (a0z (by simp;omega)) (tB (p0b (by simp;omega) p3) (λg hg=> ?_))) (λ_=>tR (by omega))) (λ_ h=>tR h)));simp only[ac,aC,aH]at hg;exact tY (a0z (by omega)) (tB (p0b (by simp;omega) p4) (λi hi=>tR (by simp only[ac]at hi;omega)))
theorem A0Z(r:Int):(oH r).data.toList.length<=4:=by
  unfold oH;simp only
  repeat' (first|(split)|simp)
theorem t0k: ∀l:List Int,(m0L l).length<=4*l.length
  | []=>by simp[m0L]
  |x::l=>by
    have h1:=A0Z x;have h2:=t0k l;have:m0L (x::l)=(oH x).data.toList++m0L l:=rfl;rw[this,ac,aC];omega
theorem C0e {x y:List a0d} (hx:x.length<=1000):Tot (i0s x y) (λ_=>True):=by
  unfold i0s;refine tI (λ_=>tR trivial) (λh=>tJ (tW (λs:Int=>s) x.length (λ_=>True) (by omega) ⟨trivial,ay _,by simp⟩ (λs _ g0 g1=> ?_) (λs _ e=> ?_)));have h:=dFF h;exact tY (dT g1)<|tY (a0C g0 g1) (tY (a0C g0 (by omega)) (tI (λ_=>tR trivial) (λ_=>tR ⟨trivial,w64 (by omega) (by omega)⟩)))
  rw[dF (show¬s<(x.length:Int) by omega)];exact tR (tR trivial)
theorem H0k {x y:a0V} (hx:q0J x 1000):Tot (m0V x y) (λ_=>True):=by
  unfold m0V h0w;obtain⟨p1,p2,p3,p4⟩:=hx;refine zC (show Tot (bif _ then _ else _) _ from ?_) (λ_ _=>tR trivial);refine tI (λ_=>tI (λ_=>tI (λ_=>tB (C0e p1) (λ_ _=>tI (λ_=>tB (C0e p2) (λ_ _=>tI (λ_=>tB (C0e p3) (λ_ _=>tI (λ_=>tB (C0e p4) (λ_ _=>tR trivial)) (λ_=>tR trivial))) (λ_=>tR trivial))) (λ_=>tR trivial))) (λ_=>tR trivial)) (λ_=>tR trivial)) (λ_=>tR trivial)
theorem E0Y (hp:q0J p 1000):Tot (k0S p) (λ_=>True):=by
  unfold k0S
  refine tB (p:=λt:List UInt8=>t.length<=100000) (by
    unfold p0j;refine tB (x0o hp) (λr hr=>tR ?_)
    have:=t0k r;omega) (λt ht=>tB (z0M ht) (λq _=>zC (tI (λ_=>tB (H0k hp) (λ_ _=>tR trivial)) (λ_=>tR trivial)) (λ_ _=>tR trivial)))
/-! Rules are read, and written: it answers. -/
def inI(n:Int):Prop:= -9223372036854775808<=n/\n<=9223372036854775807
theorem B0W(n:Int):inI (jA .i64 n):=by
  have h:jA .i64 n=if n%18446744073709551616≥9223372036854775808 then n%18446744073709551616-18446744073709551616 else n%18446744073709551616:=by
    unfold jA;simp[qF,jG]
  unfold inI;rw[h];split<;>omega
theorem K0g:inI 0:=⟨by omega,by omega⟩
def rb(t:List UInt8)(i:Int):Prop:=0<=i/\i<=(t.length:Int)
def K0a(k:Int->Option Bool)(x0:List UInt8)(x1:Int):Option ((List UInt8)×Int):=
  (zA (a0B (fun(s1:Int)=>(zA (zA (bif(vA (s1<(x0.length:Int)))then(bif inR s1 x0.length then(qA ((vA (((((x0.getD (s1:Int).toNat 0).toNat:Nat):Int))=32))))else none)else(qA oA)) fun(s2:Bool)=>(bif s2 then(qA (.inl ()))else(qA (.inr (.inr s1))))) (a0x fun(s3:Unit)=>(qA (.inl (jA .i64 (s1+1))))))) big x1) fun(s4:Int)=>(zA (a0B (fun(s5:Int)=>(zA (zA (bif(vA (s5<(x0.length:Int)))then(bif inR s5 x0.length then(zA (k ((((x0.getD (s5:Int).toNat 0).toNat:Nat):Int))) λy0=>(qA y0))else none)else(qA oA)) fun(s6:Bool)=>(bif s6 then(qA (.inl ()))else(qA (.inr (.inr s5))))) (a0x fun(s7:Unit)=>(qA (.inl (jA .i64 (s5+1))))))) big s4) fun(s8:Int)=>(bif inS s4 s8 x0.length then(qA ((cut x0 s4 s8),s4))else none)))
section
variable {t : List UInt8} (ht : t.length <= 400)
include ht
theorem D0V {k:Int->Option Bool} (hk: ∀x,Tot (k x) (λ_=>True)) (h:rb t i):Tot (a0B (fun(s5:Int)=>(zA (zA (bif(vA (s5<(t.length:Int)))then(bif inR s5 t.length then(k ((((t.getD (s5:Int).toNat 0).toNat:Nat):Int)))else none)else(qA oA)) fun(s6:Bool)=>(bif s6 then(qA (.inl ()))else(qA (.inr (.inr s5))))) (a0x fun(s7:Unit)=>(qA (.inl (jA .i64 (s5+1))))))) big i) (λr=>rb t r/\i<=r):=by
  refine tL (λs=>rb t s/\i<=s) (λs=>((t.length:Int)-s).toNat) ⟨h,ay _⟩ (by have:=h.1;omega) (λs hs=> ?_);obtain⟨⟨g0,g1⟩,g2⟩:=hs;refine tJ (tB (p:=λr=>r=yA->s<t.length) (tI (λe=>tY (a0C g0 (dTT e)) ((hk _).mono (λ_ _ _=>dTT e))) (λ_=>tR (λh=>by cases h))) (λr hr=>tI (λe=>tR (show Tot _ _ from tR ?_)) (λ_=>tR ⟨⟨g0,g1⟩,g2⟩)));have:=hr e;rw[w64 (n:=s+1) (by omega) (by omega)];exact⟨⟨⟨by omega,by omega⟩,by omega⟩,by omega⟩
theorem E0U {k:Int->Option Bool} (hk: ∀x,Tot (k x) (λ_=>True)) (h:rb t i):Tot (K0a k t i) (λr=>rb t r.2/\i<=r.2/\r.2+r.1.length<=t.length):=by
  unfold K0a;have hk2: ∀x,Tot (zA (k x) λy0=>qA y0) (λ_=>True):=λx=>tB (hk x) (λ_ _=>tR trivial)
  refine tB (D0V ht (k:=λx=>qA (vA (x=32))) (λ_=>tR trivial) h) (λa ha=>tB (D0V ht hk2 ha.1) (λb hb=>tY (i0k ha.1.1 hb.2 hb.1.2) (tR ⟨ha.1,ha.2, ?_⟩)));have h1:=ha.1.1;have h2:=hb.2;have h3:=hb.1.2;unfold cut;simp;omega
theorem u0w {q:List UInt8} (h:rb t i)(hq:q.length<=3):Tot (b0j q t i) (λr=>rb t r.2/\i<=r.2):=by
  unfold b0j;refine tB (E0U ht (k:=d0I) (λ_=>tR trivial) h) (λa ha=>tY (i0k ha.1.1 ha.1.2 (ay _)) (tB (p:=λr=>r=yA->a.2+q.length<=t.length) ?_ (λy hy=>tI (λ_=>tR ⟨ha.1,ha.2.1⟩) (λe=>tR ?_))));unfold e0a c0T;refine tB (p:=λr=>r=yA->a.2+q.length<=t.length) (tB (p:=λr=>r=yA->a.2+q.length<=t.length) (tI (λe=> ?_) (λ_=>tR (λh=>by cases h))) (λ_ h=>tR h)) (λ_ h=>tR h);have e:=dTT e;refine tY (i0k (ay _) (by omega) e) (tR (λ_=> ?_));have h1:=ha.1.1;have h2:=ha.1.2;unfold cut at e;simp at e;omega;have:=hy (by simpa using e);have h1:=ha.1.1;have h2:=ha.2.1;rw[w64 (n:=a.2+q.length) (by omega) (by omega)];exact⟨⟨by simp only;omega,by simp only;omega⟩,by simp only;omega⟩
theorem y0G (h:rb t i):Tot (c0m t i) (λr=>rb t r.2/\i<=r.2/\r.2+r.1.length<=t.length):=by
  unfold c0m;refine tB (E0U ht (k:=c0Q) (λx=> ?_) h) (λa ha=>tR ha);unfold c0Q;refine zC ?_ (λ_ _=>tR trivial)
  repeat' (first|exact tR trivial|refine tI (λ_=> ?_) (λ_=> ?_))
theorem z0T {v:Int} (h:rb t i):Tot (b0p v t i) (λr=>rb t r.2.2/\i<=r.2.2/\inI r.1/\(r.2.1=yA->i<r.2.2)):=by
  unfold b0p;have z:=K0g;refine tB (E0U ht (k:=c0y) (λx=> ?_) h) (λa ha=>tJ (tB (p:=λr=>r=oA->0<a.1.length) ?_ (λr hr=>tI (λ_=>tR ⟨ha.1,ha.2.1,z,λh=>by cases h⟩) (λe=>tR (show Tot _ _ from ?_)))));unfold c0y;exact zC (tI (λ_=>tR trivial) (λ_=>tR trivial)) (λ_ _=>tR trivial);refine tI (λ_=>tR (λh=>by cases h)) (λe=> ?_);have e:=dFF e;refine tI (λ_=>tR (λh=>by cases h)) (λ_=>tI (λ_=>tY (a0C (ay _) (by omega)) (tR (λ_=>by omega))) (λ_=>tR (λ_=>by omega)));have:=hr e;obtain⟨⟨h0,h1⟩,h2,h3⟩:=ha;have hL:(a0P a.1).length=a.1.length:=c0q _;refine tB (p:=inI) (tW (λs:Int×Int=>s.2) (a0P a.1).length (λs=>inI s.1) (by omega) ⟨z,ay _,by simp⟩ (λs hs g0 g1=> ?_) (λs hs e=> ?_)) (λn hn=>tI (λ_=>tR ⟨⟨h0,h1⟩,h2,z,λh=>by cases h⟩) (λ_=>tR ?_));exact tY (dT g1)<|tY (a0C g0 g1) (tR ⟨B0W _,w64 (by omega) (by omega)⟩)
  rw[dF (show¬s.2<((a0P a.1).length:Int) by omega)];exact tR hs;have:=h.1;rw[w64 (n:=a.2+a.1.length) (by omega) (by omega)];exact⟨⟨by simp only;omega,by simp only;omega⟩,by simp only;omega,hn,λ_=>by simp only;omega⟩
theorem H0A (h:rb t i) {x2 x3 x4} :Tot (c0i t i x2 x3 x4) (λr=>r.1=yA->rb t r.2.1/\i<r.2.1):=by
  unfold c0i;refine tB (y0G ht h) (λa ha=>tJ (tB (p:=λr=>r=oA->a.1.length=1) ?_ (λr hr=>tI (λ_=>tR (λh=>by cases h)) (λe=>tR (show Tot _ _ from ?_)))));refine tI (λ_=>tR (λh=>by cases h)) (λe=>zC ?_ (λ_ _=>tR (λ_=> ?_)));unfold e0J g0N d0Z stringslite_IndexByte;have e:(a.1.length:Int)=1:=by have:=dFF e;omega
  rw[dF (show¬(a.1.length:Int)=0 by omega),dT e];refine zC (zC (zC (tR trivial) (λ_ _=>tI (λ_=>tR trivial) (λ_=>tY rfl (tY (a0C (ay _) (by omega)) (tR trivial))))) (λ_ _=>tR trivial)) (λ_ _=>tR trivial);have:=dFF e;omega;have:=hr e;obtain⟨⟨h0,h1⟩,h2,h3⟩:=ha;refine tY (a0C (ay _) (by omega)) (tR (λ_=> ?_));rw[w64 (n:=a.2+1) (by omega) (by omega)];exact⟨⟨by simp only;omega,by simp only;omega⟩,by simp only;omega⟩
theorem H0J (h:rb t i) {x2 x4} :Tot (c0R t i x2 0 x4) (λr=>rb t r.2.1/\i<=r.2.1/\inI r.2.2):=by
  unfold c0R;exact tB (u0w ht h (by simp)) (λa ha=>tI (λ_=>tR ⟨ha.1,ha.2,K0g⟩) (λ_=>tB (z0T ht ha.1) (λc hc=>tR ⟨hc.1,bH ha.2 hc.2.1,hc.2.2.1⟩)))
theorem E0R (h:rb t i) {x2 x3 x4} :Tot (c0K t i x2 x3 x4) (λr=>rb t r.2.1/\i<=r.2.1):=by
  unfold c0K;exact tB (u0w ht h (by simp)) (λa ha=>tI (λ_=>tR ha) (λ_=>tB (u0w ht ha.1 (by simp)) (λc hc=>tR ⟨hc.1,bH ha.2 hc.2⟩)))
def E0X(l:List d0x):Prop:=l.length<=400/\ ∀x∈l,inI x.f_/\inI x.e_
theorem C0C (h:rb t i) {x2 x3 x4} :Tot (c0s t i x2 x3 x4) (λr=>rb t r.2.1/\i<=r.2.1/\E0X r.2.2):=by
  unfold c0s;refine tL (λs:Int×List d0x=>rb t s.1/\i<=s.1/\(s.2.length:Int)<=s.1/\ ∀x∈s.2,inI x.f_/\inI x.e_) (λs=>((t.length:Int)-s.1).toNat) ⟨h,ay _,by have:=h.1;simpa using this,by simp⟩ (by have:=h.1;simp only;omega) (λs hs=> ?_);obtain⟨g1,g2,g3,g4⟩:=hs;refine tB (z0T ht g1) (λa ha=>tB (p:=λr:Bool×Int×Int=>rb t r.2.2/\a.2.2<=r.2.2/\inI r.2.1/\(r.1=yA->a.2.1=yA)) ?_ (λc hc=> ?_));refine tB (p:=λr:Bool×Int=>rb t r.2/\a.2.2<=r.2/\(r.1=yA->a.2.1=yA)) (tI (λe=>tB (u0w ht ha.1 (by simp)) (λc hc=>tR ⟨hc.1,hc.2,λ_=>e⟩)) (λ_=>tR ⟨ha.1,ay _,λh=>by cases h⟩)) (λc hc=> ?_);exact tI (λe=>tB (z0T ht hc.1) (λd hd=>tR ⟨hd.1,bH hc.2.1 hd.2.1,hd.2.2.1,λ_=>hc.2.2 e⟩)) (λ_=>tR ⟨hc.1,hc.2.1,ha.2.2.1,id⟩);obtain⟨⟨c0,c1⟩,c2,c3,c4⟩:=hc;have a2:=ha.2.1
  have hall: ∀x∈s.2++ [(⟨a.1,c.2.1⟩:d0x)],inI x.f_/\inI x.e_:=λx hx=>by
    rcases aw.1 hx with hx|hx;exact g4 x hx;obtain rfl:=bR.1 hx;exact⟨ha.2.2.1,c3⟩
  have g1':=g1.2;refine tI (λ_=>tR ⟨⟨c0,c1⟩,by simp only;omega,by simp only;omega,g4⟩) (λe=>tY (a0z (by simp;omega)) (tB (u0w ht ⟨c0,c1⟩ (by simp)) (λd hd=> ?_)));have:=ha.2.2.2 (c4 (by simpa using e));obtain⟨⟨d0,d1⟩,d2⟩:=hd;exact tI (λ_=>tR ⟨⟨d0,d1⟩,by simp only;omega,by simp;omega,hall⟩) (λ_=>tR ⟨⟨⟨d0,d1⟩,by simp only;omega,by simp;omega,hall⟩,by simp only;omega⟩)
def z0x(r:a0Z):Prop:=inI r.ac_/\E0X r.R_
theorem x0L (h:rb t i):Tot (b0W t i) (λr=>r.2.1=yA->rb t r.2.2/\i<r.2.2/\z0x r.1):=by
  unfold b0W;refine tJ (tB (p:=λs:Bool×Int×Int×Int×Bool×List d0x=>s.1=yA->rb t s.2.1/\i<s.2.1/\inI s.2.2.2.1/\E0X s.2.2.2.2.2) ?_ (λs hs=>tI (λe=>tR (λ_=>⟨(hs e).1,(hs e).2.1,(hs e).2.2.1,(hs e).2.2.2⟩)) (λ_=>tR (show Tot _ _ from tR (λh=>by cases h)))));refine tB (H0A ht h) (λa ha=>tI (λe=> ?_) (λ_=>tR (λh=>by cases h)));have ha:=ha e;refine tB (H0J ht ha.1) (λc hc=>tI (λ_=>tB (E0R ht hc.1) (λd hd=>tI (λ_=>tB (C0C ht hd.1) (λf hf=>tR (λ_=>⟨hf.1, ?_,hc.2.2,hf.2.2⟩))) (λ_=>tR (λh=>by cases h)))) (λ_=>tR (λh=>by cases h)));exact Int.lt_of_lt_of_le ha.2 (bH hc.2.1 (bH hd.2 hf.2.1))
def z0r(l:List a0Z):Prop:=l.length<=400/\ ∀r∈l,z0x r
def o0G(c:List (List a0Z)):Prop:=c.length<=401/\ ∀l∈c,z0r l
theorem H0m:Tot (c0L t 0) (λr=>o0G r.1):=by
  unfold c0L;refine tJ (Tot.mono (p:=λx=>match x with| .inl s=>(s.2.1.length:Int)<=400/\(∀l∈s.2.1,z0r l)/\z0r s.2.2| .inr r=>o0G r.1) (tL (λs:Int×List (List a0Z)×List a0Z=>rb t s.1/\(s.2.1.length:Int)<=s.1/\(s.2.2.length:Int)<=s.1/\(∀l∈s.2.1,z0r l)/\ ∀r∈s.2.2,z0x r) (λs=>((t.length:Int)-s.1).toNat) ⟨⟨ay _,by simp only;omega⟩,by simp,by simp,by simp,by simp⟩ (by simp only;omega) (λs hs=> ?_)) (λx hx=> ?_));obtain⟨g1,g2,g3,g4,g5⟩:=hs;refine tB (x0L ht g1) (λa ha=>tI (λ_=>tR ⟨by simp,by simp⟩) (λe=> ?_));obtain⟨a1,a2,a3⟩:=ha (by simpa using e);have g1':=g1.2;have a1':=a1.2
  have hall: ∀r∈s.2.2++ [a.1],z0x r:=λx hx=>by
    rcases aw.1 hx with hx|hx;exact g5 x hx;obtain rfl:=bR.1 hx;exact a3
  have hrow:z0r (s.2.2++ [a.1]):=⟨by simp;omega,hall⟩
  refine tY (a0z (by simp;omega)) (tB (y0G ht a1) (λw hw=> ?_));obtain⟨⟨w0,w1⟩,w2,w3⟩:=hw;have ew:jA .i64 (w.2+w.1.length)=w.2+w.1.length:=w64 (by omega) (by omega);rw[ew];refine tI (λ_=>tR ⟨⟨⟨by simp only;omega,by simp only;omega⟩,by simp only;omega,by simp;omega,g4,hall⟩,by simp only;omega⟩) (λ_=>tI (λ_=>tY (a0z (by simp;omega)) (tR ⟨⟨⟨by simp only;omega,by simp only;omega⟩,by simp;omega,by simp;omega,λl hl=> ?_,by simp⟩,by simp only;omega⟩)) (λ_=>tR ⟨by simp only;omega,g4,hrow⟩));rcases aw.1 hl with hl|hl;exact g4 l hl;obtain rfl:=bR.1 hl;exact hrow
  cases x with
  |inr r=>exact hx
  |inl s=>
    obtain⟨s1,s2,s3⟩:=hx;refine show Tot _ _ from tY (a0z (by simp;omega)) (tR ⟨by simp;omega,λl hl=> ?_⟩)
    rcases aw.1 hl with hl|hl;exact s2 l hl;obtain rfl:=bR.1 hl;exact s3
end
theorem g0B [Inhabited T] {l:List T} (h0:0<=i)(h1:i<l.length):nth l i∈l:=by
  obtain⟨k,rfl⟩:=bB h0;rw[s0j (by omega)];exact cf _
theorem y0M {c:List (List a0Z)} (hc:o0G c):Tot (g0j c) (λ_=>True):=by
  unfold g0j;have hn:=hc.1;refine tJ (tW (λs:Int×Int=>s.2) c.length (λ_=>True) (by omega) ⟨trivial,ay _,by simp⟩ (λs _ g0 g1=> ?_) (λs _ e=> ?_));rw[dT g1];have hm:=(hc.2 _ (g0B g0 g1)).1;refine tJ (tY (a0C g0 g1) (tW (λs:Int=>s) (nth c s.2).length (λ_=>True) (by omega) ⟨trivial,ay _,by simp⟩ (λu _ f0 f1=> ?_) (λu _ e=> ?_)));exact tY (dT f1)<|tY (a0C f0 f1) (tI (λ_=>tR trivial) (λ_=>tR ⟨trivial,w64 (by omega) (by omega)⟩))
  rw[dF (show¬u<((nth c s.2).length:Int) by omega)];exact tR (tR ⟨trivial,w64 (by omega) (by omega)⟩);rw[dF (show¬s.2<(c.length:Int) by omega)];exact tR (tR trivial)
theorem w0v(t:List UInt8):Tot (h0e t) (λr=>o0G r.1):=by
  unfold h0e
  have z:o0G []:=⟨by simp,by simp⟩
  refine tI (λ_=>tR z) (λe=> ?_);have e:=dFF e;exact tB (H0m (by omega)) (λa ha=>tI (λ_=>tR z) (λ_=>tB (y0M ha) (λ_ _=>tI (λ_=>tR z) (λ_=>tR ha))))
/-! Decimal numerals: what the library's functions lay. -/
def dgs(u:Nat):Nat->List Int
  |0=> []
  |n+1=>dgs (u/10) n++ [((48+u%10:Nat):Int)]
theorem B0g: ∀(n u:Nat),(dgs u n).length=n
  |0,u=>rfl
  |n+1,u=>by simp[dgs,B0g n]
theorem G0l(u n:Nat):dgs u (n+2)=dgs (u/100) n++ [((48+u/10%10:Nat):Int),((48+u%10:Nat):Int)]:=by
  show dgs (u/10) (n+1)++_=_;show(dgs (u/10/10) n++_)++_=_;rw[dc,aB];rfl
theorem I0k: ∀(u:Nat),dgs u (Lib.nDigits u)=a0P (Lib.decDigits u):=by
  intro u
  induction u using Nat.strongRecOn with
  |_ u ih=>
    by_cases h:u<10;rw[Lib.nDigits_small h,Lib.decDigits,dif_pos h];simp only[dgs,a0P,ah,aA,aR];rw[UInt8.toNat_ofNat_of_lt' (by simp only[UInt8.size];omega),df h];rw[Lib.nDigits_big h,Lib.decDigits,dif_neg h];show dgs (u/10) (Lib.nDigits (u/10))++_=_;rw[ih (u/10) (by omega)];simp only[a0P,bM,ah,aA];rw[UInt8.toNat_ofNat_of_lt' (by simp only[UInt8.size];omega)]
theorem J0t(p:Nat)(h:p<100):(k1_.getD (p*2) 0).toNat=48+p/10:=by
  have: ∀q:Fin 100,(k1_.getD (q.val*2) 0).toNat=48+q.val/10:=by decide+kernel
  exact this ⟨p,h⟩
theorem J0s(p:Nat)(h:p<100):(k1_.getD (p*2+1) 0).toNat=48+p%10:=by
  have: ∀q:Fin 100,(k1_.getD (q.val*2+1) 0).toNat=48+q.val%10:=by decide+kernel
  exact this ⟨p,h⟩
theorem tm8(a:Nat):vB (a:Int) 100000000=((a%100000000:Nat):Int):=by rw[co (by omega)];omega
theorem tm4(a:Nat):vB (a:Int) 10000=((a%10000:Nat):Int):=by rw[co (by omega)];omega
theorem tm2(a:Nat):vB (a:Int) 100=((a%100:Nat):Int):=by rw[co (by omega)];omega
theorem td8(a:Nat):jD (a:Int) 100000000=((a/100000000:Nat):Int):=by rw[cq (by omega)];omega
theorem td4(a:Nat):jD (a:Int) 10000=((a/10000:Nat):Int):=by rw[cq (by omega)];omega
theorem td2(a:Nat):jD (a:Int) 100=((a/100:Nat):Int):=by rw[cq (by omega)];omega
theorem y0D (h:a<4294967296):IntKind.u32.wrap (a:Int)=(a:Int):=q0X (by omega) (by omega)
theorem I0S (h:a<18446744073709551616):IntKind.u64.wrap (a:Int)=(a:Int):=I0T (by omega) (by omega)
theorem F0q(a:Nat):(a:Int)*2=((a*2:Nat):Int):=by omega
theorem H0V:k1_.length=200:=by kernel_rfl
theorem J0w (h:a<200):inR (a:Int) k1_.length=true:=m0w (by rw[H0V];exact h)
theorem p0J (xs:List T)(j:Int)(y:T):(a0W xs j y).length=xs.length:=by simp[a0W]
theorem B0Q(x:Int):((0:Nat):Int)+x=x:=by simp
theorem z0l (p l:List T)(k:Nat)(v:T):a0W (p++l) (((p.length+k:Nat):Int)) v=p++l.set k v:=by
  unfold a0W;rw[aJ,List.set_append_right _ _ (by omega)];congr 2;omega
theorem J0y {o n:Nat} (h:o+j<n):inP o (j:Int) n=true:=by simp[inP];omega
theorem s0W {b:Nat} (h:b<=a)(h2:a<1000):jA .i64 ((a:Int)-(b:Int))=((a-b:Nat):Int):=by rw[w64 (by omega) (by omega)];omega
theorem E0I (h:1<=a)(h2:a<1000):jA .i64 ((a:Int)-1)=((a-1:Nat):Int):=s0W h h2
theorem E0H (h:2<=a)(h2:a<1000):jA .i64 ((a:Int)-2)=((a-2:Nat):Int):=s0W h h2
theorem H0a (h:3<=a)(h2:a<1000):jA .i64 ((a:Int)-3)=((a-3:Nat):Int):=s0W h h2
theorem G0Z (h:4<=a)(h2:a<1000):jA .i64 ((a:Int)-4)=((a-4:Nat):Int):=s0W h h2
theorem I0X (h:5<=a)(h2:a<1000):jA .i64 ((a:Int)-5)=((a-5:Nat):Int):=s0W h h2
theorem I0W (h:6<=a)(h2:a<1000):jA .i64 ((a:Int)-6)=((a-6:Nat):Int):=s0W h h2
theorem I0V (h:7<=a)(h2:a<1000):jA .i64 ((a:Int)-7)=((a-7:Nat):Int):=s0W h h2
theorem I0U (h:8<=a)(h2:a<1000):jA .i64 ((a:Int)-8)=((a-8:Nat):Int):=s0W h h2
def FB(R:List Int)(x0:Nat)(s:Int×Int×List Int):Prop:= ∃(v n:Nat) (p q:List Int),s=((v:Int),(n:Int),p++q)/\p.length=n/\v<10^n/\v<18446744073709551616/\p.length+q.length=24/\n<=x0/\dgs v n++q=R
theorem J0n {p:List Int} (h:p.length=k+8): ∃p' a b c d e f g i,p=p'++ [a,b,c,d,e,f,g,i]/\p'.length=k:=by
  refine⟨p.take k, ?_⟩;have h2:(p.drop k).length=8:=by simp;omega
  match hd:p.drop k,h2 with
  | [a,b,c,d,e,f,g,i],_=>exact⟨a,b,c,d,e,f,g,i,by rw[<-hd,aV],by simp;omega⟩
theorem K0F(u n:Nat):dgs u (n+8)=dgs (u/100000000) n++ [((48+u%100000000/10000/100/10:Nat):Int),((48+u%100000000/10000/100%10:Nat):Int),((48+u%100000000/10000%100/10:Nat):Int),((48+u%100000000/10000%100%10:Nat):Int),
    ((48+u%100000000%10000/100/10:Nat):Int),((48+u%100000000%10000/100%10:Nat):Int),((48+u%100000000%10000%100/10:Nat):Int),((48+u%100000000%10000%100%10:Nat):Int)]:=by
  rw[G0l,G0l,G0l,G0l];simp only[aB,aK,aR,dc];congr 1;congr 1;omega;congr 1;omega;congr 1;omega;congr 1;omega;congr 1;omega;congr 1;omega;congr 1;omega;congr 1;omega
theorem G0I(a:Nat):(a:Int)+1=((a+1:Nat):Int):=by omega
theorem A0x(p:Nat)(h:p<100):(((k1_.getD (((p*2:Nat):Int)).toNat 0).toNat:Nat):Int)=((48+p/10:Nat):Int):=by rw[aJ,J0t p h]
theorem A0w(p:Nat)(h:p<100):(((k1_.getD (((p*2+1:Nat):Int)).toNat 0).toNat:Nat):Int)=((48+p%10:Nat):Int):=by rw[aJ,J0s p h]
theorem w8c (h:a<256):IntKind.u8.wrap (a:Int)=(a:Int):=w8 (by omega) (by omega)
theorem J0M(a:Nat):(48:Int)+(a:Int)=((48+a:Nat):Int):=by omega
theorem J0z {n:Nat} (h:0<n):inP 0 0 n=true:=by simp[inP];omega
theorem J0x {n:Nat} {x:Int} (hx:x.toNat=n)(h:0<n):inR 0 x.toNat=true:=a0C (by omega) (by omega)
theorem E0S (p:List T)(k:Nat)(v:T):a0W p ((k:Nat):Int) v=p.set k v:=by simp[a0W]
def FA(R:List Int)(x0 b:Nat)(s:Int×Int×List Int):Prop:= ∃(v n:Nat) (p q:List Int),s=((n:Int),(v:Int),p++q)/\p.length=n/\v<4294967296/\v<10^n/\n<b/\p.length+q.length=24/\n<=x0/\dgs v n++q=R
theorem J0o {p:List Int} (h:p.length=k+4): ∃p' a b c d,p=p'++ [a,b,c,d]/\p'.length=k:=by
  refine⟨p.take k, ?_⟩;have h2:(p.drop k).length=4:=by simp;omega
  match hd:p.drop k,h2 with
  | [a,b,c,d],_=>exact⟨a,b,c,d,by rw[<-hd,aV],by simp;omega⟩
theorem J0p {p:List Int} (h:p.length=k+2): ∃p' a b,p=p'++ [a,b]/\p'.length=k:=by
  refine⟨p.take k, ?_⟩;have h2:(p.drop k).length=2:=by simp;omega
  match hd:p.drop k,h2 with
  | [a,b],_=>exact⟨a,b,by rw[<-hd,aV],by simp;omega⟩
theorem K0G(u n:Nat):dgs u (n+4)=dgs (u/10000) n++ [((48+u%10000/100/10:Nat):Int),((48+u%10000/100%10:Nat):Int),((48+u%10000%100/10:Nat):Int),((48+u%10000%100%10:Nat):Int)]:=by
  rw[G0l,G0l];simp only[aB,aK,aR,dc];congr 1;congr 1;omega;congr 1;omega;congr 1;omega;congr 1;omega
set_option maxHeartbeats 4000000 in
theorem zcast0:((0:Nat):Int)+0=((0:Nat):Int):=rfl
theorem J0B {n:Nat} {a:List Int} (hn:n<=24)(ha:a.length=24)(hv:v<10^n)(hv2:v<18446744073709551616):c0g (n:Int) (v:Int) a=qA (dgs v n++a.drop n):=by
  unfold c0g;have tn:((n:Int)).toNat=n:=by omega
  refine d0G (λs=>FB (dgs v n++a.drop n) n s/\s.2.1<8) (A0c (FB (dgs v n++a.drop n) n) (λs=>s.2.1.toNat) _ (λs hs=> ?_) _ _ ?_ ?_) ?_;obtain⟨w,k,p,q,rfl,hp,hw,hw2,hl,hk,hR⟩:=hs;by_cases h8:8<=k;left
  obtain⟨j,rfl⟩: ∃j,k=j+8:=⟨k-8,by omega⟩
  obtain⟨p,a0,a1,a2,a3,a4,a5,a6,a7,rfl,hp'⟩:=J0n hp;have hpl:p.length+8+q.length=24:=by simp at hl;omega
  refine⟨(((w/100000000:Nat):Int),((j:Nat):Int),p++([((48+w%100000000/10000/100/10:Nat):Int),((48+w%100000000/10000/100%10:Nat):Int),((48+w%100000000/10000%100/10:Nat):Int),((48+w%100000000/10000%100%10:Nat):Int),
    ((48+w%100000000%10000/100/10:Nat):Int),((48+w%100000000%10000/100%10:Nat):Int),((48+w%100000000%10000%100/10:Nat):Int),((48+w%100000000%10000%100%10:Nat):Int)]++q)), ?_,⟨w/100000000,j,p,_,rfl,hp', ?_,by omega, ?_,by omega, ?_⟩,by simp only[aJ];omega⟩
  simp only[];have d8:vA (((j+8:Nat):Int)≥8)=true:=dT (by omega);rw[d8];have hlen0:(p++ [a0,a1,a2,a3,a4,a5,a6,a7]++q).length=24:=by simp;omega
  have e1:j+8-1=p.length+7:=by omega
  have e2:j+8-2=p.length+6:=by omega
  have e3:j+8-3=p.length+5:=by omega
  have e4:j+8-4=p.length+4:=by omega
  have e5:j+8-5=p.length+3:=by omega
  have e6:j+8-6=p.length+2:=by omega
  have e7:j+8-7=p.length+1:=by omega
  have e8:j+8-8=p.length+0:=by omega
  simp(disch:=omega) only[tm8,tm4,tm2,td8,td4,td2,y0D,I0S,F0q,G0I,J0w,E0I,E0H,H0a,G0Z,I0X,I0W,I0V,I0U,e1,e2,e3,e4,e5,e6,e7,e8,tn,m0w,qC];simp(disch:=omega) only[p0J,hlen0,J0y,qC,A0x,A0w,B0Q];simp only[aB,z0l,aK,aR,cX,cY]
  try simp only[cK,hp']
  rw[cQ]at hw;exact cP (by rw[ck];exact hw);simp;omega;rw[<-hR,K0F,aB];right;refine⟨((w:Int),(k:Int),p++q), ?_,⟨w,k,p,q,rfl,hp,hw,hw2,hl,hk,hR⟩,by simp only;omega⟩;rw[dF (by simp only;omega)];rfl;exact⟨v,n,a.take n,a.drop n,by rw[aV,tn],by simp;omega,hv,hv2,by simp;omega,am _,rfl⟩;simp only[aJ];exact G0C (by omega);rintro s ⟨⟨w,k,p,q,rfl,hp,hw,hw2,hl,hk,hR⟩,h8⟩;simp only at h8;have hk8:k<8:=by omega
  have hw7:w<10000000:=aX hw (az (cA (by decide) (show k<=7 by omega)) (by decide));simp only;refine d0G (FA (dgs v n++a.drop n) n 4) ?_ (λs hs=> ?_);by_cases h4:4<=k
  obtain⟨j,rfl⟩: ∃j,k=j+4:=⟨k-4,by omega⟩
  obtain⟨p,a0,a1,a2,a3,rfl,hp'⟩:=J0o hp;have hpl:p.length+4+q.length=24:=by simp at hl;omega
  refine⟨((j:Int),((w/10000:Nat):Int),p++([((48+w%10000/100/10:Nat):Int),((48+w%10000/100%10:Nat):Int),((48+w%10000%100/10:Nat):Int),((48+w%10000%100%10:Nat):Int)]++q)), ?_,⟨w/10000,j,p,_,rfl,hp',by omega, ?_,by omega, ?_,by omega, ?_⟩⟩;rw[dT (show((j+4:Nat):Int)≥4 by omega)];have hlen0:(p++ [a0,a1,a2,a3]++q).length=24:=by simp;omega
  have e1:j+4-1=p.length+3:=by omega
  have e2:j+4-2=p.length+2:=by omega
  have e3:j+4-3=p.length+1:=by omega
  have e4:j+4-4=p.length+0:=by omega
  simp(disch:=omega) only[tm4,tm2,td4,td2,y0D,F0q,G0I,J0w,E0I,E0H,H0a,G0Z,e1,e2,e3,e4,tn,m0w,qC];simp(disch:=omega) only[p0J,hlen0,J0y,qC,A0x,A0w,B0Q];simp only[aB,z0l,aK,aR,cX,cY]
  try simp only[cK,hp']
  rw[cQ]at hw;exact cP (by rw[ck];exact hw);simp;omega;rw[<-hR,K0G,aB];refine⟨((k:Int),(w:Int),p++q), ?_,⟨w,k,p,q,rfl,hp,by omega,hw,by omega,hl,hk,hR⟩⟩;rw[dF (by omega),y0D (by omega)];rfl;obtain⟨w,k,p,q,rfl,hp,hw7,hw,hk4,hl,hk,hR⟩:=hs;simp only;refine d0G (FA (dgs v n++a.drop n) n 2) ?_ (λs hs=> ?_);by_cases h2:2<=k
  obtain⟨j,rfl⟩: ∃j,k=j+2:=⟨k-2,by omega⟩
  obtain⟨p,a0,a1,rfl,hp'⟩:=J0p hp;have hpl:p.length+2+q.length=24:=by simp at hl;omega
  refine⟨((j:Int),((w/100:Nat):Int),p++([((48+w%100/10:Nat):Int),((48+w%100%10:Nat):Int)]++q)), ?_,⟨w/100,j,p,_,rfl,hp',by omega, ?_,by omega, ?_,by omega, ?_⟩⟩;rw[dT (show((j+2:Nat):Int)≥2 by omega)];have hlen0:(p++ [a0,a1]++q).length=24:=by simp;omega
  have e1:j+2-1=p.length+1:=by omega
  have e2:j+2-2=p.length+0:=by omega
  simp(disch:=omega) only[tm2,td2,y0D,F0q,G0I,J0w,E0I,E0H,e1,e2,tn,m0w,qC];simp(disch:=omega) only[p0J,hlen0,J0y,qC,A0x,A0w,B0Q];simp only[aB,z0l,aK,aR,cX,cY]
  try simp only[cK,hp']
  rw[cQ]at hw;exact cP (by rw[ck];exact hw);simp;omega;rw[<-hR,G0l,aB];congr 2;congr 1;omega;congr 1;omega;refine⟨((k:Int),(w:Int),p++q), ?_,⟨w,k,p,q,rfl,hp,by omega,hw,by omega,hl,hk,hR⟩⟩;rw[dF (by omega)];rfl;obtain⟨w,k,p,q,rfl,hp,hw7,hw,hk2,hl,hk,hR⟩:=hs;simp only;rw[<-hR];by_cases h1:1<=k;obtain rfl:k=1:=by omega
  obtain⟨a0,rfl⟩:=List.length_eq_one_iff.1 hp;have hw10:w<10:=by simpa using hw
  rw[dT (by omega),J0x tn (by omega),J0z (by simp)];simp only[qC,zcast0,E0S,aK,aR,cY,dgs,J0M];rw[y0D (by omega),w8c (by omega),df hw10];obtain rfl:k=0:=by omega
  obtain rfl:=aq hp;rw[dF (by omega)];rfl
theorem J0r: ∀q:Fin 256,(k2_.getD q.val 0).toNat=Lib.bitLen q.val:=by decide+kernel
theorem H0U:k2_.length=256:=by kernel_rfl
def J0O(u b m:Nat)(s:Int×Int):Prop:= ∃x k:Nat,s=((x:Int),(k:Int))/\x<b/\x<18446744073709551616/\Lib.bitLen u=k+Lib.bitLen x/\k<=m
theorem fd(a b:Nat):wF (a:Int) (b:Int)=((a/b:Nat):Int):=by rw[cv _ (by omega)];rfl
theorem D0a (h:u<18446744073709551616):j0p (u:Int)=qA (Lib.bitLen u:Int):=by
  unfold j0p;refine d0G (J0O u 4294967296 32) ?_ (λs hs=> ?_);by_cases c:4294967296<=u;refine⟨_,by rw[dT (by omega)];rfl,u/4294967296,32, ?_,by omega,by omega,Lib.bitLen_shift32 u c h,by omega⟩;rw[show(4294967296:Int)=((4294967296:Nat):Int)from rfl,fd];rfl;exact⟨((u:Int),0),by rw[dF (by omega)];rfl,u,0,rfl,by omega,h,by omega,by omega⟩;obtain⟨x,k,rfl,hx,hx2,hb,hk⟩:=hs;simp only;refine d0G (J0O u 65536 48) ?_ (λs hs=> ?_);by_cases c:65536<=x;refine⟨_,by rw[dT (by omega)];rfl,x/65536,k+16, ?_,by omega,by omega,by rw[hb,Lib.bitLen_shift16 x c hx2];omega,by omega⟩;rw[show(65536:Int)=((65536:Nat):Int)from rfl,fd,w64 (by omega) (by omega)];rfl;exact⟨((x:Int),(k:Int)),by rw[dF (by omega)];rfl,x,k,rfl,by omega,hx2,hb,by omega⟩;obtain⟨x,k,rfl,hx,hx2,hb,hk⟩:=hs;simp only;refine d0G (J0O u 256 56) ?_ (λs hs=> ?_);by_cases c:256<=x;refine⟨_,by rw[dT (by omega)];rfl,x/256,k+8, ?_,by omega,by omega,by rw[hb,Lib.bitLen_shift8 x c hx2];omega,by omega⟩;rw[show(256:Int)=((256:Nat):Int)from rfl,fd,w64 (by omega) (by omega)];rfl;exact⟨((x:Int),(k:Int)),by rw[dF (by omega)];rfl,x,k,rfl,by omega,hx2,hb,by omega⟩;obtain⟨x,k,rfl,hx,hx2,hb,hk⟩:=hs;simp only;have h8:=Lib.bitLen_le8 ⟨x,hx⟩;simp only at h8;rw[w8c hx,m0w (by rw[H0U];omega),aJ,J0r ⟨x,hx⟩];simp only[qC];rw[w64 (n:=(Lib.bitLen x:Int)) (by omega) (by omega),w64 (by omega) (by omega),hb];rfl
theorem J0q: ∀q:Fin 20,nth k3_ (q.val:Int)=((10^q.val:Nat):Int):=by decide+kernel
theorem numDigits_eq (h1:1<=u)(h:u<18446744073709551616):d0i (u:Int)=qA (Lib.nDigits u:Int):=by
  unfold d0i;rw[D0a h];have hb:Lib.bitLen u<=64:=Lib.bitLen_le u 64 (by omega) h;obtain⟨e1,e2⟩:=Lib.numDigits_eq u h1 h;simp only[ab];unfold e0c
  have e3:wF (jA .i64 ((Lib.bitLen u:Int)*78913)) 262144=(Lib.l10 (Lib.bitLen u):Int):=by
    rw[w64 (by omega) (by omega),show(262144:Int)=((262144:Nat):Int)from rfl,show(Lib.bitLen u:Int)*78913=((Lib.bitLen u*78913:Nat):Int) by omega,fd];rfl
  rw[e3];simp only[ab];rw[m0w (by omega),J0q ⟨Lib.l10 (Lib.bitLen u),by omega⟩];simp only[qC];rw[<-e1];unfold g0O;by_cases c:10^Lib.l10 (Lib.bitLen u)<=u;rw[dT (by omega),yB c];simp only[qC,ab];rw[w64 (by omega) (by omega)];rfl;rw[dF (by omega),oB c];simp only[vC,ab];rw[w64 (by omega) (by omega)];rfl
theorem H0g (h:u<100):e0b (u:Int)=qA (Lib.decDigits u):=by
  have: ∀q:Fin 100,e0b (q.val:Int)=qA (Lib.decDigits q.val):=by
    intro q;have e: ∀q:Fin 100,e0b (q.val:Int)=qA (if q.val<10 then [zG (48+q.val)]else [zG (48+q.val/10),zG (48+q.val%10)]):=by decide+kernel
    rw[e q];split;rename_i c;rw[Lib.decDigits_one c];rename_i c;rw[Lib.decDigits_two c q.isLt]
  exact this ⟨u,h⟩
theorem r0z {x0:List Int} (hu:u<18446744073709551616)(hl:x0.length<=4000000000):c0U x0 (u:Int) 10=qA (x0++a0P (Lib.decDigits u)):=by
  have hd:=Lib.nDigits_le20 u hu;unfold c0U;rw[dT rfl];simp only[qC];by_cases c:u<100;rw[dT (by omega),w64 (by omega) (by omega),H0g c];simp only[qC,ab];rw[a0z (by rw[Lib.decDigits_length];omega)];rfl;rw[dF (by omega),numDigits_eq (by omega) hu];simp only[vC,ab];rw[i0k (by omega) (by omega) (by omega)];simp only[qC];rw[J0B (by omega) rfl (Lib.lt_pow_nDigits u) hu];simp only[ab];rw[i0k (by omega) (by omega) (by simp[B0g,rep];omega),C0y (by omega)];simp only[Bool.and_self,qC];congr 2;rw[B0Q,cut,I0k];simp only[aJ,Int.toNat_zero,List.drop_zero];rw[bZ (by simp[a0P,Lib.decDigits_length])];exact List.take_of_length_le (by simp[a0P,Lib.decDigits_length])
theorem y0p {x0:List Int} (h0: -9223372036854775808<=n)(h1:n<=9223372036854775807)(hl:x0.length<=3000000000):b0V x0 n 10=qA (x0++a0P (Lib.itoa n)):=by
  unfold b0V c0V;by_cases c:n<0;rw[dT c,a0z (by simp;omega)];simp only[qC,ab]
  have e:jA .u64 (0-jA .u64 n)=((n.natAbs:Nat):Int):=by
    unfold jA;simp only[qF,jG,ca,aI,if_false];omega
  rw[e,r0z (by omega) (by simp;omega)];simp only[ab];unfold Lib.itoa;rw[yB c,aB];rfl;rw[dF c];simp only[vC,ab];have e:jA .u64 n=((n.toNat:Nat):Int):=by rw[I0T (by omega) (by omega)];omega
  rw[e,r0z (by omega) (by omega)];simp only[ab];unfold Lib.itoa;rw[oB c]
/-! What is read of rules, classes, signs and affixes: it answers. -/
theorem G0E {x:List Int} (hn:inI n)(hl:x.length<=2999999000):Tot (b0V x n 10) (λr=>r.length<=x.length+21):=by
  rw[y0p hn.1 hn.2 (by omega)];have:=Lib.itoa_length_le n hn.1 hn.2;exact tR (by simp[a0P];omega)
theorem H0l {x:List Int} {r:a0Z} (hr:z0x r)(hx:x.length<=2950000000):Tot (f0m x r) (λo=>o.length<=x.length+18100):=by
  obtain⟨h1,h2,h3⟩:=hr;unfold f0m;refine tY (a0z (by simp;omega)) (tB (p:=λo:List Int=>o.length<=x.length+25) ?_ (λa ha=>tB (p:=λo:List Int=>o.length<=x.length+29) ?_ (λc hc=>tB (p:=λo:List Int=>o.length<=x.length+18100) ?_ (λ_ h=>tR h))));refine tI (λ_=>tY (a0z (by simp;omega)) (tB (G0E h1 (by simp[a0P];omega)) (λa ha=>tR (by simp[a0P]at ha;omega)))) (λ_=>tR (by simp));refine tI (λ_=>tY (a0z (by simp;omega)) (tR (by simp[a0P];omega))) (λ_=>tY (a0z (by simp;omega)) (tR (by simp[a0P];omega)));refine tW (λs:Int×List Int=>s.1) r.R_.length (λs=>(s.2.length:Int)<=x.length+29+45*s.1) (by omega) ⟨by simp only;omega,ay _,by simp⟩ (λs hs g0 g1=> ?_) (λs hs e=> ?_);obtain⟨m1,m2⟩:=h3 _ (g0B g0 g1);refine tY (dT g1) (tB (p:=λo:List Int=>(o.length:Int)<=s.2.length+45) (tY (a0C g0 g1) (tB (p:=λo:List Int=>(o.length:Int)<=s.2.length+1) (tI (λ_=>tY (a0z (by simp;omega)) (tR (by simp))) (λ_=>tR (by omega))) (λa ha=>tB (G0E m1 (by omega)) (λc hc=>tI (λ_=>tY (a0z (by simp;omega)) (tB (G0E m2 (by simp[a0P];omega)) (λd hd=>tR (by simp[a0P]at hd;omega)))) (λ_=>tR (by omega)))))) (λa ha=>tR ⟨?_,w64 (by omega) (by omega)⟩));rw[w64 (n:=s.1+1) (by omega) (by omega)];simp only;omega;refine tN (dF (by omega)) (tR (by omega))
theorem E0V {c:List (List a0Z)} (hc:o0G c):Tot (k0H c) (λ_=>True):=by
  unfold k0H;have hn:=hc.1;refine zC (tW (λs:Int×List Int=>s.1) c.length (λs=>(s.2.length:Int)<=7242000*s.1) (by omega) ⟨by simp,ay _,by simp⟩ (λs hs g0 g1=> ?_) (λs hs e=>zE e trivial)) (λ_ _=>tR trivial);obtain⟨m1,m2⟩:=hc.2 _ (g0B g0 g1);refine tY (dT g1) (tB (p:=λo:List Int=>(o.length:Int)<=s.2.length+7242000) (tY (a0C g0 g1) (tW (λu:Int×List Int=>u.1) (nth c s.1).length (λu=>(u.2.length:Int)<=s.2.length+18105*u.1) (by omega) ⟨by simp,ay _,by simp⟩ (λu hu f0 f1=> ?_) (λu hu e=>tN (dF (by omega)) (tR (by omega))))) (λo ho=>tR ⟨?_,w64 (by omega) (by omega)⟩))
  · refine tY (dT f1) (tB (p:=λo:List Int=>(o.length:Int)<=u.2.length+18105) (tY (a0C f0 f1) (tB (p:=λo:List Int=>(o.length:Int)<=u.2.length+5) (tI (λ_=>tR (by omega)) (λ_=>tI (λ_=>tY (a0z (by simp;omega)) (tR (by simp[a0P]<;>omega))) (λ_=>tY (a0z (by simp;omega)) (tR (by simp[a0P]<;>omega))))) (λa ha=>tB (H0l (m2 _ (g0B f0 f1)) (by omega)) (λd hd=>tR (by omega))))) (λo ho=>tR ⟨?_,w64 (by omega) (by omega)⟩))
    rw[w64 (n:=u.1+1) (by omega) (by omega)];simp only;omega
  rw[w64 (n:=s.1+1) (by omega) (by omega)];simp only;omega
theorem s0B {x y:List T} {k:Int->Option (Int⊕(Unit⊕Bool))} (hx:x.length<=4294967296)(hk: ∀s:Int,0<=s->s<x.length->x.length=y.length->Tot (k s) (λo=>o= .inl (jA .i64 (s+1))\/ ∃b,o= .inr (.inr b))):
    Tot (bif vA (¬(x.length:Int)=(y.length:Int))then qA oA else zA (a0B (λs=>bif vA (s<(x.length:Int))then k s else qA (.inr (.inl ()))) big 0) (a0x fun(_:Unit)=>qA yA)) (λ_=>True):=by
  refine tI (λ_=>tR trivial) (λh=>tJ (tW (λs:Int=>s) x.length (λ_=>True) hx ⟨trivial,ay _,by simp⟩ (λs _ g0 g1=>tY (dT g1) ?_) (λs _ e=>tN (dF (by omega)) (tR (tR trivial)))));have h:=dFF h;refine(hk s g0 g1 (by omega)).mono (λo ho=> ?_);rcases ho with rfl|⟨b,rfl⟩;exact⟨trivial,w64 (by omega) (by omega)⟩;trivial
theorem J0E {x y:List d0x} (hx:x.length<=4294967296):Tot (d0z x y) (λ_=>True):=by
  unfold d0z;exact s0B hx (λs g0 g1 e=>tY (a0C g0 g1) (tY (a0C g0 (by omega)) (tI (λ_=>tR (.inr ⟨_,rfl⟩)) (λ_=>tR (.inl rfl)))))
theorem I0g {x y:List Int} (hx:x.length<=4294967296):Tot (e0Z x y) (λ_=>True):=by
  unfold e0Z;exact s0B hx (λs g0 g1 e=>tY (a0C g0 g1) (tY (a0C g0 (by omega)) (tI (λ_=>tR (.inr ⟨_,rfl⟩)) (λ_=>tR (.inl rfl)))))
theorem E0W {c d:List (List a0Z)} (hc:o0G c):Tot (k0I c d) (λ_=>True):=by
  unfold k0I j0Y;refine tB (s0B (az hc.1 (by decide)) (λs g0 g1 e=>tY (a0C g0 g1) (tY (a0C g0 (by omega)) (zC ?_ (λ_ _=>tI (λ_=>tR (.inr ⟨_,rfl⟩)) (λ_=>tR (.inl rfl))))))) (λ_ _=>tR trivial);have hm:=hc.2 _ (g0B g0 g1);unfold j0B f0H;refine tB (s0B (az hm.1 (by decide)) (λu f0 f1 e=>tY (a0C f0 f1) (tY (a0C f0 (by omega)) (zC ?_ (λ_ _=>tI (λ_=>tR (.inr ⟨_,rfl⟩)) (λ_=>tR (.inl rfl))))))) (λ_ _=>tR trivial);have hr:=(hm.2 _ (g0B f0 f1)).2.1;unfold i0e;refine zC (tI (λ_=>tI (λ_=>tI (λ_=>tB (J0E (az hr (by decide))) (λ_ _=>tR trivial)) (λ_=>tR trivial)) (λ_=>tR trivial)) (λ_=>tR trivial)) (λ_ _=>tR trivial)
theorem C0x {c:List (List a0Z)} (hc:o0G c):Tot (i0U c) (λ_=>True):=by
  unfold i0U;exact tB (E0V hc) (λt _=>tB (w0v t) (λd _=>zC (tI (λ_=>tB (E0W hc) (λ_ _=>tR trivial)) (λ_=>tR trivial)) (λ_ _=>tR trivial)))
theorem F0f {l:List d0H} (hl:l.length<=60000):Tot (k0K l) (λ_=>True):=by
  unfold k0K;refine tJ (tW (λs:Int×Int×List k0z=>s.2.1) l.length (λs=>(s.2.2.length:Int)<=s.2.1) (by omega) ⟨by simp,ay _,by simp⟩ (λs hs g0 g1=>tY (dT g1) ?_) (λs hs e=>tN (dF (by omega)) (tR (tR trivial))));have e1:jA .i64 (s.2.1+1)=s.2.1+1:=w64 (by omega) (by omega);rw[e1];refine tJ (tY (a0C g0 g1) ?_);refine zC ?_ (λy _=> ?_);unfold l0F h0f;exact zC (tI (λ_=>tR trivial) (λ_=>tR trivial)) (λ_ _=>tR trivial);refine tI (λ_=>tR trivial) (λ_=> ?_);refine tB (w0v _) (λc hc=> ?_);refine tJ (zC (tI (λ_=>tR trivial) (λ_=>tB (C0x hc) (λ_ _=>tR trivial))) (λ_ _=> ?_));refine tI (λ_=>tR trivial) (λ_=>tR (show Tot _ _ from ?_));exact tY (a0z (by simp;omega)) (tR (show Tot _ _ from tR ⟨by simp;omega,rfl⟩))
theorem u0R(x:Int):Tot (d0V x) (λ_=>True):=by
  unfold d0V;refine tJ (tW (λs:Int=>s) 20 (λ_=>True) (by decide) ⟨trivial,ay _,by decide⟩ (λs _ g0 g1=>tY (dT (by omega)) (tJ (tY (a0C g0 g1) (zC (tI (λ_=>tR trivial) (λ_=>tR trivial)) (λ_ _=>tI (λ_=>tR trivial) (λ_=>tR (show Tot _ _ from tR ⟨trivial,w64 (by omega) (by omega)⟩))))))) (λs _ e=>tN (dF (by omega)) (tR (tR trivial))))
theorem J0v(x:Int):Tot (o0t x) (λ_=>True):=by
  unfold o0t;refine zC ?_ (λ_ _=>tR trivial)
  repeat' (first|exact tR trivial|refine tI (λ_=> ?_) (λ_=> ?_))
theorem y0V(x:Int):Tot (a0H x o0P) (λr=>r.2=o0P):=by
  rw[p0B (List.Perm.refl _)];exact tB (J0v x) (λ_ _=>tI (λ_=>tR rfl) (λ_=>tI (λ_=>tR rfl) (λ_=>tI (λ_=>tR rfl) (λ_=>tB (u0R x) (λ_ _=>tI (λ_=>tR rfl) (λ_=>tR rfl))))))
theorem I0B(x:Int):Tot (j0R x) (λ_=>True):=by
  unfold j0R;refine tB (p:=λy=>y=o0P) ⟨_,rfl,rfl⟩ (λy hy=> ?_);subst hy;exact tB (y0V x) (λ_ _=>tR trivial)
theorem G0z {l:List Int} (hl:l.length<=4294967296):Tot (j0j l) (λ_=>True):=by
  unfold j0j;refine tB (p:=λy=>y=o0P) ⟨_,rfl,rfl⟩ (λy hy=> ?_);subst hy
  refine tJ (tW (λs:Int×List (a0q×Int)=>s.1) l.length (λs=>s.2=o0P) hl ⟨rfl,ay _,by simp⟩ (λs hs g0 g1=>tY (dT g1) (tJ (tY (a0C g0 g1) (by
    rw[hs]
    exact tB (y0V _) (λy hy=>zC (by repeat' (first|exact tR trivial|refine tI (λ_=> ?_) (λ_=> ?_))) (λ_ _=>tI (λ_=>tR (show Tot _ _ from tR ⟨hy,w64 (by omega) (by omega)⟩)) (λ_=>tR trivial))))))) (λs _ e=>tN (dF (by omega)) (tR (tR trivial))))
theorem E0L {l:List Int} (hl:l.length<=4294967296):Tot (h0F l) (λ_=>True):=by
  unfold h0F;refine tJ (tW (λs:Int×Int=>s.2) l.length (λ_=>True) hl ⟨trivial,ay _,by simp⟩ (λs _ g0 g1=>tY (dT g1) (tJ (tY (a0C g0 g1) ?_))) (λs _ e=>tN (dF (by omega)) (tR (tR trivial))));have e:jA .i64 (s.2+1)=s.2+1:=w64 (by omega) (by omega);have two: ∀b c:Bool,Tot (bif b then qA c else qA oA) (λ_=>True):=λb c=>tI (λ_=>tR trivial) (λ_=>tR trivial)
  exact tB (two _ _) (λ_ _=>tI (λ_=>tR trivial) (λ_=>tB (two _ _) (λ_ _=>tI (λ_=>tR (show Tot _ _ from tR ⟨trivial,e⟩)) (λ_=>tB (two _ _) (λ_ _=>tI (λ_=>tR trivial) (λ_=>tI (λ_=>tR (show Tot _ _ from tR ⟨trivial,e⟩)) (λ_=>tR (show Tot _ _ from tR ⟨trivial,e⟩))))))))
theorem E0F(s:e0r)(x:Int):Tot (f0T s x) (λ_=>True):=by
  unfold f0T;exact zC (tI (λ_=>tR trivial) (λ_=>tI (λ_=>tR trivial) (λ_=>tR trivial))) (λ_ _=>tR trivial)
theorem z0o {l:List Int} (hl:l.length<=4294967296):Tot (j0v s l) (λ_=>True):=by
  unfold j0v;refine tJ (tW (λs:Int=>s) l.length (λ_=>True) hl ⟨trivial,ay _,by simp⟩ (λi _ g0 g1=>tY (dT g1) (tJ (tY (a0C g0 g1) (tB (u0R _) (λ_ _=>zC (tI (λ_=>tR trivial) (λ_=>tB (E0F _ _) (λ_ _=>tR trivial))) (λ_ _=>tI (λ_=>tR trivial) (λ_=>tR (show Tot _ _ from tR ⟨trivial,w64 (by omega) (by omega)⟩)))))))) (λi _ e=>tN (dF (by omega)) (tR (show Tot _ _ from ?_))));exact zC (tB (G0z hl) (λ_ _=>tI (λ_=>tB (E0L hl) (λ_ _=>tR trivial)) (λ_=>tR trivial))) (λ_ _=>tR trivial)
theorem G0v {l:List Int} (hl:l.length<=4294967296):Tot (c0N l) (λr=>r.length<=l.length):=by
  unfold c0N;refine tI (λh=> ?_) (λ_=>tY (a0z hl) (tR (am _)));obtain rfl:=aq (af h);exact⟨[],by show agree (qA []) (qA [])=_;simp[agree],by simp⟩
theorem x0g {l:List a0d} (hl:l.length<=4294967296):Tot (f0j l) (λr=>r.length<=l.length):=by
  unfold f0j;refine tI (λh=> ?_) (λ_=>tY (a0z hl) (tR (am _)));obtain rfl:=aq (af h);exact⟨[],by show agree (qA []) (qA [])=_;simp[agree],by simp⟩
def B0O(a:h0N):Prop:=a.z_.length<=1000000/\a.w_.length<=1000000
theorem G0J {a:h0N} (ha:B0O a):Tot (f0l s a) (λ_=>True):=by
  unfold f0l;obtain⟨h1,h2⟩:=ha;exact tB (G0v (by omega)) (λc hc=>tY (a0z (by omega)) (tB (z0o (by simp;omega)) (λ_ _=>tR trivial)))
theorem w0f {a c:h0N} (ha:B0O a):Tot (b0i a c) (λ_=>True):=by
  unfold b0i;exact zC (tB (I0g (az ha.1 (by decide))) (λ_ _=>tI (λ_=>tB (I0g (az ha.2 (by decide))) (λ_ _=>tR trivial)) (λ_=>tR trivial))) (λ_ _=>tR trivial)
theorem s0F {l:List a0d} {k:Int} (hl:l.length<=4294967296):Tot (d0Y l k) (λ_=>True):=by
  unfold d0Y;refine zC (tW (λs:Int×Int=>s.2) l.length (λ_=>True) hl ⟨trivial,ay _,by simp⟩ (λs _ g0 g1=>tY (dT g1) (zC (tY (a0C g0 g1) (tI (λ_=>tR trivial) (λ_=>tR trivial))) (λ_ _=>tR ⟨trivial,w64 (by omega) (by omega)⟩))) (λs _ e=>zE e trivial)) (λ_ _=>tR trivial)
theorem H0Q {l put:List a0d} (hl:l.length<=1000)(hp:put.length<=1):Tot (d0e l put) (λr=>r.length<=1001):=by
  unfold d0e;exact tB (x0g (by omega)) (λc hc=>tY (a0z (by omega)) (tR (by simp;omega)))
theorem C0q (l:List T)(i:Int)(x:T):(a0W l i x).length=l.length:=by simp[a0W]
theorem w0n {l:List a0d} (hl:l.length<=1000):Tot (f0k l) (λr=>r.length<=1001):=by
  unfold f0k;refine tB (x0g (by omega)) (λc hc=>tB (p:=λr:List a0d=>r.length<=1001) (tW (λs:Int×List a0d=>s.1) c.length (λs=>s.2.length=c.length) (by omega) ⟨rfl,ay _,by simp⟩ (λs hs g0 g1=>tY (dT g1) ?_) (λs hs e=>tN (dF (by omega)) (tR (by simp only;omega)))) (λ_ h=>tR h));have hi:inR s.1 s.2.length=true:=a0C g0 (by omega);refine tB (p:=λr:List a0d=>r.length=c.length) (tY hi (tY hi (tI (λ_=>tY hi (tY hi (tR (by rw[C0q];exact hs)))) (λ_=>tR hs)))) (λr hr=>tR ⟨hr,w64 (by omega) (by omega)⟩)
theorem C0o (hp:q0J p 1000)(s:Int):Tot (g0y p s) (λr=>r.1.length<=1001/\r.2.length<=1001):=by
  unfold g0y;obtain⟨p1,p2,p3,p4⟩:=hp;have c1:([]:List a0d).length<=1:=by simp
  have c2: ∀t:a0d,([t]:List a0d).length<=1:=λt=>by simp
  have two: ∀ {x y:List a0d} {a:List a0d},x.length<=1000->y.length<=1000->a.length<=1->Tot (zA (d0e x a) λy0=>zA (d0e y []) λy1=>qA (y0,y1)) (λr=>r.1.length<=1001/\r.2.length<=1001):=λhx hy ha=>tB (H0Q hx ha) (λa ha=>tB (H0Q hy c1) (λc hc=>tR ⟨ha,hc⟩))
  refine tI (λ_=>tI (λ_=>two p3 p4 c1) (λ_=>two p1 p2 (c2 _))) (λ_=>tI (λ_=> ?_) (λ_=>two p1 p2 c1));refine tJ (zC (tI (λ_=>tB (s0F (by omega)) (λ_ _=>tB (s0F (by omega)) (λ_ _=>tR trivial))) (λ_=>tR trivial)) (λ_ _=>tI (λ_=>tB (w0n p3) (λa ha=>tB (w0n p4) (λc hc=>tR ⟨ha,hc⟩))) (λ_=>tR (two p1 p2 (c2 _)))))
theorem t0s {l:List a0d} (hl:l.length<=1001)(hc:cur.length<=900):Tot (e0j l s cur) (λr=>r.length<=1000000):=by
  unfold e0j;refine tB (show Tot (e0i s cur) (λ_=>True)from tR trivial) (λ_ _=>tB (p:=λr:List Int=>r.length<=1000000) (tW (λs:Int×List Int=>s.1) l.length (λs=>(s.2.length:Int)<=900*s.1) (by omega) ⟨by simp,ay _,by simp⟩ (λu hu g0 g1=>tY (dT g1) ?_) (λu hu e=>tN (dF (by omega)) (tR (by simp only;omega)))) (λ_ h=>tR h));have one: ∀x:Int,Tot (bif room (u.2.length+([x]:List Int).length)then qA (u.2++ [x])else none) (λr:List Int=>(r.length:Int)<=u.2.length+900):=λx=>tY (a0z (by simp;omega)) (tR (by simp<;>omega))
  refine tB (p:=λr:List Int=>(r.length:Int)<=u.2.length+900) (tY (a0C g0 g1) (tI (λ_=>one _) (λ_=>tI (λ_=>one _) (λ_=>tI (λ_=>one _) (λ_=>tI (λ_=>one _) (λ_=>tI (λ_=>tY (a0z (by omega)) (tR (by simp;omega))) (λ_=>tY (a0z (by simp;omega)) (tR (by simp;omega))))))))) (λr hr=>tR ⟨?_,w64 (by omega) (by omega)⟩);rw[w64 (n:=u.1+1) (by omega) (by omega)];simp only;omega
theorem D0J {g:Int} (hp:q0J p 1000)(hc:cur.length<=900):Tot (h0d p s g cur) B0O:=by
  unfold h0d;exact tB (C0o hp g) (λa ha=>tB (t0s ha.1 hc) (λc hc1=>tB (t0s ha.2 hc) (λd hd=>tR ⟨hc1,hd⟩)))
/-! The check of a locale: it answers. -/
theorem s0e {a c:List a0d} {s m:Int} (ha:a.length<=1000)(hc:c.length<=1000):Tot (f0X a c s m) (λ_=>True):=by
  have one: ∀k:Int,Tot (c0z k a c) (λ_=>True):=λk=>by
    unfold c0z;exact tB (s0F (by omega)) (λ_ _=>tB (s0F (by omega)) (λ_ _=>tR trivial))
  unfold f0X;refine zC (tI (λ_=>tR trivial) (λ_=>tI (λ_=>tR trivial) (λ_=>tR trivial))) (λ_ _=>zC (tB (one _) (λ_ _=>tI (λ_=>tB (one _) (λ_ _=>tI (λ_=>tB (one _) (λ_ _=>tI (λ_=>tB (one _) (λ_ _=>tR trivial)) (λ_=>tR trivial))) (λ_=>tR trivial))) (λ_=>tR trivial))) (λ_ _=>tR trivial))
def I0Q(a:s0S):Prop:=B0O a.f_/\B0O a.e_/\B0O a.h_
theorem p0q (hp:q0J p 1000)(hc:cur.length<=900):Tot (e0f s p cur) I0Q:=by
  unfold e0f;exact tB (D0J hp hc) (λa ha=>tB (D0J hp hc) (λc hc1=>tB (D0J hp hc) (λd hd=>tR ⟨ha,hc1,hd⟩)))
theorem y0N (hp:q0J p 1000)(hc:cur.length<=900):Tot (c0W s p cur) (λ_=>True):=by
  unfold c0W;refine tB (p0q hp hc) (λa ha=>tJ (tL (λi:Int=>0<=i/\i<=3) (λi=>(3-i).toNat) (by omega) (by decide) (λi hi=> ?_)));have st: ∀ {a:h0N} (k:Int),B0O a->0<=k/\k<3/\i=k->jA .i64 (k+1)=k+1->Tot (zA (f0l s a) λy1=>bif !y1 then qA (.inr (.inr oA))else qA (.inl (jA .i64 (k+1)))) (λx:Int⊕(Unit⊕Bool)=>match x with| .inl s'=>(0<=s'/\s'<=3)/\(3-s').toNat<(3-i).toNat| .inr o=>True):=λ{a} k ha hk e=>tB (G0J ha) (λ_ _=>tI (λ_=>tR trivial) (λ_=>tR (by rw[e];simp only;omega)))
  have fin:Tot (zA (zA (b0i a.f_ a.e_) λy4=>bif !y4 then zA (b0i a.e_ a.h_) λy5=>qA (!y5)else qA oA) λs1=>qA s1) (λ_=>True):=zC (tB (w0f ha.1) (λ_ _=>tI (λ_=>tB (w0f ha.2.1) (λ_ _=>tR trivial)) (λ_=>tR trivial))) (λ_ _=>tR trivial);refine Tot.mono (p:=λx:Int⊕(Unit⊕Bool)=>match x with| .inl s'=>(0<=s'/\s'<=3)/\(3-s').toNat<(3-i).toNat| .inr o=>True) ?_ (λx hx=> ?_);refine tI (λh=>tI (λh0=>st 0 ha.1 ⟨by omega,by omega,dTT h0⟩ (by decide)) (λh0=>tI (λh1=>st 1 ha.2.1 ⟨by omega,by omega,dTT h1⟩ (by decide)) (λh1=>tI (λh2=>st 2 ha.2.2 ⟨by omega,by omega,dTT h2⟩ (by decide)) (λh2=> ?_)))) (λ_=>tR trivial);have:=dTT h;have:=dFF h0;have:=dFF h1;have:=dFF h2;omega
  match x,hx with
  | .inl _,h=>exact h
  | .inr (.inl _),_=>exact fin
  | .inr (.inr _),_=>trivial
theorem B0o {l:List Int} {x:Int} (hl:l.length<=4294967296):Tot (b0a l x) (λ_=>True):=by
  unfold b0a i0d;exact zC (tJ (tW (λs:Int=>s) l.length (λ_=>True) hl ⟨trivial,ay _,by simp⟩ (λi _ g0 g1=>tY (dT g1) (tY (a0C g0 g1) (tI (λ_=>tR trivial) (λ_=>tR ⟨trivial,w64 (by omega) (by omega)⟩)))) (λi _ e=>tN (dF (by omega)) (tR (tR trivial))))) (λ_ _=>tR trivial)
theorem A0D(s:e0r)(x:Int):Tot (e0Y s x) (λ_=>True):=by
  unfold e0Y;refine zC ?_ (λ_ _=>zC (tI (λ_=>tR trivial) (λ_=>tB (E0F _ _) (λ_ _=>tR trivial))) (λ_ _=>tR trivial));unfold m0G;exact tJ (zC (tI (λ_=>tR trivial) (λ_=>tR trivial)) (λ_ _=>tI (λ_=>tR trivial) (λ_=>tR (tR trivial))))
theorem C0I (hp:q0J p 1000):Tot (j0b s p) (λ_=>True):=by
  unfold j0b;refine tI (λ_=>tR trivial) (λ_=>tB (I0B _) (λ_ _=>tJ (zC (tI (λ_=>tI (λ_=>tR trivial) (λ_=>tB (A0D _ _) (λ_ _=>tR trivial))) (λ_=>tB (A0D _ _) (λ_ _=>tR trivial))) (λ_ _=>tI (λ_=>tR trivial) (λ_=>tR (show Tot _ _ from ?_))))));refine tJ (tB (p0q hp (by simp)) (λa ha=>tL (λi:Int=>0<=i/\i<=3) (λi=>(3-i).toNat) (by omega) (by decide) (λi hi=> ?_)));have st: ∀ {a:h0N},B0O a->Tot (zA (b0a a.z_ p.K_) λy4=>bif y4 then qA yA else zA (b0a a.w_ p.K_) λy5=>qA y5) (λ_=>True):=λha=>tB (B0o (az ha.1 (by decide))) (λ_ _=>tI (λ_=>tR trivial) (λ_=>tB (B0o (az ha.2 (by decide))) (λ_ _=>tR trivial)))
  refine tI (λh=>tJ (Tot.mono (p:=λx:Int⊕(Int⊕(Unit⊕Bool))=>match x with| .inl s'=>s'=i| .inr (.inl _)=>False| .inr (.inr (.inl _))=>False| .inr (.inr (.inr _))=>True) ?_ (λx hx=> ?_))) (λ_=>tR (tR trivial));refine tI (λh0=>tB (st ha.1) (λ_ _=>tI (λ_=>tR trivial) (λ_=>tR (dTT h0).symm))) (λh0=>tI (λh1=>tB (st ha.2.1) (λ_ _=>tI (λ_=>tR trivial) (λ_=>tR (dTT h1).symm))) (λh1=>tI (λh2=>tB (st ha.2.2) (λ_ _=>tI (λ_=>tR trivial) (λ_=>tR (dTT h2).symm))) (λh2=> ?_)));have:=dTT h;have:=dFF h0;have:=dFF h1;have:=dFF h2;omega
  match x,hx with
  | .inl s',e=>
    have:=dTT h;subst e;refine tR ?_;rw[w64 (n:=s'+1) (by omega) (by omega)];exact⟨by omega,by omega⟩
  | .inr (.inr (.inr _)),_=>trivial
theorem A0a (ht:t.length<=100000):Tot (l0G t) (λr=>q0J r.1 1000):=by
  unfold l0G;refine tB (z0M ht) (λy hy=> ?_)
  have hy:q0J y.1 1000:=⟨by have:=hy.1;omega,by have:=hy.2.1;omega,by have:=hy.2.2.1;omega,by have:=hy.2.2.2;omega⟩
  exact zC (tI (λ_=>tB (E0Y hy) (λ_ _=>tR trivial)) (λ_=>tR trivial)) (λ_ _=>tR hy)
theorem H0D(p:a0V)(s:Int):Tot (g0p p s) (λ_=>True):=by
  unfold g0p
  repeat' (first|exact tR trivial|refine zI ?_ ?_|refine zB ?_ λ_=> ?_)
theorem H0P: ∀ {a c d e:List a0d},a=[]->c=[]->d=[]->e=[]->q0J (⟨a,c,d,e,oA,0,0,0,0,0,0,0,0,0,oA,0,0⟩:a0V) 1000:=by
  rintro _ _ _ _ rfl rfl rfl rfl;exact⟨by simp,by simp,by simp,by simp⟩
theorem d0g {k:Int} (ht:t.length<=100000):Tot (b0T s k t) (λr=>q0J r.1 1000):=by
  have z:=H0P rfl rfl rfl rfl;unfold b0T;refine tB (A0a ht) (λy hy=> ?_);obtain⟨h1,h2,h3,h4⟩:=id hy;refine tJ (zC (tI (λ_=>tR trivial) (λ_=>tI (λ_=>tR trivial) (λ_=>tR trivial))) (λ_ _=>tI (λ_=>tR z) (λ_=>tR (show Tot _ _ from ?_))));refine tJ (zC (tB (H0D _ _) (λ_ _=>tI (λ_=>tR trivial) (λ_=>tB (s0e h1 h2) (λ_ _=>tI (λ_=>tR trivial) (λ_=>tI (λ_=>tB (s0e h3 h4) (λ_ _=>tR trivial)) (λ_=>tR trivial)))))) (λ_ _=>tI (λ_=>tR z) (λ_=>tR (show Tot _ _ from ?_))));exact tJ (zC (tB (y0N hy (by simp)) (λ_ _=>tI (λ_=>tR trivial) (λ_=>tB (C0I hy) (λ_ _=>tR trivial)))) (λ_ _=>tI (λ_=>tR z) (λ_=>tR (show Tot _ _ from tR hy))))
theorem H0I(c:Int):Tot (k0L c) (λ_=>True):=by
  unfold k0L;refine zC (by unfold h0f;exact tR trivial) (λ_ _=>tJ (tB (p:=λb=>b=oA->0<=c/\c<6) (tI (λ_=>tR (λh=>by cases h)) (λh=>tR (λh2=> ?_))) (λb hb=>tI (λ_=>tR trivial) (λe=>tR (show Tot _ _ from ?_)))));have:=dFF h;have:=dFF h2;omega;have:=hb e;refine tI (λ_=>tR trivial) (λh0=>tI (λ_=>tR trivial) (λh1=>tI (λ_=>tR trivial) (λh2=>tI (λ_=>tR trivial) (λh3=>tI (λ_=>tR trivial) (λh4=>tI (λ_=>tR trivial) (λh5=> ?_))))));have:=dFF h0;have:=dFF h1;have:=dFF h2;have:=dFF h3;have:=dFF h4;have:=dFF h5;omega
theorem v0a {c:d0p} (ht:c.y_.length<=100000):Tot (g0q s c) (λr=>q0J r.1 1000):=by
  have z:=H0P rfl rfl rfl rfl;unfold g0q;refine tB (A0a ht) (λy hy=> ?_);obtain⟨h1,h2,h3,h4⟩:=id hy;refine tJ (zC (tI (λ_=>tR trivial) (λ_=>tI (λ_=>tR trivial) (λ_=>tI (λ_=>tR trivial) (λ_=>tB (H0I _) (λ_ _=>tR trivial))))) (λ_ _=>tI (λ_=>tR z) (λ_=>tR (show Tot _ _ from ?_))));refine tJ (zC (tI (λ_=>tR trivial) (λ_=>tI (λ_=>tR trivial) (λ_=>tI (λ_=>tR trivial) (λ_=>tR trivial)))) (λ_ _=>tI (λ_=>tR z) (λ_=>tR (show Tot _ _ from tI (λ_=>tR z) (λ_=> ?_)))));exact tJ (zC (tB (s0e h1 h2) (λ_ _=>tI (λ_=>tR trivial) (λ_=>tB (y0N hy (by simp)) (λ_ _=>tR trivial)))) (λ_ _=>tI (λ_=>tR z) (λ_=>tR (show Tot _ _ from tR hy))))
theorem F0r {g:List Int} (hp:q0J p 1000)(hg:g.length<=100000):Tot (l0d s p g) (λ_=>True):=by
  unfold l0d;refine tJ (tB (p:=λb=>b=oA->g.length<=20) (tI (λ_=>tR (λh=>by cases h)) (λ_=>tI (λ_=>tR (λh=>by cases h)) (λh=>tB (z0o (by omega)) (λ_ _=>tR (λ_=>by have:=dFF h;omega))))) (λb hb=>tI (λ_=>tR trivial) (λe=>tR (show Tot _ _ from ?_))));exact tJ (zC (tI (λ_=>tB (B0o (by omega)) (λ_ _=>tR trivial)) (λ_=>tR trivial)) (λ_ _=>tI (λ_=>tR trivial) (λ_=>tR (show Tot _ _ from tB (y0N hp (by have:=hb e;omega)) (λ_ _=>tR trivial)))))
theorem G0A(c:Int):Tot (e0R c) (λ_=>True):=by
  unfold e0R;exact zC (tI (λ_=>tR trivial) (λ_=>tR trivial)) (λ_ _=>tR trivial)
theorem I0o(t:List UInt8):Tot (n0f t) (λ_=>True):=by
  unfold n0f;refine tI (λ_=>tR trivial) (λh=> ?_);have h:=dFF h;have hL:(a0P t).length=t.length:=c0q t;exact tJ (tW (λs:Int=>s) (a0P t).length (λ_=>True) (by omega) ⟨trivial,ay _,by simp⟩ (λi _ g0 g1=>tY (dT g1) (tY (a0C g0 g1) (tB (G0A _) (λ_ _=>tI (λ_=>tR trivial) (λ_=>tR ⟨trivial,w64 (by omega) (by omega)⟩))))) (λi _ e=>tN (dF (by omega)) (tR (tR trivial))))
theorem J0a(t:List UInt8):Tot (q0b t) (λ_=>True):=by
  unfold q0b;refine tJ (tB (p:=λb=>b=oA->t.length<=20) (tI (λ_=>tR (λh=>by cases h)) (λ_=>tR (λh=>by have:=dFF h;omega))) (λb hb=>tI (λ_=>tR trivial) (λe=>tR (show Tot _ _ from ?_))));have:=hb e;have hL:(a0P t).length=t.length:=c0q t;refine tJ (tW (λs:Int=>s) (a0P t).length (λ_=>True) (by omega) ⟨trivial,ay _,by simp⟩ (λi _ g0 g1=>tY (dT g1) (tJ (tY (a0C g0 g1) (zC (zC ?_ (λ_ _=> ?_)) (λ_ _=>tI (λ_=>tR trivial) (λ_=>tR (show Tot _ _ from tR ⟨trivial,w64 (by omega) (by omega)⟩))))))) (λi _ e=>tN (dF (by omega)) (tR (tR trivial))));unfold l0H;exact zC (tI (λ_=>tI (λ_=>tR trivial) (λ_=>tB (G0A _) (λ_ _=>tR trivial))) (λ_=>tB (G0A _) (λ_ _=>tR trivial))) (λ_ _=>tR trivial)
  · repeat' (first|exact tR trivial|refine tI (λ_=> ?_) (λ_=> ?_))
theorem H0Z(s:e0r):Tot (l0B s) (λ_=>True):=by
  unfold l0B;refine zC ?_ (λ_ _=>tI (λ_=>tR trivial) (λ_=>tJ (zC ?_ (λms _=>tJ (Tot.mono (n0W (p:=λx:Unit⊕Bool=>x= .inr oA) (λe=> ?_) ms (λa _ c _ h1 h2=> ?_)) (λx hx=> ?_))))));unfold l0Q;exact tB (u0R _) (λ_ _=>zC (tI (λ_=>tR trivial) (λ_=>tR trivial)) (λ_ _=>tR trivial));unfold i0c;refine zC (tL (λs:Int×List (Int×Int)=>0<=s.1/\s.1<=6) (λs=>(6-s.1).toNat) (by decide) (by decide) (λi hi=>tI (λh=> ?_) (λ_=>tR trivial))) (λ_ _=>tR trivial);have st: ∀k:Int,0<=k/\k<6/\i.1=k->jA .i64 (k+1)=k+1->(0<=jA .i64 (k+1)/\jA .i64 (k+1)<=6)/\(6-jA .i64 (k+1)).toNat<(6-i.1).toNat:=λk hk e=>by rw[e];omega
  refine tI (λh0=>tR (st 0 ⟨by omega,by omega,dTT h0⟩ (by decide))) (λh0=>tI (λh1=>tR (st 1 ⟨by omega,by omega,dTT h1⟩ (by decide))) (λh1=>tI (λh2=>tR (st 2 ⟨by omega,by omega,dTT h2⟩ (by decide))) (λh2=>tI (λh3=>tR (st 3 ⟨by omega,by omega,dTT h3⟩ (by decide))) (λh3=>tI (λh4=>tR (st 4 ⟨by omega,by omega,dTT h4⟩ (by decide))) (λh4=>tI (λh5=>tR (st 5 ⟨by omega,by omega,dTT h5⟩ (by decide))) (λh5=> ?_))))));have:=dTT h;have:=dFF h0;have:=dFF h1;have:=dFF h2;have:=dFF h3;have:=dFF h4;have:=dFF h5;omega;obtain⟨v,hv,_⟩:=I0B e.1;simp only[hv,ab]
  have: ∀b:Bool,(bif b then(qA (.inr (.inr oA)):Option (Unit⊕(Unit⊕Bool)))else qA (.inl ()))=qA (.inl ())\/ ∃x,(bif b then(qA (.inr (.inr oA)):Option (Unit⊕(Unit⊕Bool)))else qA (.inl ()))=qA (.inr x)/\x= .inr false:=λb=>by
    cases b with
    |false=>exact .inl rfl
    |true=>exact .inr ⟨_,rfl,rfl⟩
  cases vA (e.2>1)with
  |true=>exact this yA
  |false=>
    cases vA (¬v=0)with
    |true=>exact this _
    |false=>exact this oA
  · obtain⟨v,hv,_⟩:=I0B a.1
    obtain⟨u,hu,_⟩:=I0B c.1;simp only[hv,hu,ab]at h1 h2⊢;revert h1 h2;cases vA (a.2>1)<;>cases vA (¬v=0)<;>cases vA (¬v=4)<;>cases vA (c.2>1)<;>cases vA (¬u=0)<;>cases vA (¬u=4)<;>intro h1 h2<;>first|rfl|exact absurd rfl h1|exact absurd rfl h2
  cases x with
  |inl _=>exact tR (tR trivial)
  |inr y=>obtain rfl:=hx.1;trivial
def u0N(p0 p1 p2 p3 p4 p5 p6:Option (Int×Bool))(s0:Int):Option (Int⊕(Unit⊕(Int×Int×Int))):=
  (bif(vA (s0<7))then(bif(vA (s0=0))then(zA p0 λy0=>(bif(!y0.2)then(qA (.inr (.inr ((jA .i64 (0+1)),y0.1,8))))else(qA (.inl (jA .i64 (0+1))))))else(bif(vA (s0=1))then(zA p1 λy1=>(bif(!y1.2)then(qA (.inr (.inr ((jA .i64 (1+1)),y1.1,8))))else(qA (.inl (jA .i64 (1+1))))))else(bif(vA (s0=2))then(zA p2 λy2=>(bif(!y2.2)then(qA (.inr (.inr ((jA .i64 (2+1)),y2.1,8))))else(qA (.inl (jA .i64 (2+1))))))else(bif(vA (s0=3))then(zA p3 λy3=>(bif(!y3.2)then(qA (.inr (.inr ((jA .i64 (3+1)),y3.1,8))))else(qA (.inl (jA .i64 (3+1))))))else(bif(vA (s0=4))then(zA p4 λy4=>(bif(!y4.2)then(qA (.inr (.inr ((jA .i64 (4+1)),y4.1,8))))else(qA (.inl (jA .i64 (4+1))))))else(bif(vA (s0=5))then(zA p5 λy5=>(bif(!y5.2)then(qA (.inr (.inr ((jA .i64 (5+1)),y5.1,8))))else(qA (.inl (jA .i64 (5+1))))))else(bif(vA (s0=6))then(zA p6 λy6=>(bif(!y6.2)then(qA (.inr (.inr ((jA .i64 (6+1)),y6.1,8))))else(qA (.inl (jA .i64 (6+1))))))else none)))))))else(qA (.inr (.inl ()))))
theorem x0h(l:c0x):j0f l=zA (a0B (u0N (c0G ⟨l⟩) (c0X ⟨l⟩) (b0Y ⟨l⟩) (c0Y ⟨l⟩) (b0I ⟨l⟩) (c0a ⟨l⟩) (b0Z ⟨l⟩)) big 0) (a0x fun(_:Unit)=>qA (0,0,0)):=rfl
def G0T(l:c0x):Prop:=(l.b_.f_.length<=100000/\l.b_.e_.length<=100000/\l.b_.h_.length<=100000/\l.b_.i_.length<=100000)/\l.j_.length<=60000/\(l.g_.length<=60000/\ ∀c∈l.g_,c.x_.length<=100000)/\l.c_.length<=60000/\ ∀c∈l.c_,c.y_.length<=100000
theorem F0y (h:G0T x.d_):Tot (b0Y x) (λ_=>True):=by
  unfold b0Y;obtain⟨⟨p0,p1,p2,p3⟩,_⟩:=h;refine tJ (Tot.mono (p:=λo:Unit⊕(Int×Bool)=>True) (tL (λi:Int=>0<=i/\i<=4) (λi=>(4-i).toNat) (by decide) (by decide) (λi hi=>tI (λh=> ?_) (λ_=>tR trivial))) (λo _=> ?_));have st: ∀k:Int,0<=k/\k<4/\i=k->jA .i64 (k+1)=k+1->(0<=jA .i64 (k+1)/\jA .i64 (k+1)<=4)/\(4-jA .i64 (k+1)).toNat<(4-i).toNat:=λk hk e=>by rw[e];omega
  refine tI (λh0=>tB (d0g p0) (λ_ _=>tI (λ_=>tR trivial) (λ_=>tR (st 0 ⟨by omega,by omega,dTT h0⟩ (by decide))))) (λh0=> ?_);refine tI (λh1=>tB (d0g p1) (λ_ _=>tI (λ_=>tR trivial) (λ_=>tR (st 1 ⟨by omega,by omega,dTT h1⟩ (by decide))))) (λh1=> ?_);refine tI (λh2=>tB (d0g p2) (λ_ _=>tI (λ_=>tR trivial) (λ_=>tR (st 2 ⟨by omega,by omega,dTT h2⟩ (by decide))))) (λh2=> ?_);refine tI (λh3=>tB (d0g p3) (λ_ _=>tI (λ_=>tR trivial) (λ_=>tR (st 3 ⟨by omega,by omega,dTT h3⟩ (by decide))))) (λh3=> ?_);have:=dTT h;have:=dFF h0;have:=dFF h1;have:=dFF h2;have:=dFF h3;omega
  cases o with
  |inl _=>exact tR trivial
  |inr _=>trivial
theorem F0z (h:G0T x.d_):Tot (b0I x) (λ_=>True):=by
  unfold b0I;obtain⟨⟨_,_,_,p3⟩,_,⟨hn,hc⟩,_⟩:=h;refine tB (d0g p3) (λy hy=>tJ (tW (λs:List UInt8×Int=>s.2) x.d_.g_.length (λ_=>True) (by omega) ⟨trivial,ay _,by simp⟩ (λs _ g0 g1=>tY (dT g1) ?_) (λs _ e=>tN (dF (by omega)) (tR (tR trivial)))));have hs:=hc _ (g0B g0 g1);have e:jA .i64 (s.2+1)=s.2+1:=w64 (by omega) (by omega);rw[e];refine tJ (tY (a0C g0 g1) (tJ (zC (tB (I0o _) (λ_ _=> ?_)) (λ_ _=>tI (λ_=>tR trivial) (λ_=>tR (show Tot _ _ from ?_))))))
  · repeat' (first|exact tR trivial|refine tI (λ_=> ?_) (λ_=> ?_))
  refine tB (x0c (by rw[c0q];exact hs)) (λd hd=>tJ (zC (tI (λ_=>tR trivial) (λ_=>tB (F0r hy (by rw[c0q]at hd;omega)) (λ_ _=>tR trivial))) (λ_ _=>tI (λ_=>tR trivial) (λ_=>tR (show Tot _ _ from tR (show Tot _ _ from tR ⟨trivial,rfl⟩))))))
theorem D0f (h:G0T x.d_):Tot (c0a x) (λ_=>True):=by
  unfold c0a;obtain⟨_,_,_,hn,hc⟩:=h;refine tJ (tW (λs:Int×List (Int×Int)=>s.1) x.d_.c_.length (λ_=>True) (by omega) ⟨trivial,ay _,by simp⟩ (λs _ g0 g1=>tY (dT g1) ?_) (λs _ e=>tN (dF (by omega)) (tR (tR trivial))));have hs:=hc _ (g0B g0 g1);have e:jA .i64 (s.1+1)=s.1+1:=w64 (by omega) (by omega);rw[e];have pw: ∀(c:d0p) (p:a0V),Tot (f0y c p) (λ_=>True):=λc p=>by unfold f0y;exact tR trivial
  refine tJ (tY (a0C g0 g1) (tB (v0a hs) (λy _=>tJ (zC (tI (λ_=>tR trivial) (λ_=>tI (λhp=> ?_) (λ_=>tR trivial))) (λ_ _=>tI (λ_=>tR trivial) (λ_=>tR (show Tot _ _ from ?_)))))));have hp:=dTT hp;rw[w64 (n:=s.1-1) (by omega) (by omega)];refine tY (a0C (by omega) (by omega)) (zC ?_ (λ_ _=>tR trivial));unfold n0e;exact zC (tI (λ_=>tR trivial) (λ_=>tI (λ_=>tR trivial) (λ_=>tR trivial))) (λ_ _=>tR trivial);refine zC (tI (λhn=>tB (pw _ _) (λ_ _=>tY ?_ (tR trivial))) (λ_=>tR trivial)) (λ_ _=>zC (tI (λ_=>tI (λ_=>tR trivial) (λ_=>tB (pw _ _) (λ_ _=>tR trivial))) (λ_=>tB (pw _ _) (λ_ _=>tR trivial))) (λ_ _=>tI (λ_=>tR trivial) (λ_=>tR (show Tot _ _ from tR ⟨trivial,rfl⟩))));revert hn
  cases e0q (λa b:Int=>a==b) s.2 (nth x.d_.c_ s.1).G_ with
  |none=>intro _;rfl
  |some v=>intro h;cases h
theorem G0H {a c:b0w} (ha:I0Q a.E_):Tot (l0c a c) (λ_=>True):=by
  unfold l0c;have sm: ∀ {u:h0N} (v:h0N),B0O u->Tot (zA (b0i u v) λy=>qA y) (λ_=>True):=λv hu=>tB (w0f hu) (λ_ _=>tR trivial)
  refine tJ (tW (λs:Int=>s) 3 (λ_=>True) (by decide) ⟨trivial,ay _,by decide⟩ (λi _ g0 g1=>tY (dT (by omega)) (tJ (tW (λs:Int=>s) 3 (λ_=>True) (by decide) ⟨trivial,ay _,by decide⟩ (λj _ f0 f1=>tY (dT (by omega)) ?_) (λj _ e=>tN (dF (by omega)) (tR (show Tot _ _ from tR ⟨trivial,w64 (by omega) (by omega)⟩)))))) (λi _ e=>tN (dF (by omega)) (tR (tR trivial))));have e:jA .i64 (j+1)=j+1:=w64 (by omega) (by omega);rw[e];refine tJ (tJ (zC (tI (λ_=>tR trivial) (λ_=>tR trivial)) (λ_ _=>tI (λ_=>tR (show Tot _ _ from tR ⟨trivial,rfl⟩)) (λ_=>tR (show Tot _ _ from ?_)))));refine zC (tI (λ_=>tR trivial) (λ_=>tR trivial)) (λ_ _=>zC (tI (λ_=> ?_) (λ_=>tR trivial)) (λ_ _=>tI (λ_=>tR trivial) (λ_=>tR (show Tot _ _ from tR ⟨trivial,rfl⟩))));have three: ∀ {u:h0N} (v w z:h0N),B0O u->Tot (bif vA (j=0)then(zA (b0i u v) λy=>qA y)else bif vA (j=1)then(zA (b0i u w) λy=>qA y)else bif vA (j=2)then(zA (b0i u z) λy=>qA y)else none) (λ_=>True):=λv w z hu=>tI (λ_=>sm v hu) (λh0=>tI (λ_=>sm w hu) (λh1=>tI (λ_=>sm z hu) (λh2=>by have:=dFF h0;have:=dFF h1;have:=dFF h2;omega)))
  exact tI (λ_=>three _ _ _ ha.1) (λh0=>tI (λ_=>three _ _ _ ha.2.1) (λh1=>tI (λ_=>three _ _ _ ha.2.2) (λh2=>by have:=dFF h0;have:=dFF h1;have:=dFF h2;omega)))
theorem F0A (h:G0T x.d_):Tot (b0Z x) (λ_=>True):=by
  unfold b0Z;obtain⟨⟨p0,_⟩,_,_,hn,hc⟩:=h;refine tB (d0g p0) (λy hy=>tB (p0q hy (by simp)) (λa ha=> ?_));refine tJ (tW (λs:Int×List b0w=>s.1) x.d_.c_.length (λs=>(s.2.length:Int)=s.1+1/\ ∀u∈s.2,I0Q u.E_) (by omega) ⟨⟨by simp,by simpa using ha⟩,ay _,by simp⟩ (λs hs g0 g1=>tY (dT g1) ?_) (λs _ e=>tN (dF (by omega)) (tR (tR trivial))));obtain⟨hl,hall⟩:=hs;have e:jA .i64 (s.1+1)=s.1+1:=w64 (by omega) (by omega);rw[e];refine tJ (tY (a0C g0 g1) (tB (v0a (hc _ (g0B g0 g1))) (λc hc1=>tB (p0q hc1 (by simp)) (λd hd=>zC (by unfold f0y;exact tR trivial) (λw _=>tY (a0z (by simp;omega)) ?_)))));have hlen:((s.2++ [(⟨d,w⟩:b0w)]).length:Int)=s.1+2:=by simp;omega
  have hal: ∀u∈s.2++ [(⟨d,w⟩:b0w)],I0Q u.E_:=λu hu=>by
    rcases aw.1 hu with hu|hu;exact hall u hu;obtain rfl:=bR.1 hu;exact hd
  revert hlen hal;generalize s.2++ [(⟨d,w⟩:b0w)]=ls;intro hlen hal;have hi:inR (s.1+1) ls.length=true:=a0C (by omega) (by omega);refine tW (λj:Int=>j) ls.length (λ_=>True) (by omega) ⟨trivial,ay _,by simp⟩ (λj _ f0 f1=>tY (dT f1) (tY (a0C f0 f1) (tY (a0C f0 f1) (tY hi (tY hi (tB (G0H (hal _ (g0B f0 f1))) (λ_ _=>tI (λ_=>tR trivial) (λ_=>tR ⟨trivial,w64 (by omega) (by omega)⟩)))))))) (λj _ e=>tN (dF (by omega)) (tR (show Tot _ _ from tR ⟨⟨by simp only;omega,hal⟩,rfl⟩)))
theorem G0w {p0 p1 p2 p3 p4 p5 p6:Option (Int×Bool)} (h0:Tot p0 (λ_=>True))(h1:Tot p1 (λ_=>True))(h2:Tot p2 (λ_=>True))(h3:Tot p3 (λ_=>True))(h4:Tot p4 (λ_=>True))(h5:Tot p5 (λ_=>True))(h6:Tot p6 (λ_=>True)):Tot (zA (a0B (u0N p0 p1 p2 p3 p4 p5 p6) big 0) (a0x fun(_:Unit)=>qA ((0,0,0):Int×Int×Int))) (λ_=>True):=by
  refine zC (tL (λi:Int=>0<=i/\i<=7) (λi=>(7-i).toNat) (by decide) (by decide) (λi hi=> ?_)) (λo _=>by cases o<;>exact tR trivial);unfold u0N;have st: ∀k:Int,0<=k/\k<7/\i=k->jA .i64 (k+1)=k+1->(0<=jA .i64 (k+1)/\jA .i64 (k+1)<=7)/\(7-jA .i64 (k+1)).toNat<(7-i).toNat:=λk hk e=>by rw[e];omega
  refine tI (λh=> ?_) (λ_=>tR trivial);refine tI (λq0=>tB h0 (λ_ _=>tI (λ_=>tR trivial) (λ_=>tR (st 0 ⟨by omega,by omega,dTT q0⟩ (by decide))))) (λq0=> ?_);refine tI (λq1=>tB h1 (λ_ _=>tI (λ_=>tR trivial) (λ_=>tR (st 1 ⟨by omega,by omega,dTT q1⟩ (by decide))))) (λq1=> ?_);refine tI (λq2=>tB h2 (λ_ _=>tI (λ_=>tR trivial) (λ_=>tR (st 2 ⟨by omega,by omega,dTT q2⟩ (by decide))))) (λq2=> ?_);refine tI (λq3=>tB h3 (λ_ _=>tI (λ_=>tR trivial) (λ_=>tR (st 3 ⟨by omega,by omega,dTT q3⟩ (by decide))))) (λq3=> ?_);refine tI (λq4=>tB h4 (λ_ _=>tI (λ_=>tR trivial) (λ_=>tR (st 4 ⟨by omega,by omega,dTT q4⟩ (by decide))))) (λq4=> ?_);refine tI (λq5=>tB h5 (λ_ _=>tI (λ_=>tR trivial) (λ_=>tR (st 5 ⟨by omega,by omega,dTT q5⟩ (by decide))))) (λq5=> ?_);refine tI (λq6=>tB h6 (λ_ _=>tI (λ_=>tR trivial) (λ_=>tR (st 6 ⟨by omega,by omega,dTT q6⟩ (by decide))))) (λq6=> ?_);have:=dTT h;have:=dFF q0;have:=dFF q1;have:=dFF q2;have:=dFF q3;have:=dFF q4;have:=dFF q5;have:=dFF q6;omega
theorem G0y {l:c0x} (h:G0T l): ∃r,j0f l=qA r:=by
  rw[x0h];refine(G0w ?_ ?_ (F0y h) ?_ (F0z h) (D0f h) (F0A h)).imp (λ_ h=>h.1);unfold c0G;exact tB (J0a _) (λ_ _=>tR trivial);unfold c0X;exact tB (H0Z _) (λ_ _=>tR trivial);unfold c0Y;exact tB (F0f h.2.1) (λ_ _=>tR trivial)
/-! The certificate of a locale: it answers. -/
theorem I0Y (hp:q0J p 1000):Tot (k0R p) (λ_=>True):=by
  unfold k0R;exact tB (s0X p) (λ_ _=>tR trivial)
theorem E0D {l:c0x} {k:Int} (hk:0<=k/\k<=4)(h:l.b_.f_.length<=100000/\l.b_.e_.length<=100000/\l.b_.h_.length<=100000/\l.b_.i_.length<=100000):Tot (f0f l k) (λr=>q0J r 1000):=by
  unfold f0f;refine tB (p:=λs:Int=>0<=s/\s<=3) (tI (λ_=>tR (by omega)) (λe=>tR (by have:=dFF e;omega))) (λs hs=> ?_);refine tI (λ_=>tB (d0g h.1) (λ_ hr=>tR hr)) (λe0=>tI (λ_=>tB (d0g h.2.1) (λ_ hr=>tR hr)) (λe1=>tI (λ_=>tB (d0g h.2.2.1) (λ_ hr=>tR hr)) (λe2=>tI (λ_=>tB (d0g h.2.2.2) (λ_ hr=>tR hr)) (λe3=> ?_))));have:=dFF e0;have:=dFF e1;have:=dFF e2;have:=dFF e3;omega
theorem B0C {c:List Int} (hp:q0J p 1000)(hc:c.length<=900) {x2 x3 x4 x5 x6 x7 x8 x9 x10 x11 x12 x13 x14 x15 x16 x17} :Tot (c0I p c x2 x3 x4 x5 x6 x7 x8 x9 x10 x11 x12 x13 x14 x15 x16 x17) (λ_=>True):=by
  unfold c0I;refine tW (λs:Int×Int=>s.1) 3 (λ_=>True) (by omega) ⟨trivial,by simp⟩ (λs _ h0 h1=>tY (dT h1) (tB (D0J hp hc) (λ_ _=>tR ⟨trivial, ?_⟩))) (λs _ e=>zE e trivial);exact w64 (n:=s.1+1) (by omega) (by omega)
theorem o0x(s:ByteArray): ∀(n i:Nat) (acc:Array Value),(jF s n i acc).size<=acc.size+n
  |0,i,acc=>by simp[jF]
  |n+1,i,acc=>by
    simp only[jF];split;have:=o0x s n (i+(Utf8.decode s i).2) (acc.push (.int .i32 (Int.ofNat (Utf8.decode s i).1)));simp at this;simp only[Int.ofNat_eq_natCast]at this⊢;omega;omega
theorem z0p(t:List UInt8):(f0L t).length<=t.length:=by
  unfold f0L;have:=o0x ⟨t.toArray⟩ t.length 0 #[];simp at this;simpa using this
theorem J0K {l:c0x} {k:Int} (hk:0<=k/\k<=4)(h:l.b_.f_.length<=100000/\l.b_.e_.length<=100000/\l.b_.h_.length<=100000/\l.b_.i_.length<=100000)(hc:l.g_.length<=60000)(hs: ∀c∈l.g_,c.x_.length<=400)(hm:l.c_.length<=60000)(ht: ∀c∈l.c_,c.y_.length<=6000):Tot (h0G l k) (λ_=>True):=by
  unfold h0G;refine tB (E0D hk h) (λp hp=>tB (B0C hp (by simp)) (λa _=>zC ?_ (λ_ _=>tR trivial)));refine tI (λ_=> ?_) (λ_=>tI (λ_=> ?_) (λ_=>tR trivial));refine tW (λs:Int×Int=>s.1) l.g_.length (λ_=>True) (by omega) ⟨trivial,by simp⟩ (λs _ h0 h1=>tY (dT h1) (tY (a0C h0 h1) (tB (B0C hp ?_) (λ_ _=>tR ⟨trivial, ?_⟩)))) (λs _ e=>zE e trivial);have:=hs _ (g0B h0 h1);have:=z0p (nth l.g_ s.1).x_;omega;exact w64 (n:=s.1+1) (by omega) (by omega);refine tW (λs:Int×Int=>s.1) l.c_.length (λ_=>True) (by omega) ⟨trivial,by simp⟩ (λs _ h0 h1=>tY (dT h1) (tY (a0C h0 h1) (tB (v0a ?_) (λq hq=>tB (B0C hq (by simp)) (λ_ _=>tR ⟨trivial, ?_⟩))))) (λs _ e=>zE e trivial);have:=ht _ (g0B h0 h1);omega;exact w64 (n:=s.1+1) (by omega) (by omega)
theorem s0Y {l:c0x} {k:Int} (hk:0<=k/\k<=4)(h:l.b_.f_.length<=100000/\l.b_.e_.length<=100000/\l.b_.h_.length<=100000/\l.b_.i_.length<=100000):Tot (f0F l k) (λ_=>True):=by
  unfold f0F;refine tB (E0D hk h) (λp hp=> ?_);refine tJ (Tot.mono (p:=λ_=>True) (zC (tI (λ_=>tR trivial) (λ_=>tR trivial)) (λb _=>tI (λ_=>tR trivial) (λ_=>tR trivial))) (λx _=> ?_))
  cases x with
  |inl u=>exact tB (I0Y hp) (λ_ _=>tR trivial)
  |inr u=>trivial
theorem v0W [DecidableEq T] {x:List T} (h:x.length<=4294967296):(bif(jC x.length 0)then agree (qA ([]:List T)) (bif room x.length then(qA x)else none)else(bif room x.length then(qA x)else none))=qA x:=by
  rw[a0z h];simp only[qC]
  cases x with
  |nil=>simp[agree]
  |cons a r=>simp[jC]
theorem J0H {l:c0x} (h:l.b_.f_.length<=100000/\l.b_.e_.length<=100000/\l.b_.h_.length<=100000/\l.b_.i_.length<=100000)(hr:l.j_.length<=60000)(hc:l.g_.length<=60000)(hs: ∀c∈l.g_,c.x_.length<=400)(hm:l.c_.length<=60000)(ht: ∀c∈l.c_,c.y_.length<=6000):Tot (m0C l) (λr=>r.L_=l):=by
  unfold m0C n0z p0r n0B;rw[v0W (by omega),v0W (by omega),v0W (by omega)];simp only[ab];refine zC (tW (λs:Int×Int×Int×Int×Int×Int×Int×Int×Int×Int×Int=>s.1) 5 (λ_=>True) (by omega) ⟨trivial,by simp⟩ (λs _ h0 h1=> ?_) (λs _ e=>zE e trivial)) (λ_ _=>tR rfl)
  have hk:0<=s.1/\s.1<=4:=⟨h0,by omega⟩
  refine tY (dT h1) (tB (J0K hk h hc hs hm ht) (λ_ _=> ?_));have st: ∀k:Int,0<=k/\k<=4->jA .i64 (k+1)=k+1:=λk hk=>w64 (by omega) (by omega)
  refine tI (λe=>tB (s0Y ⟨by omega,by omega⟩ h) (λ_ _=>tR ⟨trivial, ?_⟩)) (λe0=>tI (λe=>tB (s0Y ⟨by omega,by omega⟩ h) (λ_ _=>tR ⟨trivial, ?_⟩)) (λe1=>tI (λe=>tB (s0Y ⟨by omega,by omega⟩ h) (λ_ _=>tR ⟨trivial, ?_⟩)) (λe2=>tI (λe=>tB (s0Y ⟨by omega,by omega⟩ h) (λ_ _=>tR ⟨trivial, ?_⟩)) (λe3=>tI (λe=>tB (s0Y ⟨by omega,by omega⟩ h) (λ_ _=>tR ⟨trivial, ?_⟩)) (λe4=> ?_)))));have:=dTT e;show jA .i64 (0+1)=s.1+1;rw[this];decide;have:=dTT e;show jA .i64 (1+1)=s.1+1;rw[this];decide;have:=dTT e;show jA .i64 (2+1)=s.1+1;rw[this];decide;have:=dTT e;show jA .i64 (3+1)=s.1+1;rw[this];decide;have:=dTT e;show jA .i64 (4+1)=s.1+1;rw[this];decide;have:=dFF e0;have:=dFF e1;have:=dFF e2;have:=dFF e3;have:=dFF e4;omega
abbrev sz(k:Nat):Prop:=k=1\/k=2\/k=4
def beN(n k:Nat):List Nat:=(wC k).map λj=>n/2^(8*(k-1-j))%256
def l0T(l:List Nat):Nat:=l.foldl (λa x=>a*256+x) 0
theorem p0w(l:List Nat)(x:Nat):l0T (l++ [x])=l0T l*256+x:=by simp[l0T]
theorem h0L(n k:Nat):(beN n k).length=k:=by simp[beN]
theorem q0z(n k:Nat):a0A (beN n k):=λc hc=>by
  unfold beN at hc;obtain⟨j,_,rfl⟩:=aN.1 hc;omega
theorem K0J(n:Nat):beN n 1=[n%256]:=by simp[beN,wC,List.range.loop]
theorem K0I(n:Nat):beN n 2=[n/256%256,n%256]:=by simp[beN,wC,List.range.loop]
theorem K0H(n:Nat):beN n 4=[n/16777216%256,n/65536%256,n/256%256,n%256]:=by simp[beN,wC,List.range.loop]
theorem H0d {n:Nat} (hk:sz k)(h:n<256^k):l0T (beN n k)=n:=by
  rcases hk with rfl|rfl|rfl;rw[K0J];simp[l0T];omega;rw[K0I];simp[l0T];omega;rw[K0H];simp[l0T];omega
theorem r0G (hl:a0A l):l0T l<256^l.length:=by
  have key: ∀(k:Nat) (l:List Nat),l.length=k->a0A l->l0T l<256^k:=by
    intro k
    induction k with
    |zero=>intro l h _;rw[aq h];simp[l0T]
    |succ k ih=>
      intro l h hb;rcases List.eq_nil_or_concat l with h0|⟨p,c,h0⟩;subst h0;simp at h;rw[List.concat_eq_append]at h0;subst h0;have h1:=ih p (by simp at h;omega) (l0R hb);have h2:=hb c (by simp);rw[p0w,Nat.pow_succ];omega
  exact key _ l rfl hl
theorem H0f (hk:sz k):256^k<=4294967296:=by rcases hk with rfl|rfl|rfl<;>decide
theorem x0x (hk:sz k):1<=k/\k<=4:=by rcases hk with rfl|rfl|rfl<;>decide
theorem p0o (hl:xs.length<=4294967296):c0N xs=qA xs:=by
  unfold c0N;exact D0D hl
theorem w0s {i:Nat} (hk:k<=4)(hi:i<k):jA .i64 (8*(jA .i64 ((jA .i64 ((k:Int)-1))-(i:Int))))=((8*(k-1-i):Nat):Int):=by
  rw[w64 (n:=(k:Int)-1) (by omega) (by omega),w64 (n:=(k:Int)-1-i) (by omega) (by omega),w64 (by omega) (by omega)];omega
theorem w0W(n s m:Nat)(h:s<=m):wF (n:Int) (2^(min ((s:Nat):Int).toNat m))=((n/2^s:Nat):Int):=by
  rw[aJ,Nat.min_eq_left h,cv _ (by exact_mod_cast bp _)]
  push_cast;rfl
theorem E0g {n:Nat} (hk:k<=4)(hl:l.length<=4294967200):i0f (up l) (n:Int) (k:Int)=qA (up (l++beN n k)):=by
  unfold i0f i0g;refine d0G (λo=>o=up (l++beN n k)) (f0W k (λi=>((i:Int),up (l++(wC i).map λj=>n/2^(8*(k-1-j))%256))) (λ_=>True) _ (by simp) trivial (λi hi _=> .inl ⟨?_,trivial⟩) (λ_=>⟨_,by simp only;rw[dF (by omega)];rfl,rfl⟩) (by omega)) (λo h=>by rw[h]);simp only;rw[dT (by omega),w0s hk hi];unfold g0X;have h8:8*(k-1-i)<=32:=by omega
  rw[w0W n _ 32 h8,u8m,a0z (by simp[b0L];omega),w64 (n:=(i:Int)+1) (by omega) (by omega)];have hs:sh ((8*(k-1-i):Nat):Int)=true:=by simp[sh];omega
  rw[hs,cW,bM];simp[up]
def I0y(l:List Nat)(n k:Nat):List Nat×Int:=if sz k/\n<256^k then(l++beN n k,0)else(l,1)
theorem w0r(k:Nat):f0b (k:Int)=qA (vA (sz k)):=by
  unfold f0b;by_cases h1:k=1;subst h1;rfl;by_cases h2:k=2;subst h2;rfl;have e1: ¬(k:Int)=1:=by omega
  have e2: ¬(k:Int)=2:=by omega
  rw[dF e1,dF e2];by_cases h4:k=4;subst h4;rfl;rw[dF (show¬(k:Int)=4 by omega),dF (by omega)];rfl
theorem z0g {k:Int} (h:k<0):f0b k=qA false:=by
  unfold f0b;rw[dF (show¬k=1 by omega),dF (show¬k=2 by omega),dF (show¬k=4 by omega)];rfl
theorem w0B(k:Nat):256^k=2^(8*k):=by rw[Nat.pow_mul]
theorem H0v {n:Nat} (hn:n<4294967296)(hl:l.length<=4294967200):m0X (up l) (n:Int) (k:Int)=qA (up (I0y l n k).1,(I0y l n k).2):=by
  unfold m0X I0y;rw[p0o (by rw[b0L];omega),w0r];simp only[ab];by_cases hk:sz k;have hk4:=x0x hk;rw[dT hk,w64 (by omega) (by omega),I0T (by omega) (by omega)];have e8:(8:Int)*(k:Int)=((8*k:Nat):Int):=by omega
  rw[e8,w0W n (8*k) 64 (by omega)];have hs:sh ((8*k:Nat):Int)=true:=by simp[sh];omega
  rw[hs];simp only[bD,vC,qC];by_cases hf:n<256^k;have:n/2^(8*k)=0:=Nat.div_eq_of_lt (by rw[<-w0B];exact hf);rw[this,yB ⟨hk,hf⟩,dF (by simp)];simp only[ab,vC,a0x];rw[E0g (by omega) hl];rfl
  have:n/2^(8*k)≠0:=by
    intro h0;have h1:=(Nat.div_eq_zero_iff).1 h0;rw[<-w0B]at h1;rcases h1 with h1|h1;exact absurd h1 (by have:=Nat.pow_pos (n:=k) (show 0<256 by decide);omega);exact hf h1
  rw[oB (λh=>hf h.2),dT (by omega)];rfl;rw[dF hk,oB (λh=>hk h.1)];rfl
def x0v(l:List Nat)(i k:Int):Int×Int×Int:=
  if¬sz k.toNat\/k<0\/i<0 then(0,0,1)else if i+k>l.length then(0,0,2)else((l0T ((l.drop i.toNat).take k.toNat):Nat),i+k,0)
theorem F0j {b s:Nat} (hb:b<256)(h:v*256+b<2^32)(hs:2^s*(v*256+b)<2^32):(2^(s+8)*v)|||(b*2^s)=2^s*(v*256+b):=by
  have h1:b*2^s<2^(s+8):=by
    rw[cQ];have:2^s*b<2^s*256:=Nat.mul_lt_mul_of_pos_left hb (Nat.pow_pos (by decide));rw[ck b];simpa using this
  rw[<-Nat.two_pow_add_eq_or_of_lt h1];rw[cQ,Nat.mul_add,ck b,Nat.mul_assoc];congr 2;omega
theorem C0i {P seg S:List Nat} (hb:a0A (P++seg++S))(hk:sz seg.length)(hl:P.length+seg.length+S.length<=140737488355328):
    g0n (seg.length:Int) 0 (up (P++seg++S)) (P.length:Int)=qA ((l0T seg:Nat):Int):=by
  have hk4:=x0x hk;have hsb:a0A seg:=w0d (l0R hb);have hlt:=r0G hsb;have hp:=H0f hk;unfold g0n;rw[d0R seg (λpre=>((pre.length:Int),((2^(8*(seg.length-pre.length))*l0T pre:Nat):Int))) ((l0T seg:Nat):Int)];simp[l0T]
  · intro pre x suf h
    have hx:x<256:=hsb x (by rw[h];simp);have hpl:pre.length<seg.length:=by rw[h];simp
    have hpre:a0A (pre++ [x]):=λy hy=>hsb y (by rw[h];simp at hy⊢;rcases hy with hy|hy<;>simp[hy])
    have hv:=r0G hpre;rw[p0w]at hv;have hpl2:(pre++ [x]).length=pre.length+1:=by simp
    rw[hpl2]at hv;have hu:up (P++seg++S)=up (P++pre)++(x:Int)::up (suf++S):=by rw[h];simp[up]
    have hn:nth (up (P++seg++S)) ((P.length:Int)+pre.length)=(x:Int):=by
      rw[hu];have:=d0E (pre:=up (P++pre)) (x:=(x:Int)) (suf:=up (suf++S));rw[b0L,ac]at this;simpa using this
    have hR:inR ((P.length:Int)+pre.length) (up (P++seg++S)).length=true:=a0C (by omega) (by rw[b0L];simp;omega);simp only;unfold g0d;rw[dT (by omega),w0s (by omega) hpl,w64 (n:=(P.length:Int)+pre.length) (by omega) (by omega)];have hs:sh ((8*(seg.length-1-pre.length):Nat):Int)=true:=by simp[sh];omega
    rw[hR,hs,hn,q0X (n:=(x:Int)) (by omega) (by omega)];generalize hsdef:8*(seg.length-1-pre.length)=s;have hs8:8*(seg.length-pre.length)=s+8:=by omega
    have hs0:8*(seg.length-(pre++ [x]).length)=s:=by rw[hpl2];omega
    have hs24:s<=24:=by omega
    have hbig:2^s*(l0T pre*256+x)<2^32:=by
      have e1:256^(pre.length+1)*2^s=256^seg.length:=by
        rw[w0B,w0B,<-cQ];congr 1;omega
      have:2^s*(l0T pre*256+x)<2^s*256^(pre.length+1):=Nat.mul_lt_mul_of_pos_left hv (Nat.pow_pos (by decide));rw[ck (2^s) (256^(pre.length+1)),e1]at this;omega
    have hsmall:l0T pre*256+x<2^32:=Nat.lt_of_le_of_lt (Nat.le_mul_of_pos_left _ (Nat.pow_pos (by decide))) hbig;have ho:=F0j hx hsmall hbig
    have hxs:x*2^s<4294967296:=by
      have:x*2^s<=2^s*(l0T pre*256+x):=by rw[ck x];exact Nat.mul_le_mul_left _ (by omega)
      omega
    have hvs:2^(s+8)*l0T pre<4294967296:=by
      have:2^(s+8)*l0T pre<=2^s*(l0T pre*256+x):=by
        rw[cQ,Nat.mul_assoc];exact Nat.mul_le_mul_left _ (by omega)
      omega
    have e2:(x:Int)*(2^(min ((s:Nat):Int).toNat 32))=((x*2^s:Nat):Int):=by
      rw[aJ,Nat.min_eq_left (by omega)];push_cast;rfl
    rw[hs8,hs0,e2,q0X (by omega) (by omega),u32_or_nat _ _ hvs hxs,ho,w64 (n:=(pre.length:Int)+1) (by omega) (by omega),p0w,hpl2];simp
  simp only[Nat.sub_self,Nat.mul_zero,Nat.pow_zero,Nat.one_mul];rw[dF (by omega)];rfl;omega
theorem c0f {i:Nat} (h:i+k<=l.length):l=l.take i++(l.drop i).take k++l.drop (i+k)/\(l.take i).length=i/\((l.drop i).take k).length=k:=by
  refine⟨?_,by simp;omega,by simp;omega⟩;rw[aB,<-List.drop_drop,aV,aV]
theorem u0V {k:Int} (hb:a0A l)(hl:l.length<=140737488355328)(hi: -9223372036854775808<=i/\i<9223372036854775808)(hk: -9223372036854775808<=k/\k<9223372036854775808):
    h0y (up l) i k=qA (x0v l i k):=by
  unfold h0y x0v;by_cases hk0:k<0;rw[z0g hk0,yB (.inr (.inl hk0))];rfl;obtain⟨k,rfl⟩:=bB (show 0<=k by omega);rw[w0r,aJ];simp only[ab];by_cases hs:sz k;have hk4:=x0x hs;rw[dT hs];simp only[bD,vC];by_cases hi0:i<0;rw[dT hi0,yB (.inr (.inr hi0))];rfl;rw[dF hi0,oB (by rintro(g|g|g);exact g hs;exact hk0 g;exact hi0 g)];simp only[ab,vC,a0x];rw[b0L,w64 (n:=(l.length:Int)-k) (by omega) (by omega)];by_cases hg:i+k>l.length;rw[dT (by omega),yB hg];rfl;rw[dF (by omega),oB hg];simp only[vC];obtain⟨i,rfl⟩:=bB (show 0<=i by omega);obtain⟨p1,p2,p3⟩:=c0f (l:=l) (i:=i) (k:=k) (by omega);have ht:=C0i (P:=l.take i) (seg:=(l.drop i).take k) (S:=l.drop (i+k)) (by rw[<-p1];exact hb) (by rw[p3];exact hs) (by rw[p2,p3,bk];omega);rw[p2,p3,<-p1]at ht;rw[ht];simp only[ab];rw[w64 (by omega) (by omega),aJ];rw[dF hs,yB (.inl hs)];rfl
abbrev Tx:=List UInt8
def k0r:List Tx->Tx->Option Nat
  | [],_=>none
  |x::r,t=>if x=t then qA 0 else(k0r r t).map (· +1)
theorem i0W {l:List Tx} {t:Tx} :k0r l t=none↔ ¬t∈l:=by
  induction l with
  |nil=>simp[k0r]
  |cons x r ih=>
    unfold k0r;by_cases h:x=t;simp[h];rw[oB h,Option.map_eq_none_iff,ih];simp[Ne.symm h]
theorem p0i {l:List Tx} {t:Tx} {i:Nat} (h:k0r l t=qA i):i<l.length/\l[i]?=qA t:=by
  induction l generalizing i with
  |nil=>cases h
  |cons x r ih=>
    unfold k0r at h;by_cases hx:x=t;rw[yB hx]at h;cases h;simp[hx];rw[oB hx]at h;obtain⟨j,hj,rfl⟩:=Option.map_eq_some_iff.1 h;have:=ih hj;simp;exact this
def gst(s:List Tx×List Nat)(t:Tx):List Tx×List Nat:=match k0r s.1 t with
  |some i=>(s.1,s.2++ [i])
  |none=>(s.1++ [t],s.2++ [s.1.length])
def gat(l:List Tx):List Tx×List Nat:=l.foldl gst ([],[])
theorem l0K(l:List Tx)(t:Tx):gat (l++ [t])=gst (gat l) t:=by simp[gat]
theorem m0I {P:List Tx->Prop} (h0:P [])(hs: ∀l t,P l->P (l++ [t])): ∀l,P l:=by
  have key: ∀(n:Nat) (l:List Tx),l.length=n->P l:=by
    intro n
    induction n with
    |zero=>intro l h;rw[aq h];exact h0
    |succ n ih=>
      intro l h;rcases List.eq_nil_or_concat l with h1|⟨p,c,h1⟩;subst h1;simp at h;rw[List.concat_eq_append]at h1;subst h1;exact hs p c (ih p (by simp at h;omega))
  exact λl=>key _ l rfl
theorem o0h: ∀l,(gat l).1.length<=l.length/\(gat l).2.length=l.length:=by
  refine m0I (by simp[gat]) (λl t ih=> ?_);rw[l0K];unfold gst;split<;>simp<;>omega
theorem v0E: ∀l t,t∈(gat l).1↔t∈l:=by
  refine m0I (by simp[gat]) (λl t ih u=> ?_);rw[l0K];unfold gst;split;rename_i i hi
  have hm:t∈(gat l).1:=by
    apply Decidable.byContradiction;intro hn;rw[i0W.2 hn]at hi;cases hi
  simp only[ih u,aw,bR];constructor;exact λh=> .inl h
  rintro(h|rfl);exact h;exact(ih u).1 hm;simp[ih u]
theorem A0M: ∀l,(gat l).1.Nodup:=by
  refine m0I (by simp[gat]) (λl t ih=> ?_);rw[l0K];unfold gst;split;exact ih;rename_i hn;rw[i0W]at hn;simp only[List.nodup_append,ih,true_and];refine⟨by simp,λa ha b hb=> ?_⟩;simp at hb;subst hb;intro e;subst e;exact hn ha
theorem D0p: ∀l,(gat l).1.length=l.length↔l.Nodup:=by
  refine m0I (by simp[gat]) (λl t ih=> ?_);rw[l0K];have hle:=(o0h l).1
  have hnd:(l++ [t]).Nodup↔l.Nodup/\ ¬t∈l:=by
    simp only[List.nodup_append];constructor;rintro⟨a,_,c⟩;exact⟨a,λh=>c t h t (by simp) rfl⟩;rintro⟨a,b⟩;refine⟨a,by simp,λx hx y hy=> ?_⟩;simp at hy;subst hy;intro e;subst e;exact b hx
  rw[hnd];unfold gst;split;rename_i i hi
  have hm:t∈l:=by
    rw[<-v0E];apply Decidable.byContradiction;intro hn;rw[i0W.2 hn]at hi;cases hi
  simp[hm];omega;rename_i hn;rw[i0W,v0E]at hn;simp[hn,ih]
theorem D0q: ∀l i,i<l.length-> ∃j,(gat l).2[i]?=qA j/\(gat l).1[j]?=l[i]?:=by
  refine m0I (by simp) (λl t ih i hi=> ?_);rw[l0K];have hl2:=(o0h l).2;unfold gst;by_cases hil:i<l.length;obtain⟨j,h1,h2⟩:=ih i hil
  have hj:j<(gat l).1.length:=by
    rw[ag hil]at h2;exact(ae.1 h2).1
  split;exact⟨j,by simp only;rw[aU (by omega)];exact h1,by rw[aU hil];exact h2⟩;exact⟨j,by simp only;rw[aU (by omega)];exact h1,by simp only;rw[aU hj,aU hil];exact h2⟩;have hie:i=l.length:=by simp at hi;omega
  subst hie;split;rename_i j hj;exact⟨j,by simp only;rw[bq (by omega),hl2];simp,by simp only;rw[(p0i hj).2];simp⟩;exact⟨(gat l).1.length,by simp only;rw[bq (by omega),hl2];simp,by simp⟩
def mkF:Nat->List Tx->List (d0l×Int)
  |_,[]=> []
  |k,t::r=>(⟨t⟩,(k:Int))::mkF (k+1) r
theorem C0R(l:List Tx)(t:Tx): ∀k,mkF k (l++ [t])=mkF k l++ [(⟨t⟩,((k+l.length:Nat):Int))]:=by
  induction l with
  |nil=>intro k;rfl
  |cons x r ih=>intro k;simp[mkF,ih];omega
theorem C0S(l:List Tx)(t:Tx): ∀k,e0q (λa b:d0l=>((a.A_==b.A_)&&yA)) (mkF k l) ⟨t⟩=(k0r l t).map λi=>((k+i:Nat):Int):=by
  induction l with
  |nil=>intro k;rfl
  |cons x r ih=>
    intro k;unfold mkF e0q k0r;by_cases h:x=t;subst h;simp;have h': ¬t=x:=λe=>h e.symm
    rw[ih (k+1),oB h];have hb:((t==x)&&yA)=false:=by rw[beq_eq_false_iff_ne.2 h'];rfl
    simp only[hb,vC]
    cases k0r r t with
    |none=>rfl
    |some j=>simp only[aT,ak];omega
theorem u0m {l:List Tx} (hl:l.length<=4294967290):f0V l=qA ((gat l).1,up (gat l).2):=by
  unfold f0V;refine d0G (λo=>o=((gat l).1,up (gat l).2)) ⟨_,d0R l (λpre=>((pre.length:Int),(gat pre).1,up (gat pre).2,mkF 0 (gat pre).1)) _ rfl (λpre x suf h=> ?_) (by simp only;rw[k0c];rfl) (by omega),rfl⟩ (λo h=>by rw[h]);have hl':(pre++x::suf).length<=4611686018427387904:=by rw[<-h];omega
  have hpl:pre.length<l.length:=by rw[h];simp
  have hg:=o0h pre;simp only;rw[h,n0c,i0I,d0E,o0L hl',C0S,l0K];unfold gst
  cases hp:k0r (gat pre).1 x with
  |some i=>
    simp only[aT,Option.isSome_some,bD,vC,qC,ab,be,bh];rw[a0z (by rw[b0L];simp;omega),c0J];rfl
  |none=>
    simp only[Option.map_none,Option.isSome_none,Option.isNone_none,Bool.not_false,qC,ab];rw[a0z (by simp;omega),C0R,bh];simp only[qC,ab];rw[a0z (by rw[b0L];simp;omega),c0J];rfl
def okR(pool:List Tx)(r:Int):Bool:=vA (0<=r)&&vA (r<pool.length)
def J0b(pool:List Tx)(refs:List Int):List Tx×Int:=if refs.all (okR pool)=yA then(refs.map λr=>nth pool r,0)else([],7)
theorem z0c {pool:List Tx} {refs:List Int} (hl:refs.length<=4294967290):h0z pool refs=qA (J0b pool refs):=by
  unfold h0z;rw[w0J (okR pool) refs (λpre=>((pre.length:Int),pre.map λr=>nth pool r)) (.inl (refs.map λr=>nth pool r)) (.inr ([],7))]
  · unfold J0b
    cases refs.all (okR pool)<;>rfl
  rfl;intro pre x suf h;have hl':(pre++x::suf).length<=4611686018427387904:=by rw[<-h];omega
  have hpl:pre.length<refs.length:=by rw[h];simp
  simp only;rw[h,n0c,i0I,d0E,o0L hl',a0z (by simp;omega)];unfold okR;by_cases h1:0<=x;by_cases h2:x<pool.length;rw[a0C h1 h2,dF (show¬x<0 by omega),dF (show¬x≥pool.length by omega),dT h1,dT h2];simp[a0x];rw[dF (show¬x<0 by omega),dT (show x≥pool.length by omega),dF h2];simp[a0x];rw[dT (show x<0 by omega),dF h1];simp[a0x];simp only;rw[k0c];rfl;omega
abbrev e0P(l:List Tx):Prop:=l.length<=500/\(∀t∈l,t.length<=400)/\l.Nodup
theorem z0G {l:List Tx} (hl:l.length<=4294967290):f0U l=qA (vA (e0P l)):=by
  unfold f0U;by_cases h:l.length<=500;rw[dF (show¬(l.length:Int)>500 by omega),D0L (λt:Tx=>vA ((t.length:Int)>400)) l (by omega)];simp only[vC];by_cases ha: ∀t∈l,t.length<=400
  have e:l.all (λc=> !vA ((c.length:Int)>400))=true:=by
    rw[qD];intro t ht;have:=ha t ht;simp;omega
  rw[yB e];simp only[ab,a0x];rw[u0m (by omega)];simp only[ab];congr 1;have:=D0p l;by_cases hn:l.Nodup;rw[dT (by have:=this.2 hn;omega),dT ⟨h,ha,hn⟩];rw[dF (λe=>hn (this.1 (by omega))),dF (λe=>hn e.2.2)]
  have e: ¬l.all (λc=> !vA ((c.length:Int)>400))=true:=by
    intro hx;rw[qD]at hx;exact ha λt ht=>by have:=hx t ht;simp at this;omega
  rw[oB e,dF (λq=>ha q.2.1)];rfl;rw[dT (show(l.length:Int)>500 by omega),dF (λq=>h q.1)];rfl
def h0p(l:List Tx):List Nat:=l.flatMap λt=>beN t.length 2++t.map wJ
theorem v0k(l:List Tx)(t:Tx):h0p (l++ [t])=h0p l++(beN t.length 2++t.map wJ):=by simp[h0p]
theorem n0R {l:List Tx} (h: ∀t∈l,t.length<=400):(h0p l).length<=402*l.length:=by
  induction l with
  |nil=>simp[h0p]
  |cons t l ih=>
    have h1:=h t (by simp);have h2:=ih (λx hx=>h x (by simp[hx]));simp only[h0p,ap,ac,h0L,cV,aC]at h2⊢;omega
theorem t0D(l:List Tx):a0A (h0p l):=λc hc=>by
  unfold h0p at hc;obtain⟨t,_,ht⟩:=bl.1 hc;rcases aw.1 ht with ht|ht;exact q0z _ _ c ht;exact u0U t c ht
def b0O(b:List Nat)(l:List Tx):List Nat×Int:=if e0P l then(b++(beN l.length 2++h0p l),0)else(b,1)
theorem A0t {n:Nat} (hl:l.length<=4294967200):i0f (up l) (n:Int) 2=qA (up (l++beN n 2)):=E0g (k:=2) (by omega) hl
theorem F0c {l:List Tx} (hb:b.length<=4000000000)(hl:l.length<=4294967290):f0c (up b) l=qA (up (b0O b l).1,(b0O b l).2):=by
  unfold f0c b0O;rw[p0o (by rw[b0L];omega),z0G hl];simp only[ab];by_cases hp:e0P l;rw[dT hp,yB hp];simp only[bD,vC];rw[q0X (n:=(l.length:Int)) (by omega) (by omega),A0t (by omega)];simp only[ab];refine d0G (λo=>o=up (b++(beN l.length 2++h0p l))) ⟨_,d0R l (λpre=>((pre.length:Int),up (b++(beN l.length 2++h0p pre)))) _ (by simp[h0p]) (λpre x suf h=> ?_) (by simp only;rw[k0c];rfl) (by omega),rfl⟩ (λo h=>by rw[h]);have hl':(pre++x::suf).length<=4611686018427387904:=by rw[<-h];omega
  have hx:=hp.2.1 x (by rw[h];simp);have hpre: ∀t∈pre,t.length<=400:=λt ht=>hp.2.1 t (by rw[h];simp[ht])
  have hpb:=n0R hpre;have hpl:pre.length<l.length:=by rw[h];simp
  have hbl:(b++(beN l.length 2++h0p pre)).length=b.length+(2+(h0p pre).length):=by simp[h0L]
  have hlen:l.length<=500:=hp.1;generalize hL:beN l.length 2=L at hbl;simp only;rw[h,n0c,i0I,d0E,o0L hl',q0X (n:=(x.length:Int)) (by omega) (by omega),A0t (by omega)];simp only[ab,qC];rw[a0z (by rw[b0L,ac,hbl,h0L];omega),s0K,<-c0J,v0k];simp;rw[dF hp,oB hp];rfl
def u0W(l:List Nat)(i:Nat):Option (Tx×Nat):=
  if i+2<=l.length then(if i+2+l0T ((l.drop i).take 2)<=l.length then qA (((l.drop (i+2)).take (l0T ((l.drop i).take 2))).map zG,i+2+l0T ((l.drop i).take 2))else none)else none
theorem y0I (hb:a0A l)(i:Nat):l0T ((l.drop i).take 2)<65536:=by
  have h1:=r0G (h0j (r0x hb i) 2);have h2:((l.drop i).take 2).length<=2:=by rw[aQ];omega
  have:256^((l.drop i).take 2).length<=256^2:=cA (by decide) h2;omega
theorem D0z {i n:Nat} :cut (up l) (i:Int) ((i:Int)+(n:Int))=up ((l.drop i).take n):=by
  have e:(i:Int)+(n:Int)=((i+n:Nat):Int):=by omega
  rw[e,E0A,cZ];congr 2;omega
theorem C0d {i:Nat} (hb:a0A l)(hl:l.length<=140737488355328)(hi:i<=140737488355328):f0t (up l) (i:Int)=qA (match u0W l i with
    |some (t,j)=>(t,(j:Int),0)
    |none=>([],0,2)):=by
  unfold f0t;rw[u0V hb hl (by omega) (by omega)];have hv:=y0I hb i;unfold x0v u0W;rw[oB (by rintro(g|g|g)<;>first|exact g (by decide)|omega)];simp only[ab,aJ];have e2:(2:Int).toNat=2:=rfl;rw[e2];by_cases h1:i+2<=l.length;rw[oB (by omega),yB h1];simp only[not_true_eq_false,decide_false,vC];generalize hn:l0T ((l.drop i).take 2)=n at hv;rw[b0L,w64 (n:=(n:Int)) (by omega) (by omega),w64 (n:=(l.length:Int)-((i:Int)+2)) (by omega) (by omega),w64 (n:=(i:Int)+2+n) (by omega) (by omega)];by_cases h2:i+2+n<=l.length;rw[dF (by omega),yB h2,i0k (by omega) (by omega) (by omega)];simp only[vC,qC];have e:(i:Int)+2=((i+2:Nat):Int):=by omega
  rw[e,D0z,j0u];simp;rw[dT (by omega),oB h2];rfl;rw[yB (by omega),oB h1];rfl
def tpi(l:List Nat)(i0:Nat):Nat->Option (List Tx×Nat)
  |0=>qA ([],i0)
  |m+1=>match tpi l i0 m with
    |some (p,i)=>match u0W l i with
      |some (t,j)=>qA (p++ [t],j)
      |none=>none
    |none=>none
theorem w0p {l:List Nat} {i0 m:Nat} (h:tpi l i0 m=none): ∀k,tpi l i0 (m+k)=none
  |0=>h
  |k+1=>by
    show tpi l i0 ((m+k)+1)=none;unfold tpi;rw[w0p h k]
theorem C0j {i:Nat} {t:Tx} (h:u0W l i=qA (t,j)):i+2<=j/\j<=l.length:=by
  unfold u0W at h;split at h;split at h;cases h;omega;cases h;cases h
theorem p0z {l:List Nat} {i0:Nat} (h0:i0<=l.length): ∀(m:Nat) {p:List Tx} {i:Nat},tpi l i0 m=qA (p,i)->i<=l.length/\p.length=m/\i0<=i
  |0,p,i,h=>by cases h;simp;exact h0
  |m+1,p,i,h=>by
    unfold tpi at h;split at h;rename_i p' i' h1;split at h;rename_i t j h2;cases h;have:=p0z h0 m h1;have:=C0j h2;simp;omega;cases h;cases h
def tpV(l:List Nat)(i:Int):List Tx×Int×Int:=
  if i<0 then([],0,1)else if i+2>l.length then([],0,2)else match tpi l (i.toNat+2) (l0T ((l.drop i.toNat).take 2))with
    |none=>([],0,2)
    |some (p,j)=>if e0P p then(p,(j:Int),0)else([],0,2)
theorem C0h (hb:a0A l)(hl:l.length<=140737488355328)(hi: -9223372036854775808<=i/\i<9223372036854775808):f0u (up l) i=qA (tpV l i):=by
  unfold f0u tpV;rw[u0V hb hl hi (by omega)];simp only[ab];by_cases h0:i<0;unfold x0v;rw[yB (.inr (.inr h0)),yB h0];rfl
  · obtain⟨i,rfl⟩:=bB (show 0<=i by omega)
    have hv:=y0I hb i;unfold x0v;rw[oB (by rintro(g|g|g)<;>first|exact g (by decide)|omega),oB h0];simp only[aJ];have e2:(2:Int).toNat=2:=rfl;rw[e2];by_cases h1:(i:Int)+2>l.length;rw[yB h1,yB h1];rfl;rw[oB h1,oB h1];simp only[not_true_eq_false,decide_false,vC];generalize hn:l0T ((l.drop i).take 2)=n at hv;rw[w64 (n:=(n:Int)) (by omega) (by omega)];have hf:=λm {p} {j} =>p0z (l:=l) (i0:=i+2) (by omega) m (p:=p) (i:=j)
    refine d0G (λo=>(∃p j,o= .inl (((j:Nat):Int),p)/\tpi l (i+2) n=qA (p,j))\/(o= .inr ([],0,2)/\tpi l (i+2) n=none))
      (f0W n (λm=>match tpi l (i+2) m with
        |some (p,j)=>((j:Int),(m:Int),p)
        |none=>(0,0,[])) (λm=> ∃p j,tpi l (i+2) m=qA (p,j)) _ (by simp only[tpi];rfl) ⟨_,_,rfl⟩ (λm hm hI=> ?_) (λhI=> ?_) (by omega)) ?_
    obtain⟨p,j,hpj⟩:=hI;obtain⟨f1,f2,f3⟩:=hf m hpj
    have hs:tpi l (i+2) (m+1)=match u0W l j with
      |some (t,q)=>qA (p++ [t],q)
      |none=>none:=by
      show(match tpi l (i+2) m with
        |some (p,i)=>_
        |none=>_)=_
      rw[hpj]
    rw[hpj];simp only;rw[dT (by omega),C0d hb hl (by omega)]
    cases ht:u0W l j with
    |none=>
      right;rw[ht]at hs;refine⟨.inr ([],0,2),rfl, .inr ⟨rfl, ?_⟩⟩;have:=w0p hs (n-(m+1))
      rwa [show m+1+(n-(m+1))=n by omega]at this
    |some q=>
      obtain⟨t,q⟩:=q;left;rw[ht]at hs;rw[hs];simp only[qC,ab];rw[a0z (by simp;omega),w64 (by omega) (by omega)];exact⟨by simp,_,_,rfl⟩
    obtain⟨p,j,hpj⟩:=hI;rw[hpj];exact⟨.inl ((j:Int),p),by simp only;rw[dF (by omega)];rfl, .inl ⟨p,j,rfl,rfl⟩⟩;rintro o (⟨p,j,rfl,hpj⟩|⟨rfl,hpj⟩);obtain⟨f1,f2,f3⟩:=hf n hpj;rw[hpj];simp only[a0x];rw[z0G (by omega)];simp only[ab];by_cases hp:e0P p;rw[dT hp,yB hp];rfl;rw[dF hp,oB hp];rfl;rw[hpj];rfl
theorem q0Z (h:a0A l):(l.map zG).map wJ=l:=by
  rw[bO]
  have: ∀x∈l,(wJ∘zG) x=x:=λx hx=>by
    have:=h x hx;simp only[Function.comp_apply,UInt8.toNat_ofNat'];omega
  rw[bn this];simp
/-! Numbers of 32 bits, shifted and summed. -/
def n0C(n:Nat):Nat:=if n%2=1 then(n/2)^^^3988292384 else n/2
def c0O(n:Nat):Nat:=n0C (n0C (n0C (n0C (n0C (n0C (n0C (n0C n)))))))
def onN(s:Nat)(l:List Nat):Nat:=l.foldl (λs c=>c0O (s^^^c)) s
theorem x32 {b:Nat} (ha:a<4294967296)(hb:b<4294967296):a^^^b<4294967296:=Nat.xor_lt_two_pow (n:=32) ha hb
theorem e0o {n:Nat} (h:n<4294967296):n0C n<4294967296:=by
  unfold n0C;split;exact x32 (by omega) (by omega);omega
theorem d0u {n:Nat} (h:n<4294967296):c0O n<4294967296:=by
  unfold c0O;exact e0o (e0o (e0o (e0o (e0o (e0o (e0o (e0o h)))))))
theorem B0U(a b:Nat):(a^^^b)/2=a/2^^^b/2:=Nat.xor_div_two
theorem B0S(a b:Nat):(a^^^b)%2=(a+b)%2:=by
  have h:=Nat.xor_mod_two_eq_one (a:=a) (b:=b);by_cases h1:a%2=1<;>by_cases h2:b%2=1<;>simp only[h1,h2,not_true,not_false_eq_true,iff_true,iff_false,true_iff,false_iff,iff_self]at h<;>omega
theorem p0t {b:Nat} (h:a^^^b=0):a=b:=by
  have h1:a^^^b^^^b=0^^^b:=by rw[h]
  rwa [cw,cm,dh,di]at h1
theorem D0l(a b:Nat):n0C (a^^^b)=n0C a^^^n0C b:=by
  unfold n0C;rw[B0U];have hm:=B0S a b;by_cases h1:a%2=1<;>by_cases h2:b%2=1
  rw[yB h1,yB h2,oB (by omega)];have:a/2^^^3988292384^^^(b/2^^^3988292384)=(a/2^^^b/2)^^^(3988292384^^^3988292384):=by ac_rfl
  rw[this,cm,dh];rw[yB h1,oB h2,yB (by omega)];ac_rfl;rw[oB h1,yB h2,yB (by omega)];ac_rfl;rw[oB h1,oB h2,oB (by omega)]
theorem n0l(a b:Nat):c0O (a^^^b)=c0O a^^^c0O b:=by unfold c0O;simp only[D0l]
theorem g0r {n:Nat} (hn:n<4294967296)(h:n0C n=0):n=0:=by
  unfold n0C at h;split at h;have:n/2=3988292384:=p0t h;omega;omega
theorem x0Z {n:Nat} (hn:n<4294967296)(h:c0O n=0):n=0:=by
  unfold c0O at h;have l1:=e0o hn;have l2:=e0o l1;have l3:=e0o l2;have l4:=e0o l3;have l5:=e0o l4;have l6:=e0o l5;have l7:=e0o l6;exact g0r hn (g0r l1 (g0r l2 (g0r l3 (g0r l4 (g0r l5 (g0r l6 (g0r l7 h)))))))
theorem C0L(s c:Nat)(l:List Nat):onN s (c::l)=onN (c0O (s^^^c)) l:=rfl
theorem i0Z(s:Nat)(l m:List Nat):onN s (l++m)=onN (onN s l) m:=by unfold onN;rw[List.foldl_append]
theorem n0a : ∀ {s:Nat},s<4294967296->a0A l->onN s l<4294967296:=by
  induction l with
  |nil=>intro s hs _;exact hs
  |cons c l ih=>
    intro s hs hl;rw[C0L];have:=hl c (av ..);exact ih (d0u (x32 hs (by omega))) (λx hx=>hl x (ao _ hx))
theorem l0j {b:Nat} (ha:a<4294967296)(hb:b<4294967296)(h:c0O a=c0O b):a=b:=by
  have h1:c0O (a^^^b)=0:=by rw[n0l,h,cm]
  exact p0t (x0Z (x32 ha hb) h1)
theorem F0m: ∀ {l:List Nat} {s t:Nat},s<4294967296->t<4294967296->a0A l->onN s l=onN t l->s=t:=by
  intro l
  induction l with
  |nil=>intro s t _ _ _ h;exact h
  |cons c l ih=>
    intro s t hs ht hl h;have hc:=hl c (av ..);have h1:s^^^c<4294967296:=x32 hs (by omega);have h2:t^^^c<4294967296:=x32 ht (by omega);have h3:=l0j h1 h2 (ih (d0u h1) (d0u h2) (λx hx=>hl x (ao _ hx)) h);have h4:s^^^c^^^c=t^^^c^^^c:=by rw[h3]
    rwa [cw,cm,dh,cw,cm,dh]at h4
def g0M(a b c d:Nat):Nat:=a+b*256+c*65536+d*16777216
theorem x0Y {m:Nat} (h:m%2=0):n0C m=m/2:=by unfold n0C;rw[oB (by omega)]
theorem m0x(v:Nat):c0O (v*256)=v:=by
  have h: ∀m,n0C (m*2)=m:=λm=>by rw[x0Y (by omega)];omega
  have e:v*256=v*2*2*2*2*2*2*2*2:=by omega
  unfold c0O;rw[e,h,h,h,h,h,h,h,h]
theorem u0P (ha:a<256):a^^^(v*256)=a+v*256:=by
  have h:=Nat.two_pow_add_eq_or_of_lt (i:=8) (b:=a) ha v;have h2:v*256=2^8*v:=by omega
  rw[h2,Nat.add_comm,h];apply Nat.eq_of_testBit_eq;intro i;rw[Nat.testBit_xor,Nat.testBit_or,Nat.testBit_two_pow_mul];by_cases hi:8<=i;have:a.testBit i=false:=Nat.testBit_lt_two_pow (aX ha (cA (n:=2) (by decide) hi));simp[this];simp[hi]
theorem on4 {s b:Nat} (ha:a<256)(hb:b<256)(hc:c<256):onN s [a,b,c,d]=c0O (c0O (c0O (c0O (s^^^g0M a b c d)))):=by
  have w3:g0M a b c d=a^^^((b^^^((c^^^(d*256))*256))*256):=by
    rw[u0P hc,u0P hb,u0P ha];unfold g0M;omega
  rw[w3];show c0O (c0O (c0O (c0O (s^^^a)^^^b)^^^c)^^^d)=_;have e1:s^^^(a^^^((b^^^((c^^^(d*256))*256))*256))=(s^^^a)^^^((b^^^((c^^^(d*256))*256))*256):=by ac_rfl
  rw[e1,n0l (s^^^a),m0x];have e2:c0O (s^^^a)^^^(b^^^((c^^^(d*256))*256))=(c0O (s^^^a)^^^b)^^^((c^^^(d*256))*256):=by ac_rfl
  rw[e2,n0l (c0O (s^^^a)^^^b),m0x];have e3:c0O (c0O (s^^^a)^^^b)^^^(c^^^(d*256))=(c0O (c0O (s^^^a)^^^b)^^^c)^^^(d*256):=by ac_rfl
  rw[e3,n0l (c0O (c0O (s^^^a)^^^b)^^^c),m0x]
theorem u0Q {b:Nat} (ha:a<256)(hb:b<256)(hc:c<256)(hd:d<256):g0M a b c d<4294967296:=by unfold g0M;omega
theorem p0a {p:Nat} (h:p^^^a=p):a=0:=by
  have:p^^^(p^^^a)=p^^^p:=by rw[h]
  rwa [<-cw,cm,di]at this
theorem C0a {b a' b' c' d':Nat} (ha:a<256)(hb:b<256)(hc:c<256)(ha':a'<256)(hb':b'<256)(hc':c'<256)(h:g0M a b c d=g0M a' b' c' d'):
    a=a'/\b=b'/\c=c'/\d=d':=by unfold g0M at h;omega
theorem x8 {b:Nat} (ha:a<256)(hb:b<256):a^^^b<256:=Nat.xor_lt_two_pow (n:=8) ha hb
theorem A0I {b:Nat} (ha:a<4294967296)(hb:b<4294967296)(h:c0O (c0O (c0O (c0O a)))=c0O (c0O (c0O (c0O b)))):a=b:=
  l0j ha hb (l0j (d0u ha) (d0u hb) (l0j (d0u (d0u ha)) (d0u (d0u hb)) (l0j (d0u (d0u (d0u ha))) (d0u (d0u (d0u hb))) h)))
theorem B0T {s b:Nat} (h:s^^^a=s^^^b):a=b:=by
  have:s^^^(s^^^a)=s^^^(s^^^b):=by rw[h]
  rwa [<-cw,<-cw,cm,di,di]at this
theorem D0G {pre suf:List Nat} {p q s b t:Nat} (ht:t<4294967296)(hl:a0A (pre++p::q::r::s::suf))(ha:a<256)(hb:b<256)(hc:c<256)(hd:d<256)(h: ¬(a=0/\b=0/\c=0/\d=0)):
    onN t (pre++(p^^^a)::(q^^^b)::(r^^^c)::(s^^^d)::suf)≠onN t (pre++p::q::r::s::suf):=by
  intro he;have hpre:a0A pre:=λx hx=>hl x (by simp[hx])
  have hsuf:a0A suf:=λx hx=>hl x (by simp[hx])
  have hp:=hl p (by simp);have hq:=hl q (by simp);have hr:=hl r (by simp);have hs:=hl s (by simp);have ht':=n0a ht hpre
  have e1: ∀w x y z:Nat,onN t (pre++w::x::y::z::suf)=onN (onN (onN t pre) [w,x,y,z]) suf:=λw x y z=>by
    rw[i0Z];exact i0Z (onN t pre) [w,x,y,z] suf
  rw[e1,e1]at he
  have b4: ∀w x y z:Nat,w<256->x<256->y<256->z<256->a0A [w,x,y,z]:=λw x y z h1 h2 h3 h4 v hv=>by
    simp at hv;rcases hv with rfl|rfl|rfl|rfl<;>assumption
  have h1:=F0m (n0a ht' (b4 _ _ _ _ (x8 hp ha) (x8 hq hb) (x8 hr hc) (x8 hs hd))) (n0a ht' (b4 _ _ _ _ hp hq hr hs)) hsuf he;rw[on4 (x8 hp ha) (x8 hq hb) (x8 hr hc),on4 hp hq hr]at h1;have h2:=B0T (A0I (x32 ht' (u0Q (x8 hp ha) (x8 hq hb) (x8 hr hc) (x8 hs hd))) (x32 ht' (u0Q hp hq hr hs)) h1);obtain⟨g1,g2,g3,g4⟩:=C0a (x8 hp ha) (x8 hq hb) (x8 hr hc) hp hq hr h2;exact h ⟨p0a g1,p0a g2,p0a g3,p0a g4⟩
theorem I0n {x:Nat} (h:x<4294967296):4294967295^^^x=4294967295-x:=by
  apply Nat.eq_of_testBit_eq;intro i;have e1:4294967295-x=2^32-(x+1):=by omega
  have e2:(4294967295:Nat)=2^32-(0+1):=by omega
  rw[e1,Nat.testBit_two_pow_sub_succ h,Nat.testBit_xor,e2,Nat.testBit_two_pow_sub_succ (by decide)];by_cases hi:i<32;simp[hi];have:x.testBit i=false:=Nat.testBit_lt_two_pow (aX h (cA (n:=2) (i:=32) (by decide) (by omega)));simp[hi,this]
def q0N(l:List Nat):Nat:=4294967295^^^onN 4294967295 l
theorem q0v (h:a0A l):q0N l<4294967296:=x32 (by decide) (n0a (by decide) h)
def H0r:Nat:=c0O (c0O (c0O (c0O 4294967295)))
theorem s0Z {b:Nat} (h:a0A (m++ [a,b,c,d])):g0M a b c d=q0N m↔onN 4294967295 (m++ [a,b,c,d])=H0r:=by
  have hm:a0A m:=λx hx=>h x (by simp[hx])
  have ha:=h a (by simp);have hb:=h b (by simp);have hc:=h c (by simp);have hd:=h d (by simp);have hs:=n0a (s:=4294967295) (by decide) hm;rw[i0Z,on4 ha hb hc];unfold q0N H0r;constructor;intro e;rw[e,Nat.xor_comm 4294967295,<-cw,cm,di];intro e;have:=A0I (x32 hs (u0Q ha hb hc hd)) (by decide) e;generalize onN 4294967295 m=S at this;generalize g0M a b c d=W at this;rw[<-this,Nat.xor_comm S,cw,cm,dh]
def itC:Nat->Nat->Nat
  |0,n=>n
  |i+1,n=>n0C (itC i n)
theorem F0B {n:Nat} (h:n<4294967296): ∀i,itC i n<4294967296
  |0=>h
  |i+1=>e0o (F0B h i)
theorem E0O {s:Nat} (hs:s<4294967296)(hc:c<256):l0P s c=qA ((c0O (s^^^c):Nat):Int):=by
  unfold l0P;have hx:s^^^c<4294967296:=x32 hs (by omega);rw[q0X (by omega) (by omega),u32_xor_nat s c hs (by omega)];refine d0G (λo=>o=((c0O (s^^^c):Nat):Int)) (f0W 8 (λi=>(((itC i (s^^^c):Nat):Int),(i:Int))) (λ_=>True) _ rfl trivial (λi hi _=> .inl ⟨?_,trivial⟩) (λ_=>⟨_,rfl,rfl⟩) (by omega)) ?_;have hit:=F0B hx i;simp only;generalize hn:itC i (s^^^c)=n at hit
  have e1:bits .and .u32 (n:Int) 1=((n%2:Nat):Int):=by
    have:=u32_and_nat n 1 hit (by omega);rw[Nat.and_one_is_mod]at this;exact this
  have e2:wF (n:Int) 2=((n/2:Nat):Int):=by rw[cv _ (by omega)];omega
  have e3:bits .xor .u32 ((n/2:Nat):Int) 3988292384=((n/2^^^3988292384:Nat):Int):=u32_xor_nat (n/2) 3988292384 (by omega) (by omega);have e4:itC (i+1) (s^^^c)=n0C n:=by show n0C (itC i (s^^^c))=n0C n;rw[hn]
  rw[e1,e2,e3,e4,dT (show(i:Int)<8 by omega),w64 (by omega) (by omega)];unfold n0C;by_cases h:n%2=1;rw[yB h,dT (by omega)];rfl;rw[oB h,dF (by omega)];rfl;rintro o rfl;rfl
theorem C0w {s:Nat} (hs:s<4294967296)(hc:c<256):c0P s c=qA ((c0O (s^^^c):Nat):Int):=by
  unfold c0P;have hx:s^^^c<4294967296:=x32 hs (by omega);rw[q0X (by omega) (by omega),u32_xor_nat s c hs (by omega)];refine d0G (λo=>o=((c0O (s^^^c):Nat):Int)) (f0W 8 (λi=>(((itC i (s^^^c):Nat):Int),(i:Int))) (λ_=>True) _ rfl trivial (λi hi _=> .inl ⟨?_,trivial⟩) (λ_=>⟨_,rfl,rfl⟩) (by omega)) ?_;have hit:=F0B hx i;simp only;generalize hn:itC i (s^^^c)=n at hit;have e1:vB (n:Int) 2=((n%2:Nat):Int):=by rw[co (by omega)];omega
  have e2:jD (n:Int) 2=((n/2:Nat):Int):=by rw[cq (by omega)];omega
  have e3:bits .xor .u32 ((n/2:Nat):Int) 3988292384=((n/2^^^3988292384:Nat):Int):=u32_xor_nat (n/2) 3988292384 (by omega) (by omega);have e4:itC (i+1) (s^^^c)=n0C n:=by show n0C (itC i (s^^^c))=n0C n;rw[hn]
  rw[e1,e2,q0X (by omega) (by omega),e3,e4,dT (show(i:Int)<8 by omega),w64 (by omega) (by omega)];unfold n0C;by_cases h:n%2=1;rw[yB h,dT (by omega)];rfl;rw[oB h,dF (by omega)];rfl;rintro o rfl;rfl
theorem x0t {s:Nat} (hl:a0A l)(hs:s<4294967296)(hb:l.length<=4294967296):e0B (up l) s=qA ((onN s l:Nat):Int):=by
  unfold e0B;rw[d0R l (λpre=>(((up pre).length:Int),((onN s pre:Nat):Int))) ((onN s l:Nat):Int)];rfl;intro pre x suf h;have hx:=hl x (by rw[h];simp);have hp:a0A pre:=λy hy=>hl y (by rw[h];simp[hy])
  have hu:up l=up pre++(x:Int)::up suf:=by rw[h,c0J,y0J]
  have hl':(up pre++(x:Int)::up suf).length<=4611686018427387904:=by rw[<-hu,b0L];omega
  have e1:up (pre++ [x])=up pre++ [(x:Int)]:=by rw[c0J];rfl
  simp only;rw[hu,n0c,i0I,d0E,o0L hl',e1,i0Z];unfold j0O;rw[E0O (n0a hs hp) hx];rfl;simp only;rw[k0c];rfl;omega
theorem J0f {s:Nat} (hl:a0A l)(hs:s<4294967296)(hb:l.length<=4294967296):u0A s (up l)=qA ((4294967295^^^onN (4294967295^^^s) l:Nat):Int):=by
  unfold u0A;have e0:bits .xor .u32 4294967295 (s:Int)=((4294967295^^^s:Nat):Int):=u32_xor_nat 4294967295 s (by decide) hs;have h1:4294967295^^^s<4294967296:=x32 (by decide) hs;rw[e0,x0t hl h1 hb];simp only[ab];have e1:bits .xor .u32 4294967295 ((onN (4294967295^^^s) l:Nat):Int)=((4294967295^^^onN (4294967295^^^s) l:Nat):Int):=u32_xor_nat 4294967295 _ (by decide) (n0a h1 hl);rw[e1]
theorem J0i (hl:a0A l)(hb:l.length<=4294967296):u0B (up l)=qA ((q0N l:Nat):Int):=by
  unfold u0B;have:=J0f (s:=0) hl (by decide) hb;rw[show((0:Nat):Int)=0 from rfl]at this;rw[this];rfl
theorem H0p {s:Nat} (hl:a0A l)(hs:s<4294967296)(hb:l.length<=4294967296):d0T s (up l)=qA ((4294967295^^^onN (4294967295^^^s) l:Nat):Int):=by
  unfold d0T;have h1:4294967295^^^s<4294967296:=x32 (by decide) hs;have h2:=n0a h1 hl;have e0:jA .u32 (4294967295-(s:Int))=((4294967295^^^s:Nat):Int):=by rw[q0X (by omega) (by omega),I0n hs];omega
  rw[e0];rw[d0R l (λpre=>(((onN (4294967295^^^s) pre:Nat):Int),((up pre).length:Int))) ((onN (4294967295^^^s) l:Nat):Int)];simp only[ab];rw[q0X (by omega) (by omega),I0n h2];congr 1;omega;rfl;intro pre x suf h;have hx:=hl x (by rw[h];simp);have hp:a0A pre:=λy hy=>hl y (by rw[h];simp[hy])
  have hu:up l=up pre++(x:Int)::up suf:=by rw[h,c0J,y0J]
  have hl':(up pre++(x:Int)::up suf).length<=4611686018427387904:=by rw[<-hu,b0L];omega
  have e1:up (pre++ [x])=up pre++ [(x:Int)]:=by rw[c0J];rfl
  simp only;rw[hu,n0c,i0I,d0E,o0L hl',e1,i0Z,C0w (n0a h1 hp) hx];rfl;simp only;rw[k0c];rfl;omega
theorem H0q (hl:a0A l)(hb:l.length<=4294967296):d0U (up l)=qA ((q0N l:Nat):Int):=by
  unfold d0U;have:=H0p (s:=0) hl (by decide) hb;rw[show((0:Nat):Int)=0 from rfl]at this;rw[this];rfl
def r0M(y:Nat):List Nat:=[y%256,y/256%256,y/65536%256,y/16777216%256]
theorem x0w {y:Nat} (h:y<4294967296):g0M (y%256) (y/256%256) (y/65536%256) (y/16777216%256)=y:=by unfold g0M;omega
theorem y0U (hl:a0A l)(hb:l.length<=4294967296):l0O (up l)=qA ⟨((q0N l%256:Nat):Int),((q0N l/256%256:Nat):Int),((q0N l/65536%256:Nat):Int),((q0N l/16777216%256:Nat):Int)⟩:=by
  unfold l0O;rw[J0i hl hb];simp only[ab];generalize q0N l=y;have f: ∀k:Nat,wF (y:Int) (k:Int)=((y/k:Nat):Int):=λk=>by rw[cv _ (by omega)];rfl
  have f1:wF (y:Int) 256=((y/256:Nat):Int):=f 256;have f2:wF (y:Int) 65536=((y/65536:Nat):Int):=f 65536;have f3:wF (y:Int) 16777216=((y/16777216:Nat):Int):=f 16777216;rw[f1,f2,f3,u8m,u8m,u8m,u8m];rfl
theorem G0t (hl:a0A l)(hb:l.length<=4294967290):q0u (up l)=qA (up (l++r0M (q0N l))):=by
  unfold q0u;rw[y0U hl (by omega)];simp only[ab];rw[p0o (by rw[b0L];omega)];simp only[ab];rw[a0z (by rw[b0L];simp;omega),c0J];rfl
theorem B0h (h:l.length<4):j0P (up l)=qA ([],2):=by
  unfold j0P;rw[b0L,w64 (by omega) (by omega),dT (by omega)];rfl
theorem x0O (h:l.length<4):c0r (up l)=qA ([],2):=by
  unfold c0r;rw[b0L,w64 (by omega) (by omega),dT (by omega)];rfl
theorem B0i {ys:List Int} :cut (xs++ys) 0 (xs.length:Int)=xs:=by simp[cut]
theorem G0o {ys:List Int} (h:n=(xs++ys).length):cut (xs++ys) (xs.length:Int) n=ys:=by subst h;unfold cut;rw[aJ,aJ,List.take_length];simp
theorem r0L {b y:Nat} (ha:a<256)(hb:b<256)(hc:c<256)(hd:d<256)(hy:y<4294967296):
    g0M a b c d=y↔(a=y%256/\b=y/256%256/\c=y/65536%256/\d=y/16777216%256):=by unfold g0M;omega
theorem E0C {b:Nat} (hl:a0A (m++ [a,b,c,d]))(hb:m.length<=4294967290):j0P (up (m++ [a,b,c,d]))=qA (if g0M a b c d=q0N m then(up m,0)else([],6)):=by
  unfold j0P;have hm:a0A m:=λx hx=>hl x (by simp[hx])
  have ha:=hl a (by simp);have hb':=hl b (by simp);have hc:=hl c (by simp);have hd:=hl d (by simp);have hy:=q0v hm
  have e0:jA .i64 (((up (m++ [a,b,c,d])).length:Int)-4)=((up m).length:Int):=by
    rw[b0L,b0L];simp;exact w64 (by omega) (by omega)
  have hu:up (m++ [a,b,c,d])=up m++ [(a:Int),(b:Int),(c:Int),(d:Int)]:=c0J _ _;rw[e0,dF (by omega),hu,B0i,G0o rfl,y0U hm (by omega),p0o (by rw[b0L];omega)];have i1:inS ((up m).length:Int) ((up m++ [(a:Int),(b:Int),(c:Int),(d:Int)]).length:Int) (up m++ [(a:Int),(b:Int),(c:Int),(d:Int)]).length=true:=i0k (by omega) (by simp<;>omega) (by omega);have i2:inS 0 ((up m).length:Int) (up m++ [(a:Int),(b:Int),(c:Int),(d:Int)]).length=true:=i0k (by omega) (by omega) (by simp<;>omega);rw[i1,i2];have n0:nth [(a:Int),(b:Int),(c:Int),(d:Int)] 0=a:=rfl;have n1:nth [(a:Int),(b:Int),(c:Int),(d:Int)] 1=b:=rfl;have n2:nth [(a:Int),(b:Int),(c:Int),(d:Int)] 2=c:=rfl;have n3:nth [(a:Int),(b:Int),(c:Int),(d:Int)] 3=d:=rfl;rw[n0,n1,n2,n3];have ht:=r0L ha hb' hc hd hy;generalize q0N m=y at*;have hb4:oC 4 [(a:Int),(b:Int),(c:Int),(d:Int)].length=true:=rfl;simp only[qC,vC,ab,hb4];by_cases h:g0M a b c d=y;obtain⟨g1,g2,g3,g4⟩:=ht.1 h;rw[yB h,dT (by omega),dT (by omega),dT (by omega),dT (by omega)];rfl;rw[oB h];have hn: ¬(a=y%256/\b=y/256%256/\c=y/65536%256/\d=y/16777216%256):=λg=>h (ht.2 g)
  have:((vA ((a:Int)=((y%256:Nat):Int)))&&((vA ((b:Int)=((y/256%256:Nat):Int)))&&((vA ((c:Int)=((y/65536%256:Nat):Int)))&&((vA ((d:Int)=((y/16777216%256:Nat):Int)))&&yA))))=false:=by
    rw[Bool.eq_false_iff];intro hx;simp only[aa,decide_eq_true_eq,Bool.and_true]at hx;exact hn (by omega)
  rw[this];rfl
theorem K0m(W Y:Nat)(z:List Int):(bif oA then qA ([],2)else bif yA then bif yA then bif yA then bif yA then bif yA then
    (zA (qA (Y:Int)) λy9=>bif vA (¬(W:Int)=y9)then qA ([],6)else bif yA then qA (z,0)else none)else none else none else none else none else none:Option (List Int×Int))=qA (if W=Y then(z,0)else([],6)):=by
  by_cases h:W=Y;subst h;simp;have: ¬(W:Int)=(Y:Int):=λg=>h (Int.ofNat_inj.1 g)
  simp[h,this]
theorem F0b {b:Nat} (hl:a0A (m++ [a,b,c,d]))(hb:m.length<=4294967290):c0r (up (m++ [a,b,c,d]))=qA (if g0M a b c d=q0N m then(up m,0)else([],6)):=by
  unfold c0r;have hm:a0A m:=λx hx=>hl x (by simp[hx])
  have ha:=hl a (by simp);have hb':=hl b (by simp);have hc:=hl c (by simp);have hd:=hl d (by simp);have hy:=q0v hm
  have e0:jA .i64 (((up (m++ [a,b,c,d])).length:Int)-4)=((up m).length:Int):=by
    rw[b0L,b0L];simp;exact w64 (by omega) (by omega)
  have hu:up (m++ [a,b,c,d])=up m++ [(a:Int),(b:Int),(c:Int),(d:Int)]:=c0J _ _;have hul:=b0L m;rw[e0,dF (by omega),hu,B0i,H0q hm (by omega),w64 (n:=((up m).length:Int)+1) (by omega) (by omega),w64 (n:=((up m).length:Int)+2) (by omega) (by omega),w64 (n:=((up m).length:Int)+3) (by omega) (by omega)];have i2:inS 0 ((up m).length:Int) (up m++ [(a:Int),(b:Int),(c:Int),(d:Int)]).length=true:=i0k (by omega) (by omega) (by simp<;>omega);have k0:inR ((up m).length:Int) (up m++ [(a:Int),(b:Int),(c:Int),(d:Int)]).length=true:=a0C (by omega) (by simp<;>omega);have k1:inR (((up m).length:Int)+1) (up m++ [(a:Int),(b:Int),(c:Int),(d:Int)]).length=true:=a0C (by omega) (by simp<;>omega);have k2:inR (((up m).length:Int)+2) (up m++ [(a:Int),(b:Int),(c:Int),(d:Int)]).length=true:=a0C (by omega) (by simp<;>omega);have k3:inR (((up m).length:Int)+3) (up m++ [(a:Int),(b:Int),(c:Int),(d:Int)]).length=true:=a0C (by omega) (by simp<;>omega);have n0:nth (up m++ [(a:Int),(b:Int),(c:Int),(d:Int)]) ((up m).length:Int)=a:=d0E
  have n1:nth (up m++ [(a:Int),(b:Int),(c:Int),(d:Int)]) (((up m).length:Int)+1)=b:=by
    have:=d0E (pre:=up m++ [(a:Int)]) (x:=(b:Int)) (suf:=[(c:Int),(d:Int)]);simpa using this
  have n2:nth (up m++ [(a:Int),(b:Int),(c:Int),(d:Int)]) (((up m).length:Int)+2)=c:=by
    have:=d0E (pre:=up m++ [(a:Int),(b:Int)]) (x:=(c:Int)) (suf:=[(d:Int)]);simpa using this
  have n3:nth (up m++ [(a:Int),(b:Int),(c:Int),(d:Int)]) (((up m).length:Int)+3)=d:=by
    have:=d0E (pre:=up m++ [(a:Int),(b:Int),(c:Int)]) (x:=(d:Int)) (suf:=[]);simpa using this
  rw[i2,k0,k1,k2,k3,n0,n1,n2,n3]
  rw[q0X (n:=(a:Int)) (by omega) (by omega),q0X (n:=(b:Int)) (by omega) (by omega),q0X (n:=(c:Int)) (by omega) (by omega),q0X (n:=(d:Int)) (by omega) (by omega),q0X (n:=(b:Int)*256) (by omega) (by omega),q0X (n:=(c:Int)*65536) (by omega) (by omega),q0X (n:=(d:Int)*16777216) (by omega) (by omega),
    q0X (n:=(a:Int)+b*256) (by omega) (by omega),q0X (n:=(a:Int)+b*256+c*65536) (by omega) (by omega),q0X (n:=(a:Int)+b*256+c*65536+d*16777216) (by omega) (by omega)]
  have hz:(a:Int)+b*256+c*65536+d*16777216=((g0M a b c d:Nat):Int):=by unfold g0M;omega
  rw[hz];generalize g0M a b c d=W;generalize q0N m=Y;exact K0m W Y _
theorem z0d (h:4<=l.length): ∃m a b c d,l=m++ [a,b,c,d]:=by
  have h4:(l.drop (l.length-4)).length=4:=by simp;omega
  obtain⟨a,b,c,d,he⟩:=l4 h4;exact⟨l.take (l.length-4),a,b,c,d,by rw[<-he,aV]⟩
theorem n0E(y:Nat):a0A (r0M y):=λx hx=>by
  simp[r0M]at hx;rcases hx with rfl|rfl|rfl|rfl<;>omega
theorem z0D (hl:a0A l):onN 4294967295 (l++r0M (q0N l))=H0r:=by
  have hy:=q0v hl;unfold r0M;exact(s0Z (d0X hl (n0E _))).1 (x0w hy)
theorem G0q (hl:a0A l)(h4:4<=l.length)(hb:l.length<=4294967290)(h:onN 4294967295 l≠H0r):j0P (up l)=qA ([],6):=by
  obtain⟨m,a,b,c,d,rfl⟩:=z0d h4;rw[E0C hl (by simp at hb;omega),oB (λe=>h ((s0Z hl).1 e))]
/-! What is put: numbers of sizes, one behind the other. -/
theorem K0l(n:Int):IntKind.u32.wrap n=n%4294967296:=by
  unfold jA;simp only[qF,jG,ca,aI,if_false];rfl
def a0f(n:Int)(k:Nat):Bool×List Nat:=
  if(n%4294967296).toNat<256^k then(vA (¬n=((n%4294967296).toNat:Int)),beN (n%4294967296).toNat k)else(yA,[])
def iB(I:List (Int×Nat)):Bool:=I.any λx=>(a0f x.1 x.2).1
def iE(I:List (Int×Nat)):List Nat:=I.flatMap λx=>(a0f x.1 x.2).2
theorem u0l(I J:List (Int×Nat)):iB (I++J)=(iB I||iB J):=by simp[iB]
theorem w0Q(I J:List (Int×Nat)):iE (I++J)=iE I++iE J:=by simp[iE]
theorem f0Y(x:Int×Nat)(J:List (Int×Nat)):iB (x::J)=((a0f x.1 x.2).1||iB J):=by simp[iB]
theorem o0f(x:Int×Nat)(J:List (Int×Nat)):iE (x::J)=(a0f x.1 x.2).2++iE J:=by simp[iE]
theorem b0f(n:Int)(k:Nat):(a0f n k).2.length<=k:=by
  unfold a0f;split;simp[h0L];simp
theorem x0P(n:Int)(k:Nat):a0A (a0f n k).2:=by
  unfold a0f;split;exact q0z _ _;intro c hc;cases hc
theorem q0k: ∀ {I:List (Int×Nat)},(∀x∈I,x.2<=4)->(iE I).length<=4*I.length
  | [],_=>by simp[iE]
  |x::I,h=>by
    have h1:=q0k (I:=I) λy hy=>h y (ao _ hy)
    have h2:=b0f x.1 x.2;have h3:=h x (av ..);rw[o0f,ac,aC];omega
theorem w0P(I:List (Int×Nat)):a0A (iE I):=λc hc=>by
  unfold iE at hc;obtain⟨x,_,hx⟩:=bl.1 hc;exact x0P _ _ c hx
theorem m0Q (h0:0<=n)(h1:n<4294967296)(h:n.toNat<256^k):a0f n k=(oA,beN n.toNat k):=by
  unfold a0f;have e:n%4294967296=n:=by omega
  rw[e,yB h,dF (by omega)]
theorem w0A (h: ¬(0<=n/\n<4294967296/\n.toNat<256^k)):(a0f n k).1=true:=by
  unfold a0f;split;rename_i h1;show vA _=yA;refine dT λe=>h ⟨by omega,by omega, ?_⟩
  have:(n%4294967296).toNat=n.toNat:=by omega
  omega;rfl
section
variable {x0 : Tx} {x1 x2 x3 x4 x5 x6 x7 : Int} {x8 x9 x10 x11 : Tx} {x12 : List d0H} {x13 : List d0N} {x14 : List d0p} {x15 : List Tx} {bad : Bool} {out : List Nat}
theorem F0d (hk:sz k)(hn: -9223372036854775808<=n/\n<9223372036854775808) (hl:out.length<=4000000000):
    a0a n (k:Int) x0 x1 x2 x3 x4 x5 x6 x7 x8 x9 x10 x11 x12 x13 x14 x15 x16 bad (up out)=qA (bad||(a0f n k).1,up (out++(a0f n k).2)):=by
  unfold a0a a0f;have h0:(0:Int)<=n%4294967296:=by omega
  have h1:n%4294967296<4294967296:=by omega
  rw[K0l];generalize hm:(n%4294967296).toNat=m;have hm2:n%4294967296=(m:Int):=by omega
  rw[hm2,show([]:List Int)=up []from rfl,H0v (l:=[]) (by omega) (by simp)];unfold I0y;have hkl:=x0x hk;by_cases h:m<256^k;rw[yB ⟨hk,h⟩,yB h];simp only[ab,not_true_eq_false,decide_false,vC,aR];rw[w64 (by omega) (by omega)];have hr:room ((up out).length+(up (beN m k)).length)=true:=a0z (by rw[b0L,b0L,h0L];omega);by_cases he:n=(m:Int);rw[dF (λg=>g he)];simp only[vC,ab];rw[hr,c0J];simp;rw[dT he];simp only[qC,ab];rw[hr,c0J];simp;rw[oB (λq=>h q.2),oB h];simp only[ab];rw[dT (by omega)];simp only[qC,ab];have hr:room ((up out).length+(up []).length)=true:=a0z (by rw[b0L,b0L];simp;omega);rw[hr];simp[up]
theorem I0z (hn: -9223372036854775808<=n/\n<9223372036854775808) (hl:out.length<=4000000000):
    a0a n 1 x0 x1 x2 x3 x4 x5 x6 x7 x8 x9 x10 x11 x12 x13 x14 x15 x16 bad (up out)=qA (bad||(a0f n 1).1,up (out++(a0f n 1).2)):=F0d (k:=1) (.inl rfl) hn hl
theorem G0P (hn: -9223372036854775808<=n/\n<9223372036854775808) (hl:out.length<=4000000000):
    a0a n 2 x0 x1 x2 x3 x4 x5 x6 x7 x8 x9 x10 x11 x12 x13 x14 x15 x16 bad (up out)=qA (bad||(a0f n 2).1,up (out++(a0f n 2).2)):=F0d (k:=2) (.inr (.inl rfl)) hn hl
theorem s0a (hn: -9223372036854775808<=n/\n<9223372036854775808) (hl:out.length<=4000000000):
    a0a n 4 x0 x1 x2 x3 x4 x5 x6 x7 x8 x9 x10 x11 x12 x13 x14 x15 x16 bad (up out)=qA (bad||(a0f n 4).1,up (out++(a0f n 4).2)):=F0d (k:=4) (.inr (.inr rfl)) hn hl
theorem B0L :cut (up (r::R)) 1 ((up (r::R)).length:Int)=up R:=by
  unfold cut;rw[aJ,List.take_length];rfl
theorem r0I (hr:r<4294967296) (hl:out.length<=4000000000):
    a0D x0 x1 x2 x3 x4 x5 x6 x7 x8 x9 x10 x11 x12 x13 x14 x15 (up (r::R)) bad (up out)=qA (bad||(a0f r 2).1,up (out++(a0f r 2).2)):=by
  unfold a0D;have h1:inR 0 (up (r::R)).length=true:=a0C (by omega) (by rw[b0L];simp);have h2:nth (up (r::R)) 0=(r:Int):=rfl;rw[h1,h2,G0P (by omega) hl];simp only[qC,ab];rw[i0k (by omega) (by rw[b0L];simp;omega) (by omega)];rfl
def I2(q:Tx->Nat)(t:Tx)(s:List Int):List (Int×Nat):=((q t:Int),2)::s.map λn=>(n,4)
def I3(q:Tx->Nat)(ps:List Tx):List (Int×Nat):=ps.map λt=>((q t:Int),2)
def I4(q:Tx->Nat)(n:Int)(rs:List d0H):List (Int×Nat):=(n,2)::rs.flatMap λr=> [(r.t_,1),((q r.I_:Int),2)]
def I5(q:Tx->Nat)(n:Int)(cs:List d0N):List (Int×Nat):=(n,2)::cs.flatMap λc=> [((q c.D_:Int),2),((q c.x_:Int),2),(c.N_,1)]
def I6(q:Tx->Nat)(n:Int)(cs:List d0p):List (Int×Nat):=(n,2)::cs.flatMap λc=> [(c.G_,1),(c.t_,1),((q c.y_:Int),2)]
theorem G0O(q:Tx->Nat)(n:Int)(rs:List d0H)(r:d0H):I4 q n (rs++ [r])=I4 q n rs++ [(r.t_,1),((q r.I_:Int),2)]:=by simp[I4]
theorem G0N(q:Tx->Nat)(n:Int)(rs:List d0N)(c:d0N):I5 q n (rs++ [c])=I5 q n rs++ [((q c.D_:Int),2),((q c.x_:Int),2),(c.N_,1)]:=by simp[I5]
theorem G0M(q:Tx->Nat)(n:Int)(rs:List d0p)(c:d0p):I6 q n (rs++ [c])=I6 q n rs++ [(c.G_,1),(c.t_,1),((q c.y_:Int),2)]:=by simp[I6]
theorem B0J(q:Tx->Nat)(n:Int)(rs:List d0H):(iE (I4 q n rs)).length<=4*(1+2*rs.length):=by
  refine az (q0k λx hx=> ?_) ?_
  · unfold I4 at hx
    simp only[aG,bl,bc,or_false]at hx;rcases hx with rfl|⟨r,_,rfl|rfl⟩<;>simp
  unfold I4
  rw[aC,show(rs.flatMap λr=> [(r.t_,1),((q r.I_:Int),2)]).length=2*rs.length from by induction rs with
    |nil=>rfl
    |cons r rs ih=>simp only[ap,ac,ih,aC,aH];omega]
  omega
theorem B0I(q:Tx->Nat)(n:Int)(rs:List d0N):(iE (I5 q n rs)).length<=4*(1+3*rs.length):=by
  refine az (q0k λx hx=> ?_) ?_
  · unfold I5 at hx
    simp only[aG,bl,bc,or_false]at hx;rcases hx with rfl|⟨r,_,rfl|rfl|rfl⟩<;>simp
  unfold I5
  rw[aC,show(rs.flatMap λc=> [((q c.D_:Int),2),((q c.x_:Int),2),(c.N_,1)]).length=3*rs.length from by induction rs with
    |nil=>rfl
    |cons r rs ih=>simp only[ap,ac,ih,aC,aH];omega]
  omega
theorem B0H(q:Tx->Nat)(n:Int)(rs:List d0p):(iE (I6 q n rs)).length<=4*(1+3*rs.length):=by
  refine az (q0k λx hx=> ?_) ?_
  · unfold I6 at hx
    simp only[aG,bl,bc,or_false]at hx;rcases hx with rfl|⟨r,_,rfl|rfl|rfl⟩<;>simp
  unfold I6
  rw[aC,show(rs.flatMap λc=> [(c.G_,1),(c.t_,1),((q c.y_:Int),2)]).length=3*rs.length from by induction rs with
    |nil=>rfl
    |cons r rs ih=>simp only[ap,ac,ih,aC,aH];omega]
  omega
theorem C0Q {q:Tx->Nat} (hq: ∀t,q t<4294967296) (hs: ∀n∈ [x1,x2,x3,x4,x5,x6,x7],-2147483648<=n/\n<2147483648)(hl:out.length<=3000000000):
    c0d x0 x1 x2 x3 x4 x5 x6 x7 x8 x9 x10 x11 x12 x13 x14 x15 (up (q x0::R)) bad (up out)=qA (bad||iB (I2 q x0 [x1,x2,x3,x4,x5,x6,x7]),up (out++iE (I2 q x0 [x1,x2,x3,x4,x5,x6,x7]))):=by
  have b1:=hs x1 (by simp);have b2:=hs x2 (by simp);have b3:=hs x3 (by simp);have b4:=hs x4 (by simp);have b5:=hs x5 (by simp);have b6:=hs x6 (by simp);have b7:=hs x7 (by simp);unfold c0d;rw[r0I (hq x0) (by omega),B0L];simp only[ab];rw[w64 (n:=x1) (by omega) (by omega),w64 (n:=x2) (by omega) (by omega),w64 (n:=x3) (by omega) (by omega),w64 (n:=x4) (by omega) (by omega),w64 (n:=x5) (by omega) (by omega),w64 (n:=x6) (by omega) (by omega),w64 (n:=x7) (by omega) (by omega)];have g0:=b0f (q x0:Int) 2;have g1:=b0f x1 4;have g2:=b0f x2 4;have g3:=b0f x3 4;have g4:=b0f x4 4;have g5:=b0f x5 4;have g6:=b0f x6 4;have g7:=b0f x7 4;refine(a0J (n:=18446744073709551615) (s':=((1:Int),((bad||(a0f (q x0:Int) 2).1)||(a0f x1 4).1),up ((out++(a0f (q x0:Int) 2).2)++(a0f x1 4).2))) ?_).trans ?_;show zA (a0a x1 4 x0 x1 x2 x3 x4 x5 x6 x7 x8 x9 x10 x11 x12 x13 x14 x15 (up R) (bad||(a0f (q x0:Int) 2).1) (up (out++(a0f (q x0:Int) 2).2))) _=_;rw[s0a (by omega) (by simp only[ac];omega)];rfl;refine(a0J (n:=18446744073709551614) (s':=((2:Int),(((bad||(a0f (q x0:Int) 2).1)||(a0f x1 4).1)||(a0f x2 4).1),up (((out++(a0f (q x0:Int) 2).2)++(a0f x1 4).2)++(a0f x2 4).2))) ?_).trans ?_;show zA (a0a x2 4 x0 x1 x2 x3 x4 x5 x6 x7 x8 x9 x10 x11 x12 x13 x14 x15 (up R) ((bad||(a0f (q x0:Int) 2).1)||(a0f x1 4).1) (up ((out++(a0f (q x0:Int) 2).2)++(a0f x1 4).2))) _=_;rw[s0a (by omega) (by simp only[ac];omega)];rfl;refine(a0J (n:=18446744073709551613) (s':=((3:Int),((((bad||(a0f (q x0:Int) 2).1)||(a0f x1 4).1)||(a0f x2 4).1)||(a0f x3 4).1),up ((((out++(a0f (q x0:Int) 2).2)++(a0f x1 4).2)++(a0f x2 4).2)++(a0f x3 4).2))) ?_).trans ?_;show zA (a0a x3 4 x0 x1 x2 x3 x4 x5 x6 x7 x8 x9 x10 x11 x12 x13 x14 x15 (up R) (((bad||(a0f (q x0:Int) 2).1)||(a0f x1 4).1)||(a0f x2 4).1) (up (((out++(a0f (q x0:Int) 2).2)++(a0f x1 4).2)++(a0f x2 4).2))) _=_;rw[s0a (by omega) (by simp only[ac];omega)];rfl;refine(a0J (n:=18446744073709551612) (s':=((4:Int),(((((bad||(a0f (q x0:Int) 2).1)||(a0f x1 4).1)||(a0f x2 4).1)||(a0f x3 4).1)||(a0f x4 4).1),up (((((out++(a0f (q x0:Int) 2).2)++(a0f x1 4).2)++(a0f x2 4).2)++(a0f x3 4).2)++(a0f x4 4).2))) ?_).trans ?_;show zA (a0a x4 4 x0 x1 x2 x3 x4 x5 x6 x7 x8 x9 x10 x11 x12 x13 x14 x15 (up R) ((((bad||(a0f (q x0:Int) 2).1)||(a0f x1 4).1)||(a0f x2 4).1)||(a0f x3 4).1) (up ((((out++(a0f (q x0:Int) 2).2)++(a0f x1 4).2)++(a0f x2 4).2)++(a0f x3 4).2))) _=_;rw[s0a (by omega) (by simp only[ac];omega)];rfl;refine(a0J (n:=18446744073709551611) (s':=((5:Int),((((((bad||(a0f (q x0:Int) 2).1)||(a0f x1 4).1)||(a0f x2 4).1)||(a0f x3 4).1)||(a0f x4 4).1)||(a0f x5 4).1),up ((((((out++(a0f (q x0:Int) 2).2)++(a0f x1 4).2)++(a0f x2 4).2)++(a0f x3 4).2)++(a0f x4 4).2)++(a0f x5 4).2))) ?_).trans ?_;show zA (a0a x5 4 x0 x1 x2 x3 x4 x5 x6 x7 x8 x9 x10 x11 x12 x13 x14 x15 (up R) (((((bad||(a0f (q x0:Int) 2).1)||(a0f x1 4).1)||(a0f x2 4).1)||(a0f x3 4).1)||(a0f x4 4).1) (up (((((out++(a0f (q x0:Int) 2).2)++(a0f x1 4).2)++(a0f x2 4).2)++(a0f x3 4).2)++(a0f x4 4).2))) _=_;rw[s0a (by omega) (by simp only[ac];omega)];rfl;refine(a0J (n:=18446744073709551610) (s':=((6:Int),(((((((bad||(a0f (q x0:Int) 2).1)||(a0f x1 4).1)||(a0f x2 4).1)||(a0f x3 4).1)||(a0f x4 4).1)||(a0f x5 4).1)||(a0f x6 4).1),up (((((((out++(a0f (q x0:Int) 2).2)++(a0f x1 4).2)++(a0f x2 4).2)++(a0f x3 4).2)++(a0f x4 4).2)++(a0f x5 4).2)++(a0f x6 4).2))) ?_).trans ?_;show zA (a0a x6 4 x0 x1 x2 x3 x4 x5 x6 x7 x8 x9 x10 x11 x12 x13 x14 x15 (up R) ((((((bad||(a0f (q x0:Int) 2).1)||(a0f x1 4).1)||(a0f x2 4).1)||(a0f x3 4).1)||(a0f x4 4).1)||(a0f x5 4).1) (up ((((((out++(a0f (q x0:Int) 2).2)++(a0f x1 4).2)++(a0f x2 4).2)++(a0f x3 4).2)++(a0f x4 4).2)++(a0f x5 4).2))) _=_;rw[s0a (by omega) (by simp only[ac];omega)];rfl;refine(a0J (n:=18446744073709551609) (s':=((7:Int),((((((((bad||(a0f (q x0:Int) 2).1)||(a0f x1 4).1)||(a0f x2 4).1)||(a0f x3 4).1)||(a0f x4 4).1)||(a0f x5 4).1)||(a0f x6 4).1)||(a0f x7 4).1),up ((((((((out++(a0f (q x0:Int) 2).2)++(a0f x1 4).2)++(a0f x2 4).2)++(a0f x3 4).2)++(a0f x4 4).2)++(a0f x5 4).2)++(a0f x6 4).2)++(a0f x7 4).2))) ?_).trans ?_;show zA (a0a x7 4 x0 x1 x2 x3 x4 x5 x6 x7 x8 x9 x10 x11 x12 x13 x14 x15 (up R) (((((((bad||(a0f (q x0:Int) 2).1)||(a0f x1 4).1)||(a0f x2 4).1)||(a0f x3 4).1)||(a0f x4 4).1)||(a0f x5 4).1)||(a0f x6 4).1) (up (((((((out++(a0f (q x0:Int) 2).2)++(a0f x1 4).2)++(a0f x2 4).2)++(a0f x3 4).2)++(a0f x4 4).2)++(a0f x5 4).2)++(a0f x6 4).2))) _=_;rw[s0a (by omega) (by simp only[ac];omega)];rfl;refine(d0C (n:=18446744073709551608) rfl).trans ?_;simp only[I2,ah,aA,f0Y,o0f,cE,aB];simp[iB,iE]
theorem F0i {q:Tx->Nat} (hq: ∀t,q t<4294967296) {p0 p1 p2 p3:Tx} (hl:out.length<=3000000000):
    b0x x0 x1 x2 x3 x4 x5 x6 x7 x8 x9 x10 x11 x12 x13 x14 x15 (up (q p0::q p1::q p2::q p3::R)) bad (up out)=qA (up R,(bad||iB (I3 q [p0,p1,p2,p3])),up (out++iE (I3 q [p0,p1,p2,p3]))):=by
  unfold b0x;have g0:=b0f (q p0:Int) 2;have g1:=b0f (q p1:Int) 2;have g2:=b0f (q p2:Int) 2;have g3:=b0f (q p3:Int) 2;refine(a0J (n:=18446744073709551615) (s':=((1:Int),up (q p1::q p2::q p3::R),((bad)||(a0f (q p0:Int) 2).1),up ((out)++(a0f (q p0:Int) 2).2))) ?_).trans ?_;show zA (a0D x0 x1 x2 x3 x4 x5 x6 x7 x8 x9 x10 x11 x12 x13 x14 x15 (up (q p0::q p1::q p2::q p3::R)) (bad) (up (out))) _=_;rw[r0I (hq p0) (by first|omega|(simp only[ac];omega))];simp only[ab];rw[B0L];rfl;refine(a0J (n:=18446744073709551614) (s':=((2:Int),up (q p2::q p3::R),(((bad)||(a0f (q p0:Int) 2).1)||(a0f (q p1:Int) 2).1),up (((out)++(a0f (q p0:Int) 2).2)++(a0f (q p1:Int) 2).2))) ?_).trans ?_;show zA (a0D x0 x1 x2 x3 x4 x5 x6 x7 x8 x9 x10 x11 x12 x13 x14 x15 (up (q p1::q p2::q p3::R)) ((bad)||(a0f (q p0:Int) 2).1) (up ((out)++(a0f (q p0:Int) 2).2))) _=_;rw[r0I (hq p1) (by first|omega|(simp only[ac];omega))];simp only[ab];rw[B0L];rfl;refine(a0J (n:=18446744073709551613) (s':=((3:Int),up (q p3::R),((((bad)||(a0f (q p0:Int) 2).1)||(a0f (q p1:Int) 2).1)||(a0f (q p2:Int) 2).1),up ((((out)++(a0f (q p0:Int) 2).2)++(a0f (q p1:Int) 2).2)++(a0f (q p2:Int) 2).2))) ?_).trans ?_;show zA (a0D x0 x1 x2 x3 x4 x5 x6 x7 x8 x9 x10 x11 x12 x13 x14 x15 (up (q p2::q p3::R)) (((bad)||(a0f (q p0:Int) 2).1)||(a0f (q p1:Int) 2).1) (up (((out)++(a0f (q p0:Int) 2).2)++(a0f (q p1:Int) 2).2))) _=_;rw[r0I (hq p2) (by first|omega|(simp only[ac];omega))];simp only[ab];rw[B0L];rfl;refine(a0J (n:=18446744073709551612) (s':=((4:Int),up (R),(((((bad)||(a0f (q p0:Int) 2).1)||(a0f (q p1:Int) 2).1)||(a0f (q p2:Int) 2).1)||(a0f (q p3:Int) 2).1),up (((((out)++(a0f (q p0:Int) 2).2)++(a0f (q p1:Int) 2).2)++(a0f (q p2:Int) 2).2)++(a0f (q p3:Int) 2).2))) ?_).trans ?_;show zA (a0D x0 x1 x2 x3 x4 x5 x6 x7 x8 x9 x10 x11 x12 x13 x14 x15 (up (q p3::R)) ((((bad)||(a0f (q p0:Int) 2).1)||(a0f (q p1:Int) 2).1)||(a0f (q p2:Int) 2).1) (up ((((out)++(a0f (q p0:Int) 2).2)++(a0f (q p1:Int) 2).2)++(a0f (q p2:Int) 2).2))) _=_;rw[r0I (hq p3) (by first|omega|(simp only[ac];omega))];simp only[ab];rw[B0L];rfl;refine(d0C (n:=18446744073709551611) rfl).trans ?_;simp only[I3,ah,aA,f0Y,o0f,cE,aB];simp[iB,iE]
theorem C0u {q:Tx->Nat} (hq: ∀t,q t<4294967296) {S:List Nat} {rs:List d0H} (hn:rs.length<=10000000)(hs: ∀r∈rs,-9223372036854775808<=r.t_/\r.t_<9223372036854775808)(hl:out.length<=3000000000):
    c0c x0 x1 x2 x3 x4 x5 x6 x7 x8 x9 x10 x11 rs x13 x14 x15 (up (rs.map (λr=>q r.I_)++S)) bad (up out)=qA (up S,(bad||iB (I4 q rs.length rs)),up (out++iE (I4 q rs.length rs))):=by
  unfold c0c;rw[G0P (by omega) (by omega)];simp only[ab];refine d0R rs (λpre=>((pre.length:Int),up ((rs.drop pre.length).map (λr=>q r.I_)++S),(bad||iB (I4 q rs.length pre)),up (out++iE (I4 q rs.length pre)))) _ (by simp[I4,iB,iE]) (λpre x suf h=> ?_) (by simp only;rw[k0c];simp) (by omega);have hx:=hs x (by rw[h];simp);have hdrop:rs.drop pre.length=x::suf:=by rw[h];simp
  have hdrop2:rs.drop (pre++ [x]).length=suf:=by rw[h];simp
  have hpl:pre.length<rs.length:=by rw[h];simp
  have hlen:=B0J q rs.length pre;have hlen2:=b0f x.t_ 1;simp only;rw[hdrop,hdrop2,G0O];generalize hNN:(rs.length:Int)=N at*;have hl':(pre++x::suf).length<=4611686018427387904:=by rw[<-h];omega
  simp only[ah,aK];rw[dT (by omega),show inR (pre.length:Int) rs.length=yA from a0C (by omega) (by omega),show nth rs (pre.length:Int)=x from by rw[h];exact d0E];simp only[qC];rw[I0z hx (by simp only[ac];omega)];simp only[ab];rw[r0I (hq x.I_) (by simp only[ac];omega),B0L];simp only[ab];rw[o0L hl',u0l,w0Q];simp[iB,iE,cE]
end
section
variable {x0 : Tx} {x1 x2 x3 x4 x5 x6 x7 : Int} {x8 x9 x10 x11 : Tx} {x12 : List d0H} {x13 : List d0N} {x14 : List d0p} {x15 : List Tx} {bad : Bool} {out : List Nat}
theorem G0r {q:Tx->Nat} (hq: ∀t,q t<4294967296) {S:List Nat} {rs:List d0N} (hn:rs.length<=10000000)(hs: ∀r∈rs,-9223372036854775808<=r.N_/\r.N_<9223372036854775808)(hl:out.length<=3000000000):
    b0h x0 x1 x2 x3 x4 x5 x6 x7 x8 x9 x10 x11 x12 rs x14 x15 (up (rs.flatMap (λr=> [q r.D_,q r.x_])++S)) bad (up out)=qA (up S,(bad||iB (I5 q rs.length rs)),up (out++iE (I5 q rs.length rs))):=by
  unfold b0h;rw[G0P (by omega) (by omega)];simp only[ab];refine d0R rs (λpre=>((pre.length:Int),up ((rs.drop pre.length).flatMap (λr=> [q r.D_,q r.x_])++S),(bad||iB (I5 q rs.length pre)),up (out++iE (I5 q rs.length pre)))) _ (by simp[I5,iB,iE]) (λpre x suf h=> ?_) (by simp only;rw[k0c];simp) (by omega);have hx:=hs x (by rw[h];simp);have hdrop:rs.drop pre.length=x::suf:=by rw[h];simp
  have hdrop2:rs.drop (pre++ [x]).length=suf:=by rw[h];simp
  have hpl:pre.length<rs.length:=by rw[h];simp
  have hlen:=B0I q rs.length pre;have hlen2:=b0f (q x.D_:Int) 2;have hlen3:=b0f (q x.x_:Int) 2;simp only;rw[hdrop,hdrop2,G0N];generalize hNN:(rs.length:Int)=N at*;have hl':(pre++x::suf).length<=4611686018427387904:=by rw[<-h];omega
  simp only[ap,aK,aR];rw[dT (by omega),show inR (pre.length:Int) rs.length=yA from a0C (by omega) (by omega),show nth rs (pre.length:Int)=x from by rw[h];exact d0E];simp only[qC];rw[r0I (hq x.D_) (by simp only[ac];omega),B0L];simp only[ab];rw[r0I (hq x.x_) (by simp only[ac];omega),B0L];simp only[ab];rw[I0z hx (by simp only[ac];omega)];simp only[ab];rw[o0L hl',u0l,w0Q];simp[iB,iE,cE]
theorem D0B {q:Tx->Nat} (hq: ∀t,q t<4294967296) {S:List Nat} {rs:List d0p} (hn:rs.length<=10000000)(hs: ∀r∈rs,(-9223372036854775808<=r.G_/\r.G_<9223372036854775808)/\(-9223372036854775808<=r.t_/\r.t_<9223372036854775808))(hl:out.length<=3000000000):
    b0y x0 x1 x2 x3 x4 x5 x6 x7 x8 x9 x10 x11 x12 x13 rs x15 (up (rs.map (λr=>q r.y_)++S)) bad (up out)=qA (up S,(bad||iB (I6 q rs.length rs)),up (out++iE (I6 q rs.length rs))):=by
  unfold b0y;rw[G0P (by omega) (by omega)];simp only[ab];refine d0R rs (λpre=>((pre.length:Int),up ((rs.drop pre.length).map (λr=>q r.y_)++S),(bad||iB (I6 q rs.length pre)),up (out++iE (I6 q rs.length pre)))) _ (by simp[I6,iB,iE]) (λpre x suf h=> ?_) (by simp only;rw[k0c];simp) (by omega);have hx:=hs x (by rw[h];simp);have hdrop:rs.drop pre.length=x::suf:=by rw[h];simp
  have hdrop2:rs.drop (pre++ [x]).length=suf:=by rw[h];simp
  have hpl:pre.length<rs.length:=by rw[h];simp
  have hlen:=B0H q rs.length pre;have hlen2:=b0f x.G_ 1;have hlen3:=b0f x.t_ 1;simp only;rw[hdrop,hdrop2,G0M];generalize hNN:(rs.length:Int)=N at*;have hl':(pre++x::suf).length<=4611686018427387904:=by rw[<-h];omega
  simp only[ah,aK];rw[dT (by omega),show inR (pre.length:Int) rs.length=yA from a0C (by omega) (by omega),show nth rs (pre.length:Int)=x from by rw[h];exact d0E];simp only[qC];rw[I0z hx.1 (by simp only[ac];omega)];simp only[ab];rw[I0z hx.2 (by simp only[ac];omega)];simp only[ab];rw[r0I (hq x.y_) (by simp only[ac];omega),B0L];simp only[ab];rw[o0L hl',u0l,w0Q];simp[iB,iE,cE]
theorem B0Z (hp:x15.length<=4294967290)(hl:out.length<=3000000000):
    c0b x0 x1 x2 x3 x4 x5 x6 x7 x8 x9 x10 x11 x12 x13 x14 x15 x16 bad (up out)=qA ((bad|| !vA (e0P x15)),up (out++(b0O [] x15).1)):=by
  unfold c0b;rw[show([]:List Int)=up []from rfl,F0c (b:=[]) (by simp) hp];simp only[ab];by_cases h:e0P x15;have hb:=n0R h.2.1;have h500:=h.1;have e:b0O [] x15=(beN x15.length 2++h0p x15,0):=by unfold b0O;rw[yB h];simp
  rw[e,dT h];simp only[not_true_eq_false,decide_false,vC,ab];rw[a0z (by simp only[b0L,ac,h0L];omega),c0J];simp[c0J];have e:b0O [] x15=([],1):=by unfold b0O;rw[oB h]
  rw[e,dF h];simp only[show vA (¬(1:Int)=0)=yA from rfl,qC,ab];rw[a0z (by simp only[b0L,aH];omega)];simp[up]
def IH(T:List (Int×Int)):List (Int×Nat):=[(1,2),(6,2)]++T.flatMap λr=> [(r.1,4),(r.2,4)]
theorem F0N {a0 b0 a1 b1 a2 b2 a3 b3 a4 b4 a5 b5:Int} (hs: ∀n∈ [a0,b0,a1,b1,a2,b2,a3,b3,a4,b4,a5,b5],0<=n/\n<9223372036854775808) (hl:out.length<=3000000000):
    c0M (⟨⟨a0,b0⟩,⟨a1,b1⟩,⟨a2,b2⟩,⟨a3,b3⟩,⟨a4,b4⟩,⟨a5,b5⟩⟩:y0t) x0 x1 x2 x3 x4 x5 x6 x7 x8 x9 x10 x11 x12 x13 x14 x15 x16 bad (up out)=qA (bad||iB (IH [(a0,b0),(a1,b1),(a2,b2),(a3,b3),(a4,b4),(a5,b5)]),up (out++iE (IH [(a0,b0),(a1,b1),(a2,b2),(a3,b3),(a4,b4),(a5,b5)]))):=by
  unfold c0M;have ha0:=hs a0 (by simp);have hb0:=hs b0 (by simp);have ga0:=b0f a0 4;have gb0:=b0f b0 4;have ha1:=hs a1 (by simp);have hb1:=hs b1 (by simp);have ga1:=b0f a1 4;have gb1:=b0f b1 4;have ha2:=hs a2 (by simp);have hb2:=hs b2 (by simp);have ga2:=b0f a2 4;have gb2:=b0f b2 4;have ha3:=hs a3 (by simp);have hb3:=hs b3 (by simp);have ga3:=b0f a3 4;have gb3:=b0f b3 4;have ha4:=hs a4 (by simp);have hb4:=hs b4 (by simp);have ga4:=b0f a4 4;have gb4:=b0f b4 4;have ha5:=hs a5 (by simp);have hb5:=hs b5 (by simp);have ga5:=b0f a5 4;have gb5:=b0f b5 4;have g0:=b0f 1 2;have g1:=b0f 6 2;rw[G0P (by omega) (by omega)];simp only[ab];rw[G0P (by omega) (by simp only[ac];omega)];simp only[ab];refine(a0J (n:=18446744073709551615) (s':=((1:Int),(((bad||(a0f 1 2).1||(a0f 6 2).1)||(a0f a0 4).1)||(a0f b0 4).1),up (((out++(a0f 1 2).2++(a0f 6 2).2)++(a0f a0 4).2)++(a0f b0 4).2))) ?_).trans ?_;show zA (a0a a0 4 x0 x1 x2 x3 x4 x5 x6 x7 x8 x9 x10 x11 x12 x13 x14 x15 x16 (bad||(a0f 1 2).1||(a0f 6 2).1) (up (out++(a0f 1 2).2++(a0f 6 2).2))) _=_;rw[s0a (by omega) (by simp only[ac];omega)];show zA (a0a b0 4 x0 x1 x2 x3 x4 x5 x6 x7 x8 x9 x10 x11 x12 x13 x14 x15 x16 ((bad||(a0f 1 2).1||(a0f 6 2).1)||(a0f a0 4).1) (up ((out++(a0f 1 2).2++(a0f 6 2).2)++(a0f a0 4).2))) _=_;rw[s0a (by omega) (by simp only[ac];omega)];rfl;refine(a0J (n:=18446744073709551614) (s':=((2:Int),(((((bad||(a0f 1 2).1||(a0f 6 2).1)||(a0f a0 4).1)||(a0f b0 4).1)||(a0f a1 4).1)||(a0f b1 4).1),up (((((out++(a0f 1 2).2++(a0f 6 2).2)++(a0f a0 4).2)++(a0f b0 4).2)++(a0f a1 4).2)++(a0f b1 4).2))) ?_).trans ?_;show zA (a0a a1 4 x0 x1 x2 x3 x4 x5 x6 x7 x8 x9 x10 x11 x12 x13 x14 x15 x16 (((bad||(a0f 1 2).1||(a0f 6 2).1)||(a0f a0 4).1)||(a0f b0 4).1) (up (((out++(a0f 1 2).2++(a0f 6 2).2)++(a0f a0 4).2)++(a0f b0 4).2))) _=_;rw[s0a (by omega) (by simp only[ac];omega)];show zA (a0a b1 4 x0 x1 x2 x3 x4 x5 x6 x7 x8 x9 x10 x11 x12 x13 x14 x15 x16 ((((bad||(a0f 1 2).1||(a0f 6 2).1)||(a0f a0 4).1)||(a0f b0 4).1)||(a0f a1 4).1) (up ((((out++(a0f 1 2).2++(a0f 6 2).2)++(a0f a0 4).2)++(a0f b0 4).2)++(a0f a1 4).2))) _=_;rw[s0a (by omega) (by simp only[ac];omega)];rfl;refine(a0J (n:=18446744073709551613) (s':=((3:Int),(((((((bad||(a0f 1 2).1||(a0f 6 2).1)||(a0f a0 4).1)||(a0f b0 4).1)||(a0f a1 4).1)||(a0f b1 4).1)||(a0f a2 4).1)||(a0f b2 4).1),up (((((((out++(a0f 1 2).2++(a0f 6 2).2)++(a0f a0 4).2)++(a0f b0 4).2)++(a0f a1 4).2)++(a0f b1 4).2)++(a0f a2 4).2)++(a0f b2 4).2))) ?_).trans ?_;show zA (a0a a2 4 x0 x1 x2 x3 x4 x5 x6 x7 x8 x9 x10 x11 x12 x13 x14 x15 x16 (((((bad||(a0f 1 2).1||(a0f 6 2).1)||(a0f a0 4).1)||(a0f b0 4).1)||(a0f a1 4).1)||(a0f b1 4).1) (up (((((out++(a0f 1 2).2++(a0f 6 2).2)++(a0f a0 4).2)++(a0f b0 4).2)++(a0f a1 4).2)++(a0f b1 4).2))) _=_;rw[s0a (by omega) (by simp only[ac];omega)];show zA (a0a b2 4 x0 x1 x2 x3 x4 x5 x6 x7 x8 x9 x10 x11 x12 x13 x14 x15 x16 ((((((bad||(a0f 1 2).1||(a0f 6 2).1)||(a0f a0 4).1)||(a0f b0 4).1)||(a0f a1 4).1)||(a0f b1 4).1)||(a0f a2 4).1) (up ((((((out++(a0f 1 2).2++(a0f 6 2).2)++(a0f a0 4).2)++(a0f b0 4).2)++(a0f a1 4).2)++(a0f b1 4).2)++(a0f a2 4).2))) _=_;rw[s0a (by omega) (by simp only[ac];omega)];rfl;refine(a0J (n:=18446744073709551612) (s':=((4:Int),(((((((((bad||(a0f 1 2).1||(a0f 6 2).1)||(a0f a0 4).1)||(a0f b0 4).1)||(a0f a1 4).1)||(a0f b1 4).1)||(a0f a2 4).1)||(a0f b2 4).1)||(a0f a3 4).1)||(a0f b3 4).1),up (((((((((out++(a0f 1 2).2++(a0f 6 2).2)++(a0f a0 4).2)++(a0f b0 4).2)++(a0f a1 4).2)++(a0f b1 4).2)++(a0f a2 4).2)++(a0f b2 4).2)++(a0f a3 4).2)++(a0f b3 4).2))) ?_).trans ?_;show zA (a0a a3 4 x0 x1 x2 x3 x4 x5 x6 x7 x8 x9 x10 x11 x12 x13 x14 x15 x16 (((((((bad||(a0f 1 2).1||(a0f 6 2).1)||(a0f a0 4).1)||(a0f b0 4).1)||(a0f a1 4).1)||(a0f b1 4).1)||(a0f a2 4).1)||(a0f b2 4).1) (up (((((((out++(a0f 1 2).2++(a0f 6 2).2)++(a0f a0 4).2)++(a0f b0 4).2)++(a0f a1 4).2)++(a0f b1 4).2)++(a0f a2 4).2)++(a0f b2 4).2))) _=_;rw[s0a (by omega) (by simp only[ac];omega)];show zA (a0a b3 4 x0 x1 x2 x3 x4 x5 x6 x7 x8 x9 x10 x11 x12 x13 x14 x15 x16 ((((((((bad||(a0f 1 2).1||(a0f 6 2).1)||(a0f a0 4).1)||(a0f b0 4).1)||(a0f a1 4).1)||(a0f b1 4).1)||(a0f a2 4).1)||(a0f b2 4).1)||(a0f a3 4).1) (up ((((((((out++(a0f 1 2).2++(a0f 6 2).2)++(a0f a0 4).2)++(a0f b0 4).2)++(a0f a1 4).2)++(a0f b1 4).2)++(a0f a2 4).2)++(a0f b2 4).2)++(a0f a3 4).2))) _=_;rw[s0a (by omega) (by simp only[ac];omega)];rfl;refine(a0J (n:=18446744073709551611) (s':=((5:Int),(((((((((((bad||(a0f 1 2).1||(a0f 6 2).1)||(a0f a0 4).1)||(a0f b0 4).1)||(a0f a1 4).1)||(a0f b1 4).1)||(a0f a2 4).1)||(a0f b2 4).1)||(a0f a3 4).1)||(a0f b3 4).1)||(a0f a4 4).1)||(a0f b4 4).1),up (((((((((((out++(a0f 1 2).2++(a0f 6 2).2)++(a0f a0 4).2)++(a0f b0 4).2)++(a0f a1 4).2)++(a0f b1 4).2)++(a0f a2 4).2)++(a0f b2 4).2)++(a0f a3 4).2)++(a0f b3 4).2)++(a0f a4 4).2)++(a0f b4 4).2))) ?_).trans ?_;show zA (a0a a4 4 x0 x1 x2 x3 x4 x5 x6 x7 x8 x9 x10 x11 x12 x13 x14 x15 x16 (((((((((bad||(a0f 1 2).1||(a0f 6 2).1)||(a0f a0 4).1)||(a0f b0 4).1)||(a0f a1 4).1)||(a0f b1 4).1)||(a0f a2 4).1)||(a0f b2 4).1)||(a0f a3 4).1)||(a0f b3 4).1) (up (((((((((out++(a0f 1 2).2++(a0f 6 2).2)++(a0f a0 4).2)++(a0f b0 4).2)++(a0f a1 4).2)++(a0f b1 4).2)++(a0f a2 4).2)++(a0f b2 4).2)++(a0f a3 4).2)++(a0f b3 4).2))) _=_;rw[s0a (by omega) (by simp only[ac];omega)];show zA (a0a b4 4 x0 x1 x2 x3 x4 x5 x6 x7 x8 x9 x10 x11 x12 x13 x14 x15 x16 ((((((((((bad||(a0f 1 2).1||(a0f 6 2).1)||(a0f a0 4).1)||(a0f b0 4).1)||(a0f a1 4).1)||(a0f b1 4).1)||(a0f a2 4).1)||(a0f b2 4).1)||(a0f a3 4).1)||(a0f b3 4).1)||(a0f a4 4).1) (up ((((((((((out++(a0f 1 2).2++(a0f 6 2).2)++(a0f a0 4).2)++(a0f b0 4).2)++(a0f a1 4).2)++(a0f b1 4).2)++(a0f a2 4).2)++(a0f b2 4).2)++(a0f a3 4).2)++(a0f b3 4).2)++(a0f a4 4).2))) _=_;rw[s0a (by omega) (by simp only[ac];omega)];rfl;refine(a0J (n:=18446744073709551610) (s':=((6:Int),(((((((((((((bad||(a0f 1 2).1||(a0f 6 2).1)||(a0f a0 4).1)||(a0f b0 4).1)||(a0f a1 4).1)||(a0f b1 4).1)||(a0f a2 4).1)||(a0f b2 4).1)||(a0f a3 4).1)||(a0f b3 4).1)||(a0f a4 4).1)||(a0f b4 4).1)||(a0f a5 4).1)||(a0f b5 4).1),up (((((((((((((out++(a0f 1 2).2++(a0f 6 2).2)++(a0f a0 4).2)++(a0f b0 4).2)++(a0f a1 4).2)++(a0f b1 4).2)++(a0f a2 4).2)++(a0f b2 4).2)++(a0f a3 4).2)++(a0f b3 4).2)++(a0f a4 4).2)++(a0f b4 4).2)++(a0f a5 4).2)++(a0f b5 4).2))) ?_).trans ?_;show zA (a0a a5 4 x0 x1 x2 x3 x4 x5 x6 x7 x8 x9 x10 x11 x12 x13 x14 x15 x16 (((((((((((bad||(a0f 1 2).1||(a0f 6 2).1)||(a0f a0 4).1)||(a0f b0 4).1)||(a0f a1 4).1)||(a0f b1 4).1)||(a0f a2 4).1)||(a0f b2 4).1)||(a0f a3 4).1)||(a0f b3 4).1)||(a0f a4 4).1)||(a0f b4 4).1) (up (((((((((((out++(a0f 1 2).2++(a0f 6 2).2)++(a0f a0 4).2)++(a0f b0 4).2)++(a0f a1 4).2)++(a0f b1 4).2)++(a0f a2 4).2)++(a0f b2 4).2)++(a0f a3 4).2)++(a0f b3 4).2)++(a0f a4 4).2)++(a0f b4 4).2))) _=_;rw[s0a (by omega) (by simp only[ac];omega)];show zA (a0a b5 4 x0 x1 x2 x3 x4 x5 x6 x7 x8 x9 x10 x11 x12 x13 x14 x15 x16 ((((((((((((bad||(a0f 1 2).1||(a0f 6 2).1)||(a0f a0 4).1)||(a0f b0 4).1)||(a0f a1 4).1)||(a0f b1 4).1)||(a0f a2 4).1)||(a0f b2 4).1)||(a0f a3 4).1)||(a0f b3 4).1)||(a0f a4 4).1)||(a0f b4 4).1)||(a0f a5 4).1) (up ((((((((((((out++(a0f 1 2).2++(a0f 6 2).2)++(a0f a0 4).2)++(a0f b0 4).2)++(a0f a1 4).2)++(a0f b1 4).2)++(a0f a2 4).2)++(a0f b2 4).2)++(a0f a3 4).2)++(a0f b3 4).2)++(a0f a4 4).2)++(a0f b4 4).2)++(a0f a5 4).2))) _=_;rw[s0a (by omega) (by simp only[ac];omega)];rfl;refine(d0C (n:=18446744073709551609) rfl).trans ?_;simp only[IH,ap,List.flatMap_nil,aK,aR,f0Y,o0f,cE,aB];simp[iB,iE]
end
def e0s(l:c0x):List Tx:=l.l_::l.b_.f_::l.b_.e_::l.b_.h_::l.b_.i_::(l.j_.map (λr=>r.I_)++(l.g_.flatMap (λc=> [c.D_,c.x_])++l.c_.map λc=>c.y_))
structure Med (l:c0x):Prop where
  s: ∀n∈ [l.S_.u_,l.S_.r_,l.S_.q_,l.S_.o_,l.S_.m_,l.S_.p_,l.S_.n_],-2147483648<=n/\n<2147483648
  r:l.j_.length<=60000/\ ∀r∈l.j_,-9223372036854775808<=r.t_/\r.t_<9223372036854775808
  c:l.g_.length<=60000/\ ∀r∈l.g_,-9223372036854775808<=r.N_/\r.N_<9223372036854775808
  k:l.c_.length<=60000/\ ∀r∈l.c_,(-9223372036854775808<=r.G_/\r.G_<9223372036854775808)/\(-9223372036854775808<=r.t_/\r.t_<9223372036854775808)
theorem n0o(cs:List d0N):(cs.flatMap (λc=> [c.D_,c.x_])).length=2*cs.length:=by
  induction cs with
  |nil=>rfl
  |cons c cs ih=>simp only[ap,ac,ih,aC,aH];omega
theorem q0Y(l:c0x):(e0s l).length=5+l.j_.length+2*l.g_.length+l.c_.length:=by
  unfold e0s;simp only[aC,ac,cV,n0o];omega
theorem C0g {x0:c0x} (hm:Med x0):j0o x0=qA (e0s x0):=by
  have h1:=hm.r.1;have h2:=hm.c.1;have h3:=hm.k.1;unfold j0o;refine d0G (λo=>o=[x0.l_,x0.b_.f_,x0.b_.e_,x0.b_.h_,x0.b_.i_]) ⟨[x0.l_,x0.b_.f_,x0.b_.e_,x0.b_.h_,x0.b_.i_],rfl,rfl⟩ (λo h=> ?_);subst h;generalize A0def: [x0.l_,x0.b_.f_,x0.b_.e_,x0.b_.h_,x0.b_.i_]=A0;have hAl:A0.length=5:=by rw[<-A0def];rfl
  refine d0G (λo=>o=A0++x0.j_.map λr=>r.I_) ⟨_,d0R x0.j_ (λpre=>((pre.length:Int),A0++pre.map λr=>r.I_)) _ (by simp[A0def]) (λpre x suf h=> ?_) (by simp only;rw[k0c];rfl) (by omega),rfl⟩ (λo h=> ?_);have hl':(pre++x::suf).length<=4611686018427387904:=by rw[<-h];omega
  have hpl:pre.length<x0.j_.length:=by rw[h];simp
  simp only;rw[h,n0c,i0I,d0E,o0L hl',a0z (by simp;omega)];simp;subst h;generalize hB:A0++x0.j_.map (λr=>r.I_)=B;have hBl:B.length<=5+x0.j_.length:=by rw[<-hB];simp;omega
  refine d0G (λo=>o=B++x0.g_.flatMap λc=> [c.D_,c.x_]) ⟨_,d0R x0.g_ (λpre=>((pre.length:Int),B++pre.flatMap λc=> [c.D_,c.x_])) _ (by simp) (λpre x suf h=> ?_) (by simp only;rw[k0c];rfl) (by omega),rfl⟩ (λo h=> ?_);have hl':(pre++x::suf).length<=4611686018427387904:=by rw[<-h];omega
  have hpl:pre.length<x0.g_.length:=by rw[h];simp
  have hfl:=n0o pre;simp only;rw[h,n0c,i0I,d0E,o0L hl',a0z (by rw[ac,n0o];simp;omega)];simp;subst h;generalize hC:B++x0.g_.flatMap (λc=> [c.D_,c.x_])=C;have hCl:C.length<=5+x0.j_.length+2*x0.g_.length:=by rw[<-hC,ac,n0o];omega
  refine d0G (λo=>o=C++x0.c_.map λr=>r.y_) ⟨_,d0R x0.c_ (λpre=>((pre.length:Int),C++pre.map λr=>r.y_)) _ (by simp) (λpre x suf h=> ?_) (by simp only;rw[k0c];rfl) (by omega),rfl⟩ (λo h=> ?_);have hl':(pre++x::suf).length<=4611686018427387904:=by rw[<-h];omega
  have hpl:pre.length<x0.c_.length:=by rw[h];simp
  simp only;rw[h,n0c,i0I,d0E,o0L hl',a0z (by simp;omega)];simp;subst h;rw[<-hC,<-hB,<-A0def];simp[e0s]
theorem z0F {l:List Tx} (hn:l.Nodup) {t:Tx} (h:l[j]?=qA t):k0r l t=qA j:=by
  cases hp:k0r l t with
  |none=>exact absurd (aM h) (i0W.1 hp)
  |some i=>
    obtain⟨h1,h2⟩:=p0i hp;obtain⟨h3,h4⟩:=ae.1 h;obtain⟨_,h5⟩:=ae.1 h2;have hpw:=List.pairwise_iff_getElem.1 hn;rcases Nat.lt_trichotomy i j with hij|hij|hij;exact absurd (h5.trans h4.symm) (hpw i j h1 h3 hij);rw[hij];exact absurd (h4.trans h5.symm) (hpw j i h3 h1 hij)
theorem D0o(T:List Tx):(gat T).2=T.map λt=>(k0r (gat T).1 t).getD 0:=by
  apply bz;intro i;by_cases hi:i<T.length;obtain⟨j,h1,h2⟩:=D0q T i hi;rw[h1,ar,ag hi];rw[ag hi]at h2;simp only[aT];rw[z0F (A0M T) h2];rfl;rw[aE (by rw[(o0h T).2];omega),aE (by simp;omega)]
def a0X(l:c0x):List Tx:=(gat (e0s l)).1
def a0v(l:c0x)(t:Tx):Nat:=(k0r (a0X l) t).getD 0
def k0b(s:e0r):List Int:=[s.u_,s.r_,s.q_,s.o_,s.m_,s.p_,s.n_]
def C0G(l:c0x):List Tx:=[l.b_.f_,l.b_.e_,l.b_.h_,l.b_.i_]
def i2(l:c0x):List (Int×Nat):=I2 (a0v l) l.l_ (k0b l.S_)
def i3(l:c0x):List (Int×Nat):=I3 (a0v l) (C0G l)
def i4(l:c0x):List (Int×Nat):=I4 (a0v l) l.j_.length l.j_
def i5(l:c0x):List (Int×Nat):=I5 (a0v l) l.g_.length l.g_
def i6(l:c0x):List (Int×Nat):=I6 (a0v l) l.c_.length l.c_
def e0t(l:c0x):List (List Nat):=[(b0O [] (a0X l)).1,iE (i2 l),iE (i3 l),iE (i4 l),iE (i5 l),iE (i6 l)]
def p0C:Nat->List (List Nat)->List (Int×Int)
  |_,[]=> []
  |i,s::r=>((i:Int),(s.length:Int))::p0C (i+s.length) r
def G0W(l:c0x):Bool:= !vA (e0P (a0X l))||iB (i2 l)||iB (i3 l)||iB (i4 l)||iB (i5 l)||iB (i6 l)||iB (IH (p0C 56 (e0t l)))
def c0F(l:c0x):List Nat:=[69,88,76,66]++iE (IH (p0C 56 (e0t l)))++(e0t l).flatten
def d0m(m:List Nat):List Nat:=m++r0M (q0N m)
def w0Z(l:c0x):List Nat×Int:=if G0W l=yA then([],1)else(d0m (c0F l),0)
theorem z0I {l:c0x} (hm:Med l)(t:Tx):a0v l t<4294967296:=by
  unfold a0v;have h:=(o0h (e0s l)).1;rw[q0Y]at h;have h1:=hm.r.1;have h2:=hm.c.1;have h3:=hm.k.1
  cases hp:k0r (a0X l) t with
  |none=>simp
  |some i=>
    have:=(p0i hp).1;unfold a0X at this;simp only[be];omega
theorem D0W(p:List Tx):(b0O [] p).1.length<=201002:=by
  unfold b0O;split;rename_i h;have:=n0R h.2.1;have:=h.1;simp only[aR,ac,h0L];omega;simp
theorem E0l(q:Tx->Nat)(t:Tx)(s:e0r):(iE (I2 q t (k0b s))).length<=32:=az (q0k λx hx=>by
  simp only[I2,k0b,ah,aA,aG,bc,or_false]at hx
  rcases hx with rfl|rfl|rfl|rfl|rfl|rfl|rfl|rfl<;>simp) (by simp[I2,k0b])
theorem E0k(q:Tx->Nat)(l:c0x):(iE (I3 q (C0G l))).length<=16:=az (q0k λx hx=>by
  simp only[I3,C0G,ah,aA,aG,bc,or_false]at hx
  rcases hx with rfl|rfl|rfl|rfl<;>simp) (by simp[I3,C0G])
theorem C0r(p:List Tx):a0A (b0O [] p).1:=by
  unfold b0O;split;exact d0X (λ_ h=>by cases h) (d0X (q0z _ _) (t0D _));exact λ_ h=>by cases h
theorem p0d: ∀(S:List (List Nat)) (i:Nat),(p0C i S).length=S.length
  | [],_=>rfl
  |s::S,i=>by simp[p0C,p0d S]
theorem I0u(T:List (Int×Int)):(iE (IH T)).length<=4*(2+2*T.length):=by
  refine az (q0k λx hx=> ?_) ?_
  · unfold IH at hx
    simp only[aw,aG,bl,bc,or_false]at hx;rcases hx with(rfl|rfl)|⟨r,_,rfl|rfl⟩<;>simp
  unfold IH
  rw[ac,show(T.flatMap λr=> [(r.1,4),(r.2,4)]).length=2*T.length from by induction T with
    |nil=>rfl
    |cons r rs ih=>simp only[ap,ac,ih,aC,aH];omega]
  simp only[aC,aH];omega
theorem p0f {l:c0x} (hm:Med l):(e0t l).flatten.length<=3000000:=by
  have h1:=hm.r.1;have h2:=hm.c.1;have h3:=hm.k.1;have g1:=D0W (a0X l);have g2:=E0l (a0v l) l.l_ l.S_;have g3:=E0k (a0v l) l;have g4:=B0J (a0v l) l.j_.length l.j_;have g5:=B0I (a0v l) l.g_.length l.g_;have g6:=B0H (a0v l) l.c_.length l.c_;unfold e0t i2 i3 i4 i5 i6;simp only[bW,List.flatten_nil,ac,aH];omega
theorem y0j {l:c0x} (hm:Med l):(c0F l).length<=3000100:=by
  have h1:=p0f hm;have h2:=I0u (p0C 56 (e0t l));rw[p0d]at h2;have h3:(e0t l).length=6:=rfl;unfold c0F;simp only[ac,aC,aH];omega
theorem i0q(l:c0x):a0A (c0F l):=by
  unfold c0F e0t;refine d0X (d0X (λc hc=> ?_) (w0P _)) (λc hc=> ?_);simp only[aG,bc,or_false]at hc;omega
  · simp only[bW,List.flatten_nil,aw,bc,or_false]at hc
    rcases hc with hc|hc|hc|hc|hc|hc;exact C0r _ c hc
    all_goals exact w0P _ c hc
theorem wA {out:List Nat} (h:out.length<=4000000000):jA .i64 (56+((up out).length:Int))=56+(out.length:Int):=by rw[b0L,w64 (by omega) (by omega)]
theorem wB {out s:List Nat} (h:(out++s).length<=4000000000):jA .i64 (((up (out++s)).length:Int)-((up out).length:Int))=(s.length:Int):=by
  rw[ac]at h;rw[b0L,b0L,ac,w64 (by omega) (by omega)];omega
theorem B0a {l:c0x} (hm:Med l):h0J l=qA (up (w0Z l).1,(w0Z l).2):=by
  have h1:=hm.r.1;have h2:=hm.c.1;have h3:=hm.k.1;have g1:=D0W (a0X l);have g2:=E0l (a0v l) l.l_ l.S_;have g3:=E0k (a0v l) l;have g4:=B0J (a0v l) l.j_.length l.j_;have g5:=B0I (a0v l) l.g_.length l.g_;have g6:=B0H (a0v l) l.c_.length l.c_;have hq:=z0I hm;have hT:=q0Y l;have hgl:=(o0h (e0s l)).1;have hblen:=y0j hm;have hbb:=i0q l;unfold w0Z G0W c0F at*;unfold h0J e0h;rw[C0g hm];simp only[ab];rw[u0m (by omega)];simp only[ab];rw[D0o]
  have hrefs:(e0s l).map (λt=>(k0r (gat (e0s l)).1 t).getD 0)=a0v l l.l_::a0v l l.b_.f_::a0v l l.b_.e_::a0v l l.b_.h_::a0v l l.b_.i_::(l.j_.map (λr=>a0v l r.I_)++(l.g_.flatMap (λc=> [a0v l c.D_,a0v l c.x_])++(l.c_.map (λc=>a0v l c.y_)++ []))):=by
    show(e0s l).map (a0v l)=_;unfold e0s;simp[List.map_flatMap,Function.comp_def]
  rw[hrefs];clear hrefs;have hp:a0X l=(gat (e0s l)).1:=rfl;have hpl:(a0X l).length<=4294967290:=by rw[hp];omega
  rw[<-hp];clear hp hgl;refine d0G (λo=>o=(up [],((((((oA|| !vA (e0P (a0X l)))||iB (i2 l))||iB (i3 l))||iB (i4 l))||iB (i5 l))||iB (i6 l)),up ((((((([]:List Nat)++(b0O [] (a0X l)).1)++iE (i2 l))++iE (i3 l))++iE (i4 l))++iE (i5 l))++iE (i6 l)),56+((([]:List Nat)).length:Int),(((b0O [] (a0X l)).1).length:Int),56+(((([]:List Nat)++(b0O [] (a0X l)).1)).length:Int),((iE (i2 l)).length:Int),56+((((([]:List Nat)++(b0O [] (a0X l)).1)++iE (i2 l))).length:Int),((iE (i3 l)).length:Int),56+(((((([]:List Nat)++(b0O [] (a0X l)).1)++iE (i2 l))++iE (i3 l))).length:Int),((iE (i4 l)).length:Int),56+((((((([]:List Nat)++(b0O [] (a0X l)).1)++iE (i2 l))++iE (i3 l))++iE (i4 l))).length:Int),((iE (i5 l)).length:Int),56+(((((((([]:List Nat)++(b0O [] (a0X l)).1)++iE (i2 l))++iE (i3 l))++iE (i4 l))++iE (i5 l))).length:Int),((iE (i6 l)).length:Int))) ⟨_, ?_,rfl⟩ (λo h=> ?_);show a0B _ big (0,up (a0v l l.l_::(a0v l l.b_.f_::a0v l l.b_.e_::a0v l l.b_.h_::a0v l l.b_.i_::(l.j_.map (λr=>a0v l r.I_)++(l.g_.flatMap (λc=> [a0v l c.D_,a0v l c.x_])++(l.c_.map (λc=>a0v l c.y_)++ []))))),oA,up [],0,0,0,0,0,0,0,0,0,0,0,0)=_;have e0:(((([]:List Nat)++(b0O [] (a0X l)).1)).length<=3000000):=by simp only[ac,aH,i2,i3,i4,i5,i6];omega
  refine(a0J (n:=18446744073709551615) (s':=((1:Int),up (a0v l l.l_::(a0v l l.b_.f_::a0v l l.b_.e_::a0v l l.b_.h_::a0v l l.b_.i_::(l.j_.map (λr=>a0v l r.I_)++(l.g_.flatMap (λc=> [a0v l c.D_,a0v l c.x_])++(l.c_.map (λc=>a0v l c.y_)++ []))))),(oA|| !vA (e0P (a0X l))),up (([]:List Nat)++(b0O [] (a0X l)).1),56+((([]:List Nat)).length:Int),(((b0O [] (a0X l)).1).length:Int),0,0,0,0,0,0,0,0,0,0)) ?_).trans ?_;show zA (c0b l.l_ l.S_.u_ l.S_.r_ l.S_.q_ l.S_.o_ l.S_.m_ l.S_.p_ l.S_.n_ l.b_.f_ l.b_.e_ l.b_.h_ l.b_.i_ l.j_ l.g_ l.c_ (a0X l) (up (a0v l l.l_::(a0v l l.b_.f_::a0v l l.b_.e_::a0v l l.b_.h_::a0v l l.b_.i_::(l.j_.map (λr=>a0v l r.I_)++(l.g_.flatMap (λc=> [a0v l c.D_,a0v l c.x_])++(l.c_.map (λc=>a0v l c.y_)++ [])))))) (oA) (up ([]:List Nat))) _=_;rw[B0Z hpl (by simp)];simp only[ab];rw[wA (out:=[]) (by simp),wB (by exact az e0 (by omega))];rfl;have e1:((((([]:List Nat)++(b0O [] (a0X l)).1)++iE (i2 l))).length<=3000000):=by simp only[ac,aH,i2,i3,i4,i5,i6];omega
  refine(a0J (n:=18446744073709551614) (s':=((2:Int),up (a0v l l.b_.f_::a0v l l.b_.e_::a0v l l.b_.h_::a0v l l.b_.i_::(l.j_.map (λr=>a0v l r.I_)++(l.g_.flatMap (λc=> [a0v l c.D_,a0v l c.x_])++(l.c_.map (λc=>a0v l c.y_)++ [])))),((oA|| !vA (e0P (a0X l)))||iB (i2 l)),up ((([]:List Nat)++(b0O [] (a0X l)).1)++iE (i2 l)),56+((([]:List Nat)).length:Int),(((b0O [] (a0X l)).1).length:Int),56+(((([]:List Nat)++(b0O [] (a0X l)).1)).length:Int),((iE (i2 l)).length:Int),0,0,0,0,0,0,0,0)) ?_).trans ?_;show zA (c0d l.l_ l.S_.u_ l.S_.r_ l.S_.q_ l.S_.o_ l.S_.m_ l.S_.p_ l.S_.n_ l.b_.f_ l.b_.e_ l.b_.h_ l.b_.i_ l.j_ l.g_ l.c_ (a0X l) (up (a0v l l.l_::(a0v l l.b_.f_::a0v l l.b_.e_::a0v l l.b_.h_::a0v l l.b_.i_::(l.j_.map (λr=>a0v l r.I_)++(l.g_.flatMap (λc=> [a0v l c.D_,a0v l c.x_])++(l.c_.map (λc=>a0v l c.y_)++ [])))))) ((oA|| !vA (e0P (a0X l)))) (up (([]:List Nat)++(b0O [] (a0X l)).1))) _=_;rw[C0Q hq hm.s (by simp only[ac,aH,i2,i3,i4,i5,i6];omega)];simp only[ab];rw[B0L];rw[wA (by exact az e0 (by omega)),wB (by exact az e1 (by omega))];rfl;have e2:(((((([]:List Nat)++(b0O [] (a0X l)).1)++iE (i2 l))++iE (i3 l))).length<=3000000):=by simp only[ac,aH,i2,i3,i4,i5,i6];omega
  refine(a0J (n:=18446744073709551613) (s':=((3:Int),up (l.j_.map (λr=>a0v l r.I_)++(l.g_.flatMap (λc=> [a0v l c.D_,a0v l c.x_])++(l.c_.map (λc=>a0v l c.y_)++ []))),(((oA|| !vA (e0P (a0X l)))||iB (i2 l))||iB (i3 l)),up (((([]:List Nat)++(b0O [] (a0X l)).1)++iE (i2 l))++iE (i3 l)),56+((([]:List Nat)).length:Int),(((b0O [] (a0X l)).1).length:Int),56+(((([]:List Nat)++(b0O [] (a0X l)).1)).length:Int),((iE (i2 l)).length:Int),56+((((([]:List Nat)++(b0O [] (a0X l)).1)++iE (i2 l))).length:Int),((iE (i3 l)).length:Int),0,0,0,0,0,0)) ?_).trans ?_;show zA (b0x l.l_ l.S_.u_ l.S_.r_ l.S_.q_ l.S_.o_ l.S_.m_ l.S_.p_ l.S_.n_ l.b_.f_ l.b_.e_ l.b_.h_ l.b_.i_ l.j_ l.g_ l.c_ (a0X l) (up (a0v l l.b_.f_::a0v l l.b_.e_::a0v l l.b_.h_::a0v l l.b_.i_::(l.j_.map (λr=>a0v l r.I_)++(l.g_.flatMap (λc=> [a0v l c.D_,a0v l c.x_])++(l.c_.map (λc=>a0v l c.y_)++ []))))) (((oA|| !vA (e0P (a0X l)))||iB (i2 l))) (up ((([]:List Nat)++(b0O [] (a0X l)).1)++iE (i2 l)))) _=_;rw[F0i hq (by simp only[ac,aH,i2,i3,i4,i5,i6];omega)];simp only[ab];rw[wA (by exact az e1 (by omega)),wB (by exact az e2 (by omega))];rfl;have e3:((((((([]:List Nat)++(b0O [] (a0X l)).1)++iE (i2 l))++iE (i3 l))++iE (i4 l))).length<=3000000):=by simp only[ac,aH,i2,i3,i4,i5,i6];omega
  refine(a0J (n:=18446744073709551612) (s':=((4:Int),up (l.g_.flatMap (λc=> [a0v l c.D_,a0v l c.x_])++(l.c_.map (λc=>a0v l c.y_)++ [])),((((oA|| !vA (e0P (a0X l)))||iB (i2 l))||iB (i3 l))||iB (i4 l)),up ((((([]:List Nat)++(b0O [] (a0X l)).1)++iE (i2 l))++iE (i3 l))++iE (i4 l)),56+((([]:List Nat)).length:Int),(((b0O [] (a0X l)).1).length:Int),56+(((([]:List Nat)++(b0O [] (a0X l)).1)).length:Int),((iE (i2 l)).length:Int),56+((((([]:List Nat)++(b0O [] (a0X l)).1)++iE (i2 l))).length:Int),((iE (i3 l)).length:Int),56+(((((([]:List Nat)++(b0O [] (a0X l)).1)++iE (i2 l))++iE (i3 l))).length:Int),((iE (i4 l)).length:Int),0,0,0,0)) ?_).trans ?_;show zA (c0c l.l_ l.S_.u_ l.S_.r_ l.S_.q_ l.S_.o_ l.S_.m_ l.S_.p_ l.S_.n_ l.b_.f_ l.b_.e_ l.b_.h_ l.b_.i_ l.j_ l.g_ l.c_ (a0X l) (up (l.j_.map (λr=>a0v l r.I_)++(l.g_.flatMap (λc=> [a0v l c.D_,a0v l c.x_])++(l.c_.map (λc=>a0v l c.y_)++ [])))) ((((oA|| !vA (e0P (a0X l)))||iB (i2 l))||iB (i3 l))) (up (((([]:List Nat)++(b0O [] (a0X l)).1)++iE (i2 l))++iE (i3 l)))) _=_;rw[C0u hq (by omega) hm.r.2 (by simp only[ac,aH,i2,i3,i4,i5,i6];omega)];simp only[ab];rw[wA (by exact az e2 (by omega)),wB (by exact az e3 (by omega))];rfl;have e4:(((((((([]:List Nat)++(b0O [] (a0X l)).1)++iE (i2 l))++iE (i3 l))++iE (i4 l))++iE (i5 l))).length<=3000000):=by simp only[ac,aH,i2,i3,i4,i5,i6];omega
  refine(a0J (n:=18446744073709551611) (s':=((5:Int),up (l.c_.map (λc=>a0v l c.y_)++ []),(((((oA|| !vA (e0P (a0X l)))||iB (i2 l))||iB (i3 l))||iB (i4 l))||iB (i5 l)),up (((((([]:List Nat)++(b0O [] (a0X l)).1)++iE (i2 l))++iE (i3 l))++iE (i4 l))++iE (i5 l)),56+((([]:List Nat)).length:Int),(((b0O [] (a0X l)).1).length:Int),56+(((([]:List Nat)++(b0O [] (a0X l)).1)).length:Int),((iE (i2 l)).length:Int),56+((((([]:List Nat)++(b0O [] (a0X l)).1)++iE (i2 l))).length:Int),((iE (i3 l)).length:Int),56+(((((([]:List Nat)++(b0O [] (a0X l)).1)++iE (i2 l))++iE (i3 l))).length:Int),((iE (i4 l)).length:Int),56+((((((([]:List Nat)++(b0O [] (a0X l)).1)++iE (i2 l))++iE (i3 l))++iE (i4 l))).length:Int),((iE (i5 l)).length:Int),0,0)) ?_).trans ?_;show zA (b0h l.l_ l.S_.u_ l.S_.r_ l.S_.q_ l.S_.o_ l.S_.m_ l.S_.p_ l.S_.n_ l.b_.f_ l.b_.e_ l.b_.h_ l.b_.i_ l.j_ l.g_ l.c_ (a0X l) (up (l.g_.flatMap (λc=> [a0v l c.D_,a0v l c.x_])++(l.c_.map (λc=>a0v l c.y_)++ []))) (((((oA|| !vA (e0P (a0X l)))||iB (i2 l))||iB (i3 l))||iB (i4 l))) (up ((((([]:List Nat)++(b0O [] (a0X l)).1)++iE (i2 l))++iE (i3 l))++iE (i4 l)))) _=_;rw[G0r hq (by omega) hm.c.2 (by simp only[ac,aH,i2,i3,i4,i5,i6];omega)];simp only[ab];rw[wA (by exact az e3 (by omega)),wB (by exact az e4 (by omega))];rfl;have e5:((((((((([]:List Nat)++(b0O [] (a0X l)).1)++iE (i2 l))++iE (i3 l))++iE (i4 l))++iE (i5 l))++iE (i6 l))).length<=3000000):=by simp only[ac,aH,i2,i3,i4,i5,i6];omega
  refine(a0J (n:=18446744073709551610) (s':=((6:Int),up [],((((((oA|| !vA (e0P (a0X l)))||iB (i2 l))||iB (i3 l))||iB (i4 l))||iB (i5 l))||iB (i6 l)),up ((((((([]:List Nat)++(b0O [] (a0X l)).1)++iE (i2 l))++iE (i3 l))++iE (i4 l))++iE (i5 l))++iE (i6 l)),56+((([]:List Nat)).length:Int),(((b0O [] (a0X l)).1).length:Int),56+(((([]:List Nat)++(b0O [] (a0X l)).1)).length:Int),((iE (i2 l)).length:Int),56+((((([]:List Nat)++(b0O [] (a0X l)).1)++iE (i2 l))).length:Int),((iE (i3 l)).length:Int),56+(((((([]:List Nat)++(b0O [] (a0X l)).1)++iE (i2 l))++iE (i3 l))).length:Int),((iE (i4 l)).length:Int),56+((((((([]:List Nat)++(b0O [] (a0X l)).1)++iE (i2 l))++iE (i3 l))++iE (i4 l))).length:Int),((iE (i5 l)).length:Int),56+(((((((([]:List Nat)++(b0O [] (a0X l)).1)++iE (i2 l))++iE (i3 l))++iE (i4 l))++iE (i5 l))).length:Int),((iE (i6 l)).length:Int))) ?_).trans ?_;show zA (b0y l.l_ l.S_.u_ l.S_.r_ l.S_.q_ l.S_.o_ l.S_.m_ l.S_.p_ l.S_.n_ l.b_.f_ l.b_.e_ l.b_.h_ l.b_.i_ l.j_ l.g_ l.c_ (a0X l) (up (l.c_.map (λc=>a0v l c.y_)++ [])) ((((((oA|| !vA (e0P (a0X l)))||iB (i2 l))||iB (i3 l))||iB (i4 l))||iB (i5 l))) (up (((((([]:List Nat)++(b0O [] (a0X l)).1)++iE (i2 l))++iE (i3 l))++iE (i4 l))++iE (i5 l)))) _=_;rw[D0B hq (by omega) hm.k.2 (by simp only[ac,aH,i2,i3,i4,i5,i6];omega)];simp only[ab];rw[wA (by exact az e4 (by omega)),wB (by exact az e5 (by omega))];rfl;exact d0C (n:=18446744073709551609) rfl;subst h;simp only;have hsec:=p0f hm;have hfl:((((((([]:List Nat)++(b0O [] (a0X l)).1)++iE (i2 l))++iE (i3 l))++iE (i4 l))++iE (i5 l))++iE (i6 l))=(e0t l).flatten:=by simp[e0t]
  have htab: [(56+((([]:List Nat)).length:Int),(((b0O [] (a0X l)).1).length:Int)),(56+(((([]:List Nat)++(b0O [] (a0X l)).1)).length:Int),((iE (i2 l)).length:Int)),(56+((((([]:List Nat)++(b0O [] (a0X l)).1)++iE (i2 l))).length:Int),((iE (i3 l)).length:Int)),(56+(((((([]:List Nat)++(b0O [] (a0X l)).1)++iE (i2 l))++iE (i3 l))).length:Int),((iE (i4 l)).length:Int)),(56+((((((([]:List Nat)++(b0O [] (a0X l)).1)++iE (i2 l))++iE (i3 l))++iE (i4 l))).length:Int),((iE (i5 l)).length:Int)),(56+(((((((([]:List Nat)++(b0O [] (a0X l)).1)++iE (i2 l))++iE (i3 l))++iE (i4 l))++iE (i5 l))).length:Int),((iE (i6 l)).length:Int))]=p0C 56 (e0t l):=by
    simp only[p0C,e0t,ac,aH,aR];simp only[List.cons.injEq,aP,and_true];refine⟨?_, ?_, ?_, ?_, ?_, ?_⟩<;>omega
  rw[hfl]
  rw[show([69,88,76,66]:List Int)=up [69,88,76,66]from rfl,F0N (λn hn=>by
    unfold e0t at hsec;simp only[bW,List.flatten_nil,ac,aH]at hsec;simp only[aG,bc,or_false,ac,aH]at hn
    rcases hn with rfl|rfl|rfl|rfl|rfl|rfl|rfl|rfl|rfl|rfl|rfl|rfl<;>omega) (by simp),htab]
  simp only[ab,bY];generalize(!vA (e0P (a0X l))||iB (i2 l)||iB (i3 l)||iB (i4 l)||iB (i5 l)||iB (i6 l)||iB (IH (p0C 56 (e0t l))))=bd
  cases bd with
  |true=>rfl
  |false=>
    simp only[vC,aI,if_false];rw[<-c0J,a0z (by rw[b0L,b0L];rw[ac]at hblen;omega)];simp only[qC];rw[G0t hbb (by omega)];rfl
def bt(n:Int):Bool:=vA (0<=n)&&vA (n<=255)
def okL(l:c0x):Bool:=(k0b l.S_).all (λn=>vA (0<=n))&&(l.j_.all (λr=>bt r.t_)&&(l.g_.all (λc=>bt c.N_)&&l.c_.all (λc=>bt c.G_&&bt c.t_)))
theorem E0E :bt n=yA↔0<=n/\n<=255:=by simp[bt]
theorem v0i(n:Int):(a0f n 1).1= !bt n:=by
  cases hb:bt n with
  |true=>rw[E0E]at hb;rw[m0Q (by omega) (by omega) (by omega)];rfl
  |false=>
    have: ¬(0<=n/\n<=255):=λh=>by rw[E0E.2 h]at hb;cases hb
    rw[w0A (by omega)];rfl
theorem v0h (h:n<4294967296):(a0f n 4).1= !vA (0<=n):=by
  by_cases h0:0<=n;rw[m0Q h0 (by omega) (by omega),dT h0];rfl;rw[w0A (by omega),dF h0];rfl
theorem p0h (h0:0<=n)(h:n<65536):a0f n 2=(oA,beN n.toNat 2):=m0Q h0 (by omega) (by omega)
theorem v0j {l:c0x} (hp:e0P (a0X l))(t:Tx):a0v l t<65536:=by
  unfold a0v
  cases hq:k0r (a0X l) t with
  |none=>simp
  |some i=>
    have:=(p0i hq).1;have:=hp.1;simp only[be];omega
theorem s0x (f:T->List (Int×Nat))(xs:List T):iB (xs.flatMap f)=xs.any λx=>iB (f x):=by
  induction xs with
  |nil=>rfl
  |cons x xs ih=>rw[ap,u0l,ih];rfl
theorem w0i (p:T->Bool)(xs:List T):(xs.any λx=> !p x)= !xs.all p:=by
  induction xs with
  |nil=>rfl
  |cons x xs ih=>rw[List.any_cons,ih,aF,Bool.not_and]
theorem r0N: ∀(S:List (List Nat)) (i:Nat),i+S.flatten.length<4294967296-> ∀r∈p0C i S,(0<=r.1/\r.1<4294967296)/\(0<=r.2/\r.2<4294967296)
  | [],_,_,r,hr=>by cases hr
  |s::S,i,h,r,hr=>by
    rw[bW,ac]at h;rcases aG.1 hr with rfl|hr;simp only;omega;exact r0N S (i+s.length) (by omega) r hr
theorem B0y {l:c0x} (hm:Med l):G0W l= !(vA (e0P (a0X l))&&okL l):=by
  have h1:=hm.r.1;have h2:=hm.c.1;have h3:=hm.k.1;unfold G0W;by_cases hp:e0P (a0X l);have hq:=λt=>v0j hp t
  have hq2: ∀t,(a0f (a0v l t:Int) 2).1=false:=λt=>by have:=hq t;rw[p0h (by omega) (by omega)]
  have e2:iB (i2 l)= !(k0b l.S_).all (λn=>vA (0<=n)):=by
    unfold i2 I2;rw[f0Y,hq2,bY];have hs:=hm.s;change∀n∈k0b l.S_,_ at hs;revert hs;generalize k0b l.S_=s;intro hs
    induction s with
    |nil=>rfl
    |cons n s ih=>
      have hn:=hs n (av ..);rw[ah,f0Y,ih (λx hx=>hs x (ao _ hx)),v0h (by omega),aF,Bool.not_and]
  have e3:iB (i3 l)=false:=by
    unfold i3 I3;rw[iB,db];intro x hx;obtain⟨t,_,rfl⟩:=aN.1 hx;simp only[hq2];simp
  have e4:iB (i4 l)= !l.j_.all (λr=>bt r.t_):=by
    unfold i4 I4;rw[f0Y,p0h (by omega) (by omega),bY,s0x,<-w0i];refine congrArg _ (funext λr=> ?_);simp only[f0Y,hq2,v0i];simp[iB]
  have e5:iB (i5 l)= !l.g_.all (λr=>bt r.N_):=by
    unfold i5 I5;rw[f0Y,p0h (by omega) (by omega),bY,s0x,<-w0i];refine congrArg _ (funext λr=> ?_);simp only[f0Y,hq2,v0i];simp[iB]
  have e6:iB (i6 l)= !l.c_.all (λc=>bt c.G_&&bt c.t_):=by
    unfold i6 I6;rw[f0Y,p0h (by omega) (by omega),bY,s0x,<-w0i];refine congrArg _ (funext λr=> ?_);simp only[f0Y,hq2,v0i];simp[iB]
  have e7:iB (IH (p0C 56 (e0t l)))=false:=by
    have hf:=r0N (e0t l) 56 (by have:=p0f hm;omega);revert hf;generalize p0C 56 (e0t l)=T;intro hf;unfold IH;rw[u0l,s0x]
    have:(T.any λx=>iB [(x.1,4),(x.2,4)])=false:=by
      rw[db];intro x hx;obtain⟨⟨a1,a2⟩,b1,b2⟩:=hf x hx;simp only[f0Y,v0h a2,v0h b2,dT a1,dT b1];simp[iB]
    rw[this];rfl
  rw[e2,e3,e4,e5,e6,e7,dT hp];unfold okL;simp only[bD,bY,Bool.or_false,bX,Bool.not_and,cE];rw[dF hp];simp
theorem G0a {l:c0x} (hm:Med l):w0Z l=if e0P (a0X l)/\okL l=yA then(d0m (c0F l),0)else([],1):=by
  unfold w0Z;rw[B0y hm];by_cases hp:e0P (a0X l);rw[dT hp]
  cases ho:okL l with
  |true=>rw[oB (by simp),yB ⟨hp,rfl⟩]
  |false=>rw[yB (by rfl),oB (λh=>by cases h.2)]
  rw[dF hp,yB (by rfl),oB (λh=>hp h.1)]
/-! The document's way to put. -/
structure Ok (l:c0x):Prop where
  m:Med l
  p:e0P (a0X l)
  s: ∀n∈k0b l.S_,0<=n
  r: ∀r∈l.j_,bt r.t_=yA
  c: ∀c∈l.g_,bt c.N_=yA
  k: ∀c∈l.c_,bt c.G_=yA/\bt c.t_=yA
theorem Ok.of {l:c0x} (hm:Med l)(hp:e0P (a0X l))(ho:okL l=yA):Ok l:=by
  unfold okL at ho;simp only[aa,qD]at ho;exact⟨hm,hp,λn hn=>jB (ho.1 n hn),ho.2.1,ho.2.2.1,ho.2.2.2⟩
/-! What is read. -/
def tkN(b:List Nat)(k i:Nat):Option (Nat×Nat):=if i+k<=b.length then qA (l0T ((b.drop i).take k),i+k)else none
theorem e0X {i n:Nat} (h:tkN b k i=qA (n,j)):i+k=j/\j<=b.length:=by
  unfold tkN at h;split at h;cases h;exact⟨rfl,by assumption⟩;cases h
theorem o0u (hb:a0A b) {i n:Nat} (hk:k<=4)(h:tkN b k i=qA (n,j)):n<4294967296:=by
  unfold tkN at h;split at h;cases h;have h1:=r0G (h0j (r0x hb i) k);have h2:((b.drop i).take k).length<=4:=by rw[aQ];omega
  have:256^((b.drop i).take k).length<=256^4:=cA (by decide) h2;omega;cases h
def txN(b:List Nat)(p:List Tx)(i:Nat):Option (Tx×Nat):=match tkN b 2 i with
  |some (n,j)=>match p[n]? with
    |some t=>qA (t,j)
    |none=>none
  |none=>none
theorem g0J {p:List Tx} {i:Nat} {t:Tx} (h:txN b p i=qA (t,j)):i+2=j/\j<=b.length:=by
  unfold txN at h;split at h;rename_i n j' h1;split at h;cases h;exact e0X h1;cases h;cases h
def txE(b:List Nat)(i:Nat):Int:=match tkN b 2 i with
  |some (n,j)=>(j:Int)
  |none=>(i:Int)
def sgN(b:List Nat)(i:Nat):Option (Int×Nat):=match tkN b 4 i with
  |some (n,j)=>qA (jA .i32 (n:Int),j)
  |none=>none
theorem o0w {i:Nat} (h:sgN b i=qA (n,j)):i+4=j/\j<=b.length:=by
  unfold sgN at h;split at h;rename_i n j' h1;cases h;exact e0X h1;cases h
section
variable {b : List Nat} {p : List Tx} {i : Nat}
theorem y0T(hb:a0A b)(hl:b.length<=140737488355328) (hk:sz k)(hi:i<=b.length):
    a0r (k:Int) (up b) (i:Int) p=qA (match tkN b k i with|some (n,j)=> .inl ((n:Int),(j:Int))|none=> .inr ()):=by
  unfold a0r;have hk4:=x0x hk;rw[u0V hb hl (by omega) (by omega)];unfold x0v;rw[oB (by rintro(g|g|g)<;>first|exact g hk|omega)]
  cases ht:tkN b k i with
  |none=>
    unfold tkN at ht;split at ht;cases ht;rw[yB (by omega)];rfl
  |some q=>
    obtain⟨n,j⟩:=q;have hlt:=o0u hb hk4.2 ht;unfold tkN at ht;split at ht;cases ht;rw[oB (by omega)];simp only[aJ,ab];show zA (qA (Sum.inl ())) _=_;simp only[ab,bI];rw[w64 (by omega) (by omega)];simp;cases ht
theorem r0K(hb:a0A b)(hl:b.length<=140737488355328)(hi:i<=b.length):a0r 1 (up b) (i:Int) p=qA (match tkN b 1 i with|some (n,j)=> .inl ((n:Int),(j:Int))|none=> .inr ()):=y0T hb hl (k:=1) (.inl rfl) hi
theorem r0J(hb:a0A b)(hl:b.length<=140737488355328)(hi:i<=b.length):a0r 2 (up b) (i:Int) p=qA (match tkN b 2 i with|some (n,j)=> .inl ((n:Int),(j:Int))|none=> .inr ()):=y0T hb hl (k:=2) (.inr (.inl rfl)) hi
theorem E0M(hb:a0A b)(hl:b.length<=140737488355328)(hi:i<=b.length):a0r 4 (up b) (i:Int) p=qA (match tkN b 4 i with|some (n,j)=> .inl ((n:Int),(j:Int))|none=> .inr ()):=y0T hb hl (k:=4) (.inr (.inr rfl)) hi
theorem i0N(hb:a0A b)(hl:b.length<=140737488355328)(hi:i<=b.length):
    a0m (up b) (i:Int) p=qA (match txN b p i with|some (t,j)=> .inl (t,(j:Int))|none=> .inr (txE b i)):=by
  unfold a0m txN txE;rw[r0J hb hl hi]
  cases ht:tkN b 2 i with
  |none=>rfl
  |some q=>
    obtain⟨n,j⟩:=q;simp only[ab,bI];rw[z0c (by simp)];unfold J0b okR;by_cases hn:n<p.length;rw[ag hn,yB (by simp[hn])];simp only[ab,ah,aA];show zA (qA (Sum.inl ())) _=_;simp only[ab,bI];rw[s0j hn];rfl;rw[aE (by omega),oB (by simp[hn])];rfl
theorem p0H(hb:a0A b)(hl:b.length<=140737488355328)(hi:i<=b.length):
    a0F (up b) (i:Int) p=qA (match sgN b i with|some (n,j)=> .inl (n,(j:Int))|none=> .inr ()):=by
  unfold a0F sgN;rw[E0M hb hl hi]
  cases ht:tkN b 4 i with
  |none=>rfl
  |some q=>rfl
end
def d0M {T:Type} (f:Nat->Option (T×Nat))(i:Nat):Nat->Option (List T×Nat)
  |0=>qA ([],i)
  |m+1=>match d0M f i m with
    |some (xs,j)=>match f j with
      |some (x,k)=>qA (xs++ [x],k)
      |none=>none
    |none=>none
theorem n0P {f:Nat->Option (T×Nat)} {i m:Nat} {xs:List T} (h:d0M f i m=qA (xs,j)):d0M f i (m+1)=match f j with|some (x,k)=>qA (xs++ [x],k)|none=>none:=by rw[d0M.eq_2,h]
theorem l0E {T:Type} {f:Nat->Option (T×Nat)} {i m:Nat} (h:d0M f i m=none): ∀k,d0M f i (m+k)=none
  |0=>h
  |k+1=>by
    show d0M f i ((m+k)+1)=none;unfold d0M;rw[l0E h k]
theorem j0D {T:Type} {f:Nat->Option (T×Nat)} {L:Nat} (hf: ∀j x k,f j=qA (x,k)->j<k/\k<=L) {i:Nat} (hi:i<=L): ∀(m:Nat) {xs:List T} {j:Nat},d0M f i m=qA (xs,j)->i+xs.length<=j/\j<=L/\xs.length=m
  |0,xs,j,h=>by cases h;simp;exact hi
  |m+1,xs,j,h=>by
    unfold d0M at h;split at h;rename_i xs' j' h1;split at h;rename_i x k h2;cases h;have h3:=j0D hf hi m h1;have h4:=hf _ _ _ h2;simp only[ac,aC,aH];omega;cases h;cases h
theorem t0v {T:Type} {f:Nat->Option (T×Nat)} {P:T->Prop} (hf: ∀j x k,f j=qA (x,k)->P x) {i:Nat} : ∀(m:Nat) {xs:List T} {j:Nat},d0M f i m=qA (xs,j)-> ∀x∈xs,P x
  |0,xs,j,h=>by cases h;simp
  |m+1,xs,j,h=>by
    unfold d0M at h;split at h;rename_i xs' j' h1;split at h;rename_i x k h2;cases h;intro y hy;rcases aw.1 hy with hy|hy;exact t0v hf m h1 y hy;simp only[aG,bc,or_false]at hy;subst hy;exact hf _ _ _ h2;cases h;cases h
def h0Q(b:List Nat)(p:List Tx)(i:Nat):Option (d0H×Nat):=match tkN b 1 i with
  |some (c,j)=>match txN b p j with
    |some (t,k)=>qA (⟨(c:Int),t⟩,k)
    |none=>none
  |none=>none
def q0r(b:List Nat)(p:List Tx)(i:Nat):Option (d0N×Nat):=match txN b p i with
  |some (s,j)=>match txN b p j with
    |some (t,k)=>match tkN b 1 k with
      |some (d,q)=>qA (⟨s,t,(d:Int)⟩,q)
      |none=>none
    |none=>none
  |none=>none
def h0E(b:List Nat)(p:List Tx)(i:Nat):Option (d0p×Nat):=match tkN b 1 i with
  |some (c,j)=>match tkN b 1 j with
    |some (d,k)=>match txN b p k with
      |some (t,q)=>qA (⟨(c:Int),(d:Int),t⟩,q)
      |none=>none
    |none=>none
  |none=>none
theorem w0u {p:List Tx} : ∀i x j,h0Q b p i=qA (x,j)->i<j/\j<=b.length:=λi x j h=>by
  unfold h0Q at h;split at h;rename_i c j1 h1;split at h;rename_i t k h2;cases h;have:=e0X h1;have:=g0J h2;omega;cases h;cases h
theorem B0k {p:List Tx} : ∀i x j,q0r b p i=qA (x,j)->i<j/\j<=b.length:=λi x j h=>by
  unfold q0r at h;split at h;rename_i c j1 h1;split at h;rename_i t k h2;split at h;rename_i d q h3;cases h;have:=g0J h1;have:=g0J h2;have:=e0X h3;omega;cases h;cases h;cases h
theorem x0f {p:List Tx} : ∀i x j,h0E b p i=qA (x,j)->i<j/\j<=b.length:=λi x j h=>by
  unfold h0E at h;split at h;rename_i c j1 h1;split at h;rename_i t k h2;split at h;rename_i d q h3;cases h;have:=e0X h1;have:=e0X h2;have:=g0J h3;omega;cases h;cases h;cases h
def m0S(b:List Nat)(p:List Tx)(i:Nat):Option (x0k×Nat):=match txN b p i with
  |some (t0,i)=>match txN b p i with
    |some (t1,i)=>match txN b p i with
      |some (t2,i)=>match txN b p i with
        |some (t3,i)=>qA (⟨t0,t1,t2,t3⟩,i)
        |none=>none
      |none=>none
    |none=>none
  |none=>none
def g0K(b:List Nat)(i:Nat):Option (e0r×Nat):=match sgN b i with
  |some (n0,i)=>match sgN b i with
    |some (n1,i)=>match sgN b i with
      |some (n2,i)=>match sgN b i with
        |some (n3,i)=>match sgN b i with
          |some (n4,i)=>match sgN b i with
            |some (n5,i)=>match sgN b i with
              |some (n6,i)=>qA (⟨n0,n1,n2,n3,n4,n5,n6⟩,i)
              |none=>none
            |none=>none
          |none=>none
        |none=>none
      |none=>none
    |none=>none
  |none=>none
def r0v (b:List Nat)(f:Nat->Option (T×Nat))(i:Nat):Option (List T×Nat):=match tkN b 2 i with
  |some (n,j)=>d0M f j n
  |none=>none
def s0o(b:List Nat)(p:List Tx)(i:Nat):Option (c0x×Nat):=match txN b p i with
  |some (t,i)=>match g0K b i with
    |some (s,i)=>match m0S b p i with
      |some (ps,i)=>match r0v b (h0Q b p) i with
        |some (rs,i)=>match r0v b (q0r b p) i with
          |some (cs,i)=>match r0v b (h0E b p) i with
            |some (ks,i)=>qA (⟨t,s,ps,rs,cs,ks⟩,i)
            |none=>none
          |none=>none
        |none=>none
      |none=>none
    |none=>none
  |none=>none
def rdL(b:List Nat):Option c0x:=if(tpV b 56).2.2=0 then(s0o b (tpV b 56).1 (tpV b 56).2.1.toNat).map yE else none
theorem s0y {step:S->Option (S⊕O)} {n:Nat} {s s':S} {Q:O->Prop} (h:step s=qA (.inl s'))(k: ∃o,a0B step n s'=qA o/\Q o): ∃o,a0B step (n+1) s=qA o/\Q o:=by rw[a0J h];exact k
theorem u0s {step:S->Option (S⊕O)} {n:Nat} {s:S} {o:O} {Q:O->Prop} (h:step s=qA (.inr o))(k:Q o): ∃o,a0B step (n+1) s=qA o/\Q o:=⟨o,d0C h,k⟩
theorem s0z {x:Option α} {k:α->Option β} {Q:β->Prop} (post:α->Prop)(h: ∃o,x=qA o/\post o)(hk: ∀o,post o-> ∃b,k o=qA b/\Q b): ∃b,zA x k=qA b/\Q b:=by
  obtain⟨o,rfl,h2⟩:=h;exact hk o h2
theorem v0O {x:Option α} {P Q:α->Prop} (h: ∃o,x=qA o/\P o)(hk: ∀o,P o->Q o): ∃o,x=qA o/\Q o:=by
  obtain⟨o,h1,h2⟩:=h;exact⟨o,h1,hk o h2⟩
theorem l0m {x:α} {f:α->Option γ} {g:β->Option γ} {Q:γ->Prop} (h: ∃b,f x=qA b/\Q b): ∃b,yD f g (.inl x)=qA b/\Q b:=h
theorem D0s {x:α} {k:α->Option γ} {Q:γ->Prop} (h: ∃b,k x=qA b/\Q b): ∃b,a0x k (.inl x)=qA b/\Q b:=h
theorem h0C {a:α} {k:α->Option β} {Q:β->Prop} (h: ∃b,k a=qA b/\Q b): ∃b,zA (qA a) k=qA b/\Q b:=h
def F0n(x:Option (c0x×Nat))(o:(c0x×Int)⊕Int):Prop:=match x with
  |some (l,j)=>o= .inl (l,(j:Int))
  |none=> ∃e,o= .inr e
theorem g0A {x:Option (c0x×Nat)} (h:x=none)(e:Int):F0n x (.inr e):=by subst h;exact⟨e,rfl⟩
theorem C0U {p:List Tx} {i:Nat} (hb:a0A b)(hl:b.length<=140737488355328)(hi:i<=b.length): ∃o,b0t (up b) (i:Int) p=qA o/\F0n (s0o b p i) o:=by
  unfold b0t;rw[i0N hb hl hi]
  cases h0:txN b p i with
  |none=>exact⟨_,rfl,g0A (by simp only[s0o,h0]) _⟩
  |some q=>
  obtain⟨tg,i0⟩:=q;have l0:=g0J h0;refine h0C (l0m ?_);rw[p0H hb hl (by omega)]
  cases s0:sgN b i0 with
  |none=>exact⟨_,rfl,g0A (by simp only[s0o,g0K,h0,s0]) _⟩
  |some q=>
  obtain⟨n0,i1⟩:=q;have ls0:=o0w s0;refine h0C (l0m ?_);rw[p0H hb hl (by omega)]
  cases s1:sgN b i1 with
  |none=>exact⟨_,rfl,g0A (by simp only[s0o,g0K,h0,s0,s1]) _⟩
  |some q=>
  obtain⟨n1,i2⟩:=q;have ls1:=o0w s1;refine h0C (l0m ?_);rw[p0H hb hl (by omega)]
  cases s2:sgN b i2 with
  |none=>exact⟨_,rfl,g0A (by simp only[s0o,g0K,h0,s0,s1,s2]) _⟩
  |some q=>
  obtain⟨n2,i3⟩:=q;have ls2:=o0w s2;refine h0C (l0m ?_);rw[p0H hb hl (by omega)]
  cases s3:sgN b i3 with
  |none=>exact⟨_,rfl,g0A (by simp only[s0o,g0K,h0,s0,s1,s2,s3]) _⟩
  |some q=>
  obtain⟨n3,i4⟩:=q;have ls3:=o0w s3;refine h0C (l0m ?_);rw[p0H hb hl (by omega)]
  cases s4:sgN b i4 with
  |none=>exact⟨_,rfl,g0A (by simp only[s0o,g0K,h0,s0,s1,s2,s3,s4]) _⟩
  |some q=>
  obtain⟨n4,i5⟩:=q;have ls4:=o0w s4;refine h0C (l0m ?_);rw[p0H hb hl (by omega)]
  cases s5:sgN b i5 with
  |none=>exact⟨_,rfl,g0A (by simp only[s0o,g0K,h0,s0,s1,s2,s3,s4,s5]) _⟩
  |some q=>
  obtain⟨n5,i6⟩:=q;have ls5:=o0w s5;refine h0C (l0m ?_);rw[p0H hb hl (by omega)]
  cases s6:sgN b i6 with
  |none=>exact⟨_,rfl,g0A (by simp only[s0o,g0K,h0,s0,s1,s2,s3,s4,s5,s6]) _⟩
  |some q=>
  obtain⟨n6,i7⟩:=q;have ls6:=o0w s6;refine h0C (l0m ?_)
  refine s0z (λo=>match m0S b p i7 with
    |some (ps,j)=>o= .inl ((j:Int),ps.f_,ps.e_,ps.h_,ps.i_)
    |none=> ∃e,o= .inr (.inr e)) ?_ (λo ho=> ?_)
  · skip
    cases p0:txN b p i7 with
    |none=>exact u0s (n:=18446744073709551615) (o:= .inr (.inr (txE b i7))) (by
        show zA (a0m (up b) (i7:Int) p) _=_
        rw[i0N hb hl (by omega),p0];rfl) (by rw[show m0S b p i7=none from by unfold m0S;simp only[p0]];exact⟨_,rfl⟩)
    |some q=>
    obtain⟨t0,i8⟩:=q;have lp0:=g0J p0
    refine s0y (n:=18446744073709551615) (s':=((1:Int),(i8:Int),t0,[],[],[])) (by
        show zA (a0m (up b) (i7:Int) p) _=_
        rw[i0N hb hl (by omega),p0];rfl) ?_
    cases p1:txN b p i8 with
    |none=>exact u0s (n:=18446744073709551614) (o:= .inr (.inr (txE b i8))) (by
        show zA (a0m (up b) (i8:Int) p) _=_
        rw[i0N hb hl (by omega),p1];rfl) (by rw[show m0S b p i7=none from by unfold m0S;simp only[p0,p1]];exact⟨_,rfl⟩)
    |some q=>
    obtain⟨t1,i9⟩:=q;have lp1:=g0J p1
    refine s0y (n:=18446744073709551614) (s':=((2:Int),(i9:Int),t0,t1,[],[])) (by
        show zA (a0m (up b) (i8:Int) p) _=_
        rw[i0N hb hl (by omega),p1];rfl) ?_
    cases p2:txN b p i9 with
    |none=>exact u0s (n:=18446744073709551613) (o:= .inr (.inr (txE b i9))) (by
        show zA (a0m (up b) (i9:Int) p) _=_
        rw[i0N hb hl (by omega),p2];rfl) (by rw[show m0S b p i7=none from by unfold m0S;simp only[p0,p1,p2]];exact⟨_,rfl⟩)
    |some q=>
    obtain⟨t2,i10⟩:=q;have lp2:=g0J p2
    refine s0y (n:=18446744073709551613) (s':=((3:Int),(i10:Int),t0,t1,t2,[])) (by
        show zA (a0m (up b) (i9:Int) p) _=_
        rw[i0N hb hl (by omega),p2];rfl) ?_
    cases p3:txN b p i10 with
    |none=>exact u0s (n:=18446744073709551612) (o:= .inr (.inr (txE b i10))) (by
        show zA (a0m (up b) (i10:Int) p) _=_
        rw[i0N hb hl (by omega),p3];rfl) (by rw[show m0S b p i7=none from by unfold m0S;simp only[p0,p1,p2,p3]];exact⟨_,rfl⟩)
    |some q=>
    obtain⟨t3,i11⟩:=q;have lp3:=g0J p3
    refine s0y (n:=18446744073709551612) (s':=((4:Int),(i11:Int),t0,t1,t2,t3)) (by
        show zA (a0m (up b) (i10:Int) p) _=_
        rw[i0N hb hl (by omega),p3];rfl) ?_
    exact u0s (n:=18446744073709551611) rfl (by rw[show m0S b p i7=qA (⟨t0,t1,t2,t3⟩,i11)from by unfold m0S;simp only[p0,p1,p2,p3]])
  cases hp:m0S b p i7 with
  |none=>rw[hp]at ho;obtain⟨e,rfl⟩:=ho;exact⟨_,rfl,g0A (by simp only[s0o,g0K,h0,s0,s1,s2,s3,s4,s5,s6,hp]) _⟩
  |some q=>
  obtain⟨ps,j0⟩:=q;rw[hp]at ho;simp only at ho;subst ho;refine D0s ?_
  have lps:j0<=b.length:=by
    unfold m0S at hp
    repeat' split at hp
    all_goals first|(cases hp;rename_i h4;exact(g0J h4).2)|cases hp
  refine s0z (λo=>match r0v b (h0Q b p) j0 with
    |some (xs,j)=>o= .inl ((j:Int),xs)
    |none=> ∃e,o= .inr (.inr e)) ?_ (λo ho=> ?_)
  · rw[r0J hb hl (by omega)]
    unfold r0v
    cases hc:tkN b 2 j0 with
    |none=>exact⟨_,rfl,_,rfl⟩
    |some q=>
    obtain⟨n,j1⟩:=q;have ln:=e0X hc;have hlt:=o0u hb (by omega) hc;refine h0C (l0m ?_);have hf:=λm {xs} {j} =>j0D (w0u (b:=b) (p:=p)) ln.2 m (xs:=xs) (j:=j)
    refine v0O (P:=λo:(Int×List d0H)⊕((c0x×Int)⊕Int)=>((∃xs j,o= .inl (((j:Nat):Int),xs)/\d0M (h0Q b p) j1 n=qA (xs,j))\/((∃e,o= .inr (.inr e))/\d0M (h0Q b p) j1 n=none))) ?_ (λo hq=> ?_)
    · refine f0W n (λm=>match d0M (h0Q b p) j1 m with
        |some (xs,j)=>((m:Int),(j:Int),xs)
        |none=>(0,0,[])) (λm=> ∃xs j,d0M (h0Q b p) j1 m=qA (xs,j)) _ rfl ⟨_,_,rfl⟩ (λm hm hI=> ?_) (λhI=> ?_) (by omega)
      rotate_left
      obtain⟨xs,j,hx⟩:=hI;rw[hx];exact⟨_,by simp only;rw[dF (by omega)];rfl, .inl ⟨xs,j,rfl,rfl⟩⟩;obtain⟨xs,j,hx⟩:=hI;obtain⟨f1,f2,f3⟩:=hf m hx
      have hnone:h0Q b p j=none->d0M (h0Q b p) j1 n=none:=λe=>by
        have h1:d0M (h0Q b p) j1 (m+1)=none:=by rw[n0P hx,e]
        have:=l0E h1 (n-(m+1))
        rwa [show m+1+(n-(m+1))=n by omega]at this
      have hsome: ∀ {x k},h0Q b p j=qA (x,k)->d0M (h0Q b p) j1 (m+1)=qA (xs++ [x],k):=λe=>by rw[n0P hx,e]
      rw[hx];simp only;rw[dT (by omega)];simp only[qC];rw[r0K hb hl (by omega)]
      cases c1:tkN b 1 j with
      |none=>right;refine⟨.inr (.inr (j:Int)),rfl, .inr ⟨⟨_,rfl⟩,hnone (by unfold h0Q;rw[c1])⟩⟩
      |some q=>
      obtain⟨c,ja⟩:=q;have lc:=e0X c1;simp only[ab,bI];rw[i0N hb hl (by omega)]
      cases c2:txN b p ja with
      |none=>right;refine⟨.inr (.inr (txE b ja)),rfl, .inr ⟨⟨_,rfl⟩,hnone (by unfold h0Q;rw[c1];simp only;rw[c2])⟩⟩
      |some q=>
      obtain⟨t,jb⟩:=q;have hs:=hsome (x:=(⟨(c:Int),t⟩:d0H)) (k:=jb) (by unfold h0Q;rw[c1];simp only;rw[c2]);left;rw[hs];simp only[ab,bI];rw[a0z (by simp;omega),w64 (n:=(m:Int)+1) (by omega) (by omega)];exact⟨by simp,_,_,rfl⟩
    rcases hq with⟨xs,j,rfl,hx⟩|⟨⟨e,rfl⟩,hx⟩;simp only[hx];simp only[hx];exact⟨e,rfl⟩
  cases hc0:r0v b (h0Q b p) j0 with
  |none=>rw[hc0]at ho;obtain⟨e,rfl⟩:=ho;exact⟨_,rfl,g0A (by simp only[s0o,g0K,h0,s0,s1,s2,s3,s4,s5,s6,hp,hc0]) _⟩
  |some q=>
  obtain⟨xs0,j1⟩:=q;rw[hc0]at ho;simp only at ho;subst ho;refine D0s ?_
  have lc0:j1<=b.length:=by
    unfold r0v at hc0;split at hc0;rename_i n j1 h1;exact(j0D w0u (e0X h1).2 _ hc0).2.1;cases hc0
  refine s0z (λo=>match r0v b (q0r b p) j1 with
    |some (xs,j)=>o= .inl ((j:Int),xs)
    |none=> ∃e,o= .inr (.inr e)) ?_ (λo ho=> ?_)
  · rw[r0J hb hl (by omega)]
    unfold r0v
    cases hc:tkN b 2 j1 with
    |none=>exact⟨_,rfl,_,rfl⟩
    |some q=>
    obtain⟨n,j1⟩:=q;have ln:=e0X hc;have hlt:=o0u hb (by omega) hc;refine h0C (l0m ?_);have hf:=λm {xs} {j} =>j0D (B0k (b:=b) (p:=p)) ln.2 m (xs:=xs) (j:=j)
    refine v0O (P:=λo:(Int×List d0N)⊕((c0x×Int)⊕Int)=>((∃xs j,o= .inl (((j:Nat):Int),xs)/\d0M (q0r b p) j1 n=qA (xs,j))\/((∃e,o= .inr (.inr e))/\d0M (q0r b p) j1 n=none))) ?_ (λo hq=> ?_)
    · refine f0W n (λm=>match d0M (q0r b p) j1 m with
        |some (xs,j)=>((m:Int),(j:Int),xs)
        |none=>(0,0,[])) (λm=> ∃xs j,d0M (q0r b p) j1 m=qA (xs,j)) _ rfl ⟨_,_,rfl⟩ (λm hm hI=> ?_) (λhI=> ?_) (by omega)
      rotate_left
      obtain⟨xs,j,hx⟩:=hI;rw[hx];exact⟨_,by simp only;rw[dF (by omega)];rfl, .inl ⟨xs,j,rfl,rfl⟩⟩;obtain⟨xs,j,hx⟩:=hI;obtain⟨f1,f2,f3⟩:=hf m hx
      have hnone:q0r b p j=none->d0M (q0r b p) j1 n=none:=λe=>by
        have h1:d0M (q0r b p) j1 (m+1)=none:=by rw[n0P hx,e]
        have:=l0E h1 (n-(m+1))
        rwa [show m+1+(n-(m+1))=n by omega]at this
      have hsome: ∀ {x k},q0r b p j=qA (x,k)->d0M (q0r b p) j1 (m+1)=qA (xs++ [x],k):=λe=>by rw[n0P hx,e]
      rw[hx];simp only;rw[dT (by omega)];simp only[qC];rw[i0N hb hl (by omega)]
      cases c1:txN b p j with
      |none=>right;refine⟨.inr (.inr (txE b j)),rfl, .inr ⟨⟨_,rfl⟩,hnone (by unfold q0r;rw[c1])⟩⟩
      |some q=>
      obtain⟨c,ja⟩:=q;have lc:=g0J c1;simp only[ab,bI];rw[i0N hb hl (by omega)]
      cases c2:txN b p ja with
      |none=>right;refine⟨.inr (.inr (txE b ja)),rfl, .inr ⟨⟨_,rfl⟩,hnone (by unfold q0r;rw[c1];simp only;rw[c2])⟩⟩
      |some q=>
      obtain⟨t,jc⟩:=q;have lc2:=g0J c2;simp only[ab,bI];rw[r0K hb hl (by omega)]
      cases c3:tkN b 1 jc with
      |none=>right;refine⟨.inr (.inr (jc:Int)),rfl, .inr ⟨⟨_,rfl⟩,hnone (by unfold q0r;rw[c1];simp only;rw[c2];simp only;rw[c3])⟩⟩
      |some q=>
      obtain⟨d,jb⟩:=q;have hs:=hsome (x:=(⟨c,t,(d:Int)⟩:d0N)) (k:=jb) (by unfold q0r;rw[c1];simp only;rw[c2];simp only;rw[c3]);left;rw[hs];simp only[ab,bI];rw[a0z (by simp;omega),w64 (n:=(m:Int)+1) (by omega) (by omega)];exact⟨by simp,_,_,rfl⟩
    rcases hq with⟨xs,j,rfl,hx⟩|⟨⟨e,rfl⟩,hx⟩;simp only[hx];simp only[hx];exact⟨e,rfl⟩
  cases hc1:r0v b (q0r b p) j1 with
  |none=>rw[hc1]at ho;obtain⟨e,rfl⟩:=ho;exact⟨_,rfl,g0A (by simp only[s0o,g0K,h0,s0,s1,s2,s3,s4,s5,s6,hp,hc0,hc1]) _⟩
  |some q=>
  obtain⟨xs1,j2⟩:=q;rw[hc1]at ho;simp only at ho;subst ho;refine D0s ?_
  have lc1:j2<=b.length:=by
    unfold r0v at hc1;split at hc1;rename_i n j1 h1;exact(j0D B0k (e0X h1).2 _ hc1).2.1;cases hc1
  refine s0z (λo=>match r0v b (h0E b p) j2 with
    |some (xs,j)=>o= .inl ((j:Int),xs)
    |none=> ∃e,o= .inr (.inr e)) ?_ (λo ho=> ?_)
  · rw[r0J hb hl (by omega)]
    unfold r0v
    cases hc:tkN b 2 j2 with
    |none=>exact⟨_,rfl,_,rfl⟩
    |some q=>
    obtain⟨n,j1⟩:=q;have ln:=e0X hc;have hlt:=o0u hb (by omega) hc;refine h0C (l0m ?_);have hf:=λm {xs} {j} =>j0D (x0f (b:=b) (p:=p)) ln.2 m (xs:=xs) (j:=j)
    refine v0O (P:=λo:(Int×List d0p)⊕((c0x×Int)⊕Int)=>((∃xs j,o= .inl (((j:Nat):Int),xs)/\d0M (h0E b p) j1 n=qA (xs,j))\/((∃e,o= .inr (.inr e))/\d0M (h0E b p) j1 n=none))) ?_ (λo hq=> ?_)
    · refine f0W n (λm=>match d0M (h0E b p) j1 m with
        |some (xs,j)=>((m:Int),(j:Int),xs)
        |none=>(0,0,[])) (λm=> ∃xs j,d0M (h0E b p) j1 m=qA (xs,j)) _ rfl ⟨_,_,rfl⟩ (λm hm hI=> ?_) (λhI=> ?_) (by omega)
      rotate_left
      obtain⟨xs,j,hx⟩:=hI;rw[hx];exact⟨_,by simp only;rw[dF (by omega)];rfl, .inl ⟨xs,j,rfl,rfl⟩⟩;obtain⟨xs,j,hx⟩:=hI;obtain⟨f1,f2,f3⟩:=hf m hx
      have hnone:h0E b p j=none->d0M (h0E b p) j1 n=none:=λe=>by
        have h1:d0M (h0E b p) j1 (m+1)=none:=by rw[n0P hx,e]
        have:=l0E h1 (n-(m+1))
        rwa [show m+1+(n-(m+1))=n by omega]at this
      have hsome: ∀ {x k},h0E b p j=qA (x,k)->d0M (h0E b p) j1 (m+1)=qA (xs++ [x],k):=λe=>by rw[n0P hx,e]
      rw[hx];simp only;rw[dT (by omega)];simp only[qC];rw[r0K hb hl (by omega)]
      cases c1:tkN b 1 j with
      |none=>right;refine⟨.inr (.inr (j:Int)),rfl, .inr ⟨⟨_,rfl⟩,hnone (by unfold h0E;rw[c1])⟩⟩
      |some q=>
      obtain⟨c,ja⟩:=q;have lc:=e0X c1;simp only[ab,bI];rw[r0K hb hl (by omega)]
      cases c2:tkN b 1 ja with
      |none=>right;refine⟨.inr (.inr (ja:Int)),rfl, .inr ⟨⟨_,rfl⟩,hnone (by unfold h0E;rw[c1];simp only;rw[c2])⟩⟩
      |some q=>
      obtain⟨d,jc⟩:=q;have lc2:=e0X c2;simp only[ab,bI];rw[i0N hb hl (by omega)]
      cases c3:txN b p jc with
      |none=>right;refine⟨.inr (.inr (txE b jc)),rfl, .inr ⟨⟨_,rfl⟩,hnone (by unfold h0E;rw[c1];simp only;rw[c2];simp only;rw[c3])⟩⟩
      |some q=>
      obtain⟨t,jb⟩:=q;have hs:=hsome (x:=(⟨(c:Int),(d:Int),t⟩:d0p)) (k:=jb) (by unfold h0E;rw[c1];simp only;rw[c2];simp only;rw[c3]);left;rw[hs];simp only[ab,bI];rw[a0z (by simp;omega),w64 (n:=(m:Int)+1) (by omega) (by omega)];exact⟨by simp,_,_,rfl⟩
    rcases hq with⟨xs,j,rfl,hx⟩|⟨⟨e,rfl⟩,hx⟩;simp only[hx];simp only[hx];exact⟨e,rfl⟩
  cases hc2:r0v b (h0E b p) j2 with
  |none=>rw[hc2]at ho;obtain⟨e,rfl⟩:=ho;exact⟨_,rfl,g0A (by simp only[s0o,g0K,h0,s0,s1,s2,s3,s4,s5,s6,hp,hc0,hc1,hc2]) _⟩
  |some q=>
  obtain⟨xs2,j3⟩:=q;rw[hc2]at ho;simp only at ho;subst ho;refine D0s ?_
  have lc2:j3<=b.length:=by
    unfold r0v at hc2;split at hc2;rename_i n j1 h1;exact(j0D x0f (e0X h1).2 _ hc2).2.1;cases hc2
  refine⟨_,rfl, ?_⟩;simp only[F0n,s0o,g0K,h0,s0,s1,s2,s3,s4,s5,s6,hp,hc0,hc1,hc2]
theorem tEq(a b:Tx):(a==b)=vA (a=b):=by by_cases h:a=b<;>simp[h]
/-! Bytes, taken for a bundle. -/
def n0D:c0x:=⟨[],⟨0,0,0,0,0,0,0⟩,⟨[],[],[],[]⟩,[],[],[]⟩
def u0z(c:List Nat):List Nat×Int:=if c.length<4 then([],2)else if c=d0m (c.take (c.length-4))then(c.take (c.length-4),0)else([],6)
theorem B0j {c:List Nat} (hc:a0A c)(hl:c.length<=4000000000):j0P (up c)=qA (up (u0z c).1,(u0z c).2):=by
  unfold u0z;by_cases h4:c.length<4;rw[yB h4];exact B0h h4;rw[oB h4];obtain⟨m,x,y,z,w,rfl⟩:=z0d (Nat.le_of_not_lt h4);have hml:(m++ [x,y,z,w]).length-4=m.length:=by simp
  have hb4: ∀q∈ [x,y,z,w],q<256:=λq hq=>hc q (bG _ hq)
  have hm:a0A m:=l0R hc;rw[hml,List.take_left' rfl]
  have hiff:(m++ [x,y,z,w]=d0m m)↔g0M x y z w=q0N m:=by
    rw[r0L (hb4 x (by simp)) (hb4 y (by simp)) (hb4 z (by simp)) (hb4 w (by simp)) (q0v hm)];unfold d0m r0M;rw[List.append_cancel_left_eq];simp
  rw[ac]at hl;rw[E0C hc (by omega)];by_cases he:g0M x y z w=q0N m;rw[yB he,yB (hiff.2 he)];rw[oB he,oB (λg=>he (hiff.1 g))];try rfl
theorem C0B {c:List Nat} (hc:a0A c)(hl:c.length<=4000000000):c0r (up c)=qA (up (u0z c).1,(u0z c).2):=by
  unfold u0z;by_cases h4:c.length<4;rw[yB h4];exact x0O h4;rw[oB h4];obtain⟨m,x,y,z,w,rfl⟩:=z0d (Nat.le_of_not_lt h4);have hml:(m++ [x,y,z,w]).length-4=m.length:=by simp
  have hb4: ∀q∈ [x,y,z,w],q<256:=λq hq=>hc q (bG _ hq)
  have hm:a0A m:=l0R hc;rw[hml,List.take_left' rfl]
  have hiff:(m++ [x,y,z,w]=d0m m)↔g0M x y z w=q0N m:=by
    rw[r0L (hb4 x (by simp)) (hb4 y (by simp)) (hb4 z (by simp)) (hb4 w (by simp)) (q0v hm)];unfold d0m r0M;rw[List.append_cancel_left_eq];simp
  rw[ac]at hl;rw[F0b hc (by omega)];by_cases he:g0M x y z w=q0N m;rw[yB he,yB (hiff.2 he)];rw[oB he,oB (λg=>he (hiff.1 g))];try rfl
theorem r0u {c:List Nat} (hc:a0A c):a0A (u0z c).1/\(u0z c).1.length<=c.length:=by
  unfold u0z;split;exact⟨(λ_ h=>by cases h),bp _⟩;split;exact⟨h0j hc _,by rw[aQ];omega⟩;exact⟨(λ_ h=>by cases h),bp _⟩
def u0y(c:List Nat):c0x×Int:=if(u0z c).2=0 then(match rdL (u0z c).1 with
    |some l=>if w0Z l=(c,0)then(l,0)else(n0D,2)
    |none=>(n0D,2))else(n0D,(u0z c).2)
theorem H0e {i:Nat} (h0:i<=b.length)(h:(tpV b (i:Int)).2.2=0): ∃j:Nat,(tpV b (i:Int)).2.1=(j:Int)/\j<=b.length/\e0P (tpV b (i:Int)).1:=by
  unfold tpV at h⊢;rw[oB (by omega)]at h⊢;by_cases h2:(i:Int)+2>b.length;rw[yB h2]at h;cases h;rw[oB h2]at h⊢;rw[aJ]at h⊢
  cases hp:tpi b (i+2) (l0T ((b.drop i).take 2))with
  |none=>rw[hp]at h;cases h
  |some q=>
    obtain⟨p,j⟩:=q;rw[hp]at h;simp only at h⊢;have hf:=p0z (l:=b) (i0:=i+2) (by omega) _ hp;by_cases hpp:e0P p;rw[yB hpp];exact⟨j,rfl,hf.1,hpp⟩;rw[oB hpp]at h;cases h
theorem y0L {i:Nat} (h:b.length<i+2):(tpV b (i:Int)).2.2≠0:=by
  unfold tpV;rw[oB (by omega),yB (by omega)];simp
theorem H0t (hb:a0A b)(hl:b.length<=140737488355328):l0v (up b)=qA (match rdL b with|some l=>(l,yA)|none=>(n0D,oA)):=by
  unfold l0v c0e;rw[C0h hb hl (by omega)];unfold rdL;by_cases he:(tpV b 56).2.2=0;rw[yB he];simp only[ab];unfold d0c;rw[dF (λg=>g he)];simp only[vC,ab,bI];have h56:56<=b.length:=Nat.le_of_not_lt λh=>y0L (i:=56) (by omega) he
  obtain⟨j,hj,hjl,_⟩:=H0e (i:=56) h56 he;have hj':(tpV b 56).2.1=(j:Int):=hj;rw[hj',aJ];obtain⟨o,ho,hok⟩:=C0U (p:=(tpV b 56).1) hb hl hjl;rw[ho]
  cases hr:s0o b (tpV b 56).1 j with
  |none=>
    rw[hr]at hok;obtain⟨e,rfl⟩:=hok;rfl
  |some q=>
    obtain⟨l,k⟩:=q;rw[hr]at hok;subst hok;rfl
  rw[oB he];simp only[ab];unfold d0c;rw[dT he];rfl
theorem H0b(n:Int): -2147483648<=jA .i32 n/\jA .i32 n<2147483648:=by
  unfold jA;simp only[qF,jG,bX];have h1:(0:Int)<=n%2^32:=Int.emod_nonneg _ (by decide);have h2:n%2^32<2^32:=Int.emod_lt_of_pos _ (by decide);have e:(2:Int)^32=4294967296:=by decide
  rw[e]at h1 h2;have e2:(2:Int)^(32-1)=2147483648:=by decide
  simp only[e,e2];split;rename_i h;simp only[decide_eq_true_eq]at h;omega;rename_i h;simp only[decide_eq_true_eq]at h;omega
def sOk(s:e0r):Prop:= ∀n∈k0b s,-2147483648<=n/\n<2147483648
theorem H0i {i:Nat} (h:sgN b i=qA (n,j)): -2147483648<=n/\n<2147483648:=by
  unfold sgN at h;split at h;cases h;exact H0b _;cases h
theorem z0i {i:Nat} (h:g0K b i=qA (s,j)):sOk s/\j<=b.length:=by
  unfold g0K at h
  repeat' split at h
  all_goals first|cases h|skip
  refine⟨λn hn=> ?_,(o0w (by assumption)).2⟩;simp only[k0b,aG,bc,or_false]at hn;rcases hn with rfl|rfl|rfl|rfl|rfl|rfl|rfl<;>exact H0i (by assumption)
theorem C0v {p:List Tx} (hb:a0A b): ∀i x j,h0Q b p i=qA (x,j)-> -9223372036854775808<=x.t_/\x.t_<9223372036854775808:=λi x j h=>by
  unfold h0Q at h;split at h;rename_i c j1 h1;split at h;cases h;have:=o0u hb (by omega) h1;simp only;omega;cases h;cases h
theorem G0s {p:List Tx} (hb:a0A b): ∀i x j,q0r b p i=qA (x,j)-> -9223372036854775808<=x.N_/\x.N_<9223372036854775808:=λi x j h=>by
  unfold q0r at h;split at h;split at h;split at h;rename_i h1;cases h;have:=o0u hb (by omega) h1;simp only;omega;cases h;cases h;cases h
theorem D0C {p:List Tx} (hb:a0A b): ∀i x j,h0E b p i=qA (x,j)->(-9223372036854775808<=x.G_/\x.G_<9223372036854775808)/\(-9223372036854775808<=x.t_/\x.t_<9223372036854775808):=λi x j h=>by
  unfold h0E at h;split at h;rename_i h1;split at h;rename_i h2;split at h;cases h;have:=o0u hb (by omega) h1;have:=o0u hb (by omega) h2;simp only;omega;cases h;cases h;cases h
theorem t0u {T:Type} {f:Nat->Option (T×Nat)} {L:Nat} (hf: ∀j x k,f j=qA (x,k)->j+3<=k/\k<=L) {i:Nat} (hi:i<=L): ∀(m:Nat) {xs:List T} {j:Nat},d0M f i m=qA (xs,j)->i+3*xs.length<=j/\j<=L
  |0,xs,j,h=>by cases h;simp;exact hi
  |m+1,xs,j,h=>by
    unfold d0M at h;split at h;rename_i xs' j' h1;split at h;rename_i x k h2;cases h;have h3:=t0u hf hi m h1;have h4:=hf _ _ _ h2;simp only[ac,aC,aH];omega;cases h;cases h
theorem z0q {p:List Tx} : ∀i x j,h0Q b p i=qA (x,j)->i+3<=j/\j<=b.length:=λi x j h=>by
  unfold h0Q at h;split at h;rename_i c j1 h1;split at h;rename_i t k h2;cases h;have:=e0X h1;have:=g0J h2;omega;cases h;cases h
theorem D0A {p:List Tx} : ∀i x j,q0r b p i=qA (x,j)->i+3<=j/\j<=b.length:=λi x j h=>by
  unfold q0r at h;split at h;rename_i c j1 h1;split at h;rename_i t k h2;split at h;rename_i d q h3;cases h;have:=g0J h1;have:=g0J h2;have:=e0X h3;omega;cases h;cases h;cases h
theorem B0p {p:List Tx} : ∀i x j,h0E b p i=qA (x,j)->i+3<=j/\j<=b.length:=λi x j h=>by
  unfold h0E at h;split at h;rename_i c j1 h1;split at h;rename_i t k h2;split at h;rename_i d q h3;cases h;have:=e0X h1;have:=e0X h2;have:=g0J h3;omega;cases h;cases h;cases h
theorem w0a {f:Nat->Option (T×Nat)} {P:T->Prop} (hl:b.length<=170000)(hf: ∀j x k,f j=qA (x,k)->j+3<=k/\k<=b.length)(hp: ∀j x k,f j=qA (x,k)->P x) {i:Nat} {xs:List T} (h:r0v b f i=qA (xs,j)):(xs.length<=60000/\ ∀x∈xs,P x)/\j<=b.length:=by
  unfold r0v at h;split at h;rename_i h1;have h2:=t0u hf (e0X h1).2 _ h;exact⟨⟨by omega,t0v hp _ h⟩,h2.2⟩;cases h
theorem C0V {p:List Tx} (hb:a0A b)(hl:b.length<=170000) {i:Nat} {l:c0x} (h:s0o b p i=qA (l,j)):Med l:=by
  unfold s0o at h
  repeat' split at h
  all_goals first|cases h|skip
  exact⟨(z0i ‹g0K b _=qA (_,_)›).1,(w0a hl z0q (C0v hb) ‹r0v b (h0Q b p) _=qA (_,_)›).1,(w0a hl D0A (G0s hb) ‹r0v b (q0r b p) _=qA (_,_)›).1,(w0a hl B0p (D0C hb) ‹r0v b (h0E b p) _=qA (_,_)›).1⟩
theorem z0A (hb:a0A b)(hl:b.length<=170000) {l:c0x} (h:rdL b=qA l):Med l:=by
  unfold rdL at h;split at h
  cases hr:s0o b (tpV b 56).1 (tpV b 56).2.1.toNat with
  |none=>rw[hr]at h;cases h
  |some q=>
    rw[hr]at h;cases h;exact C0V hb hl (j:=q.2) hr
  cases h
theorem y0i {x y:List Nat} (hx:a0A x)(hy:a0A y):(i0p (up x)==i0p (up y))=vA (x=y):=by
  rw[j0u,j0u,tEq];by_cases h:x=y;rw[dT h,dT (by rw[h])]
  rw[dF h,dF (λe=>h (by
    have:=congrArg (List.map wJ) e
    rwa [q0Z hx,q0Z hy]at this))]
theorem y0d(l:c0x):a0A (w0Z l).1:=by
  unfold w0Z;split;exact λ_ h=>by cases h
  exact d0X (i0q l) (n0E _)
theorem u0x {c:List Nat} (hc:a0A c)(hl:c.length<=170000):h0K (up c)=qA (u0y c):=by
  unfold h0K u0y;rw[B0j hc (by omega)];have hcb:=r0u hc;simp only[ab];by_cases he:(u0z c).2=0;rw[dF (λg=>g he),yB he,H0t hcb.1 (by omega)];simp only[vC,ab]
  cases hr:rdL (u0z c).1 with
  |none=>rfl
  |some l=>
    have hm:=z0A hcb.1 (by omega) hr;simp only[bD,vC];rw[B0a hm];simp only[ab];have hb:=y0d l;generalize w0Z l=q at hb;obtain⟨x,e⟩:=q;simp only at hb⊢;by_cases h0:e=0;rw[dF (λg=>g h0)];unfold j0T;rw[y0i hb hc];subst h0;simp only[vC,ab];by_cases hx:x=c;rw[dT hx,yB (by rw[hx])];rfl;rw[dF hx,oB (λg=>hx (bA g).1)];rfl;rw[dT h0,oB (λg=>h0 (bA g).2)];rfl
  rw[dT he,oB he];rfl
theorem s0E {c:List Nat} (hc:a0A c)(hl:c.length<=170000):Med (u0y c).1:=by
  have hz:Med n0D:=⟨λn hn=>by
    have:n=0:=by simpa [n0D]using hn
    omega,⟨by simp[n0D],by simp[n0D]⟩,⟨by simp[n0D],by simp[n0D]⟩,⟨by simp[n0D],by simp[n0D]⟩⟩
  have hcb:=r0u hc;unfold u0y;split;split;rename_i l h;split;exact z0A hcb.1 (by omega) h;exact hz;exact hz;exact hz
/-! What is written is read. -/
theorem n0u {p S:List Nat} {i:Nat} (hp:0<p.length)(h:l.drop i=p++S):i+p.length<=l.length/\l.drop (i+p.length)=S/\(l.drop i).take p.length=p:=by
  have h1:=congrArg List.length h;rw[bk,ac]at h1;refine⟨by omega, ?_, ?_⟩;rw[<-List.drop_drop,h,List.drop_left];rw[h,List.take_left]
theorem J0Z {S:List Nat} {i:Nat} (hk:sz k)(h0:0<=n)(h1:n<4294967296)(hn:n.toNat<256^k)(h:l.drop i=(a0f n k).2++S):tkN l k i=qA (n.toNat,i+k)/\l.drop (i+k)=S:=by
  rw[m0Q h0 h1 hn]at h;simp only at h;have hk4:=x0x hk;obtain⟨a,b,c⟩:=n0u (by rw[h0L];omega) h;rw[h0L]at a b c;unfold tkN;rw[yB a,c,H0d hk hn];exact⟨rfl,b⟩
theorem F0L (f:T->List (Int×Nat))(xs:List T):iE (xs.flatMap f)=xs.flatMap λx=>iE (f x):=by
  induction xs with
  |nil=>rfl
  |cons x xs ih=>rw[ap,w0Q,ih,ap]
theorem E0j: ∀ {I:List (Int×Nat)},iB I=oA->(iE I).length=(I.map jJ).sum
  | [],_=>rfl
  |x::I,h=>by
    rw[f0Y,Bool.or_eq_false_iff]at h
    have h1:(a0f x.1 x.2).2.length=x.2:=by
      have:=h.1;unfold a0f at this⊢;split;simp[h0L];rename_i hh;rw[oB hh]at this;cases this
    rw[o0f,ac,h1,E0j h.2];rfl
theorem Ok.bad {l:c0x} (h:Ok l):G0W l=false:=by
  rw[B0y h.m,dT h.p];unfold okL;have e1:(k0b l.S_).all (λn=>vA (0<=n))=true:=List.all_eq_true.2 λn hn=>dT (h.s n hn)
  have e2:l.j_.all (λr=>bt r.t_)=true:=List.all_eq_true.2 h.r;have e3:l.g_.all (λc=>bt c.N_)=true:=List.all_eq_true.2 h.c;have e4:l.c_.all (λc=>bt c.G_&&bt c.t_)=true:=List.all_eq_true.2 λc hc=>by rw[(h.k c hc).1,(h.k c hc).2];rfl
  rw[e1,e2,e3,e4];rfl
theorem D0k {l:c0x} (h:Ok l):([69,88,76,66]++iE (IH (p0C 56 (e0t l))):List Nat).length=56:=by
  have hb:=h.bad;unfold G0W at hb;rw[Bool.or_eq_false_iff]at hb;rw[ac,E0j hb.2];unfold IH
  have: ∀T:List (Int×Int),((T.flatMap λr=> [(r.1,4),(r.2,4)]).map jJ:List Nat).sum=8*T.length:=λT=>by
    induction T with
    |nil=>rfl
    |cons r rs ih=>simp only[ap,bM,List.sum_append,ih,ah,aA,List.sum_cons,List.sum_nil,aC];omega
  rw[bM,List.sum_append,this,p0d];rfl
theorem n0F(m:List Nat):(d0m m).length=m.length+4:=by simp[d0m,r0M]
theorem v0S {l:c0x} (h:Ok l):w0Z l=(d0m (c0F l),0):=by
  unfold w0Z;rw[h.bad];rfl
theorem s0C {l:c0x} (hm:Med l):Ok l\/w0Z l=([],1):=by
  rw[G0a hm];by_cases h:e0P (a0X l)/\okL l=yA;exact .inl (Ok.of hm h.1 h.2);rw[oB h];exact .inr rfl
theorem v0V {c:List Nat} (h:(u0y c).2=0):w0Z (u0y c).1=(c,0):=by
  unfold u0y at h⊢;by_cases he:(u0z c).2=0;rw[yB he]at h⊢
  cases hr:rdL (u0z c).1 with
  |none=>first|(rw[hr]at h;cases h)|cases h
  |some l=>
    simp only[hr]at h⊢;by_cases hx:w0Z l=(c,0);rw[yB hx];exact hx;rw[oB hx]at h;cases h
  rw[oB he]at h;exact absurd h he
theorem o0v(l:c0x):a0A (d0m (c0F l)):=d0X (i0q l) (n0E _)
/-! What a bundle's head says. -/
def J0Y(h:List Nat):Nat:=l0T ((h.drop 48).take 4)+l0T ((h.drop 52).take 4)
theorem A0H {l:c0x} :(c0F l).drop 4=(a0f 1 2).2++((a0f 6 2).2++(((p0C 56 (e0t l)).flatMap λr=>(a0f r.1 4).2++(a0f r.2 4).2)++(e0t l).flatten)):=by
  unfold c0F IH;rw[aB];refine(show List.drop 4 ([69,88,76,66]++_)=_ from rfl).trans ?_;simp only[aK,aR,o0f,F0L,aB];simp[iE]
theorem z0E (h0:0<=n)(h1:n<4294967296)(h:n.toNat<256^k):(a0f n k).2.length=k:=by rw[m0Q h0 h1 h];simp[h0L]
theorem H0n {T:List (Int×Int)} (hf: ∀r∈T,(0<=r.1/\r.1<4294967296)/\(0<=r.2/\r.2<4294967296)) {S:List Nat} {i:Nat} (h:l.drop i=(T.flatMap λr=>(a0f r.1 4).2++(a0f r.2 4).2)++S): ∀k,k<=T.length->l.drop (i+8*k)=((T.drop k).flatMap λr=>(a0f r.1 4).2++(a0f r.2 4).2)++S:=by
  intro k
  induction k with
  |zero=>intro _;simpa using h
  |succ k ih=>
    intro hk;have h1:=ih (by omega);have hx:=hf _ (cf (show k<T.length by omega));rw[bv (show k<T.length by omega),ap,aB,aB]at h1;have g1:=z0E (k:=4) hx.1.1 hx.1.2 (by omega);have g2:=z0E (k:=4) hx.2.1 hx.2.2 (by omega);have a1:=(n0u (by omega) h1).2.1;rw[g1]at a1;have a2:=(n0u (by omega) a1).2.1;rw[g2]at a2;rw[show i+8*(k+1)=i+8*k+4+4 by omega];exact a2
theorem H0o {l:c0x} (h:Ok l) (hk:k<6): ∃a b:Nat,∃S,(p0C 56 (e0t l))[k]?=qA ((a:Int),(b:Int))/\a<4294967296/\b<4294967296/\(c0F l).drop (8+8*k)=(a0f (a:Int) 4).2++((a0f (b:Int) 4).2++S):=by
  have hf:=r0N (e0t l) 56 (by have:=p0f h.m;omega);have hd:=A0H (l:=l);have g1:(a0f 1 2).2.length=2:=by decide+kernel
  have g2:(a0f 6 2).2.length=2:=by decide+kernel
  have a1:=(n0u (by omega) hd).2.1;rw[g1]at a1;have a2:=(n0u (by omega) a1).2.1;rw[g2]at a2;have hT:(p0C 56 (e0t l)).length=6:=by rw[p0d];rfl
  have h8:=H0n hf (i:=8) a2 k (by omega);rw[bv (show k<(p0C 56 (e0t l)).length by omega),ap,aB,aB]at h8;have hx:=hf _ (cf (show k<(p0C 56 (e0t l)).length by omega));have hg:=ag (show k<(p0C 56 (e0t l)).length by omega);generalize(p0C 56 (e0t l))[k]'(by omega)=r at h8 hx hg;obtain⟨x,y⟩:=r;obtain⟨a,rfl⟩:=bB hx.1.1;obtain⟨b,rfl⟩:=bB hx.2.1;exact⟨a,b,_,hg,by have:=hx.1.2;simp only at this;omega,by have:=hx.2.2;simp only at this;omega,h8⟩
theorem y0W: ∀(S:List (List Nat)) (i k:Nat),k<S.length->(p0C i S)[k]?=qA (((i+(S.take k).flatten.length:Nat):Int),((S[k]?.getD []).length:Int))
  | [],_,k,h=>by simp at h
  |s::S,i,0,_=>by simp[p0C]
  |s::S,i,k+1,h=>by
    have:=y0W S (i+s.length) k (by simpa using h);unfold p0C;rw[List.getElem?_cons_succ,this];simp[Nat.add_assoc]
theorem h0B(S:List (List Nat)) (h:k<S.length):(S.take (k+1)).flatten.length=(S.take k).flatten.length+(S[k]?.getD []).length:=by
  rw[List.take_succ_eq_append_getElem h,List.flatten_append,ac,ag h];simp
theorem n0v {l:c0x} (h:Ok l):(c0F l).length=56+(e0t l).flatten.length:=by
  unfold c0F;rw[ac,D0k h]
theorem A0o {l:c0x} (h:Ok l):(c0F l).length=J0Y ((c0F l).take 56):=by
  obtain⟨a,b,S,h1,ha,hb,hd⟩:=H0o h (k:=5) (by omega);have ht:=y0W (e0t l) 56 5 (by show 5<6;omega);have hft:=h0B (e0t l) (k:=5) (by show 5<6;omega);rw[h1]at ht;have ht2:=bA (al ht);have e6:(e0t l).take 6=e0t l:=rfl;rw[show 5+1=6 from rfl,e6]at hft;rw[n0v h,hft];obtain⟨t1,d1⟩:=J0Z (.inr (.inr rfl)) (by omega) (by omega) (by omega) hd;obtain⟨t2,d2⟩:=J0Z (.inr (.inr rfl)) (by omega) (by omega) (by omega) d1;unfold tkN at t1 t2;split at t1;split at t2;have v1:=(bA (al t1)).1;have v2:=(bA (al t2)).1;unfold J0Y;rw[cZ,cZ,List.take_take,List.take_take];rw[show min 4 (56-48)=4 by omega,show min 4 (56-52)=4 by omega];rw[show 8+8*5=48 by omega]at v1 v2;rw[show 48+4=52 by omega]at v2;rw[v1,v2];omega;cases t2;cases t1
theorem z0O {l:c0x} (h:Ok l) {c:List Nat} (hc:a0A c)(hl:c.length<=170000)(ht:c.take 56=(c0F l).take 56)(hn:c.length≠(c0F l).length+4):(u0y c).2≠0:=λh0=>by
  have he:=v0V h0;have hm:=s0E hc hl;rcases s0C hm with ho|hb;rw[v0S ho]at he;have hx:=(bA he).1;have hlen:=n0F (c0F (u0y c).1);have h56:=n0v ho;rw[hx]at hlen
  have htk:c.take 56=(c0F (u0y c).1).take 56:=by
    have h9:=congrArg (List.take 56) hx;unfold d0m at h9;rw[bZ (by omega)]at h9;exact h9.symm
  have e1:=A0o ho;rw[<-htk,ht,<-A0o h]at e1;omega;rw[hb]at he;have:=(bA he).2;omega
theorem y0k {pre suf:List Nat} {p q s b:Nat} (hl:a0A (pre++p::q::r::s::suf))(ha:a<256)(hb:b<256)(hc:c<256)(hd:d<256)(hlen:pre.length+suf.length<=4294967290):
    a0B (fun(s149:Int×(List Int))=>(bif(vA (s149.1<4))then(bif inR (jA .i64 ((pre.length:Int)+s149.1)) s149.2.length then(bif inR (jA .i64 ((pre.length:Int)+s149.1)) s149.2.length then(bif(vA (s149.1=0))then(bif inR (jA .i64 ((pre.length:Int)+s149.1)) s149.2.length then(bif inR (jA .i64 ((pre.length:Int)+s149.1)) s149.2.length then(qA (.inl ((jA .i64 (s149.1+1)),(a0W s149.2 (jA .i64 ((pre.length:Int)+s149.1)) ((bits .xor .u8 ((nth s149.2 (jA .i64 ((pre.length:Int)+s149.1)))) (a:Int)))))))else none)else none)else(bif(vA (s149.1=1))then(bif inR (jA .i64 ((pre.length:Int)+s149.1)) s149.2.length then(bif inR (jA .i64 ((pre.length:Int)+s149.1)) s149.2.length then(qA (.inl ((jA .i64 (s149.1+1)),(a0W s149.2 (jA .i64 ((pre.length:Int)+s149.1)) ((bits .xor .u8 ((nth s149.2 (jA .i64 ((pre.length:Int)+s149.1)))) (b:Int)))))))else none)else none)else(bif(vA (s149.1=2))then(bif inR (jA .i64 ((pre.length:Int)+s149.1)) s149.2.length then(bif inR (jA .i64 ((pre.length:Int)+s149.1)) s149.2.length then(qA (.inl ((jA .i64 (s149.1+1)),(a0W s149.2 (jA .i64 ((pre.length:Int)+s149.1)) ((bits .xor .u8 ((nth s149.2 (jA .i64 ((pre.length:Int)+s149.1)))) (c:Int)))))))else none)else none)else(bif(vA (s149.1=3))then(bif inR (jA .i64 ((pre.length:Int)+s149.1)) s149.2.length then(bif inR (jA .i64 ((pre.length:Int)+s149.1)) s149.2.length then(qA (.inl ((jA .i64 (s149.1+1)),(a0W s149.2 (jA .i64 ((pre.length:Int)+s149.1)) ((bits .xor .u8 ((nth s149.2 (jA .i64 ((pre.length:Int)+s149.1)))) (d:Int)))))))else none)else none)else none))))else none)else none)else(qA (.inr s149.2)))) big (0,up (pre++p::q::r::s::suf))
      =qA (up (pre++(p^^^a)::(q^^^b)::(r^^^c)::(s^^^d)::suf)):=by
  have hp:=hl p (by simp);have hq:=hl q (by simp);have hr:=hl r (by simp);have hs:=hl s (by simp);generalize hst:(fun(s149:Int×(List Int))=>(bif(vA (s149.1<4))then(bif inR (jA .i64 ((pre.length:Int)+s149.1)) s149.2.length then(bif inR (jA .i64 ((pre.length:Int)+s149.1)) s149.2.length then(bif(vA (s149.1=0))then(bif inR (jA .i64 ((pre.length:Int)+s149.1)) s149.2.length then(bif inR (jA .i64 ((pre.length:Int)+s149.1)) s149.2.length then(qA (.inl ((jA .i64 (s149.1+1)),(a0W s149.2 (jA .i64 ((pre.length:Int)+s149.1)) ((bits .xor .u8 ((nth s149.2 (jA .i64 ((pre.length:Int)+s149.1)))) (a:Int)))))))else none)else none)else(bif(vA (s149.1=1))then(bif inR (jA .i64 ((pre.length:Int)+s149.1)) s149.2.length then(bif inR (jA .i64 ((pre.length:Int)+s149.1)) s149.2.length then(qA (.inl ((jA .i64 (s149.1+1)),(a0W s149.2 (jA .i64 ((pre.length:Int)+s149.1)) ((bits .xor .u8 ((nth s149.2 (jA .i64 ((pre.length:Int)+s149.1)))) (b:Int)))))))else none)else none)else(bif(vA (s149.1=2))then(bif inR (jA .i64 ((pre.length:Int)+s149.1)) s149.2.length then(bif inR (jA .i64 ((pre.length:Int)+s149.1)) s149.2.length then(qA (.inl ((jA .i64 (s149.1+1)),(a0W s149.2 (jA .i64 ((pre.length:Int)+s149.1)) ((bits .xor .u8 ((nth s149.2 (jA .i64 ((pre.length:Int)+s149.1)))) (c:Int)))))))else none)else none)else(bif(vA (s149.1=3))then(bif inR (jA .i64 ((pre.length:Int)+s149.1)) s149.2.length then(bif inR (jA .i64 ((pre.length:Int)+s149.1)) s149.2.length then(qA (.inl ((jA .i64 (s149.1+1)),(a0W s149.2 (jA .i64 ((pre.length:Int)+s149.1)) ((bits .xor .u8 ((nth s149.2 (jA .i64 ((pre.length:Int)+s149.1)))) (d:Int)))))))else none)else none)else none))))else none)else none)else(qA (.inr s149.2)):Option ((Int×(List Int))⊕(List Int))))=step;have hbig:big=18446744073709551611+1+1+1+1+1:=rfl
  have key: ∀(k:Int) (P S:List Int) (x v:Int),0<=k->k<4->(P.length:Int)=(pre.length:Int)+k->P.length+S.length<=4294967296->inR (P.length:Int) (P++x::S).length=yA/\
      jA .i64 ((pre.length:Int)+k)=(P.length:Int)/\nth (P++x::S) (P.length:Int)=x/\a0W (P++x::S) (P.length:Int) v=P++v::S/\jA .i64 (k+1)=k+1:=by
    intro k P S x v hk0 hk hP hS;exact⟨i0I,by rw[hP];exact w64 (by omega) (by omega),d0E,z0m,w64 (by omega) (by omega)⟩
  rw[hbig]
  have s0:step (0,up pre++(p:Int)::((q:Int)::(r:Int)::(s:Int)::up suf))=qA (.inl (1,up pre++((p^^^a:Nat):Int)::((q:Int)::(r:Int)::(s:Int)::up suf))):=by
    obtain⟨k1,k2,k3,k4,k5⟩:=key 0 (up pre) ((q:Int)::(r:Int)::(s:Int)::up suf) p ((p^^^a:Nat):Int) (by omega) (by omega) (by rw[b0L];omega) (by simp[b0L];omega);subst hst;simp only[k1,k2,k3,k5,u8_xor_nat p a hp ha,k4];rfl
  have s1:step (1,up pre++((p^^^a:Nat):Int)::((q:Int)::(r:Int)::(s:Int)::up suf))=qA (.inl (2,up pre++((p^^^a:Nat):Int)::(((q^^^b:Nat):Int)::(r:Int)::(s:Int)::up suf))):=by
    obtain⟨k1,k2,k3,k4,k5⟩:=key 1 (up pre++ [((p^^^a:Nat):Int)]) ((r:Int)::(s:Int)::up suf) q ((q^^^b:Nat):Int) (by omega) (by omega) (by simp[b0L]<;>omega) (by simp[b0L];omega);rw[aB]at k1 k3 k4;simp only[aK,aR,aB]at k1 k2 k3 k4 k5;subst hst;simp only[k1,k2,k3,k5,u8_xor_nat q b hq hb,k4];rfl
  have s2:step (2,up pre++((p^^^a:Nat):Int)::(((q^^^b:Nat):Int)::(r:Int)::(s:Int)::up suf))=qA (.inl (3,up pre++((p^^^a:Nat):Int)::(((q^^^b:Nat):Int)::((r^^^c:Nat):Int)::(s:Int)::up suf))):=by
    obtain⟨k1,k2,k3,k4,k5⟩:=key 2 (up pre++ [((p^^^a:Nat):Int),((q^^^b:Nat):Int)]) ((s:Int)::up suf) r ((r^^^c:Nat):Int) (by omega) (by omega) (by simp[b0L]<;>omega) (by simp[b0L];omega);rw[aB]at k1 k3 k4;simp only[aK,aR,aB]at k1 k2 k3 k4 k5;subst hst;simp only[k1,k2,k3,k5,u8_xor_nat r c hr hc,k4];rfl
  have s3:step (3,up pre++((p^^^a:Nat):Int)::(((q^^^b:Nat):Int)::((r^^^c:Nat):Int)::(s:Int)::up suf))=qA (.inl (4,up pre++((p^^^a:Nat):Int)::(((q^^^b:Nat):Int)::((r^^^c:Nat):Int)::((s^^^d:Nat):Int)::up suf))):=by
    obtain⟨k1,k2,k3,k4,k5⟩:=key 3 (up pre++ [((p^^^a:Nat):Int),((q^^^b:Nat):Int),((r^^^c:Nat):Int)]) (up suf) s ((s^^^d:Nat):Int) (by omega) (by omega) (by simp[b0L]<;>omega) (by simp[b0L];omega);rw[aB]at k1 k3 k4;simp only[aK,aR,aB]at k1 k2 k3 k4 k5;subst hst;simp only[k1,k2,k3,k5,u8_xor_nat s d hs hd,k4];rfl
  have s4: ∀l,step (4,l)=qA (.inr l):=λl=>by subst hst;rfl
  have hu: ∀w x y z:Nat,up (pre++w::x::y::z::suf)=up pre++(w:Int)::((x:Int)::(y:Int)::(z:Int)::up suf):=λw x y z=>by rw[c0J];rfl
  rw[hu,hu,a0J s0,a0J s1,a0J s2,a0J s3,d0C (s4 _)]
theorem J0d {i:Nat} (h:i+4<=l.length): ∃pre p q r s suf,l=pre++p::q::r::s::suf/\pre.length=i:=by
  have h4:((l.drop i).take 4).length=4:=by simp;omega
  obtain⟨p,q,r,s,he⟩:=l4 h4;refine⟨l.take i,p,q,r,s,(l.drop i).drop 4, ?_,by simp;omega⟩;have e1:l=l.take i++((l.drop i).take 4++(l.drop i).drop 4):=by rw[aV,aV]
  rw[he]at e1;exact e1
theorem E0Q {l:c0x} (hr:l.j_.length<=60000)(hc:l.g_.length<=60000)(hk:l.c_.length<=60000):Tot (d0a l) (λ_=>True):=by
  unfold d0a;refine zC (tL (λs:Int×Int=>0<=s.2/\s.2<=4) (λs=>(4-s.2).toNat) (show(0:Int)<=0/\(0:Int)<=4 by decide) (show((4:Int)-0).toNat<18446744073709551616 by decide) (λs hs=> ?_)) (λs4 _=> ?_);have st: ∀k:Int,0<=k/\k<4/\s.2=k->jA .i64 (k+1)=k+1->(0<=jA .i64 (k+1)/\jA .i64 (k+1)<=4)/\(4-jA .i64 (k+1)).toNat<(4-s.2).toNat:=λk hk e=>by rw[e];omega
  refine tI (λh=> ?_) (λ_=>tR trivial);refine tI (λh0=>tR (st 0 ⟨by omega,by omega,dTT h0⟩ (by decide))) (λh0=> ?_);refine tI (λh1=>tR (st 1 ⟨by omega,by omega,dTT h1⟩ (by decide))) (λh1=> ?_);refine tI (λh2=>tR (st 2 ⟨by omega,by omega,dTT h2⟩ (by decide))) (λh2=> ?_);refine tI (λh3=>tR (st 3 ⟨by omega,by omega,dTT h3⟩ (by decide))) (λh3=> ?_);have:=dTT h;have:=dFF h0;have:=dFF h1;have:=dFF h2;have:=dFF h3;omega;refine tJ (Tot.mono (p:=λ_=>True) (zC (tI (λ_=>tR trivial) (λ_=>tI (λ_=>tR trivial) (λ_=>tR trivial))) (λs5 _=>tI (λ_=>tR trivial) (λ_=>tR trivial))) (λo _=> ?_))
  cases o with
  |inr _=>trivial
  |inl _=>
    refine zC (tW (λs:Int×Int=>s.2) l.j_.length (λ_=>True) (by omega) ⟨trivial,by simp⟩ (λs _ h0 h1=>tY (dT h1) (tY (a0C h0 h1) (tR ⟨trivial,w64 (n:=s.2+1) (by omega) (by omega)⟩))) (λs _ e=>zE e trivial)) (λ_ _=> ?_);refine zC (tW (λs:Int×Int=>s.2) l.g_.length (λ_=>True) (by omega) ⟨trivial,by simp⟩ (λs _ h0 h1=>tY (dT h1) (tY (a0C h0 h1) (tY (a0C h0 h1) (tR ⟨trivial,w64 (n:=s.2+1) (by omega) (by omega)⟩)))) (λs _ e=>zE e trivial)) (λ_ _=> ?_);exact zC (tW (λs:Int×Int=>s.2) l.c_.length (λ_=>True) (by omega) ⟨trivial,by simp⟩ (λs _ h0 h1=>tY (dT h1) (tY (a0C h0 h1) (tR ⟨trivial,w64 (n:=s.2+1) (by omega) (by omega)⟩))) (λs _ e=>zE e trivial)) (λ_ _=>tR trivial)
theorem B0s {l:c0x} (h:l.l_=[]):j0f l=qA (1,0,8):=by
  rw[x0h,show c0G ⟨l⟩=qA (0,oA)from by unfold c0G;rw[h];rfl];rfl
theorem k0X {l:c0x} (h:Ok l) {t:Tx} (ht:t∈e0s l):t.length<=400:=h.p.2.1 t ((v0E _ _).2 ht)
theorem z0S {l:c0x} (h:Ok l):G0T l:=by
  refine⟨⟨?_, ?_, ?_, ?_⟩,h.m.r.1,⟨h.m.c.1,λc hc=> ?_⟩,h.m.k.1,λc hc=> ?_⟩;have:=k0X h (t:=l.b_.f_) (by simp[e0s]);omega;have:=k0X h (t:=l.b_.e_) (by simp[e0s]);omega;have:=k0X h (t:=l.b_.h_) (by simp[e0s]);omega;have:=k0X h (t:=l.b_.i_) (by simp[e0s]);omega;have:=k0X h (t:=c.x_) (by simp only[e0s,aG,aw,bl];exact .inr (.inr (.inr (.inr (.inr (.inr (.inl ⟨c,hc,by simp⟩)))))));omega;have:=k0X h (t:=c.y_) (by simp only[e0s,aG,aw,aN];exact .inr (.inr (.inr (.inr (.inr (.inr (.inr ⟨c,hc,rfl⟩)))))));omega
theorem J0g {l:c0x} (h:Ok l):Tot (m0C l) (λr=>r.L_=l):=
  J0H (z0S h).1 h.m.r.1 h.m.c.1 (λc hc=>k0X h (by simp only[e0s,aG,aw,bl];exact .inr (.inr (.inr (.inr (.inr (.inr (.inl ⟨c,hc,by simp⟩)))))))) h.m.k.1 (λc hc=>by
    have:=k0X h (t:=c.y_) (by simp only[e0s,aG,aw,aN];exact .inr (.inr (.inr (.inr (.inr (.inr (.inr ⟨c,hc,rfl⟩)))))))
    omega)
theorem s0p {c:List Nat} (hc:a0A c)(hl:c.length<=170000)(h:(u0y c).2≠0): ∃z,e0D (up c)=qA (z,0,0,(u0y c).2):=by
  unfold e0D;rw[u0x hc hl,ab,dT h];exact⟨_,rfl⟩
theorem H0L {c:List Nat} (hc:a0A c)(hl:c.length<=170000):Tot (e0D (up c)) (λr=>r.2.2.2=0->Ok r.1.L_/\c=d0m (c0F r.1.L_)/\r.1.L_.l_≠ []):=by
  by_cases h:(u0y c).2=0;have he:=v0V h
  have ho:Ok (u0y c).1:=by
    rcases s0C (s0E hc hl)with ho|hb;exact ho;rw[hb]at he;exact absurd (bA he).2 (by decide)
  rw[v0S ho]at he;unfold e0D;rw[u0x hc hl,ab,dF (not_not_intro h),vC];obtain⟨y,hy⟩:=G0y (z0S ho);rw[hy,ab];refine tI (λe=>tR (λe2=>absurd e2 (dTT e))) (λe=>tB (J0g ho) (λr hr=>tR (λ_=> ?_)));show Ok r.L_/\c=d0m (c0F r.L_)/\r.L_.l_≠ [];rw[hr];refine⟨ho,(bA he).1.symm,λht=> ?_⟩;have e:=dFF e;rw[B0s ht]at hy;cases hy;exact e (by decide);obtain⟨z,hz⟩:=s0p hc hl h;rw[hz];exact tR (λe=>absurd e h)
end Go.Proofs.YtenbbnahajjhnaaGreatDoor
