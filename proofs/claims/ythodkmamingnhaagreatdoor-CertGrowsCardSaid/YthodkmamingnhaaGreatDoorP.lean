import Derived.Test.YthodkmamingnhaaGreatDoorGe
set_option linter.all false
namespace Go.Proofs.YthodkmamingnhaaGreatDoor
open Go Go.Sy Go.RowKit Go.ChangeShapes Go.WideShapes Go.ChangeAt
set_option maxRecDepth 100000
set_option maxHeartbeats 4000000
/-! What always answers. -/
theorem x0P {S O:Type} {step:S->Option (S⊕O)} (I:S->Prop)(μ:S->Nat)(post:O->Prop) {s0:S} (h0:I s0)(hb:μ s0<18446744073709551616)
    (hs: ∀s,I s->(∃s',step s=some (.inl s')/\I s'/\μ s'<μ s)\/ ∃o,step s=some (.inr o)/\post o): ∃o,a0x step big s0=some o/\post o:=by
  have key: ∀m s,I s->μ s<m-> ∃o,a0x step m s=some o/\post o:=by
    intro m
    induction m with
    |zero=>intro s _ h;omega
    |succ m ih=>
      intro s hi hm
      rcases hs s hi with⟨s',h1,h2,h3⟩|⟨o,h1,h2⟩
      rw[f0N h1];exact ih s' h2 (by omega)
      exact⟨o,h0N h1,h2⟩
  exact key big s0 h0 hb
def Tot {α:Type} (x:Option α)(p:α->Prop):Prop:= ∃o,x=some o/\p o
theorem tR {α:Type} {a:α} {p:α->Prop} (h:p a):Tot (some a) p:=⟨a,rfl,h⟩
theorem tB {α β:Type} {x:Option α} {k:α->Option β} {p:α->Prop} {q:β->Prop} (h:Tot x p)(hk: ∀o,p o->Tot (k o) q):Tot (Option.bind x k) q:=by
  obtain⟨o,rfl,h⟩:=h;exact hk o h
theorem zC {α β:Type} {x:Option α} {k:α->Option β} {q:β->Prop} (h:Tot x (λ_=>True))(g:∀ o,True->Tot (k o) q):Tot (Option.bind x k) q:=tB h g
theorem tI {α:Type} {b:Bool} {t e:Option α} {p:α->Prop} (ht:b=true->Tot t p)(he:b=false->Tot e p):Tot (bif b then t else e) p:=by
  cases b with
  |true=>exact ht rfl
  |false=>exact he rfl
theorem zI {α:Type} {b:Bool} {t e:Option α} {p:α->Prop} (h:Tot t p)(g:Tot e p):Tot (bif b then t else e) p:=tI (λ_=>h) (λ_=>g)
theorem zB {α β:Type} {x:Option α} {k:α->Option β} {q:β->Prop} (h:Tot x (λ_=>True))(g:∀ o,Tot (k o) q):Tot (Option.bind x k) q:=tB h (λo _=>g o)
theorem tY {α:Type} {b:Bool} {t e:Option α} {p:α->Prop} (h:b=true)(ht:Tot t p):Tot (bif b then t else e) p:=by subst h;exact ht
theorem tN {α:Type} {b:Bool} {t e:Option α} {p:α->Prop} (h:b=false)(he:Tot e p):Tot (bif b then t else e) p:=by subst h;exact he
theorem zE {α:Type} {x y:Int} {t:Option α} {o:α} {p:α->Prop} (e:x=y)(h:p o):Tot (bif decide (x<y) then t else some o) p:=tN (dF (by omega)) (tR h)
theorem Tot.mono {α:Type} {x:Option α} {p q:α->Prop} (h:Tot x p)(hq: ∀o,p o->q o):Tot x q:=by obtain⟨o,h1,h2⟩:=h;exact⟨o,h1,hq o h2⟩
def C0k {S X:Type} (k:S->Option X)(p:X->Prop):S⊕X->Prop
  | .inl s=>Tot (k s) p
  | .inr r=>p r
theorem tJ {S X:Type} {x:Option (S⊕X)} {k:S->Option X} {p:X->Prop} (h:Tot x (C0k k p)):Tot (Option.bind x (a0m k)) p:=by
  obtain⟨o,rfl,h⟩:=h
  cases o with
  |inl s=>exact h
  |inr r=>exact⟨r,rfl,h⟩
theorem tL {S O:Type} {step:S->Option (S⊕O)} (I:S->Prop)(μ:S->Nat) {post:O->Prop} {s0:S} (h0:I s0)(hb:μ s0<18446744073709551616)
    (hs: ∀s,I s->Tot (step s) (λx=>match x with| .inl s'=>I s'/\μ s'<μ s| .inr o=>post o)):Tot (a0x step big s0) post:=by
  refine x0P I μ post h0 hb (λs hi=> ?_)
  obtain⟨x,h1,h2⟩:=hs s hi
  cases x with
  |inl s'=>exact .inl ⟨s',h1,h2⟩
  |inr o=>exact .inr ⟨o,h1,h2⟩
theorem Tot.any {α:Type} {x:Option α} {p:α->Prop} (h:Tot x p):Tot x (λ_=>True):=h.mono (λ_ _=>trivial)
theorem dTT {p:Prop} [Decidable p](h:decide p=true):p:=of_decide_eq_true h
theorem dFF {p:Prop} [Decidable p](h:decide p=false): ¬p:=of_decide_eq_false h
theorem tM {α β γ:Type} {x:α⊕β} {f:α->Option γ} {g:β->Option γ} {p:γ->Prop} (hf: ∀a,x= .inl a->Tot (f a) p)(hg: ∀b,x= .inr b->Tot (g b) p):Tot (Sum.elim f g x) p:=by
  cases x with
  |inl a=>exact hf a rfl
  |inr b=>exact hg b rfl
def u0c {α β:Type} (p:α->Prop):α⊕β->Prop
  | .inl a=>p a
  | .inr _=>True
theorem tS {α β γ:Type} {x:Option (α⊕β)} {f:α->Option γ} {g:β->Option γ} {p:α->Prop} {q:γ->Prop} (h:Tot x (u0c p))(hf: ∀a,p a->Tot (f a) q)(hg: ∀b,Tot (g b) q):Tot (Option.bind x λy=>Sum.elim f g y) q:=by
  obtain⟨o,rfl,h⟩:=h
  cases o with
  |inl a=>exact hf a h
  |inr b=>exact hg b
theorem tW {S O:Type} {step:S->Option (S⊕O)} (ix:S->Int)(n:Nat)(I:S->Prop) {post:O->Prop} {s0:S} (hn:n<=4294967296)(h0:I s0/\0<=ix s0/\ix s0<=n)
    (hs: ∀s,I s->0<=ix s->ix s<n->Tot (step s) (λx=>match x with| .inl s'=>I s'/\ix s'=ix s+1| .inr o=>post o)) (he: ∀s,I s->ix s=n->Tot (step s) (λx=>match x with| .inl _=>False| .inr o=>post o)):Tot (a0x step big s0) post:=by
  refine tL (λs=>I s/\0<=ix s/\ix s<=n) (λs=>((n:Int)-ix s).toNat) h0 (by omega) (λs hi=> ?_)
  by_cases h:ix s=n
  refine Tot.mono (he s hi.1 h) (λo ho=> ?_)
  cases o with
  |inl _=>exact absurd ho id
  |inr _=>exact ho
  refine Tot.mono (hs s hi.1 hi.2.1 (by omega)) (λo ho=> ?_)
  cases o with
  |inl s'=>exact⟨⟨ho.1,by rw[ho.2];omega,by rw[ho.2];omega⟩,by rw[ho.2];omega⟩
  |inr _=>exact ho
def jp {S R E:Type} (p:S->Prop):S⊕(R⊕E)->Prop
  | .inl s=>p s
  | .inr (.inl _)=>False
  | .inr (.inr _)=>True
theorem tE {S R E:Type} {x:Option (S⊕(R⊕E))} {k:S->Option (R⊕E)} {p:S->Prop} {q:R->Prop} (h:Tot x (jp p))(hk: ∀s,p s->Tot (k s) (u0c q)):Tot (Option.bind x (a0m k)) (u0c q):=by
  obtain⟨o,rfl,h⟩:=h
  match o,h with
  | .inl s,h=>exact hk s h
  | .inr (.inr e),_=>exact⟨_,rfl,trivial⟩
/-! Patterns are read, or not: it answers. -/
def ra(l:List Int)(i:Int):Prop:=0<=i/\i<=(l.length:Int)
section
variable {l : List Int} (hl : l.length <= 100000) {b m p k d : Int}
include hl
theorem z0P {c on i:Int} (h:ra l i)(ho:0<=on/\on<=1):Tot (a0Q c on l i b m p k d) (λr=>r=true->i+on<l.length):=by
  obtain⟨h0,h1⟩:=h
  unfold a0Q
  rw[w64 (n:=i+on) (by omega) (by omega)]
  refine tB (p:=λr=>r=true->i+on<l.length) ?_ (λ_ h=>tR h)
  refine tI (λh=> ?_) (λ_=>tR (λh=>by cases h))
  exact tY (a0i (by omega) (dTT h)) (tR (λ_=>dTT h))
theorem w0z {c i:Int} (h:ra l i):Tot (a0u c l i b m p k d) (λr=>(r.1=true/\r.2=i+1/\i<l.length)\/(r.1=false/\r.2=i)):=by
  unfold a0u
  refine tB (z0P hl h (by omega)) (λy hy=> ?_)
  obtain⟨h0,h1⟩:=h
  cases y with
  |false=>exact tR (.inr ⟨rfl,rfl⟩)
  |true=>
    have:=hy rfl
    exact tR (.inl ⟨rfl,w64 (by omega) (by omega),by omega⟩)
theorem u0i {c i:Int} (h:ra l i):Tot (a0u c l i b m p k d) (λr=>ra l r.2/\i<=r.2):=by
  refine(w0z hl h).mono (λr hr=> ?_)
  obtain⟨h0,h1⟩:=h
  rcases hr with⟨_,e,e2⟩|⟨_,e⟩
  exact⟨⟨by omega,by omega⟩,by omega⟩
  exact⟨⟨by omega,by omega⟩,by omega⟩
theorem q0E {c i:Int} (h:ra l i):Tot (a0V c l i b m p k d) (λr=>ra l r.2/\i<=r.2):=by
  unfold a0V
  refine tB (p:=λs:Int×Int=>ra l s.2/\i<=s.2) (tL (λs:Int×Int=>ra l s.2/\i<=s.2) (λs=>((l.length:Int)-s.2).toNat) ⟨h,aG _⟩ (by have:=h.1;simp only;omega) (λs hs=> ?_)) (λ_ h=>tR h)
  refine tB (w0z hl hs.1) (λy hy=> ?_)
  obtain⟨⟨h0,h1⟩,h2⟩:=hs
  rcases hy with⟨e1,e2,e3⟩|⟨e1,e2⟩
  rw[e1,e2];exact tR ⟨⟨⟨by simp only;omega,by simp only;omega⟩,by simp only;omega⟩,by simp only;omega⟩
  rw[e1,e2];exact tR ⟨⟨h0,h1⟩,h2⟩
theorem v0z {w i:Int} (h:ra l i) {x8 x18 x9 x10 x11 x12 x13 x14 x15 x16 x17 x19 x20} :Tot (b0R w l i b m p k d x8 x9 x10 x11 x12 x13 x14 x15 x16 x17 x18 x19 x20) (u0c λr=>ra l r.1/\i<=r.1):=by
  unfold b0R
  refine tJ (tB (p:=λr:Bool×Int=>ra l r.2/\i<=r.2) (tI (λ_=>tR ⟨h,aG _⟩) (λ_=>tB (u0i hl h) (λy hy=>tR hy))) (λs hs=>tI (λ_=>tR hs) (λ_=>tR (show Tot _ _ from ?_))))
  refine tJ (tI (λ_=>tR trivial) (λhd=>tR (show Tot _ _ from ?_)))
  have:=dFF hd
  obtain⟨⟨h0,h1⟩,h2⟩:=hs
  have e:IntKind.wrap .i64 (s.2+1)=s.2+1:=w64 (by omega) (by omega)
  refine tY (a0i h0 (by omega)) (tR ?_)
  rw[e];exact⟨⟨by simp only;omega,by simp only;omega⟩,by simp only;omega⟩
theorem y0B {w i:Int} (h:ra l i) {x8 x9 x19 x10 x11 x12 x13 x14 x15 x16 x17 x18 x20 x21} :Tot (b0Q w l i b m p k d x8 x9 x10 x11 x12 x13 x14 x15 x16 x17 x18 x19 x20 x21) (u0c λr=>ra l r.1/\i<=r.1):=
  v0z (x8:=x9) (x9:=x10) (x10:=x11) (x11:=x12) (x12:=x13) (x13:=x14) (x14:=x15) (x15:=x16) (x16:=x17) (x17:=x18) (x18:=x19) (x19:=x20) (x20:=x21) hl h
theorem A0Y {w i:Int} (h:ra l i) {x8 x9 x10 x20 x11 x12 x13 x14 x15 x16 x17 x18 x19 x21 x22} :Tot (c0u w l i b m p k d x8 x9 x10 x11 x12 x13 x14 x15 x16 x17 x18 x19 x20 x21 x22) (u0c λr=>ra l r.1/\i<=r.1):=
  v0z (x8:=x10) (x9:=x11) (x10:=x12) (x11:=x13) (x12:=x14) (x13:=x15) (x14:=x16) (x15:=x17) (x16:=x18) (x17:=x19) (x18:=x20) (x19:=x21) (x20:=x22) hl h
theorem u0F {i:Int} (h:ra l i):Tot (b0Y l i b m p k d) (λr=>(r.1=true/\r.2=i+2/\i+1<l.length)\/(r.1=false/\r.2=i)):=by
  unfold b0Y
  refine tJ (tB (p:=λr=>r=false->i+1<l.length) (tB (z0P hl h (by omega)) (λy _=>tI (λ_=>tR (λh=>by cases h)) (λ_=>tB (z0P hl h (by omega)) (λz hz=>tR (λe=>hz (by simpa using e)))))) (λs hs=> ?_))
  obtain⟨h0,h1⟩:=h
  cases s with
  |true=>exact tR (.inr ⟨rfl,rfl⟩)
  |false=>
    have:=hs rfl
    exact tR (tR (.inl ⟨rfl,w64 (by omega) (by omega),this⟩))
theorem x0F {i:Int} {o:List a0c} (h:ra l i)(hi:i<l.length)(ho:(o.length:Int)<=i):Tot (b0l l i b m p k d o) (u0c λr=>ra l r.1/\i<r.1/\(r.2.length:Int)<=r.1):=by
  unfold b0l
  refine tB (u0F hl h) (λy hy=> ?_)
  obtain⟨h0,h1⟩:=h
  rcases hy with⟨e1,e2,e3⟩|⟨e1,e2⟩
  rw[e1,e2]
  exact tY rfl (tY (a0k (by simp;omega)) (tR ⟨⟨by simp only;omega,by simp only;omega⟩,by simp only;omega,by simp;omega⟩))
  rw[e1,e2,w64 (n:=i+1) (by omega) (by omega)]
  refine tJ (tL (λs:Int×List a0c=>ra l s.1/\i<s.1/\(s.2.length:Int)<=s.1) (λs=>((l.length:Int)-s.1).toNat) ⟨⟨by simp only;omega,by simp only;omega⟩,by simp only;omega,by simp only;omega⟩ (by simp only;omega) (λs hs=> ?_))
  refine tI (λhlt=> ?_) (λ_=>tR (tR trivial))
  have hlt:=dTT hlt
  refine tB (u0F hl hs.1) (λy hy=> ?_)
  obtain⟨⟨g0,g1⟩,g2,g3⟩:=hs
  rcases hy with⟨e1,e2,e3⟩|⟨e1,e2⟩
  rw[e1,e2]
  exact tY rfl (tY (a0k (by simp;omega)) (tR ⟨⟨⟨by simp only;omega,by simp only;omega⟩,by simp only;omega,by simp;omega⟩,by simp only;omega⟩))
  rw[e1,e2]
  refine tB (w0z hl ⟨g0,g1⟩) (λy hy=> ?_)
  rcases hy with⟨e1,e2,e3⟩|⟨e1,e2⟩
  rw[e1,e2]
  exact tR ⟨⟨by simp only;omega,by simp only;omega⟩,by simp only;omega,by simp only;omega⟩
  rw[e1,e2,w64 (n:=s.1+1) (by omega) (by omega)]
  exact tN rfl (tY (a0i g0 hlt) (tY (a0k (by simp;omega)) (tR ⟨⟨⟨by simp only;omega,by simp only;omega⟩,by simp only;omega,by simp;omega⟩,by simp only;omega⟩)))
omit hl in
theorem p0Z(x:Int):Tot (e0G x) (λ_=>True):=by
  unfold e0G
  refine tJ (zC ?_ (λs _=>tI (λ_=>tR trivial) (λ_=>tR (zC ?_ (λ_ _=>tR trivial)))))
  · repeat' (first|exact tR trivial|refine tI (λ_=> ?_) (λ_=> ?_))
  exact tI (λ_=>tR trivial) (λ_=>tR trivial)
theorem p0K {i:Int} (h:ra l i):Tot (a0L l i b m p k d) (u0c λr=>ra l r.2/\i<=r.2/\(r.1.length:Int)<=r.2):=by
  unfold a0L
  refine tJ (tL (λs:Int×List a0c=>ra l s.1/\i<=s.1/\(s.2.length:Int)<=s.1) (λs=>((l.length:Int)-s.1).toNat) ⟨h,aG _,by have:=h.1;simpa using this⟩ (by have:=h.1;simp only;omega) (λs hs=> ?_))
  refine tI (λhlt=> ?_) (λ_=>tR (tR hs))
  have hlt:=dTT hlt
  obtain⟨⟨g0,g1⟩,g2,g3⟩:=hs
  have e:IntKind.wrap .i64 (s.1+1)=s.1+1:=w64 (by omega) (by omega)
  rw[e]
  refine tY (a0i g0 hlt) ?_
  have step: ∀t:a0c,(ra l (s.1+1)/\i<=s.1+1/\((s.2++ [t]).length:Int)<=s.1+1)/\((l.length:Int)-(s.1+1)).toNat<((l.length:Int)-s.1).toNat:=λt=>⟨⟨⟨by omega,by omega⟩,by omega,by simp;omega⟩,by omega⟩
  have rm: ∀t:a0c,room (s.2.length+([t]:List a0c).length)=true:=λt=>a0k (by simp;omega)
  iterate 4 refine tI (λ_=>zC (tY (rm _) (tR trivial)) (λ_ _=>tR (step _))) (λ_=> ?_)
  refine tJ (tB (z0P hl ⟨g0,g1⟩ (by omega)) (λy hy=>tI (λ_=> ?_) (λ_=>tB (p0Z _) (λ_ _=>tI (λ_=>tR ⟨⟨g0,g1⟩,g2,g3⟩) (λ_=>tY (rm _) (tR (tR (step _))))))))
  exact tS (x0F hl ⟨g0,g1⟩ hlt g3) (λa ha=>tR ⟨⟨ha.1,by have:=ha.2.1;simp only;omega,ha.2.2⟩,by have:=ha.2.1;have:=ha.1.2;simp only;omega⟩) (λa=>tR trivial)
theorem v0u {w i:Int} (h:ra l i)(ho:0<=w/\w<=1) {x8 x9 x10 x11 x12 x13 x14 x15 x16 x17 x18 x19 x20 x21} :Tot (b0Z w l i b m p k d x8 x9 x10 x11 x12 x13 x14 x15 x16 x17 x18 x19 x20 x21) (λr=>r=true->i+w<l.length):=by
  unfold b0Z
  refine tB (p:=λr=>r=true->i+w<l.length) (tB (z0P hl h ho) (λy hy=> ?_)) (λ_ h=>tR h)
  refine tI (λe=>tR (λ_=>hy e)) (λ_=>tI (λ_=>tB (z0P hl h ho) (λy hy=>tR hy)) (λ_=>tR (λh=>by cases h)))
theorem w0B {w i:Int} (h:ra l i) {x8 x9 x10 x11 x12 x13 x14 x15 x16 x17 x18 x19 x20 x21} :Tot (c0a w l i b m p k d x8 x9 x10 x11 x12 x13 x14 x15 x16 x17 x18 x19 x20 x21) (λr=>r=true->i<l.length):=by
  unfold c0a
  refine tB (p:=λr=>r=true->i<l.length) ?_ (λ_ h=>tR h)
  refine tI (λ_=>tB (z0P hl h (by omega)) (λy hy=>tI (λe=>tB (v0u hl h (by omega)) (λz _=>tR (λ_=> ?_))) (λ_=>tR (λh=>by cases h)))) (λ_=>tR (λh=>by cases h))
  have:=hy e
  omega
theorem w0I {w v i:Int} (h:ra l i) {x9 x10 x11 x12 x13 x14 x15 x16 x17 x18 x19 x20 x21 x22} :Tot (b0c w v l i b m p k d x9 x10 x11 x12 x13 x14 x15 x16 x17 x18 x19 x20 x21 x22) (λ_=>True):=by
  unfold b0c
  refine tJ (zC (tI (λ_=>tR trivial) (λ_=>tB (w0B hl h) (λ_ _=>tR trivial))) (λ_ _=>tI (λ_=>tR trivial) (λ_=>tR (show Tot _ _ from ?_))))
  exact tJ (zC (tI (λ_=>tR trivial) (λ_=>tR trivial)) (λ_ _=>tI (λ_=>tR trivial) (λ_=>tR (tR trivial))))
theorem x0G {i:Int} (h:ra l i) {x7 x8 x9 x10 x11 x12 x13 x14 x15 x16 x17 x18 x19 x20} :Tot (b0m l i b m p k d x7 x8 x9 x10 x11 x12 x13 x14 x15 x16 x17 x18 x19 x20) (u0c λr=>ra l r.1/\i<=r.1):=by
  unfold b0m
  refine tJ (tL (λs:Int×Int×Int×Int×Int×Int=>ra l s.2.2.1/\i<=s.2.2.1) (λs=>((l.length:Int)-s.2.2.1).toNat) ⟨h,aG _⟩ (by have:=h.1;simp only;omega) (λs hs=> ?_))
  refine tJ (tB (p:=λr=>r=true->s.2.2.1<l.length) (tB (v0u hl hs.1 (by omega)) (λy hy=>tI (λe=>tR (λ_=>by have:=hy e;omega)) (λ_=>tB (w0B hl hs.1) (λy hy=>tR hy)))) (λr hr=>tI (λe=>tR (show Tot _ _ from ?_)) (λ_=>tR (tJ (tI (λ_=>tR trivial) (λ_=>tR (show Tot _ _ from tI (λ_=>tR hs) (λ_=>tI (λ_=>tR hs) (λ_=>tR hs)))))))))
  have hlt:=hr e
  refine tB (w0z hl hs.1) (λy hy=> ?_)
  obtain⟨⟨g0,g1⟩,g2⟩:=hs
  rcases hy with⟨e1,e2,e3⟩|⟨e1,e2⟩
  rw[e1,e2]
  exact tR ⟨⟨⟨by simp only;omega,by simp only;omega⟩,by simp only;omega⟩,by simp only;omega⟩
  rw[e1,e2]
  refine tB (p:=λt:Int×Int×Int=>t.1=s.2.2.1+1) (tB (w0z hl ⟨g0,g1⟩) (λz hz=> ?_)) (λt ht=> ?_)
  rcases hz with⟨e1,e2,e3⟩|⟨e1,e2⟩
  rw[e1,e2];exact tR rfl
  rw[e1,e2,w64 (n:=s.2.2.1+1) (by omega) (by omega)];exact tR rfl
  rw[ht]
  refine tB (w0I hl ⟨by omega,by omega⟩) (λy _=>tM (λa _=>tR ⟨⟨⟨by simp only;omega,by simp only;omega⟩,by simp only;omega⟩,by simp only;omega⟩) (λa _=>tR trivial))
theorem u0e {i:Int} (h:ra l i) {x7 x8 x9 x10 x11 x12 x13 x14 x15 x16 x17 x18 x19 x20} :Tot (a0W l i b m p k d x7 x8 x9 x10 x11 x12 x13 x14 x15 x16 x17 x18 x19 x20) (u0c λr=>ra l r.1/\i<=r.1):=by
  unfold a0W
  refine tB (u0i hl h) (λy hy=>tI (λ_=>tR hy) (λ_=>tB (q0E hl hy.1) (λz hz=>tB (q0E hl hz.1) (λw hw=>tI (λ_=>tR trivial) (λ_=>tR ⟨hw.1, ?_⟩)))))
  have:=hy.2;have:=hz.2;have:=hw.2
  simp only;omega
theorem x0L {i:Int} (h:ra l i) {x7 x8 x9 x10 x11 x12 x13 x14 x15 x16 x17 x18 x19 x20} :Tot (b0n l i b m p k d x7 x8 x9 x10 x11 x12 x13 x14 x15 x16 x17 x18 x19 x20) (u0c λr=>ra l r.1/\i<=r.1):=by
  unfold b0n
  refine tB (q0E hl h) (λy hy=> ?_)
  refine tE (p:=λs=>ra l s.1/\i<=s.1) (tI (λ_=>tB (q0E hl hy.1) (λz hz=>tR ⟨hz.1,bU hy.2 hz.2⟩)) (λ_=>tS (x0G hl hy.1) (λa ha=>tS (u0e hl ha.1) (λc hc=>tR ⟨hc.1,bU hy.2 (bU ha.2 hc.2)⟩) (λc=>tR trivial)) (λa=>tR trivial))) (λs hs=> ?_)
  refine tB (u0i hl hs.1) (λz hz=>tI (λ_=>tR ⟨hz.1,bU hs.2 hz.2⟩) (λ_=>tB (u0i hl hz.1) (λu hu=>tB (q0E hl hu.1) (λv hv=>tI (λ_=>tR trivial) (λ_=>tR ⟨hv.1,bU hs.2 (bU hz.2 (bU hu.2 hv.2))⟩)))))
theorem t0Y {q:List Int} {i:Int} (hq:q.length<=100000)(h:ra l i) {x8 x9 x10 x11 x12 x13 x14 x15 x16 x17 x18 x19 x20 x21 x22} :Tot (a0U q l i b m p k d x8 x9 x10 x11 x12 x13 x14 x15 x16 x17 x18 x19 x20 x21 x22) (u0c λr=>ra l r.1/\r.2.1.length<=l.length/\r.2.2.length<=l.length):=by
  unfold a0U
  refine tS (p0K hl h) (λa ha=>tJ (tW (λs:Int×Int=>s.1) q.length (λs=>ra l s.2) (by omega) ⟨ha.1,aG _,by simp⟩ (λs hs g0 g1=> ?_) (λs hs e=> ?_))) (λa=>tR trivial)
  rw[dT g1]
  refine tJ (tY (a0i g0 g1) (tB (u0i hl hs) (λy hy=>tI (λ_=>tR trivial) (λ_=>tR (tR ⟨hy.1,w64 (by omega) (by omega)⟩)))))
  rw[dF (show¬s.1<(q.length:Int) by omega)]
  refine tR (tS (p0K hl hs) (λc hc=>tR ⟨hc.1, ?_, ?_⟩) (λc=>tR trivial))
  have:=ha.2.2;have:=ha.1.2;simp only;omega
  have:=hc.2.2;have:=hc.1.2;simp only;omega
end
def h0I(x:a0j)(n:Nat):Prop:=x.c_.length<=n/\x.e_.length<=n/\x.A_.length<=n/\x.y_.length<=n
theorem y0Z(l:List Int)(a b:Int):(cut l a b).length<=l.length:=by unfold cut;simp;omega
theorem v0v {l:List Int} (hl:l.length<=100000) {i b m p k d:Int} (h:ra l i):Tot (b0b l i b m p k d) (u0c λr=>h0I r.1 l.length):=by
  unfold b0b
  refine tS (v0z hl h) (λy4 h4=> ?_) (λ_=>tR trivial)
  refine tS (p0K hl h4.1) (λy11 h11=> ?_) (λ_=>tR trivial)
  refine tE (p:=λs:Int×Int×Int=>ra l s.1) (tI (λ_=>tS (y0B hl h11.1) (λa ha=>tR ha.1) (λ_=>tR trivial)) (λ_=>tR h11.1)) (λs hs=> ?_)
  refine tS (x0L hl hs) (λy47 h47=> ?_) (λ_=>tR trivial)
  refine tY (q0T hs.1 h47.2 h47.1.2) ?_
  refine tS (y0B hl h47.1) (λy55 h55=> ?_) (λ_=>tR trivial)
  refine tS (p0K hl h55.1) (λy62 h62=> ?_) (λ_=>tR trivial)
  refine tE (p:=λs:Int×Int×Int=>ra l s.1) (tI (λ_=>tS (A0Y hl h62.1) (λa ha=>tR ha.1) (λ_=>tR trivial)) (λ_=>tR h62.1)) (λs2 hs2=> ?_)
  refine tE (p:=λs:Int×List a0c×List a0c×Bool=>ra l s.1/\s.2.1.length<=l.length/\s.2.2.1.length<=l.length) (tB (u0i hl hs2) (λy hy=>tI (λ_=>tS (t0Y hl (aI (y0Z ..) hl) hy.1) (λa ha=>tR ha) (λ_=>tR trivial)) (λ_=>tR ⟨hy.1,by simp,by simp⟩))) (λs3 hs3=> ?_)
  refine tE (p:=λ_=>True) (tI (λ_=>tR trivial) (λ_=>tR trivial)) (λ_ _=>tR ⟨?_, ?_,hs3.2.1,hs3.2.2⟩)
  have:=h11.2.2;have:=h11.1.2;simp only;omega
  have:=h62.2.2;have:=h62.1.2;simp only;omega
theorem A0S {l:List Int} (hl:l.length<=100000):Tot (l0n l) (λr=>h0I r.1 l.length):=by
  unfold l0n
  refine tB (show Tot g0a (λ_=>True)from tR trivial) (λ_ _=>tS (v0v hl ⟨aG _,by omega⟩) (λa ha=>zC (by unfold g0D;exact tR trivial) (λ_ _=>tR ha)) (λa=>zC (by unfold g0C;exact tR trivial) (λ_ _=>tR ?_)))
  exact⟨by simp,by simp,by simp,by simp⟩
/-! Bytes are read, patterns written: it answers. -/
theorem z0h(x:Int):Tot (l0c x) (λn=>0<=n/\n<=4):=by
  unfold l0c
  refine zC ?_ (λy _=> ?_)
  · unfold m0x
    refine zC ?_ (λ_ _=>tR trivial)
    repeat' (first|exact tR trivial|refine tI (λ_=> ?_) (λ_=> ?_))
  · repeat' (first|exact tR ⟨by omega,by omega⟩|refine tI (λ_=> ?_) (λ_=> ?_))
theorem z0Y {l:List Int} (h0:0<l.length)(hl:l.length<=100000):Tot (i0U l) (λr=>0<=r.2/\r.2<=l.length):=by
  unfold i0U
  have i0:inR 0 l.length=true:=a0i (aG _) (by omega)
  refine tY i0 (tB (p:=λn=>0<=n/\n<=4) ?_ (λy hy=> ?_))
  · unfold h0m
    repeat' (first|exact tR ⟨by omega,by omega⟩|refine tI (λ_=> ?_) (λ_=> ?_))
  refine tJ (tB (p:=λr=>r=false->1<=y/\y<=l.length) (tI (λ_=>tR (λh=>by cases h)) (λe=>tR (λh=> ?_))) (λr hr=>tI (λ_=>tR ⟨aG _,by simp only;omega⟩) (λe=>tR (show Tot _ _ from ?_))))
  have:=dFF e;have:=dFF h;omega
  obtain⟨y1,y2⟩:=hr e
  refine tY i0 (zC ?_ (λm _=> ?_))
  · unfold m0U
    repeat' (first|exact tR trivial|refine tI (λ_=> ?_) (λ_=> ?_))
  have hc:(cut l 1 y).length<=l.length:=y0Z ..
  refine tJ (tY (q0T (by omega) y1 y2) (tW (λs:Int×Int=>s.2) (cut l 1 y).length (λ_=>True) (by omega) ⟨trivial,aG _,by simp⟩ (λs _ g0 g1=> ?_) (λs _ e=> ?_)))
  refine tY (dT g1)<|tY (a0i g0 g1) (tI (λ_=>tR ⟨aG _,by simp only;omega⟩) (λ_=>tR ⟨trivial,w64 (by omega) (by omega)⟩))
  rw[dF (show¬s.2<((cut l 1 y).length:Int) by omega)]
  exact tR (tB (z0h _) (λz hz=>tI (λ_=>tR ⟨aG _,by simp only;omega⟩) (λ_=>tR ⟨by simp only;omega,y2⟩)))
theorem y0i {l:List Int} (hl:l.length<=100000):Tot (g0J l) (λr=>r.1.length<=l.length):=by
  unfold g0J
  refine tJ (tL (λs:Int×List Int=>ra l s.1/\(s.2.length:Int)<=s.1) (λs=>((l.length:Int)-s.1).toNat) ⟨⟨aG _,by simp only;omega⟩,by simp⟩ (by simp only;omega) (λs hs=> ?_))
  obtain⟨⟨g0,g1⟩,g2⟩:=hs
  refine tI (λhlt=> ?_) (λ_=>tR (tR (by simp only;omega)))
  have hlt:=dTT hlt
  have hc:((cut l s.1 (l.length:Int)).length:Int)=(l.length:Int)-s.1:=by unfold cut;simp;omega
  refine tY (q0T g0 g1 (by omega)) (tB (z0Y (by omega) (by omega)) (λy hy=>tI (λ_=>tR (show([]:List Int).length<=_ by simp)) (λhn=>tY (a0k (by simp;omega)) (tR ?_))))
  have hn:=dFF hn
  rw[w64 (n:=s.1+y.2) (by omega) (by omega)]
  exact⟨⟨⟨by simp only;omega,by simp only;omega⟩,by simp;omega⟩,by simp only;omega⟩
theorem v0x {t:List UInt8} (ht:t.length<=100000):Tot (h0L t) (λr=>h0I r.1 120):=by
  have z: ∀a c:Int,Tot (some ((⟨([]:List a0c),([]:List a0c),([]:List a0c),([]:List a0c),false,0,0,0,0,0,0,0,0,0,false,0,0⟩:a0j),a,c)) (λr:a0j×Int×Int=>h0I r.1 120):=λa c=>tR ⟨by simp,by simp,by simp,by simp⟩
  unfold h0L
  refine tB (y0i (by rw[h0T];exact ht)) (λy hy=>tI (λ_=>z _ _) (λ_=>tI (λ_=>z _ _) (λh=> ?_)))
  have h:=dFF h
  refine tB (A0S (by rw[h0T]at hy;omega)) (λq hq=>tI (λ_=>z _ _) (λ_=>tI (λ_=>z _ _) (λ_=>tR ?_)))
  obtain⟨q1,q2,q3,q4⟩:=hq
  exact⟨by simp only;omega,by simp only;omega,by simp only;omega,by simp only;omega⟩
theorem q0a(n:Int):Tot (g0B n) (λr=>0<=r/\r<=121):=by
  unfold g0B l0O C0G
  refine tR ?_
  split<;>split<;>omega
theorem l0l {o:List Int} {c n:Int} (ho:o.length<=100000):Tot (e0k o c n) (λr=>r.length<=o.length+121):=by
  unfold e0k
  refine tB (p:=λr:List Int=>r.length<=o.length+121) (tB (q0a n) (λy hy=>tL (λs:Int×List Int=>0<=s.1/\s.1<=y/\(s.2.length:Int)<=o.length+s.1) (λs=>(y-s.1).toNat) ⟨aG _,hy.1,by simp⟩ (by simp only;omega) (λs hs=> ?_))) (λ_ h=>tR h)
  refine tI (λhlt=>tY (a0k (by simp;omega)) (tR ?_)) (λ_=>tR (by simp only;omega))
  have hlt:=dTT hlt
  rw[w64 (n:=s.1+1) (by omega) (by omega)]
  exact⟨⟨by simp only;omega,by simp only;omega,by simp;omega⟩,by simp only;omega⟩
theorem w0i(p:a0j)(n:Int):Tot (g0Y p n) (λ_=>True):=by
  unfold g0Y
  refine tJ (zC (tI (λ_=>tR trivial) (λ_=>tR trivial)) (λ_ _=>tI (λ_=>tR trivial) (λ_=>tR (show Tot _ _ from zC ?_ (λ_ _=>tR trivial)))))
  refine tI (λ_=>tR trivial) (λ_=>tI (λh=>tY ?_ (tR trivial)) (λ_=>tR trivial))
  have:=dTT h
  unfold nz
  rw[dF (by omega)];rfl
theorem u0C {o:List Int} {p:a0j} (ho:o.length<=10000):Tot (h0K o p) (λr=>r.length<=o.length+500):=by
  unfold h0K
  refine tB (q0a _) (λy hy=>tB (q0a _) (λz hz=> ?_))
  rw[w64 (n:=y+z) (by omega) (by omega)]
  refine tB (p:=λr:List Int=>r.length<=o.length+500) (tL (λs:Int×List Int=>0<=s.1/\s.1<=y+z/\(s.2.length:Int)<=o.length+s.1+s.1) (λs=>(y+z-s.1).toNat) ⟨aG _,by simp only;omega,by simp⟩ (by simp only;omega) (λs hs=> ?_)) (λ_ h=>tR h)
  refine tI (λhlt=> ?_) (λ_=>tR (by simp only;omega))
  have hlt:=dTT hlt
  rw[w64 (n:=s.1+1) (by omega) (by omega)]
  refine tB (p:=λt:List Int=>(t.length:Int)<=s.2.length+2) (tB (p:=λt:List Int=>(t.length:Int)<=s.2.length+1) (zC (tI (λ_=>tB (w0i _ _) (λ_ _=>tR trivial)) (λ_=>tR trivial)) (λ_ _=>tI (λ_=>tY (a0k (by simp;omega)) (tR (by simp))) (λ_=>tR (by omega)))) (λt ht=>tI (λ_=>tY (a0k (by simp;omega)) (tR (by simp;omega))) (λ_=>tY (a0k (by simp;omega)) (tR (by simp;omega))))) (λt ht=>tR ?_)
  exact⟨⟨by simp only;omega,by simp only;omega,by simp only;omega⟩,by simp only;omega⟩
theorem p0P(p:a0j):Tot (g0K p) (λr=>r.length<=2000):=by
  unfold g0K
  refine tB (p:=λr:List Int=>r.length<=1000) (zC (tI (λ_=>tR trivial) (λ_=>tR trivial)) (λ_ _=>tI (λ_=> ?_) (λ_=> ?_))) (λr hr=>tB (p:=λr:List Int=>r.length<=2000) ?_ (λ_ h=>tR h))
  exact tB (l0l (by simp)) (λa ha=>tB (q0a _) (λ_ _=>tB (l0l (by simp at ha;omega)) (λc hc=>tR (by simp at ha;omega))))
  refine tB (u0C (by simp)) (λa ha=>tI (λ_=>tY (a0k (by simp at ha⊢;omega)) (tB (l0l (by simp at ha⊢;omega)) (λc hc=>tB (q0a _) (λ_ _=>tB (l0l (by simp at ha hc⊢;omega)) (λe he=>tR (by simp at ha hc he;omega)))))) (λ_=>tR (by simp at ha;omega)))
  refine tI (λ_=>tY (a0k (by simp;omega)) (tB (p:=λt:List Int=>t.length<=r.length+2) (tI (λ_=>tY (a0k (by simp;omega)) (tR (by simp))) (λ_=>tR (by simp))) (λt ht=>tB (l0l (by omega)) (λu hu=>tR (by omega))))) (λ_=>tR (by omega))
theorem s0E {o:List Int} {p:a0j} {w:Int} (ho:o.length<=100000):Tot (j0k o p w) (λr=>r.length<=o.length+2):=by
  unfold j0k
  exact tI (λ_=>tR (by omega)) (λ_=>tY (a0k (by simp;omega)) (tR (by simp)))
theorem o0w {E X:Type} [DecidableEq X] {f:E->Option (Unit⊕X)} {p:X->Prop} (hf: ∀e,f e=some (.inl ())\/ ∃x,f e=some (.inr x)/\p x): ∀ms:List E,(∀a∈ms,∀b∈ms,f a≠some (.inl ())->f b≠some (.inl ())->f a=f b)->Tot (j0s f ms) (λo=>match o with| .inl _=> ∀e∈ms,f e=some (.inl ())| .inr x=>p x/\ ∃e∈ms,f e=some (.inr x))
  | [],_=>tR (λe h=>by cases h)
  |e::ms,h=>by
    obtain⟨o,ho,hp⟩:=o0w hf ms (λa ha b hb=>h a (am _ ha) b (am _ hb))
    simp only[j0s,ho]
    rcases hf e with he|⟨x,he,hx⟩
    rw[he]
    cases o with
    |inl u=>
      refine tR (λa ha=> ?_)
      rcases aO.1 ha with rfl|ha
      exact he
      exact hp a ha
    |inr y=>exact tR ⟨hp.1,hp.2.imp λa ha=>⟨am _ ha.1,ha.2⟩⟩
    rw[he]
    cases o with
    |inl u=>exact tR ⟨hx,e,ar ..,he⟩
    |inr y=>
      obtain⟨a,ha,hy⟩:=hp.2
      have:=h e (ar ..) a (am _ ha) (by rw[he];simp) (by rw[hy];simp)
      rw[he,hy]at this
      obtain rfl:=Sum.inr.inj (au this)
      simp only[if_true]
      exact tR ⟨hx,e,ar ..,he⟩
theorem z0B(t:a0c):Tot (j0j t) (λr=>r.length<=2):=by
  unfold j0j
  refine tI (λ_=>tI (λ_=>tR (by simp)) (λ_=>tR (by simp))) (λ_=> ?_)
  refine tJ (Tot.mono (p:=λx=>match x with| .inl _=>True| .inr r=>(r:List Int).length<=2) ?_ (λx hx=> ?_))
  show Tot (Option.bind _ _) _
  refine tJ (Tot.mono (o0w (p:=λx:Unit⊕List Int=>match x with| .inl _=>False| .inr r=>r.length<=2) (λe=> ?_) _ (λa ha c hc h1 h2=> ?_)) (λx hx=> ?_))
  by_cases h:e.2=t.ae_
  rw[dT h];exact .inr ⟨_,rfl,by simp⟩
  rw[dF h];exact .inl rfl
  have f1:a.2=t.ae_:=by
    by_cases h:a.2=t.ae_
    exact h
    rw[dF h]at h1;exact absurd rfl h1
  have f2:c.2=t.ae_:=by
    by_cases h:c.2=t.ae_
    exact h
    rw[dF h]at h2;exact absurd rfl h2
  have:a=c:=by
    have key: ∀a∈([(45,1),(43,2),(37,3),(164,4)]:List (Int×Int)),∀c∈([(45,1),(43,2),(37,3),(164,4)]:List (Int×Int)),a.2=c.2->a=c:=by decide+kernel
    exact key a ha c hc (f1.trans f2.symm)
  rw[this]
  match x,hx with
  | .inl _,_=>exact tR trivial
  | .inr (.inr r),h=>exact h.1
  match x,hx with
  | .inl _,_=>exact tR (by simp)
  | .inr r,h=>exact h
theorem m0T {o:List Int} {q:List a0c} (ho:o.length<=50000)(hq:q.length<=1000):Tot (g0b o q) (λr=>r.length<=o.length+3001):=by
  unfold g0b
  refine tB (p:=λs:Bool×List Int=>s.2.length<=o.length+3000) (tW (λs:Bool×Int×List Int=>s.2.1) q.length (λs=>(s.2.2.length:Int)<=o.length+3*s.2.1) (by omega) ⟨by simp,aG _,by simp⟩ (λs hs g0 g1=> ?_) (λs hs e=> ?_)) (λs hs=>tB (p:=λr:List Int=>r.length<=o.length+3001) (tI (λ_=>tY (a0k (by simp;omega)) (tR (by simp;omega))) (λ_=>tR (by omega))) (λ_ h=>tR h))
  · rw[dT g1,w64 (n:=s.2.1+1) (by omega) (by omega)]
    refine tB (p:=λr:Bool×List Int=>(r.2.length:Int)<=s.2.2.length+3) (tY (a0i g0 g1) (zC (tI (λ_=>tR trivial) (λ_=>tR trivial)) (λu _=>zC ?_ (λv _=>tB (p:=λr:Bool×List Int=>(r.2.length:Int)<=s.2.2.length+1) (tI (λ_=>tY (a0k (by simp;omega)) (tR (by simp))) (λ_=>tR (by simp only;omega))) (λw hw=>tB (z0B _) (λz hz=>tY (a0k (by omega)) (tR (by simp;omega)))))))) (λr hr=>tR ⟨?_,rfl⟩)
    · repeat' (first|exact tR trivial|refine tI (λ_=> ?_) (λ_=> ?_)|exact tB (p0Z _) (λ_ _=>tR trivial))
    simp only;omega
  rw[dF (show¬s.2.1<(q.length:Int) by omega)]
  exact tR (by simp only;omega)
theorem t0w {p:a0j} (hp:h0I p 1000):Tot (g0W p) (λr=>r.length<=20000):=by
  unfold g0W
  obtain⟨p1,p2,p3,p4⟩:=hp
  refine tB (p0P p) (λn hn=>tB (s0E (by simp)) (λa ha=> ?_))
  simp only[bM]at ha
  refine tB (m0T (by omega) p1) (λb hb=>tB (s0E (by omega)) (λc hc=>tY (a0k (by omega)) ?_))
  refine tB (s0E (by simp;omega)) (λd hd=> ?_)
  simp only[ay]at hd
  refine tB (m0T (by omega) p2) (λe he=>tB (s0E (by omega)) (λf hf=>tB (p:=λr:List Int=>r.length<=20000) (tI (λ_=>tY (a0k (by simp;omega)) (tB (m0T (by simp;omega) p3) (λg hg=> ?_))) (λ_=>tR (by omega))) (λ_ h=>tR h)))
  simp only[ay,aS,bM]at hg
  exact tY (a0k (by omega)) (tB (m0T (by simp;omega) p4) (λi hi=>tR (by simp only[ay]at hi;omega)))
theorem w0y(r:Int):(Utf8.encode r).data.toList.length<=4:=by
  unfold Utf8.encode
  simp only
  repeat' (first|(split)|simp)
theorem q0d: ∀l:List Int,(l0j l).length<=4*l.length
  | []=>by simp[l0j]
  |x::l=>by
    have h1:=w0y x
    have h2:=q0d l
    have:l0j (x::l)=(Utf8.encode x).data.toList++l0j l:=rfl
    rw[this,ay,aS];omega
theorem x0f {x y:List a0c} (hx:x.length<=1000):Tot (f0V x y) (λ_=>True):=by
  unfold f0V
  refine tI (λ_=>tR trivial) (λh=>tJ (tW (λs:Int=>s) x.length (λ_=>True) (by omega) ⟨trivial,aG _,by simp⟩ (λs _ g0 g1=> ?_) (λs _ e=> ?_)))
  have h:=dFF h
  exact tY (dT g1)<|tY (a0i g0 g1) (tY (a0i g0 (by omega)) (tI (λ_=>tR trivial) (λ_=>tR ⟨trivial,w64 (by omega) (by omega)⟩)))
  rw[dF (show¬s<(x.length:Int) by omega)]
  exact tR (tR trivial)
theorem A0N {x y:a0j} (hx:h0I x 1000):Tot (l0p x y) (λ_=>True):=by
  unfold l0p g0X
  obtain⟨p1,p2,p3,p4⟩:=hx
  refine zC (show Tot (bif _ then _ else _) _ from ?_) (λ_ _=>tR trivial)
  refine tI (λ_=>tI (λ_=>tI (λ_=>tB (x0f p1) (λ_ _=>tI (λ_=>tB (x0f p2) (λ_ _=>tI (λ_=>tB (x0f p3) (λ_ _=>tI (λ_=>tB (x0f p4) (λ_ _=>tR trivial)) (λ_=>tR trivial))) (λ_=>tR trivial))) (λ_=>tR trivial))) (λ_=>tR trivial)) (λ_=>tR trivial)) (λ_=>tR trivial)
theorem z0t {p:a0j} (hp:h0I p 1000):Tot (j0m p) (λ_=>True):=by
  unfold j0m
  refine tB (p:=λt:List UInt8=>t.length<=100000) (by
    unfold m0Y
    refine tB (t0w hp) (λr hr=>tR ?_)
    have:=q0d r;omega) (λt ht=>tB (v0x ht) (λq _=>zC (tI (λ_=>tB (A0N hp) (λ_ _=>tR trivial)) (λ_=>tR trivial)) (λ_ _=>tR trivial)))
/-! What is read of rules, classes, signs and affixes: it answers. -/
theorem A0b {T:Type} {x y:List T} {k:Int->Option (Int⊕(Unit⊕Bool))} (hx:x.length<=4294967296)(hk: ∀s:Int,0<=s->s<x.length->x.length=y.length->Tot (k s) (λo=>o= .inl (IntKind.wrap .i64 (s+1))\/ ∃b,o= .inr (.inr b))):
    Tot (bif decide (¬(x.length:Int)=(y.length:Int))then some false else Option.bind (a0x (λs=>bif decide (s<(x.length:Int))then k s else some (.inr (.inl ()))) big 0) (a0m fun(_:Unit)=>some true)) (λ_=>True):=by
  refine tI (λ_=>tR trivial) (λh=>tJ (tW (λs:Int=>s) x.length (λ_=>True) hx ⟨trivial,aG _,by simp⟩ (λs _ g0 g1=>tY (dT g1) ?_) (λs _ e=>tN (dF (by omega)) (tR (tR trivial)))))
  have h:=dFF h
  refine(hk s g0 g1 (by omega)).mono (λo ho=> ?_)
  rcases ho with rfl|⟨b,rfl⟩
  exact⟨trivial,w64 (by omega) (by omega)⟩
  trivial
theorem B0B {x y:List Int} (hx:x.length<=4294967296):Tot (e0Q x y) (λ_=>True):=by
  unfold e0Q
  exact A0b hx (λs g0 g1 e=>tY (a0i g0 g1) (tY (a0i g0 (by omega)) (tI (λ_=>tR (.inr ⟨_,rfl⟩)) (λ_=>tR (.inl rfl)))))
theorem u0E(x:Int):Tot (e0i x) (λ_=>True):=by
  unfold e0i
  refine tJ (tW (λs:Int=>s) 20 (λ_=>True) (by decide) ⟨trivial,aG _,by decide⟩ (λs _ g0 g1=>tY (dT (by omega)) (tJ (tY (a0i g0 g1) (zC (tI (λ_=>tR trivial) (λ_=>tR trivial)) (λ_ _=>tI (λ_=>tR trivial) (λ_=>tR (show Tot _ _ from tR ⟨trivial,w64 (by omega) (by omega)⟩))))))) (λs _ e=>tN (dF (by omega)) (tR (tR trivial))))
theorem C0l(x:Int):Tot (m0x x) (λ_=>True):=by
  unfold m0x
  refine zC ?_ (λ_ _=>tR trivial)
  repeat' (first|exact tR trivial|refine tI (λ_=> ?_) (λ_=> ?_))
theorem u0S(x:Int):Tot (a0A x m0K) (λr=>r.2=m0K):=by
  rw[n0g (List.Perm.refl _)]
  exact tB (C0l x) (λ_ _=>tI (λ_=>tR rfl) (λ_=>tI (λ_=>tR rfl) (λ_=>tI (λ_=>tR rfl) (λ_=>tB (u0E x) (λ_ _=>tI (λ_=>tR rfl) (λ_=>tR rfl))))))
theorem C0Q(x:Int):Tot (i0r x) (λ_=>True):=by
  unfold i0r
  refine tB (p:=λy=>y=m0K) ⟨_,rfl,rfl⟩ (λy hy=> ?_)
  subst hy
  exact tB (u0S x) (λ_ _=>tR trivial)
theorem A0w {l:List Int} (hl:l.length<=4294967296):Tot (h0S l) (λ_=>True):=by
  unfold h0S
  refine tB (p:=λy=>y=m0K) ⟨_,rfl,rfl⟩ (λy hy=> ?_)
  subst hy
  refine tJ (tW (λs:Int×List (a0o×Int)=>s.1) l.length (λs=>s.2=m0K) hl ⟨rfl,aG _,by simp⟩ (λs hs g0 g1=>tY (dT g1) (tJ (tY (a0i g0 g1) (by
    rw[hs]
    exact tB (u0S _) (λy hy=>zC (by repeat' (first|exact tR trivial|refine tI (λ_=> ?_) (λ_=> ?_))) (λ_ _=>tI (λ_=>tR (show Tot _ _ from tR ⟨hy,w64 (by omega) (by omega)⟩)) (λ_=>tR trivial))))))) (λs _ e=>tN (dF (by omega)) (tR (tR trivial))))
theorem z0j {l:List Int} (hl:l.length<=4294967296):Tot (h0b l) (λ_=>True):=by
  unfold h0b
  refine tJ (tW (λs:Int×Int=>s.2) l.length (λ_=>True) hl ⟨trivial,aG _,by simp⟩ (λs _ g0 g1=>tY (dT g1) (tJ (tY (a0i g0 g1) ?_))) (λs _ e=>tN (dF (by omega)) (tR (tR trivial))))
  have e:IntKind.wrap .i64 (s.2+1)=s.2+1:=w64 (by omega) (by omega)
  have two: ∀b c:Bool,Tot (bif b then some c else some false) (λ_=>True):=λb c=>tI (λ_=>tR trivial) (λ_=>tR trivial)
  exact tB (two _ _) (λ_ _=>tI (λ_=>tR trivial) (λ_=>tB (two _ _) (λ_ _=>tI (λ_=>tR (show Tot _ _ from tR ⟨trivial,e⟩)) (λ_=>tB (two _ _) (λ_ _=>tI (λ_=>tR trivial) (λ_=>tI (λ_=>tR (show Tot _ _ from tR ⟨trivial,e⟩)) (λ_=>tR (show Tot _ _ from tR ⟨trivial,e⟩))))))))
theorem z0c(s:c0T)(x:Int):Tot (f0M s x) (λ_=>True):=by
  unfold f0M
  exact zC (tI (λ_=>tR trivial) (λ_=>tI (λ_=>tR trivial) (λ_=>tR trivial))) (λ_ _=>tR trivial)
theorem z0o {s:c0T} {l:List Int} (hl:l.length<=4294967296):Tot (j0W s l) (λ_=>True):=by
  unfold j0W
  refine tJ (tW (λs:Int=>s) l.length (λ_=>True) hl ⟨trivial,aG _,by simp⟩ (λi _ g0 g1=>tY (dT g1) (tJ (tY (a0i g0 g1) (tB (u0E _) (λ_ _=>zC (tI (λ_=>tR trivial) (λ_=>tB (z0c _ _) (λ_ _=>tR trivial))) (λ_ _=>tI (λ_=>tR trivial) (λ_=>tR (show Tot _ _ from tR ⟨trivial,w64 (by omega) (by omega)⟩)))))))) (λi _ e=>tN (dF (by omega)) (tR (show Tot _ _ from ?_))))
  exact zC (tB (A0w hl) (λ_ _=>tI (λ_=>tB (z0j hl) (λ_ _=>tR trivial)) (λ_=>tR trivial))) (λ_ _=>tR trivial)
theorem A0u {l:List Int} (hl:l.length<=4294967296):Tot (f0Y l) (λr=>r.length<=l.length):=by
  unfold f0Y
  refine tI (λh=> ?_) (λ_=>tY (a0k hl) (tR (ai _)))
  obtain rfl:=ao (ae h)
  exact⟨[],by show l0a (some []) (some [])=_;simp[l0a],by simp⟩
theorem t0q {l:List a0c} (hl:l.length<=4294967296):Tot (e0Y l) (λr=>r.length<=l.length):=by
  unfold e0Y
  refine tI (λh=> ?_) (λ_=>tY (a0k hl) (tR (ai _)))
  obtain rfl:=ao (ae h)
  exact⟨[],by show l0a (some []) (some [])=_;simp[l0a],by simp⟩
def w0P(a:f0B):Prop:=a.c_.length<=10000000/\a.e_.length<=10000000
theorem A0B {s:c0T} {a:f0B} (ha:w0P a):Tot (f0a s a) (λ_=>True):=by
  unfold f0a
  obtain⟨h1,h2⟩:=ha
  exact tB (A0u (by omega)) (λc hc=>tY (a0k (by omega)) (tB (z0o (by simp;omega)) (λ_ _=>tR trivial)))
theorem w0K {a c:f0B} (ha:w0P a):Tot (e0o a c) (λ_=>True):=by
  unfold e0o
  exact zC (tB (B0B (aI ha.1 (by decide))) (λ_ _=>tI (λ_=>tB (B0B (aI ha.2 (by decide))) (λ_ _=>tR trivial)) (λ_=>tR trivial))) (λ_ _=>tR trivial)
theorem p0z {l:List a0c} {k:Int} (hl:l.length<=4294967296):Tot (e0j l k) (λ_=>True):=by
  unfold e0j
  refine zC (tW (λs:Int×Int=>s.2) l.length (λ_=>True) hl ⟨trivial,aG _,by simp⟩ (λs _ g0 g1=>tY (dT g1) (zC (tY (a0i g0 g1) (tI (λ_=>tR trivial) (λ_=>tR trivial))) (λ_ _=>tR ⟨trivial,w64 (by omega) (by omega)⟩))) (λs _ e=>zE e trivial)) (λ_ _=>tR trivial)
theorem B0o {l put:List a0c} (hl:l.length<=1000)(hp:put.length<=1):Tot (d0m l put) (λr=>r.length<=1001):=by
  unfold d0m
  exact tB (t0q (by omega)) (λc hc=>tY (a0k (by omega)) (tR (by simp;omega)))
theorem x0o {T:Type} (l:List T)(i:Int)(x:T):(m0J l i x).length=l.length:=by simp[m0J]
theorem s0G {l:List a0c} (hl:l.length<=1000):Tot (e0Z l) (λr=>r.length<=1001):=by
  unfold e0Z
  refine tB (t0q (by omega)) (λc hc=>tB (p:=λr:List a0c=>r.length<=1001) (tW (λs:Int×List a0c=>s.1) c.length (λs=>s.2.length=c.length) (by omega) ⟨rfl,aG _,by simp⟩ (λs hs g0 g1=>tY (dT g1) ?_) (λs hs e=>tN (dF (by omega)) (tR (by simp only;omega)))) (λ_ h=>tR h))
  have hi:inR s.1 s.2.length=true:=a0i g0 (by omega)
  refine tB (p:=λr:List a0c=>r.length=c.length) (tY hi (tY hi (tI (λ_=>tY hi (tY hi (tR (by rw[x0o];exact hs)))) (λ_=>tR hs)))) (λr hr=>tR ⟨hr,w64 (by omega) (by omega)⟩)
theorem x0m {p:a0j} (hp:h0I p 1000)(s:Int):Tot (g0k p s) (λr=>r.1.length<=1001/\r.2.length<=1001):=by
  unfold g0k
  obtain⟨p1,p2,p3,p4⟩:=hp
  have c1:([]:List a0c).length<=1:=by simp
  have c2: ∀t:a0c,([t]:List a0c).length<=1:=λt=>by simp
  have two: ∀ {x y:List a0c} {a:List a0c},x.length<=1000->y.length<=1000->a.length<=1->Tot (Option.bind (d0m x a) λy0=>Option.bind (d0m y []) λy1=>some (y0,y1)) (λr=>r.1.length<=1001/\r.2.length<=1001):=λhx hy ha=>tB (B0o hx ha) (λa ha=>tB (B0o hy c1) (λc hc=>tR ⟨ha,hc⟩))
  refine tI (λ_=>tI (λ_=>two p3 p4 c1) (λ_=>two p1 p2 (c2 _))) (λ_=>tI (λ_=> ?_) (λ_=>two p1 p2 c1))
  refine tJ (zC (tI (λ_=>tB (p0z (by omega)) (λ_ _=>tB (p0z (by omega)) (λ_ _=>tR trivial))) (λ_=>tR trivial)) (λ_ _=>tI (λ_=>tB (s0G p3) (λa ha=>tB (s0G p4) (λc hc=>tR ⟨ha,hc⟩))) (λ_=>tR (two p1 p2 (c2 _)))))
theorem q0j {l:List a0c} {s:c0T} {cur:List Int} (hl:l.length<=1001)(hc:cur.length<=6100):Tot (e0p l s cur) (λr=>r.length<=10000000):=by
  unfold e0p
  refine tB (show Tot (e0n s cur) (λ_=>True)from tR trivial) (λ_ _=>tB (p:=λr:List Int=>r.length<=10000000) (tW (λs:Int×List Int=>s.1) l.length (λs=>(s.2.length:Int)<=6100*s.1) (by omega) ⟨by simp,aG _,by simp⟩ (λu hu g0 g1=>tY (dT g1) ?_) (λu hu e=>tN (dF (by omega)) (tR (by simp only;omega)))) (λ_ h=>tR h))
  have one: ∀x:Int,Tot (bif room (u.2.length+([x]:List Int).length)then some (u.2++ [x])else none) (λr:List Int=>(r.length:Int)<=u.2.length+6100):=λx=>tY (a0k (by simp;omega)) (tR (by simp<;>omega))
  refine tB (p:=λr:List Int=>(r.length:Int)<=u.2.length+6100) (tY (a0i g0 g1) (tI (λ_=>one _) (λ_=>tI (λ_=>one _) (λ_=>tI (λ_=>one _) (λ_=>tI (λ_=>one _) (λ_=>tI (λ_=>tY (a0k (by omega)) (tR (by simp;omega))) (λ_=>tY (a0k (by simp;omega)) (tR (by simp;omega))))))))) (λr hr=>tR ⟨?_,w64 (by omega) (by omega)⟩)
  rw[w64 (n:=u.1+1) (by omega) (by omega)]
  simp only;omega
theorem y0o {p:a0j} {s:c0T} {g:Int} {cur:List Int} (hp:h0I p 1000)(hc:cur.length<=6100):Tot (g0I p s g cur) w0P:=by
  unfold g0I
  exact tB (x0m hp g) (λa ha=>tB (q0j ha.1 hc) (λc hc1=>tB (q0j ha.2 hc) (λd hd=>tR ⟨hc1,hd⟩)))
/-! The check of a locale: it answers. -/
theorem p0d {a c:List a0c} {s m:Int} (ha:a.length<=1000)(hc:c.length<=1000):Tot (f0O a c s m) (λ_=>True):=by
  have one: ∀k:Int,Tot (c0q k a c) (λ_=>True):=λk=>by
    unfold c0q
    exact tB (p0z (by omega)) (λ_ _=>tB (p0z (by omega)) (λ_ _=>tR trivial))
  unfold f0O
  refine zC (tI (λ_=>tR trivial) (λ_=>tI (λ_=>tR trivial) (λ_=>tR trivial))) (λ_ _=>zC (tB (one _) (λ_ _=>tI (λ_=>tB (one _) (λ_ _=>tI (λ_=>tB (one _) (λ_ _=>tI (λ_=>tB (one _) (λ_ _=>tR trivial)) (λ_=>tR trivial))) (λ_=>tR trivial))) (λ_=>tR trivial))) (λ_ _=>tR trivial))
def D0t(a:u0t):Prop:=w0P a.g_/\w0P a.h_/\w0P a.n_
theorem t0s {s:c0T} {p:a0j} {cur:List Int} (hp:h0I p 1000)(hc:cur.length<=6100):Tot (f0P s p cur) D0t:=by
  unfold f0P
  exact tB (y0o hp hc) (λa ha=>tB (y0o hp hc) (λc hc1=>tB (y0o hp hc) (λd hd=>tR ⟨ha,hc1,hd⟩)))
theorem y0t {s:c0T} {p:a0j} {cur:List Int} (hp:h0I p 1000)(hc:cur.length<=6100):Tot (d0H s p cur) (λ_=>True):=by
  unfold d0H
  refine tB (t0s hp hc) (λa ha=>tJ (tL (λi:Int=>0<=i/\i<=3) (λi=>(3-i).toNat) (by omega) (by decide) (λi hi=> ?_)))
  have st: ∀ {a:f0B} (k:Int),w0P a->0<=k/\k<3/\i=k->IntKind.wrap .i64 (k+1)=k+1->Tot (Option.bind (f0a s a) λy1=>bif !y1 then some (.inr (.inr false))else some (.inl (IntKind.wrap .i64 (k+1)))) (λx:Int⊕(Unit⊕Bool)=>match x with| .inl s'=>(0<=s'/\s'<=3)/\(3-s').toNat<(3-i).toNat| .inr o=>True):=λ{a} k ha hk e=>tB (A0B ha) (λ_ _=>tI (λ_=>tR trivial) (λ_=>tR (by rw[e];simp only;omega)))
  have fin:Tot (Option.bind (Option.bind (e0o a.g_ a.h_) λy4=>bif !y4 then Option.bind (e0o a.h_ a.n_) λy5=>some (!y5)else some false) λs1=>some s1) (λ_=>True):=zC (tB (w0K ha.1) (λ_ _=>tI (λ_=>tB (w0K ha.2.1) (λ_ _=>tR trivial)) (λ_=>tR trivial))) (λ_ _=>tR trivial)
  refine Tot.mono (p:=λx:Int⊕(Unit⊕Bool)=>match x with| .inl s'=>(0<=s'/\s'<=3)/\(3-s').toNat<(3-i).toNat| .inr o=>True) ?_ (λx hx=> ?_)
  refine tI (λh=>tI (λh0=>st 0 ha.1 ⟨by omega,by omega,dTT h0⟩ (by decide)) (λh0=>tI (λh1=>st 1 ha.2.1 ⟨by omega,by omega,dTT h1⟩ (by decide)) (λh1=>tI (λh2=>st 2 ha.2.2 ⟨by omega,by omega,dTT h2⟩ (by decide)) (λh2=> ?_)))) (λ_=>tR trivial)
  have:=dTT h;have:=dFF h0;have:=dFF h1;have:=dFF h2;omega
  match x,hx with
  | .inl _,h=>exact h
  | .inr (.inl _),_=>exact fin
  | .inr (.inr _),_=>trivial
theorem z0b {l:List Int} {x:Int} (hl:l.length<=4294967296):Tot (a0Z l x) (λ_=>True):=by
  unfold a0Z h0n
  exact zC (tJ (tW (λs:Int=>s) l.length (λ_=>True) hl ⟨trivial,aG _,by simp⟩ (λi _ g0 g1=>tY (dT g1) (tY (a0i g0 g1) (tI (λ_=>tR trivial) (λ_=>tR ⟨trivial,w64 (by omega) (by omega)⟩)))) (λi _ e=>tN (dF (by omega)) (tR (tR trivial))))) (λ_ _=>tR trivial)
theorem w0e(s:c0T)(x:Int):Tot (e0P s x) (λ_=>True):=by
  unfold e0P
  refine zC ?_ (λ_ _=>zC (tI (λ_=>tR trivial) (λ_=>tB (z0c _ _) (λ_ _=>tR trivial))) (λ_ _=>tR trivial))
  unfold l0e
  exact tJ (zC (tI (λ_=>tR trivial) (λ_=>tR trivial)) (λ_ _=>tI (λ_=>tR trivial) (λ_=>tR (tR trivial))))
theorem x0I {s:c0T} {p:a0j} (hp:h0I p 1000):Tot (h0O s p) (λ_=>True):=by
  unfold h0O
  refine tI (λ_=>tR trivial) (λ_=>tB (C0Q _) (λ_ _=>tJ (zC (tI (λ_=>tI (λ_=>tR trivial) (λ_=>tB (w0e _ _) (λ_ _=>tR trivial))) (λ_=>tB (w0e _ _) (λ_ _=>tR trivial))) (λ_ _=>tI (λ_=>tR trivial) (λ_=>tR (show Tot _ _ from ?_))))))
  refine tJ (tB (t0s hp (by simp)) (λa ha=>tL (λi:Int=>0<=i/\i<=3) (λi=>(3-i).toNat) (by omega) (by decide) (λi hi=> ?_)))
  have st: ∀ {a:f0B},w0P a->Tot (Option.bind (a0Z a.c_ p.B_) λy4=>bif y4 then some true else Option.bind (a0Z a.e_ p.B_) λy5=>some y5) (λ_=>True):=λha=>tB (z0b (aI ha.1 (by decide))) (λ_ _=>tI (λ_=>tR trivial) (λ_=>tB (z0b (aI ha.2 (by decide))) (λ_ _=>tR trivial)))
  refine tI (λh=>tJ (Tot.mono (p:=λx:Int⊕(Int⊕(Unit⊕Bool))=>match x with| .inl s'=>s'=i| .inr (.inl _)=>False| .inr (.inr (.inl _))=>False| .inr (.inr (.inr _))=>True) ?_ (λx hx=> ?_))) (λ_=>tR (tR trivial))
  refine tI (λh0=>tB (st ha.1) (λ_ _=>tI (λ_=>tR trivial) (λ_=>tR (dTT h0).symm))) (λh0=>tI (λh1=>tB (st ha.2.1) (λ_ _=>tI (λ_=>tR trivial) (λ_=>tR (dTT h1).symm))) (λh1=>tI (λh2=>tB (st ha.2.2) (λ_ _=>tI (λ_=>tR trivial) (λ_=>tR (dTT h2).symm))) (λh2=> ?_)))
  have:=dTT h;have:=dFF h0;have:=dFF h1;have:=dFF h2;omega
  match x,hx with
  | .inl s',e=>
    have:=dTT h
    subst e
    refine tR ?_
    rw[w64 (n:=s'+1) (by omega) (by omega)]
    exact⟨by omega,by omega⟩
  | .inr (.inr (.inr _)),_=>trivial
theorem v0J {t:List UInt8} (ht:t.length<=100000):Tot (k0a t) (λr=>h0I r.1 1000):=by
  unfold k0a
  refine tB (v0x ht) (λy hy=> ?_)
  have hy:h0I y.1 1000:=⟨by have:=hy.1;omega,by have:=hy.2.1;omega,by have:=hy.2.2.1;omega,by have:=hy.2.2.2;omega⟩
  exact zC (tI (λ_=>tB (z0t hy) (λ_ _=>tR trivial)) (λ_=>tR trivial)) (λ_ _=>tR hy)
theorem B0c(p:a0j)(s:Int):Tot (g0c p s) (λ_=>True):=by
  unfold g0c
  repeat' (first|exact tR trivial|refine zI ?_ ?_|refine zB ?_ λ_=> ?_)
theorem B0m: ∀ {a c d e:List a0c},a=[]->c=[]->d=[]->e=[]->h0I (⟨a,c,d,e,false,0,0,0,0,0,0,0,0,0,false,0,0⟩:a0j) 1000:=by
  rintro _ _ _ _ rfl rfl rfl rfl;exact⟨by simp,by simp,by simp,by simp⟩
theorem i0d {s:c0T} {k:Int} {t:List UInt8} (ht:t.length<=100000):Tot (d0I s k t) (λr=>h0I r.1 1000):=by
  have z:=B0m rfl rfl rfl rfl
  unfold d0I
  refine tB (v0J ht) (λy hy=> ?_)
  obtain⟨h1,h2,h3,h4⟩:=id hy
  refine tJ (zC (tI (λ_=>tR trivial) (λ_=>tI (λ_=>tR trivial) (λ_=>tR trivial))) (λ_ _=>tI (λ_=>tR z) (λ_=>tR (show Tot _ _ from ?_))))
  refine tJ (zC (tB (B0c _ _) (λ_ _=>tI (λ_=>tR trivial) (λ_=>tB (p0d h1 h2) (λ_ _=>tI (λ_=>tR trivial) (λ_=>tI (λ_=>tB (p0d h3 h4) (λ_ _=>tR trivial)) (λ_=>tR trivial)))))) (λ_ _=>tI (λ_=>tR z) (λ_=>tR (show Tot _ _ from ?_))))
  exact tJ (zC (tB (y0t hy (by simp)) (λ_ _=>tI (λ_=>tR trivial) (λ_=>tB (x0I hy) (λ_ _=>tR trivial)))) (λ_ _=>tI (λ_=>tR z) (λ_=>tR (show Tot _ _ from tR hy))))
theorem B0h(c:Int):Tot (j0f c) (λ_=>True):=by
  unfold j0f
  refine zC (by unfold j0Y;exact tR trivial) (λ_ _=>tJ (tB (p:=λb=>b=false->0<=c/\c<6) (tI (λ_=>tR (λh=>by cases h)) (λh=>tR (λh2=> ?_))) (λb hb=>tI (λ_=>tR trivial) (λe=>tR (show Tot _ _ from ?_)))))
  have:=dFF h;have:=dFF h2;omega
  have:=hb e
  refine tI (λ_=>tR trivial) (λh0=>tI (λ_=>tR trivial) (λh1=>tI (λ_=>tR trivial) (λh2=>tI (λ_=>tR trivial) (λh3=>tI (λ_=>tR trivial) (λh4=>tI (λ_=>tR trivial) (λh5=> ?_))))))
  have:=dFF h0;have:=dFF h1;have:=dFF h2;have:=dFF h3;have:=dFF h4;have:=dFF h5;omega
theorem z0m {s:c0T} {c:l0b} (ht:c.Z_.length<=100000):Tot (h0P s c) (λr=>h0I r.1 1000):=by
  have z:=B0m rfl rfl rfl rfl
  unfold h0P
  refine tB (v0J ht) (λy hy=> ?_)
  obtain⟨h1,h2,h3,h4⟩:=id hy
  refine tJ (zC (tI (λ_=>tR trivial) (λ_=>tI (λ_=>tR trivial) (λ_=>tI (λ_=>tR trivial) (λ_=>tB (B0h _) (λ_ _=>tR trivial))))) (λ_ _=>tI (λ_=>tR z) (λ_=>tR (show Tot _ _ from ?_))))
  refine tJ (zC (tI (λ_=>tR trivial) (λ_=>tI (λ_=>tR trivial) (λ_=>tI (λ_=>tR trivial) (λ_=>tR trivial)))) (λ_ _=>tI (λ_=>tR z) (λ_=>tR (show Tot _ _ from tI (λ_=>tR z) (λ_=> ?_)))))
  exact tJ (zC (tB (p0d h1 h2) (λ_ _=>tI (λ_=>tR trivial) (λ_=>tB (y0t hy (by simp)) (λ_ _=>tR trivial)))) (λ_ _=>tI (λ_=>tR z) (λ_=>tR (show Tot _ _ from tR hy))))
theorem h0D {T:Type} [Inhabited T] {l:List T} {i:Int} (h0:0<=i)(h1:i<l.length):nth l i∈l:=by
  obtain⟨k,rfl⟩:=Int.eq_ofNat_of_zero_le h0
  rw[p0i (by omega)];exact bX _
/-! The certificate of a locale: it answers. -/
def inB(x:Int):Prop:=0<=x/\x<=20000000
theorem C0c {p:a0j} (hp:h0I p 1000):Tot (j0l p) inB:=by
  unfold j0l
  obtain⟨p1,p2,_⟩:=hp
  refine tB (p0P p) (λn hn=>tR ?_)
  rw[w64 (n:=(n.length:Int)+p.c_.length) (by omega) (by omega),w64 (by omega) (by omega)]
  exact⟨by omega,by omega⟩
theorem z0a {l:g0l} {k:Int} (hk:0<=k/\k<=4)(h:l.a_.g_.length<=100000/\l.a_.h_.length<=100000/\l.a_.n_.length<=100000/\l.a_.x_.length<=100000):Tot (e0X l k) (λr=>h0I r 1000):=by
  unfold e0X
  refine tB (p:=λs:Int=>0<=s/\s<=3) (tI (λ_=>tR (by omega)) (λe=>tR (by have:=dFF e;omega))) (λs hs=> ?_)
  refine tI (λ_=>tB (i0d h.1) (λ_ hr=>tR hr)) (λe0=>tI (λ_=>tB (i0d h.2.1) (λ_ hr=>tR hr)) (λe1=>tI (λ_=>tB (i0d h.2.2.1) (λ_ hr=>tR hr)) (λe2=>tI (λ_=>tB (i0d h.2.2.2) (λ_ hr=>tR hr)) (λe3=> ?_))))
  have:=dFF e0;have:=dFF e1;have:=dFF e2;have:=dFF e3;omega
theorem C0R {a b:Int} (ha:inB a)(hb:inB b):inB (l0O a b):=by unfold l0O;split<;>assumption
theorem w0M {p:a0j} {c:List Int} (hp:h0I p 1000)(hc:c.length<=6100) {x2 x3 x4 x5 x6 x7 x8 x9 x10 x11 x12 x13 x14 x15 x16 x17} (hx:inB x17):Tot (c0A p c x2 x3 x4 x5 x6 x7 x8 x9 x10 x11 x12 x13 x14 x15 x16 x17) inB:=by
  unfold c0A
  refine tW (λs:Int×Int=>s.1) 3 (λs=>inB s.2) (by omega) ⟨hx,by simp⟩ (λs hs h0 h1=>tY (dT h1) (tB (y0o hp hc) (λa ha=>tR ⟨C0R hs ?_, ?_⟩))) (λs hs e=>tN (dF (by omega)) (tR hs))
  obtain⟨a1,a2⟩:=ha
  rw[w64 (by omega) (by omega)]
  exact⟨by omega,by omega⟩
  exact w64 (n:=s.1+1) (by omega) (by omega)
theorem m0y(s:ByteArray): ∀(n i:Nat) (acc:Array Value),(Conv.runesFrom s n i acc).size<=acc.size+n
  |0,i,acc=>by simp[Conv.runesFrom]
  |n+1,i,acc=>by
    simp only[Conv.runesFrom]
    split
    have:=m0y s n (i+(Utf8.decode s i).2) (acc.push (.int .i32 (Int.ofNat (Utf8.decode s i).1)))
    simp at this
    simp only[Int.ofNat_eq_natCast]at this⊢
    omega
    omega
theorem v0d(t:List UInt8):(e0R t).length<=t.length:=by
  unfold e0R
  have:=m0y ⟨t.toArray⟩ t.length 0 #[]
  simp at this
  simpa using this
theorem C0u {l:g0l} {k:Int} (hk:0<=k/\k<=4)(h:l.a_.g_.length<=100000/\l.a_.h_.length<=100000/\l.a_.n_.length<=100000/\l.a_.x_.length<=100000)(hc:l.i_.length<=105)(hs: ∀c∈l.i_,c.l_.length<=6000)(hm:l.f_.length<=95)(ht: ∀c∈l.f_,c.Z_.length<=6000):Tot (h0c l k) inB:=by
  unfold h0c
  refine tB (z0a hk h) (λp hp=>tB (w0M hp (by simp) ⟨by decide,by decide⟩) (λa ha=>tB (p:=inB) ?_ (λ_ h=>tR h)))
  refine tI (λ_=> ?_) (λ_=>tI (λ_=> ?_) (λ_=>tR ha))
  refine tW (λs:Int×Int=>s.1) l.i_.length (λs=>inB s.2) (by omega) ⟨ha,by simp⟩ (λs hi h0 h1=>tY (dT h1) (tY (a0i h0 h1) (tB (w0M hp ?_ hi) (λ_ h=>tR ⟨h, ?_⟩)))) (λs hi e=>tN (dF (by omega)) (tR hi))
  have:=hs _ (h0D h0 h1);have:=v0d (nth l.i_ s.1).l_;omega
  exact w64 (n:=s.1+1) (by omega) (by omega)
  refine tW (λs:Int×Int=>s.1) l.f_.length (λs=>inB s.2) (by omega) ⟨ha,by simp⟩ (λs hi h0 h1=>tY (dT h1) (tY (a0i h0 h1) (tB (z0m ?_) (λq hq=>tB (w0M hq (by simp) hi) (λ_ h=>tR ⟨h, ?_⟩))))) (λs hi e=>tN (dF (by omega)) (tR hi))
  have:=ht _ (h0D h0 h1);omega
  exact w64 (n:=s.1+1) (by omega) (by omega)
theorem p0Q {l:g0l} {k:Int} (hk:0<=k/\k<=4)(h:l.a_.g_.length<=100000/\l.a_.h_.length<=100000/\l.a_.n_.length<=100000/\l.a_.x_.length<=100000):Tot (f0w l k) inB:=by
  unfold f0w
  refine tB (z0a hk h) (λp hp=> ?_)
  refine tJ (Tot.mono (p:=λx:Unit⊕Int=>match x with| .inl _=>True| .inr o=>inB o) (zC (tI (λ_=>tR trivial) (λ_=>tR trivial)) (λb _=>tI (λ_=>tR ⟨by decide,by decide⟩) (λ_=>tR trivial))) (λx hx=> ?_))
  cases x with
  |inl u=>exact tB (C0c hp) (λ_ h=>tR h)
  |inr u=>exact hx
theorem s0s {T:Type} [DecidableEq T] {x:List T} (h:x.length<=4294967296):(bif(Nat.beq x.length 0)then l0a (some ([]:List T)) (bif room x.length then(some x)else none)else(bif room x.length then(some x)else none))=some x:=by
  rw[a0k h]
  simp only[cond_true]
  cases x with
  |nil=>simp[l0a]
  |cons a r=>simp[Nat.beq]
def ofB(r:u0y):Prop:=(inB r.X_.g_/\inB r.X_.h_/\inB r.X_.n_/\inB r.X_.x_/\inB r.X_.a4_)/\inB r.W_.g_/\inB r.W_.h_/\inB r.W_.n_/\inB r.W_.x_/\inB r.W_.a4_
def stB(s:Int×Int×Int×Int×Int×Int×Int×Int×Int×Int):Prop:=(inB s.1/\inB s.2.1/\inB s.2.2.1/\inB s.2.2.2.1/\inB s.2.2.2.2.1)/\inB s.2.2.2.2.2.1/\inB s.2.2.2.2.2.2.1/\inB s.2.2.2.2.2.2.2.1/\inB s.2.2.2.2.2.2.2.2.1/\inB s.2.2.2.2.2.2.2.2.2
theorem C0q {l:g0l} (h:l.a_.g_.length<=100000/\l.a_.h_.length<=100000/\l.a_.n_.length<=100000/\l.a_.x_.length<=100000)(hr:l.T_.length<=8)(hc:l.i_.length<=105)(hs: ∀c∈l.i_,c.l_.length<=6000)(hm:l.f_.length<=95)(ht: ∀c∈l.f_,c.Z_.length<=6000):Tot (k0W l) ofB:=by
  unfold k0W l0L n0b l0M
  rw[s0s (by omega),s0s (by omega),s0s (by omega)]
  simp only[aq]
  have z:inB 0:=⟨by decide,by decide⟩
  refine tB (p:=stB) (tW (λs:Int×Int×Int×Int×Int×Int×Int×Int×Int×Int×Int=>s.1) 5 (λs=>stB s.2) (by omega) ⟨⟨⟨z,z,z,z,z⟩,z,z,z,z,z⟩,by simp⟩ (λs hi h0 h1=> ?_) (λs hi e=>tN (dF (by omega)) (tR hi))) (λ_ h=>tR h)
  have hk:0<=s.1/\s.1<=4:=⟨h0,by omega⟩
  obtain⟨⟨b0,b1,b2,b3,b4⟩,b5,b6,b7,b8,b9⟩:=hi
  refine tY (dT h1) (tB (C0u hk h hc hs hm ht) (λ_ a=> ?_))
  refine tI (λe=>tB (p0Q ⟨by omega,by omega⟩ h) (λ_ w=>tR ⟨⟨⟨a,b1,b2,b3,b4⟩,w,b6,b7,b8,b9⟩, ?_⟩)) (λe0=>tI (λe=>tB (p0Q ⟨by omega,by omega⟩ h) (λ_ w=>tR ⟨⟨⟨b0,a,b2,b3,b4⟩,b5,w,b7,b8,b9⟩, ?_⟩)) (λe1=>tI (λe=>tB (p0Q ⟨by omega,by omega⟩ h) (λ_ w=>tR ⟨⟨⟨b0,b1,a,b3,b4⟩,b5,b6,w,b8,b9⟩, ?_⟩)) (λe2=>tI (λe=>tB (p0Q ⟨by omega,by omega⟩ h) (λ_ w=>tR ⟨⟨⟨b0,b1,b2,a,b4⟩,b5,b6,b7,w,b9⟩, ?_⟩)) (λe3=>tI (λe=>tB (p0Q ⟨by omega,by omega⟩ h) (λ_ w=>tR ⟨⟨⟨b0,b1,b2,b3,a⟩,b5,b6,b7,b8,w⟩, ?_⟩)) (λe4=> ?_)))))
  have:=dTT e;show IntKind.wrap .i64 (0+1)=s.1+1;rw[this];decide
  have:=dTT e;show IntKind.wrap .i64 (1+1)=s.1+1;rw[this];decide
  have:=dTT e;show IntKind.wrap .i64 (2+1)=s.1+1;rw[this];decide
  have:=dTT e;show IntKind.wrap .i64 (3+1)=s.1+1;rw[this];decide
  have:=dTT e;show IntKind.wrap .i64 (4+1)=s.1+1;rw[this];decide
  have:=dFF e0;have:=dFF e1;have:=dFF e2;have:=dFF e3;have:=dFF e4;omega
theorem B0z {T S O:Type} [Inhabited T] [DecidableEq T] {xs ys:List T} (hlen:xs.length=ys.length)(hb:xs.length<=4611686018427387904)(ok bad:O) {step:Int->Option (Int⊕O)}
    (hs: ∀i:Nat,i<xs.length->step (i:Int)=some (if nth xs (i:Int)=nth ys (i:Int)then .inl ((i:Int)+1)else .inr bad)) (he:step (xs.length:Int)=some (.inr ok)):
    a0x step big 0=some (if xs=ys then ok else bad):=by
  obtain⟨o,h1,h2⟩:=t0Z (step:=step) xs.length (λi=>(i:Int)) (λi=> ∀j,j<i->nth xs (j:Int)=nth ys (j:Int)) (λo=>o=if xs=ys then ok else bad) rfl (λj hj=>by omega) (λi hi hI=>by
    rw[hs i hi]
    by_cases c:nth xs (i:Int)=nth ys (i:Int)
    left
    rw[if_pos c]
    refine⟨by simp,λj hj=> ?_⟩
    by_cases e:j=i
    subst e;exact c
    exact hI j (by omega)
    right
    rw[if_neg c]
    refine⟨bad,rfl, ?_⟩
    rw[if_neg (λe=>c (by rw[e]))]) (λhI=>⟨ok,he,by
    rw[if_pos]
    apply List.ext_getElem hlen
    intro i h1 h2
    have:=hI i h1
    rwa [p0i h1,p0i h2]at this⟩) (by omega)
  have h1':a0x step big 0=some o:=h1
  rw[h1',h2]
/-! Two patterns are compared. -/
theorem A0L {x y:List a0c} (hl:x.length<=4611686018427387904):f0V x y=some (decide (x=y)):=by
  unfold f0V
  by_cases h:x.length=y.length
  · rw[dF (by omega)]
    simp only[cond_false]
    rw[B0z (S:=Unit) h (by omega) (.inl ():Unit⊕Bool) (.inr false)]
    by_cases e:x=y
    rw[if_pos e,dT e];rfl
    rw[if_neg e,dF e];rfl
    · intro i hi
      rw[dT (by omega),s0a hi,s0a (by omega),w64 (by omega) (by omega)]
      simp only[cond_true]
      generalize nth x (i:Int)=a
      generalize nth y (i:Int)=b
      obtain⟨a1,a2⟩:=a
      obtain⟨b1,b2⟩:=b
      by_cases h1:a1=b1<;>by_cases h2:a2=b2<;>simp[h1,h2]
    rw[t0a];rfl
  rw[dT (by omega),dF (by rintro rfl;exact h rfl)];rfl
def C0S(a:a0j):Prop:=a.c_.length<=4611686018427387904/\a.e_.length<=4611686018427387904/\a.A_.length<=4611686018427387904/\a.y_.length<=4611686018427387904
/-! Parsers that always answer. -/
theorem q0O(x:Int):Tot (b0p x) (λ_=>True):=by
  unfold b0p
  refine zC ?_ (λ_ _=>tR trivial)
  repeat' (first|exact tR trivial|refine tI (λ_=> ?_) (λ_=> ?_))
theorem o0Q(x:Int):Tot (c0K x) (λn=>0<=n/\n<=4/\(b0p x=some true->1<=n)):=by
  unfold c0K
  obtain⟨b,hb,_⟩:=q0O x
  rw[hb]
  cases b with
  |false=>exact⟨0,rfl,by omega,by omega,λh=>by cases h⟩
  |true=>
    show Tot (bif _ then _ else _) _
    repeat' (first|exact tR ⟨by omega,by omega,λ_=>by omega⟩|refine tI (λ_=> ?_) (λ_=> ?_))
theorem w0H(x:Int):Tot (d0j x) (λl=>l.length<=4):=by
  unfold d0j
  refine tB (o0Q x) (λ_ _=> ?_)
  repeat' (first|exact tR (by simp)|refine tI (λ_=> ?_) (λ_=> ?_))
theorem o0O(x:Int):Tot (c0k x) (λl=>l.length<=4):=by
  unfold c0k
  exact tB (w0H x) (λo h=>tR (by simpa [c0S]using h))
theorem k0G(x:Int):Tot (c0c x) (λ_=>True):=by
  unfold c0c
  refine tJ (zC ?_ (λb _=> ?_))
  · repeat' (first|exact tR trivial|refine tI (λ_=> ?_) (λ_=> ?_))
  refine tI (λ_=>tR trivial) (λ_=>tR ?_)
  refine tJ (tL (λs=>0<=s/\s<=11) (λs=>(11-s).toNat) (by omega) (by omega) (λs hs=> ?_))
  refine tI (λh=> ?_) (λ_=>tR (tR trivial))
  have h:=dTT h
  refine tY (a0i (by omega) (by simpa using h)) (tI (λ_=>tR trivial) (λ_=>tR ?_))
  rw[w64 (by omega) (by omega)];omega
theorem s0J(x:Int):Tot (c0m x) (λ_=>True):=by
  unfold c0m
  repeat' (first|exact tR trivial|refine tI (λ_=> ?_) (λ_=> ?_))
def atV(l:List Int)(i:Int):Int:=if i<l.length then nth l i else-1
theorem h0t {l:List Int} {i:Int} (h:0<=i):a0K l i=some (atV l i):=by
  unfold a0K atV
  by_cases hi:i<l.length
  rw[dT hi,if_pos hi,a0i h hi];rfl
  rw[dF hi,if_neg hi];rfl
theorem m0Q {l:List Int} {i c:Int} (hc:atV l i=c)(h:c≠ -1):i<l.length:=by
  unfold atV at hc
  split at hc
  assumption
  exact absurd hc.symm h
theorem l0t {l:List Int} {i c:Int} (hl:l.length<=10000)(h:0<=i)(hi:i<=l.length)(hc:c≠ -1):Tot (b0v l i c) (λn=>0<=n/\i+n<=l.length):=by
  unfold b0v
  refine tB (p:=λn=>0<=n/\i+n<=l.length) ?_ (λ_ h=>tR h)
  refine tL (λs=>0<=s/\i+s<=l.length) (λs=>(l.length-i-s).toNat) (by omega) (by omega) (λs hs=> ?_)
  rw[w64 (n:=i+s) (by omega) (by omega),h0t (by omega)]
  show Tot (bif _ then _ else _) _
  refine tI (λhh=>tR ?_) (λ_=>tR hs)
  have:=m0Q (dTT hh) hc
  rw[w64 (by omega) (by omega)];omega
def t0X(p:a0j):Int×Int×Int×Int×Int×Int×Int×Int×Int×Bool:=(p.I_,p.z_,p.v_,p.o_,p.p_,p.w_,p.s_,p.u_,p.b_,p.U_)
theorem k0L {p:a0j} {l:List Int} {i w:Int} (hl:l.length<=10000)(h:0<=i)(hi:i<=l.length):Tot (b0s p l i w) (λo=>0<=o.2.1/\(o.2.2=true->o.2.1<=l.length)/\t0X o.1=t0X p):=by
  unfold b0s
  refine tJ (zC ?_ (λb _=> ?_))
  refine tI (λ_=>tR trivial) (λ_=> ?_)
  rw[h0t h];exact tR trivial
  refine tI (λ_=>tR ⟨h,λ_=>hi,rfl⟩) (λ_=>tR ?_)
  show Tot _ _
  rw[w64 (n:=i+1) (by omega) (by omega)]
  refine tI (λ_=>tR ⟨by simp only;omega,λh=>(by cases h),rfl⟩) (λhh=> ?_)
  have:=dFF hh
  refine tY (a0i (by omega) (by omega)) (tR ⟨?_,λ_=> ?_,rfl⟩)
  simp only;rw[w64 (by omega) (by omega)];omega
  simp only;rw[w64 (by omega) (by omega)];omega
theorem h0e {l:List Int} {i:Int} (hl:l.length<=10000)(h:0<=i)(hi:i<=l.length):Tot (a0w l i) (λo=>0<=o.2.1/\o.2.1<=l.length):=by
  unfold a0w
  refine tJ (tL (λs:Int×List a0c=>0<=s.1/\s.1<=(l.length:Int)/\(s.2.length:Int)<=s.1) (λs=>((l.length:Int)-s.1).toNat) ⟨h,hi,by simpa using h⟩ (by simp only;omega) (λs hs=> ?_))
  refine tI (λhh=> ?_) (λhh=>tR (tR ⟨hs.1,hs.2.1⟩))
  have hlt:=dTT hh
  refine tY (a0i hs.1 hlt) (tB (s0J _) (λy _=>tB (k0G _) (λy2 _=> ?_)))
  have e1:IntKind.wrap .i64 (s.1+1)=s.1+1:=w64 (by omega) (by omega)
  rw[e1]
  refine tI (λ_=>tY (a0k (by simp;omega)) (tR ⟨⟨by simp only;omega,by simp only;omega,by simp;omega⟩,by simp only;omega⟩)) (λ_=> ?_)
  refine tI (λ_=>tI (λ_=>tR ⟨hs.1,hs.2.1⟩) (λ_=>tY (a0k (by simp;omega)) (tR ⟨⟨by simp only;omega,by simp only;omega,by simp;omega⟩,by simp only;omega⟩))) (λ_=> ?_)
  rw[h0t (by omega)]
  show Tot (bif _ then _ else _) _
  refine tI (λhq=> ?_) (λhq=> ?_)
  have:=m0Q (dTT hq) (by omega)
  refine tY (a0k (by simp;omega)) (tR ?_)
  have e2:IntKind.wrap .i64 (s.1+2)=s.1+2:=w64 (by omega) (by omega)
  rw[e2]
  exact⟨⟨by simp only;omega,by simp only;omega,by simp;omega⟩,by simp only;omega⟩
  refine tB (p:=λo:Int×List a0c=>s.1+1<=o.1/\o.1<=(l.length:Int)/\(o.2.length:Int)<=o.1) ?_ (λo ho=> ?_)
  refine tL (λt:Int×List a0c=>s.1+1<=t.1/\t.1<=(l.length:Int)/\(t.2.length:Int)<=t.1) (λt=>((l.length:Int)-t.1).toNat) ⟨by simp only;omega,by simp only;omega,by simp only;omega⟩ (by simp only;omega) (λt ht=> ?_)
  have f1:IntKind.wrap .i64 (t.1+1)=t.1+1:=w64 (by omega) (by omega)
  rw[f1]
  refine tJ (tB (p:=λb=>b=true->t.1<l.length/\(nth l t.1=39->t.1+1<l.length)) ?_ (λb hb=> ?_))
  refine tI (λhh=> ?_) (λ_=>tR (λh=>by cases h))
  have h3:=dTT hh
  refine tY (a0i (by omega) h3) (tI (λhn=>tR (λ_=>⟨h3,λhe=>absurd he (dTT hn)⟩)) (λ_=> ?_))
  rw[h0t (by omega)]
  exact tR (λhb=>⟨h3,λ_=>m0Q (dTT hb) (by omega)⟩)
  cases b with
  |false=>exact tR ht
  |true=>
    obtain⟨g1,g2⟩:=hb rfl
    refine tR (show Tot _ _ from ?_)
    refine tY (a0i (by omega) g1) (tY (a0k (by simp;omega)) ?_)
    refine tB (p:=λv=>t.1<=v/\v<l.length) (tY (a0i (by omega) g1) (tI (λhh=>tR ⟨by omega,g2 (dTT hh)⟩) (λ_=>tR ⟨by omega,g1⟩))) (λv hv=>tR ?_)
    have f2:IntKind.wrap .i64 (v+1)=v+1:=w64 (by omega) (by omega)
    rw[f2]
    exact⟨⟨by simp only;omega,by simp only;omega,by simp;omega⟩,by simp only;omega⟩
  refine tI (λ_=>tR ⟨hs.1,hs.2.1⟩) (λhh=>tR ?_)
  have h3:=dFF hh
  have f1:IntKind.wrap .i64 (o.1+1)=o.1+1:=w64 (by omega) (by omega)
  rw[f1]
  exact⟨⟨by simp only;omega,by simp only;omega,by simp only;omega⟩,by simp only;omega⟩
theorem Tot.joinQ {A O:Type} {x:Option (A⊕O)} {k:A->Option O} {q:O->Prop} (h:Tot x (λy=>match y with| .inl _=>True| .inr r=>q r))(hk: ∀a,Tot (k a) q):Tot (Option.bind x (a0m k)) q:=by
  refine tJ (h.mono (λy hy=> ?_))
  cases y with
  |inl a=>exact hk a
  |inr r=>exact hy
/-! Patterns that are read: where the reader stands. -/
def stP {S O:Type} (I:S->Prop)(μ:S->Nat)(m:Nat)(q:O->Prop)(x:S⊕O):Prop:=match x with
  | .inl s'=>I s'/\μ s'<m
  | .inr o=>q o
theorem Tot.loopS {S O:Type} {step:S->Option (S⊕O)} (I:S->Prop)(μ:S->Nat) {q:O->Prop} {s0:S} (h0:I s0)(hb:μ s0<18446744073709551616)(hs: ∀s,I s->Tot (step s) (stP I μ (μ s) q)):Tot (a0x step big s0) q:=by
  refine tL I μ h0 hb (λs hi=>(hs s hi).mono (λx hx=> ?_))
  cases x<;>exact hx
theorem t0T {p:a0j} {l:List Int} {i:Int} (hl:l.length<=10000)(h:0<=i)(hi:i<=l.length):Tot (b0J p l i) (λo=>0<=o.2.1/\o.2.1<=l.length):=by
  unfold b0J
  refine Tot.loopS (λs:Int×Int×Int×Int×List Int=>0<=s.1/\s.1<=(l.length:Int)/\(s.2.2.2.2.length:Int)<=s.1) (λs=>((l.length:Int)-s.1).toNat) ⟨h,hi,by simpa using h⟩ (by simp only;omega) (λs hs=> ?_)
  obtain⟨s1,n,ha,mi,gr⟩:=s
  obtain⟨q1,q2,q3⟩:=hs
  simp only at q1 q2 q3⊢
  have e1:IntKind.wrap .i64 (s1+1)=s1+1:=w64 (by omega) (by omega)
  rw[e1,h0t q1,h0t (l:=l) (i:=s1+1) (by omega)]
  simp only[aq]
  have go: ∀ {c:Int} (a b d:Int) (g:List Int),atV l s1=c->c≠ -1->g.length<=gr.length+1->stP (λs:Int×Int×Int×Int×List Int=>0<=s.1/\s.1<=(l.length:Int)/\(s.2.2.2.2.length:Int)<=s.1) (λs=>((l.length:Int)-s.1).toNat) ((l.length:Int)-s1).toNat (λo:a0j×Int×Bool=>0<=o.2.1/\o.2.1<=l.length) (.inl (s1+1,a,b,d,g)):=λa b d g hc hn hg=>by
    have:=m0Q hc hn
    exact⟨⟨by simp only;omega,by simp only;omega,by simp only;omega⟩,by simp only;omega⟩
  refine Tot.joinQ (tB (p:=λb=>b=true->atV l s1=35) (tI (λe=>tR (λ_=>dTT e)) (λ_=>tR (λe=>by cases e))) (λb hb=>tI (λe=>tR (go _ _ _ _ (hb e) (by omega) (by simp))) (λ_=>tR trivial))) (λ_=> ?_)
  refine tI (λe=>tR (go _ _ _ _ (dTT e) (by omega) (by simp))) (λ_=> ?_)
  refine Tot.joinQ (tB (p:=λb=>b=true->atV l s1=44) ?_ (λb hb=>tI (λe=> ?_) (λ_=>tR trivial))) (λ_=> ?_)
  · refine tI (λe=> ?_) (λ_=>tR (λe=>by cases e))
    have e:=dTT e
    repeat' (first|exact tR (λ_=>e)|refine tI (λ_=> ?_) (λ_=> ?_))
  have hin:=m0Q (hb e) (by omega)
  refine Tot.joinQ (zC (tI (λe=> ?_) (λ_=>tR trivial)) (λb _=>tI (λ_=>tR ⟨q1,q2⟩) (λ_=>tR trivial))) (λ_=>tY (a0k (by simp;omega)) (tR (go _ _ _ _ (hb e) (by omega) (by simp))))
  have e:=dTT e
  exact tY (a0i (by omega) (by omega)) (tY (a0i (by omega) (by omega)) (tR trivial))
  refine zC (tI (λ_=>tR trivial) (λ_=>tR trivial)) (λa _=>zC (tI (λe=> ?_) (λ_=>tR trivial)) (λb _=>tR ⟨q1,q2⟩))
  have e:=dTT e
  exact tY (a0i (by omega) (by omega)) (tY (a0i (by omega) (by omega)) (tR trivial))
theorem o0t {p:a0j} {l:List Int} {i:Int} (hl:l.length<=10000)(h:0<=i)(hi:i<=l.length):Tot (b0K p l i) (λo=>0<=o.2.1/\o.2.1<=l.length):=by
  unfold b0K
  refine tB (l0t hl h hi (by omega)) (λn hn=> ?_)
  have e1:IntKind.wrap .i64 (i+n)=i+n:=w64 (by omega) (by omega)
  rw[e1]
  refine tJ (Tot.mono (p:=λx=>match x with
    | .inl s=>0<=s.1/\s.1<=l.length
    | .inr r=>0<=r.2.1/\r.2.1<=l.length) ?_ (λx hx=> ?_))
  refine tI (λhq=> ?_) (λhq=> ?_)
  refine tB (l0t hl (i:=i+n) (by omega) (by omega) (by omega)) (λm hm=>tR ?_)
  rw[w64 (n:=i+n+m) (by omega) (by omega)]
  exact⟨by simp only;omega,by simp only;omega⟩
  refine tB (t0T hl h hi) (λy hy=> ?_)
  obtain⟨y1,y2⟩:=hy
  refine tI (λ_=>tR ⟨y1,y2⟩) (λ_=> ?_)
  rw[h0t y1]
  show Tot (bif _ then _ else _) _
  refine tI (λhq=> ?_) (λ_=>tR ⟨y1,y2⟩)
  have hin:=m0Q (dTT hq) (by omega)
  have f1:IntKind.wrap .i64 (y.2.1+1)=y.2.1+1:=w64 (by omega) (by omega)
  rw[f1]
  refine tB (l0t hl (i:=y.2.1+1) (by omega) (by omega) (by omega)) (λa ha=> ?_)
  have f2:IntKind.wrap .i64 (y.2.1+1+a)=y.2.1+1+a:=w64 (by omega) (by omega)
  rw[f2]
  refine tB (l0t hl (i:=y.2.1+1+a) (by omega) (by omega) (by omega)) (λb hb=> ?_)
  have f3:IntKind.wrap .i64 (y.2.1+1+a+b)=y.2.1+1+a+b:=w64 (by omega) (by omega)
  rw[f3]
  exact tI (λ_=>tR ⟨by simp only;omega,by simp only;omega⟩) (λ_=>tR ⟨by simp only;omega,by simp only;omega⟩)
  cases x with
  |inr r=>exact hx
  |inl s=>
    obtain⟨s1,s2⟩:=hx
    show Tot (Option.bind _ _) _
    rw[h0t s1]
    show Tot (bif _ then _ else _) _
    refine tI (λ_=>tR ⟨s1,s2⟩) (λhq=> ?_)
    have hq:atV l s.1=69:=by have:=dFF hq;omega
    have hin:=m0Q hq (by omega)
    have f1:IntKind.wrap .i64 (s.1+1)=s.1+1:=w64 (by omega) (by omega)
    rw[f1,h0t (by omega)]
    refine tB (p:=λt:Int×Bool=>0<=t.1/\t.1<=(l.length:Int)) ?_ (λt ht=> ?_)
    show Tot (bif _ then _ else _) _
    refine tI (λhq=> ?_) (λ_=>tR ⟨by simp only;omega,by simp only;omega⟩)
    have:=m0Q (dTT hq) (by omega)
    rw[w64 (n:=s.1+1+1) (by omega) (by omega)]
    exact tR ⟨by simp only;omega,by simp only;omega⟩
    refine tB (l0t hl ht.1 ht.2 (by omega)) (λn hn=>tR ?_)
    rw[w64 (n:=t.1+n) (by omega) (by omega)]
    exact⟨by simp only;omega,by simp only;omega⟩
theorem q0X {l:List Int} (hl:l.length<=10000):Tot (b0h l) (λo=>o.2.2.2.2=true->0<=o.2.1/\o.2.2.1<=l.length/\0<=o.2.2.2.1/\o.2.2.2.1<=l.length):=by
  unfold b0h
  refine tB (k0L hl (by omega) (by omega)) (λa ha=>tI (λ_=>tR (λh=>by cases h)) (λh1=> ?_))
  have h1:a.2.2=true:=by simpa using h1
  refine tB (h0e hl ha.1 (ha.2.1 h1)) (λb hb=>tI (λ_=>tR (λh=>by cases h)) (λh2=> ?_))
  refine tB (k0L hl hb.1 hb.2) (λc hc=>tI (λ_=>tR (λh=>by cases h)) (λh3=> ?_))
  have h3:c.2.2=true:=by simpa using h3
  refine tB (o0t hl hc.1 (hc.2.1 h3)) (λd hd=>tI (λ_=>tR (λh=>by cases h)) (λh4=> ?_))
  refine tB (k0L hl hd.1 hd.2) (λe he=>tI (λ_=>tR (λh=>by cases h)) (λh5=> ?_))
  have h5:e.2.2=true:=by simpa using h5
  refine tB (h0e hl he.1 (he.2.1 h5)) (λf hf=>tI (λ_=>tR (λh=>by cases h)) (λh6=> ?_))
  exact tB (k0L hl hf.1 hf.2) (λg hg=>tR (λh7=>⟨hc.1,hd.2,hg.1,hg.2.1 h7⟩))
/-! Patterns that are read. -/
theorem w0O {l:List Int} {i:Int} (hl:l.length<=10000)(h:0<=i):Tot (a0w l i) (λ_=>True):=by
  by_cases hi:i<=l.length
  exact(h0e hl h hi).any
  unfold a0w
  refine tJ (tL (λs:Int×List a0c=>(l.length:Int)<s.1) (λ_=>0) (by simp only;omega) (by decide) (λs hs=> ?_))
  rw[dF (show¬s.1<(l.length:Int) by omega)]
  exact tR (tR trivial)
theorem t0F {p:a0j} {l:List Int} {i a b:Int} (hl:l.length<=10000)(h:0<=i)(hi:i<=l.length)(ha:0<=a)(hb:b<=l.length):
    Tot (a0Y p l i a b) (λo=>t0X o.1=t0X p):=by
  unfold a0Y
  refine tB (h0e hl h hi) (λc hc=>tI (λ_=>tR rfl) (λ_=> ?_))
  refine tJ (Tot.mono (p:=λx=>match x with| .inl s=>0<=s| .inr r=>t0X r.1=t0X p) ?_ (λx hx=> ?_))
  refine tL (λs:Int×Int=>0<=s.1/\s.1<=(l.length:Int)+s.2/\0<=s.2) (λs=>(b-s.2).toNat) ⟨hc.1,by simp only;omega,ha⟩ (by simp only;omega) (λs hs=> ?_)
  refine tI (λhh=> ?_) (λ_=>tR hs.1)
  have hh:=dTT hh
  rw[h0t hs.1]
  show Tot (bif _ then _ else _) _
  refine tY (a0i hs.2.2 (by omega)) (tI (λ_=>tR rfl) (λhq=>tR ?_))
  have e1:IntKind.wrap .i64 (s.1+1)=s.1+1:=w64 (by omega) (by omega)
  have e2:IntKind.wrap .i64 (s.2+1)=s.2+1:=w64 (by omega) (by omega)
  rw[e1,e2]
  exact⟨⟨by simp only;omega,by simp only;omega,by simp only;omega⟩,by simp only;omega⟩
  cases x with
  |inr r=>exact hx
  |inl s=>
    show Tot _ _
    exact tB (w0O hl hx) (λd hd=>tR rfl)
/-! Texts of patterns, read: there is an answer. -/
theorem u0R {b:List Int} {at' k n:Int} (hl:b.length<=100000)(h:0<=at')(ha:at'<=b.length)(hk:0<=k)(hk2:k<=3):Tot (b0C b at' k n) (λ_=>True):=by
  unfold b0C
  rw[w64 (n:=at'+k) (by omega) (by omega)]
  refine tI (λ_=>tR trivial) (λhh=> ?_)
  have hh:=dFF hh
  refine tJ (tL (λs:Int×Int=>1<=s.2/\s.2<=k+1) (λs=>(k+1-s.2).toNat) ⟨by simp only;omega,by simp only;omega⟩ (by simp only;omega) (λs hs=> ?_))
  refine tI (λhq=> ?_) (λ_=>tR (tR trivial))
  have hq:=dTT hq
  have e1:IntKind.wrap .i64 (at'+s.2)=at'+s.2:=w64 (by omega) (by omega)
  have e2:IntKind.wrap .i64 (s.2+1)=s.2+1:=w64 (by omega) (by omega)
  rw[e1,e2]
  refine tJ (tY (a0i (by omega) (by omega)) ?_)
  refine tJ (zC ?_ (λc _=> ?_))
  exact tI (λ_=>tR trivial) (λ_=>tR trivial)
  cases c with
  |true=>exact tR trivial
  |false=>exact tR (tR (tR ⟨⟨by simp only;omega,by simp only;omega⟩,by simp only;omega⟩))
theorem v0C {b:List Int} {at':Int} (hl:b.length<=100000)(h:0<=at')(ha:at'<b.length):Tot (d0P b at') (λn=>n<0\/b0p (IntKind.wrap .i32 n)=some true):=by
  unfold d0P
  refine tY (a0i h ha) ?_
  have ht: ∀k n,0<=k->k<=3->Tot (b0C b at' k n) (λ_=>True):=λk n h1 h2=>u0R hl h (by omega) h1 h2
  refine zC (tI (λ_=>tR trivial) (λ_=>tR trivial)) (λa _=> ?_)
  refine zC ?_ (λa _=>zC ?_ (λa _=>zC ?_ (λa _=> ?_)))
  refine zC (tI (λ_=>tR trivial) (λ_=>tR trivial)) (λ_ _=>tI (λ_=>tB (ht 1 _ (by omega) (by omega)) (λ_ _=>tR trivial)) (λ_=>tR trivial))
  refine zC (tI (λ_=>tR trivial) (λ_=>tR trivial)) (λ_ _=>tI (λ_=>tB (ht 2 _ (by omega) (by omega)) (λ_ _=>tR trivial)) (λ_=>tR trivial))
  refine zC (tI (λ_=>tR trivial) (λ_=>tR trivial)) (λ_ _=>tI (λ_=>tB (ht 3 _ (by omega) (by omega)) (λ_ _=>tR trivial)) (λ_=>tR trivial))
  obtain⟨v,hv,_⟩:=q0O (IntKind.wrap .i32 a.1)
  rw[hv]
  show Tot (Option.bind _ _) _
  refine tJ (tB (p:=λc=>c=false->v=true) (tI (λ_=>tR (λh=>by cases h)) (λ_=>tR (λh=>by simpa using h))) (λc hc=> ?_))
  cases c with
  |true=>exact tR (.inl (by decide))
  |false=>exact tR (tR (.inr (by rw[hv,hc rfl])))
theorem u0j {b:List Int} (hl:b.length<=100000):Tot (b0q b) (λ_=>True):=by
  unfold b0q
  refine tJ (tL (λs:Int×List Int=>0<=s.1/\s.1<=(b.length:Int)+4/\(s.2.length:Int)<=s.1) (λs=>((b.length:Int)+4-s.1).toNat) ⟨by simp only;omega,by simp only;omega,by simp⟩ (by simp only;omega) (λs hs=> ?_))
  refine tI (λhq=> ?_) (λ_=>tR (tR trivial))
  have hq:=dTT hq
  refine tB (v0C hl hs.1 hq) (λn hn=>tI (λ_=>tR trivial) (λhneg=> ?_))
  have hneg:=dFF hneg
  have his:=hn.resolve_left hneg
  refine tY (a0k (by simp;omega)) (tB (o0Q _) (λz hz=>tR ?_))
  have h1:=hz.2.2 his
  have e1:IntKind.wrap .i64 (s.1+z)=s.1+z:=w64 (by omega) (by omega)
  rw[e1]
  exact⟨⟨by simp only;omega,by simp only;omega,by simp;omega⟩,by simp only;omega⟩
theorem i0W {t:List UInt8} {n:Int} (ht:t.length<=1)(hn:n<=1000):Tot (b0g t n) (λl=>l.length<=1000):=by
  unfold b0g
  refine tB (p:=λl=>l.length<=1000) ?_ (λ_ h=>tR h)
  refine tL (λs:List UInt8×Int=>0<=s.2/\s.2<=1000/\(s.1.length:Int)<=s.2) (λs=>(1000-s.2).toNat) ⟨by simp only;omega,by simp only;omega,by simp⟩ (by simp only;omega) (λs hs=> ?_)
  refine tI (λhq=> ?_) (λ_=>tR (by simp only;omega))
  have hq:=dTT hq
  refine tY (a0k (by omega)) (tR ?_)
  have e1:IntKind.wrap .i64 (s.2+1)=s.2+1:=w64 (by omega) (by omega)
  rw[e1]
  exact⟨⟨by simp only;omega,by simp only;omega,by simp;omega⟩,by simp only;omega⟩
def C0r(p:a0j):Prop:=(0<=p.I_/\p.I_<=40)/\(0<=p.z_/\p.z_<=40)/\(0<=p.v_/\p.v_<=40)/\(0<=p.o_/\p.o_<=40)/\(0<=p.p_/\p.p_<=40)/\(0<=p.w_/\p.w_<=40)/\(0<=p.s_/\p.s_<=40)/\(0<=p.u_/\p.u_<=40)/\(0<=p.b_/\p.b_<=40)
theorem n0t {p:a0j} (hp:C0r p):Tot (c0n p) (λl=>l.length<=8000):=by
  obtain⟨c1,c2,c3,c4,c5,c6,c7,c8,c9⟩:=hp
  unfold c0n
  have e0:IntKind.wrap .i64 (p.I_+p.z_)=p.I_+p.z_:=w64 (by omega) (by omega)
  have e1:IntKind.wrap .i64 (p.u_-p.s_)=p.u_-p.s_:=w64 (by omega) (by omega)
  have e2:IntKind.wrap .i64 (p.o_-p.v_)=p.o_-p.v_:=w64 (by omega) (by omega)
  rw[e0,e1,e2]
  refine tB (p:=λl=>l.length<=200) ?_ (λa ha=> ?_)
  refine tL (λs:List UInt8×Int=>0<=s.2/\s.2<=80/\(s.1.length:Int)<=2*s.2) (λs=>(80-s.2).toNat) ⟨by simp only;omega,by simp only;omega,by simp⟩ (by simp only;omega) (λs hs=> ?_)
  refine tI (λhq=> ?_) (λ_=>tR (by simp only;omega))
  have hq:=dTT hq
  have f1:IntKind.wrap .i64 (s.2+1)=s.2+1:=w64 (by omega) (by omega)
  rw[f1]
  refine tB (p:=λl=>(l.length:Int)<=s.1.length+2) ?_ (λb hb=>tR ⟨⟨by simp only;omega,by simp only;omega,by simp only;omega⟩,by simp only;omega⟩)
  refine tB (p:=λl=>(l.length:Int)<=s.1.length+1) ?_ (λb hb=> ?_)
  refine zC ?_ (λg _=>tI (λ_=>tY (a0k (by simp;omega)) (tR (by simp))) (λ_=>tR (by omega)))
  refine tI (λ_=>tI (λ_=>tR trivial) (λ_=>tI (λ_=>tI (λhg=> ?_) (λ_=>tR trivial)) (λ_=>tR trivial))) (λ_=>tR trivial)
  have hg:=dTT hg
  exact tY (by unfold nz;rw[dF (by omega)];rfl) (tR trivial)
  exact tI (λ_=>tY (a0k (by simp;omega)) (tR (by simp;omega))) (λ_=>tY (a0k (by simp;omega)) (tR (by simp;omega)))
  refine tB (i0W (by simp) (by omega)) (λb hb=>tB (i0W (by simp) (by omega)) (λc hc=> ?_))
  refine tY (a0k (by omega)) (tY (a0k (by simp;omega)) ?_)
  refine tB (p:=λl=>l.length<=5000) ?_ (λd hd=> ?_)
  refine tI (λ_=>tY (a0k (by simp;omega)) (tB (i0W (by simp) (by omega)) (λe he=>tY (a0k (by simp;omega)) (tB (i0W (by simp) (by omega)) (λf hf=>tY (a0k (by simp;omega)) (tR (by simp;omega))))))) (λ_=>tR (by simp;omega))
  refine tB (p:=λl=>l.length<=8000) ?_ (λd hd=>tR hd)
  refine tI (λ_=>tY (a0k (by simp;omega)) (tB (p:=λl=>l.length<=5002) ?_ (λe he=>tB (i0W (by simp) (by omega)) (λf hf=>tY (a0k (by omega)) (tR (by simp;omega)))))) (λ_=>tR (by omega))
  exact tI (λ_=>tY (a0k (by simp;omega)) (tR (by simp;omega))) (λ_=>tR (by simp;omega))
theorem h0W {l:List a0c} (hl:l.length<=300):Tot (b0a l) (λt=>t.length<=3000):=by
  unfold b0a
  refine tB (p:=λs=>s.1.length<=2999) ?_ (λs hs=>tB (p:=λt=>t.length<=3000) (tI (λ_=>tY (a0k (by simp;omega)) (tR (by simp;omega))) (λ_=>tR (by omega))) (λ_ h=>tR h))
  refine tL (λs:List UInt8×Bool×Int=>0<=s.2.2/\s.2.2<=(l.length:Int)/\(s.1.length:Int)<=8*s.2.2) (λs=>((l.length:Int)-s.2.2).toNat) ⟨by simp only;omega,by simp only;omega,by simp⟩ (by simp only;omega) (λs hs=> ?_)
  refine tI (λhq=> ?_) (λ_=>tR (by simp only;omega))
  have hq:=dTT hq
  have hin:=a0i hs.1 hq
  have f1:IntKind.wrap .i64 (s.2.2+1)=s.2.2+1:=w64 (by omega) (by omega)
  rw[f1]
  refine tB (p:=λt=>(t.1.length:Int)<=s.1.length+8) ?_ (λt ht=>tR ⟨⟨by simp only;omega,by simp only;omega,by simp only;omega⟩,by simp only;omega⟩)
  refine tY hin (tB (k0G _) (λsp _=>zC ?_ (λap _=>zC ?_ (λqu _=>tB (p:=λt=>(t.1.length:Int)<=s.1.length+1) ?_ (λt ht=> ?_)))))
  exact tY hin (tI (λ_=>tY hin (tR trivial)) (λ_=>tR trivial))
  exact tY hin (tI (λ_=>tR trivial) (λ_=>tR trivial))
  exact zC (tI (λ_=>tR trivial) (λ_=>tR trivial)) (λ_ _=>tI (λ_=>tY (a0k (by simp;omega)) (tR (by simp))) (λ_=>tR (by simp only;omega)))
  have sgn: ∀c:UInt8,Tot (bif room (t.1.length+([c]:List UInt8).length)then(some ((t.1++([c]:List UInt8)),t.2))else none) (λu=>(u.1.length:Int)<=s.1.length+8):=λc=>tY (a0k (by simp;omega)) (tR (by simp;omega))
  refine tY hin (tI (λ_=>tY hin (tB (o0O _) (λx hx=>tY (a0k (by omega)) (tI (λ_=>tY (a0k (by simp;omega)) (tR (by simp;omega))) (λ_=>tR (by simp;omega)))))) (λ_=>tI (λ_=>sgn _) (λ_=>tI (λ_=>sgn _) (λ_=>tI (λ_=>sgn _) (λ_=>tI (λ_=> ?_) (λ_=>tR (by simp only;omega)))))))
  exact tB (o0O _) (λx hx=>tY (a0k (by omega)) (tR (by simp;omega)))
theorem j0Z(p:a0j)(w:Int):Tot (b0o p w) (λt=>t.length<=5):=by
  unfold b0o
  exact tI (λ_=>tB (o0O _) (λx hx=>tY (a0k (by simp;omega)) (tR (by simp;omega)))) (λ_=>tR (by simp))
theorem v0t {p:a0j} (hp:C0r p)(h1:p.c_.length<=300)(h2:p.e_.length<=300)(h3:p.A_.length<=300)(h4:p.y_.length<=300):Tot (d0x p) (λt=>t.length<=50000):=by
  unfold d0x
  refine tB (j0Z p 1) (λa ha=>tB (h0W h1) (λb hb=>tY (a0k (by omega)) ?_))
  refine tB (j0Z p 2) (λc hc=>tY (a0k (by simp;omega)) (tB (n0t hp) (λd hd=>tY (a0k (by simp;omega)) ?_)))
  refine tB (j0Z p 3) (λe he=>tY (a0k (by simp;omega)) (tB (h0W h2) (λf hf=>tY (a0k (by simp;omega)) ?_)))
  refine tB (j0Z p 4) (λg hg=>tY (a0k (by simp;omega)) ?_)
  refine tB (p:=λt=>t.length<=50000) ?_ (λ_ h=>tR h)
  refine tI (λ_=> ?_) (λ_=>tR (by simp;omega))
  refine tY (a0k (by simp;omega)) (tB (h0W h3) (λi hi=>tY (a0k (by simp;omega)) (tB (n0t hp) (λj hj=>tY (a0k (by simp;omega)) (tB (h0W h4) (λk hk=>tY (a0k (by simp;omega)) (tR (by simp;omega))))))))
theorem q0u {t:List UInt8} (ht:t.length<=100000):Tot (a0B t) (λ_=>True):=by
  unfold a0B
  refine tB (u0j (by rw[h0T];exact ht)) (λd _=>tI (λ_=>tR trivial) (λ_=>tI (λ_=>tR trivial) (λh1=> ?_)))
  have h1:=dFF h1
  have hl:d.1.length<=10000:=by omega
  refine tB (q0X hl) (λf hf=> ?_)
  refine zC ?_ (λs _=> ?_)
  refine tB (p:=λb=>b=true->f.2.2.2.2=true/\f.2.2.2.1<d.1.length) ?_ (λb hb=> ?_)
  refine tI (λhq=> ?_) (λ_=>tR (λh=>by cases h))
  rw[h0t (hf hq).2.2.1]
  exact tR (λh=>⟨hq,m0Q (dTT h) (by omega)⟩)
  refine tI (λhq=> ?_) (λ_=>tR trivial)
  obtain⟨g1,g2⟩:=hb hq
  have g:=hf g1
  have f1:IntKind.wrap .i64 (f.2.2.2.1+1)=f.2.2.2.1+1:=w64 (by omega) (by omega)
  rw[f1]
  exact tB (t0F hl (by omega) (by omega) g.1 g.2.1) (λo ho=>tR trivial)
  · refine Tot.joinQ (zC (tI (λ_=>tR trivial) (λ_=>tR trivial)) (λb _=>tI (λ_=>tR trivial) (λ_=>tR trivial))) (λ_=> ?_)
    refine Tot.joinQ (zC ?_ (λb _=>tI (λ_=>tR trivial) (λ_=>tR trivial))) (λ_=>tR trivial)
    repeat' (first|exact tR trivial|refine tI (λ_=> ?_) (λ_=> ?_))
theorem o0N {x y:List a0c} (hl:x.length<=4611686018427387904):c0l x y=some (decide (x=y)):=A0L hl
theorem x0u {a b:a0j} (hl:C0S a):d0y a b=some (decide (a=b)):=by
  obtain⟨l1,l2,l3,l4⟩:=hl
  unfold d0y
  rw[o0N l1,o0N l2,o0N l3,o0N l4]
  simp only[aq]
  obtain⟨p1,p2,p3,p4,p5,p6,p7,p8,p9,p10,p11,p12,p13,p14,p15,p16,p17⟩:=a
  obtain⟨q1,q2,q3,q4,q5,q6,q7,q8,q9,q10,q11,q12,q13,q14,q15,q16,q17⟩:=b
  simp only[a0j.mk.injEq]
  by_cases h1:p1=q1
  · by_cases h2:p2=q2
    · by_cases h3:p3=q3
      · by_cases h4:p4=q4
        · by_cases h16:p16=q16
          · by_cases h17:p17=q17
            · by_cases h6:p6=q6<;>by_cases h7:p7=q7<;>by_cases h10:p10=q10<;>by_cases h11:p11=q11<;>cases p5<;>cases q5<;>cases p15<;>cases q15<;>simp[h1,h2,h3,h4,h6,h7,h10,h11,h16,h17,a0m]<;>(by_cases h8:p8=q8<;>by_cases h9:p9=q9<;>by_cases h12:p12=q12<;>by_cases h13:p13=q13<;>simp[h8,h9,h12,h13])
            · cases p5<;>cases q5<;>simp[h1,h2,h3,h4,h16,h17,a0m]
          · cases p5<;>cases q5<;>simp[h1,h2,h3,h4,h16,a0m]
        simp[h1,h2,h3,h4,a0m]
      simp[h1,h2,h3,a0m]
    · by_cases h3:p3=q3<;>simp[h1,h2,h3,a0m]
  · by_cases h3:p3=q3<;>simp[h1,h3,a0m]
theorem l0i {l:List a0c} (hl:l.length<=1000):Tot (b0A l) (λ_=>True):=by
  unfold b0A
  refine tJ (tL (λs:Int=>0<=s/\s<=(l.length:Int)) (λs=>((l.length:Int)-s).toNat) ⟨by omega,by omega⟩ (by omega) (λs hs=> ?_))
  refine tI (λhq=> ?_) (λ_=>tR (tR trivial))
  have hq:=dTT hq
  have f1:IntKind.wrap .i64 (s+1)=s+1:=w64 (by omega) (by omega)
  rw[f1]
  exact tY (a0i hs.1 hq) (tB (q0O _) (λ_ _=>tI (λ_=>tR trivial) (λ_=>tR ⟨⟨by omega,by omega⟩,by omega⟩)))
theorem t0S {p:a0j} (h1:p.c_.length<=300)(h2:p.e_.length<=300)(h3:p.A_.length<=300)(h4:p.y_.length<=300):Tot (b0B p) (λ_=>True):=by
  unfold b0B
  generalize hL:([p.I_,p.z_,p.v_,p.o_,p.p_,p.w_,p.s_,p.u_,p.b_]:List Int)=L
  have hlen:L.length=9:=by rw[<-hL];rfl
  refine tJ (tL (λs:Int=>0<=s/\s<=(L.length:Int)/\ ∀j:Nat,(j:Int)<s->0<=nth L j/\nth L j<=40) (λs=>((L.length:Int)-s).toNat) ⟨by omega,by omega,λj hj=>by omega⟩ (by omega) (λs hs=> ?_))
  refine tI (λhq=> ?_) (λhq=>tR (show Tot _ _ from ?_))
  have hq:=dTT hq
  have hin:=a0i hs.1 hq
  refine tJ (tB (p:=λb=>b=false->0<=nth L s/\nth L s<=40) ?_ (λb hb=> ?_))
  refine tY hin (tY hin (tI (λ_=>tR (λh=>by cases h)) (λg1=>tY hin (tY hin (tR (λg2=> ?_))))))
  have g1:=dFF g1
  have g2:=dFF g2
  omega
  cases b with
  |true=>exact tR trivial
  |false=>
    have hb:=hb rfl
    refine tR (show Tot _ _ from tR ?_)
    have f1:IntKind.wrap .i64 (s+1)=s+1:=w64 (by omega) (by omega)
    rw[f1]
    refine⟨⟨by omega,by omega,λj hj=> ?_⟩,by omega⟩
    by_cases hjs:(j:Int)<s
    exact hs.2.2 j hjs
    have:(j:Int)=s:=by omega
    rw[this];exact hb
  · have hq:=dFF hq
    have hall:=hs.2.2
    have hs9:s=9:=by omega
    subst hs9
    subst hL
    have hc:C0r p:=⟨hall 0 (by omega),hall 1 (by omega),hall 2 (by omega),hall 3 (by omega),hall 4 (by omega),hall 5 (by omega),hall 6 (by omega),hall 7 (by omega),hall 8 (by omega)⟩
    have r1:=l0i (l:=p.c_) (by omega)
    have r2:=l0i (l:=p.e_) (by omega)
    have r3:=l0i (l:=p.A_) (by omega)
    have r4:=l0i (l:=p.y_) (by omega)
    refine tB (q0O _) (λ_ _=> ?_)
    refine zC (tB r1 (λ_ _=>tI (λ_=>tB r2 (λ_ _=>tR trivial)) (λ_=>tR trivial))) (λ_ _=> ?_)
    refine zC (tB r3 (λ_ _=>tI (λ_=>tB r4 (λ_ _=>tR trivial)) (λ_=>tR trivial))) (λ_ _=> ?_)
    refine tJ (zC ?_ (λb _=> ?_))
    · repeat' (first|exact tR trivial|refine tI (λ_=> ?_) (λ_=> ?_))
    cases b with
    |true=>exact tR trivial
    |false=>
      obtain⟨t,ht,htl⟩:=v0t hc h1 h2 h3 h4
      rw[ht]
      refine tR (show Tot _ _ from ?_)
      show Tot (Option.bind (a0B t) _) _
      refine tB (q0u (t:=t) (by omega)) (λo _=> ?_)
      refine zC (tI (λg=> ?_) (λ_=>tR trivial)) (λ_ h=>tR h)
      rw[x0u ⟨by omega,by omega,by omega,by omega⟩]
      exact tR trivial
/-! What is read of a pattern is no longer than its runes. -/
def Im {α:Type} (x:Option α)(p:α->Prop):Prop:= ∀o,x=some o->p o
theorem Im.ret {α:Type} {a:α} {p:α->Prop} (h:p a):Im (some a) p:=λo e=>by cases e;exact h
theorem Im.none {α:Type} {p:α->Prop} :Im (Option.none:Option α) p:=λo e=>by cases e
theorem Im.bind {α β:Type} {x:Option α} {k:α->Option β} {p:α->Prop} {q:β->Prop} (h:Im x p)(hk: ∀o,p o->Im (k o) q):Im (Option.bind x k) q:=by
  intro o e
  cases x with
  |none=>cases e
  |some a=>exact hk a (h a rfl) o e
theorem Im.bindT {α β:Type} {x:Option α} {k:α->Option β} {q:β->Prop} (hk: ∀o,Im (k o) q):Im (Option.bind x k) q:=Im.bind (p:=λ_=>True) (λ_ _=>trivial) (λo _=>hk o)
theorem Im.ite {α:Type} {b:Bool} {t e:Option α} {p:α->Prop} (ht:Im t p)(he:Im e p):Im (bif b then t else e) p:=by cases b<;>assumption
theorem Im.join {S X:Type} {x:Option (S⊕X)} {k:S->Option X} {q:X->Prop} (P:S->Prop)(h:Im x (λy=>match y with| .inl s=>P s| .inr r=>q r))(hk: ∀s,P s->Im (k s) q):Im (Option.bind x (a0m k)) q:=by
  refine Im.bind h (λy hy=> ?_)
  cases y with
  |inl s=>exact hk s hy
  |inr r=>exact Im.ret hy
theorem Im.loop {S O:Type} {step:S->Option (S⊕O)} {q:O->Prop} (I:S->Prop) {s0:S} (h0:I s0)(hs: ∀s,I s->Im (step s) (λy=>match y with| .inl s=>I s| .inr o=>q o)): ∀(n:Nat),Im (a0x step n s0) q:=by
  intro n
  induction n generalizing s0 with
  |zero=>intro o e;cases e
  |succ n ih=>
    intro o e
    simp only[a0x]at e
    cases hx:step s0 with
    |none=>rw[hx]at e;cases e
    |some y=>
      rw[hx]at e
      have:=hs s0 h0 y hx
      cases y with
      |inl s=>exact ih this o e
      |inr r=>cases e;exact this
theorem Im.of {α:Type} {x:Option α} {p:α->Prop} (h:Tot x p):Im x p:=by
  obtain⟨o,e,hp⟩:=h
  intro o' e'
  rw[e]at e';cases e';exact hp
theorem Im.and {α:Type} {x:Option α} {p q:α->Prop} (h:Im x p)(h2:Im x q):Im x (λo=>p o/\q o):=λo e=>⟨h o e,h2 o e⟩
theorem Im.iteC {α:Type} {b:Bool} {t e:Option α} {p:α->Prop} (ht:b=true->Im t p)(he:b=false->Im e p):Im (bif b then t else e) p:=by
  cases b with
  |true=>exact ht rfl
  |false=>exact he rfl
def keepP(p q:a0j):Prop:=q.c_=p.c_/\q.e_=p.e_/\q.A_=p.A_/\q.y_=p.y_
theorem keepP.refl(p:a0j):keepP p p:=⟨rfl,rfl,rfl,rfl⟩
theorem h0o(p:a0j)(l:List Int)(i w:Int):Im (b0s p l i w) (λo=>keepP p o.1):=by
  unfold b0s
  refine Im.join (λ_=>True) (Im.bindT (λb=>Im.ite (Im.ret (keepP.refl p)) (Im.ret trivial))) (λ_ _=> ?_)
  exact Im.ite (Im.ret (keepP.refl p)) (Im.ite (Im.ret ⟨rfl,rfl,rfl,rfl⟩) Im.none)
theorem r0L(p:a0j)(l:List Int)(i:Int):Im (b0J p l i) (λo=>keepP p o.1):=by
  unfold b0J
  refine Im.loop (λ_=>True) trivial (λs _=>Im.bindT (λy0=>Im.bindT (λy1=> ?_))) _
  refine Im.join (λ_=>True) (Im.bindT (λb=>Im.ite (Im.ret trivial) (Im.ret trivial))) (λ_ _=>Im.ite (Im.ret trivial) ?_)
  refine Im.join (λ_=>True) (Im.bindT (λb=>Im.ite ?_ (Im.ret trivial))) (λ_ _=>Im.bindT (λs1=>Im.bindT (λs2=>Im.ret ⟨rfl,rfl,rfl,rfl⟩)))
  exact Im.join (λ_=>True) (Im.bindT (λb=>Im.ite (Im.ret (show keepP p _ from⟨rfl,rfl,rfl,rfl⟩)) (Im.ret trivial))) (λ_ _=>Im.ite (Im.ret trivial) Im.none)
theorem n0u(p:a0j)(l:List Int)(i:Int):Im (b0K p l i) (λo=>keepP p o.1):=by
  unfold b0K
  refine Im.bindT (λy2=>Im.join (λs=>s.2.1=p.c_/\s.2.2.1=p.e_/\s.2.2.2.1=p.A_/\s.2.2.2.2.1=p.y_) ?_ (λs hs=>Im.bindT (λy7=> ?_)))
  refine Im.ite (Im.bindT (λ_=>Im.ret ⟨rfl,rfl,rfl,rfl⟩)) (Im.bind (r0L p l i) (λy0 hk=>Im.ite (Im.ret (keepP.refl p)) (Im.bindT (λ_=>Im.ite (Im.bindT (λ_=>Im.bindT (λ_=>Im.ite (Im.ret ⟨hk.1,hk.2.1,hk.2.2.1,hk.2.2.2⟩) (Im.ret ⟨hk.1,hk.2.1,hk.2.2.1,hk.2.2.2⟩)))) (Im.ret ⟨hk.1,hk.2.1,hk.2.2.1,hk.2.2.2⟩)))))
  · obtain⟨a,b,c,d⟩:=hs
    repeat' (first|exact Im.ret ⟨a,b,c,d⟩|refine Im.bindT (λ_=> ?_)|refine Im.ite ?_ ?_|exact Im.none)
theorem u0s {l:List Int} {i:Int} (hl:l.length<=10000)(h:0<=i)(hi:i<=l.length):Tot (a0w l i) (λo=>(o.1.length:Int)<=l.length):=by
  unfold a0w
  refine tJ (tL (λs:Int×List a0c=>0<=s.1/\s.1<=(l.length:Int)/\(s.2.length:Int)<=s.1) (λs=>((l.length:Int)-s.1).toNat) ⟨h,hi,by simpa using h⟩ (by simp only;omega) (λs hs=> ?_))
  refine tI (λhh=> ?_) (λhh=>tR (tR (by have:=hs.2;simp only;omega)))
  have hlt:=dTT hh
  refine tY (a0i hs.1 hlt) (tB (s0J _) (λy _=>tB (k0G _) (λy2 _=> ?_)))
  have e1:IntKind.wrap .i64 (s.1+1)=s.1+1:=w64 (by omega) (by omega)
  rw[e1]
  refine tI (λ_=>tY (a0k (by simp;omega)) (tR ⟨⟨by simp only;omega,by simp only;omega,by simp;omega⟩,by simp only;omega⟩)) (λ_=> ?_)
  refine tI (λ_=>tI (λ_=>tR (show((s.2.length:Nat):Int)<=l.length by omega)) (λ_=>tY (a0k (by simp;omega)) (tR ⟨⟨by simp only;omega,by simp only;omega,by simp;omega⟩,by simp only;omega⟩))) (λ_=> ?_)
  rw[h0t (by omega)]
  show Tot (bif _ then _ else _) _
  refine tI (λhq=> ?_) (λhq=> ?_)
  have:=m0Q (dTT hq) (by omega)
  refine tY (a0k (by simp;omega)) (tR ?_)
  have e2:IntKind.wrap .i64 (s.1+2)=s.1+2:=w64 (by omega) (by omega)
  rw[e2]
  exact⟨⟨by simp only;omega,by simp only;omega,by simp;omega⟩,by simp only;omega⟩
  refine tB (p:=λo:Int×List a0c=>s.1+1<=o.1/\o.1<=(l.length:Int)/\(o.2.length:Int)<=o.1) ?_ (λo ho=> ?_)
  refine tL (λt:Int×List a0c=>s.1+1<=t.1/\t.1<=(l.length:Int)/\(t.2.length:Int)<=t.1) (λt=>((l.length:Int)-t.1).toNat) ⟨by simp only;omega,by simp only;omega,by simp only;omega⟩ (by simp only;omega) (λt ht=> ?_)
  have f1:IntKind.wrap .i64 (t.1+1)=t.1+1:=w64 (by omega) (by omega)
  rw[f1]
  refine tJ (tB (p:=λb=>b=true->t.1<l.length/\(nth l t.1=39->t.1+1<l.length)) ?_ (λb hb=> ?_))
  refine tI (λhh=> ?_) (λ_=>tR (λh=>by cases h))
  have h3:=dTT hh
  refine tY (a0i (by omega) h3) (tI (λhn=>tR (λ_=>⟨h3,λhe=>absurd he (dTT hn)⟩)) (λ_=> ?_))
  rw[h0t (by omega)]
  exact tR (λhb=>⟨h3,λ_=>m0Q (dTT hb) (by omega)⟩)
  cases b with
  |false=>exact tR ht
  |true=>
    obtain⟨g1,g2⟩:=hb rfl
    refine tR (show Tot _ _ from ?_)
    refine tY (a0i (by omega) g1) (tY (a0k (by simp;omega)) ?_)
    refine tB (p:=λv=>t.1<=v/\v<l.length) (tY (a0i (by omega) g1) (tI (λhh=>tR ⟨by omega,g2 (dTT hh)⟩) (λ_=>tR ⟨by omega,g1⟩))) (λv hv=>tR ?_)
    have f2:IntKind.wrap .i64 (v+1)=v+1:=w64 (by omega) (by omega)
    rw[f2]
    exact⟨⟨by simp only;omega,by simp only;omega,by simp;omega⟩,by simp only;omega⟩
  refine tI (λ_=>tR (show((([]:List a0c).length:Nat):Int)<=l.length by simp)) (λhh=>tR ?_)
  have h3:=dFF hh
  have f1:IntKind.wrap .i64 (o.1+1)=o.1+1:=w64 (by omega) (by omega)
  rw[f1]
  exact⟨⟨by simp only;omega,by simp only;omega,by simp only;omega⟩,by simp only;omega⟩
theorem l0N {l:List Int} {i:Int} (hl:l.length<=10000)(h:0<=i):Im (a0w l i) (λo=>(o.1.length:Int)<=l.length):=by
  by_cases hi:i<=l.length
  obtain⟨o,e,h1⟩:=u0s hl h hi
  intro o' e'
  rw[e]at e';cases e';exact h1
  unfold a0w
  refine Im.join (λs=>s.2=[]) (Im.loop (λs:Int×List a0c=>(l.length:Int)<s.1/\s.2=[]) ⟨by simp only;omega,rfl⟩ (λs hs=> ?_) _) (λs hs=>Im.ret (by rw[hs];simp))
  rw[dF (show¬s.1<(l.length:Int) by omega)]
  exact Im.ret hs.2
theorem nb {b:Bool} (h:(!b)=false):b=true:=by simpa using h
theorem w0n {l:List Int} (hl:l.length<=10000):Im (b0h l) (λo=>h0I o.1 l.length):=by
  unfold b0h
  refine Im.bind ((Im.of (k0L hl (by omega) (by omega))).and (h0o _ _ _ _)) (λa ha=> ?_)
  obtain⟨ha,k1,k2,k3,k4⟩:=ha
  have z1:a.1.c_.length<=l.length:=by rw[k1];simp
  have z2:a.1.e_.length<=l.length:=by rw[k2];simp
  have z3:a.1.A_.length<=l.length:=by rw[k3];simp
  have z4:a.1.y_.length<=l.length:=by rw[k4];simp
  refine Im.iteC (λ_=>Im.ret ⟨z1,z2,z3,z4⟩) (λh1=>Im.bind ((Im.of (h0e hl ha.1 (ha.2.1 (nb h1)))).and (l0N hl ha.1)) (λb hb=> ?_))
  obtain⟨hb,kb⟩:=hb
  have kb:b.1.length<=l.length:=by omega
  refine Im.iteC (λ_=>Im.ret ⟨z1,z2,z3,z4⟩) (λh2=>Im.bind ((Im.of (k0L hl hb.1 hb.2)).and (h0o _ _ _ _)) (λc hc=> ?_))
  obtain⟨hc,c1,c2,c3,c4⟩:=hc
  refine Im.iteC (λ_=>Im.ret ⟨kb,z2,z3,z4⟩) (λh3=>Im.bind ((Im.of (o0t hl hc.1 (hc.2.1 (nb h3)))).and (n0u _ _ _)) (λd hd=> ?_))
  obtain⟨hd,d1,d2,d3,d4⟩:=hd
  refine Im.iteC (λ_=>Im.ret ⟨kb,z2,z3,z4⟩) (λh4=>Im.bind ((Im.of (k0L hl hd.1 hd.2)).and (h0o _ _ _ _)) (λe he=> ?_))
  obtain⟨he,e1,e2,e3,e4⟩:=he
  refine Im.iteC (λ_=>Im.ret ⟨kb,z2,z3,z4⟩) (λh5=>Im.bind ((Im.of (h0e hl he.1 (he.2.1 (nb h5)))).and (l0N hl he.1)) (λf hf=> ?_))
  obtain⟨hf,kf⟩:=hf
  have kf:f.1.length<=l.length:=by omega
  refine Im.iteC (λ_=>Im.ret ⟨kb,z2,z3,z4⟩) (λh6=>Im.bind (h0o _ _ _ _) (λg hg=>Im.ret ?_))
  obtain⟨g1,g2,g3,g4⟩:=hg
  refine⟨?_, ?_, ?_, ?_⟩
  rw[g1];show e.1.c_.length<=_;rw[e1,d1,c1];exact kb
  rw[g2];exact kf
  rw[g3];show e.1.A_.length<=_;rw[e3,d3,c3];exact z3
  rw[g4];show e.1.y_.length<=_;rw[e4,d4,c4];exact z4
theorem t0G {p:a0j} {l:List Int} {i a b:Int} (hl:l.length<=10000)(h:0<=i)(hi:i<=l.length)(ha:0<=a)(hb:b<=l.length)(hp:h0I p l.length):Im (a0Y p l i a b) (λo=>h0I o.1 l.length):=by
  unfold a0Y
  obtain⟨p1,p2,p3,p4⟩:=hp
  refine Im.bind ((Im.of (h0e hl h hi)).and (l0N hl h)) (λc hc=>Im.ite (Im.ret ⟨p1,p2,p3,p4⟩) ?_)
  obtain⟨hc,kc⟩:=hc
  have kc:c.1.length<=l.length:=by omega
  refine Im.join (λs=>0<=s) (Im.loop (λs:Int×Int=>0<=s.1/\s.1<=(l.length:Int)+s.2/\0<=s.2) ⟨hc.1,by simp only;omega,ha⟩ (λs hs=> ?_) _) (λs hs=> ?_)
  refine Im.iteC (λhh=>Im.bindT (λy=>Im.ite (Im.ite (Im.ret ⟨p1,p2,kc,p4⟩) (Im.ret ?_)) Im.none)) (λ_=>Im.ret hs.1)
  have hh:=dTT hh
  have e1:IntKind.wrap .i64 (s.1+1)=s.1+1:=w64 (by omega) (by omega)
  have e2:IntKind.wrap .i64 (s.2+1)=s.2+1:=w64 (by omega) (by omega)
  rw[e1,e2]
  exact⟨by simp only;omega,by simp only;omega,by simp only;omega⟩
  refine Im.bind (l0N hl hs) (λd hd=>Im.ret ⟨p1,p2,kc, ?_⟩)
  show d.1.length<=l.length
  omega
theorem v0y {t:List UInt8} (ht:t.length<=100000):Im (a0B t) (λo=>h0I o.1 120):=by
  unfold a0B
  refine Im.bindT (λd=>Im.ite (Im.ret ⟨by simp,by simp,by simp,by simp⟩) (Im.iteC (λ_=>Im.ret ⟨by simp,by simp,by simp,by simp⟩) (λh1=> ?_)))
  have h1:=dFF h1
  have hl:d.1.length<=10000:=by omega
  have hw: ∀p:a0j,h0I p d.1.length->h0I p 120:=λp h=>⟨by have:=h.1;omega,by have:=h.2.1;omega,by have:=h.2.2.1;omega,by have:=h.2.2.2;omega⟩
  refine Im.bind ((Im.of (q0X hl)).and (w0n hl)) (λf hf=> ?_)
  obtain⟨hf,kf⟩:=hf
  refine Im.bind (p:=λs=>s.2.2.1.length<=120/\s.2.2.2.1.length<=120/\s.2.2.2.2.1.length<=120/\s.2.2.2.2.2.1.length<=120) ?_ (λs hs=> ?_)
  refine Im.bind (p:=λb=>b=true->f.2.2.2.2=true/\f.2.2.2.1<d.1.length) ?_ (λb hb=> ?_)
  refine Im.iteC (λhq=> ?_) (λ_=>Im.ret (λh=>by cases h))
  rw[h0t (hf hq).2.2.1]
  exact Im.ret (λh=>⟨hq,m0Q (dTT h) (by omega)⟩)
  refine Im.iteC (λhq=> ?_) (λ_=>Im.ret (hw _ kf))
  obtain⟨g1,g2⟩:=hb hq
  have g:=hf g1
  have f1:IntKind.wrap .i64 (f.2.2.2.1+1)=f.2.2.2.1+1:=w64 (by omega) (by omega)
  rw[f1]
  exact Im.bind (t0G hl (by omega) (by omega) g.1 g.2.1 kf) (λo ho=>Im.ret (hw _ ho))
  refine Im.join (λ_=>True) (Im.bindT (λb=>Im.ite (Im.ret ⟨by simp,by simp,by simp,by simp⟩) (Im.ret trivial))) (λ_ _=> ?_)
  refine Im.join (λ_=>True) (Im.bindT (λb=>Im.ite (Im.ret ⟨by simp,by simp,by simp,by simp⟩) (Im.ret trivial))) (λ_ _=> ?_)
  exact Im.ret hs
theorem C0O {t:List UInt8} (ht:t.length<=100000):Tot (a0B t) (λo=>h0I o.1 120/\Tot (b0B o.1) (λ_=>True)):=by
  obtain⟨o,e,_⟩:=q0u ht
  have h:=v0y ht o e
  exact⟨o,e,h,t0S (by have:=h.1;omega) (by have:=h.2.1;omega) (by have:=h.2.2.1;omega) (by have:=h.2.2.2;omega)⟩
/-! The reference's classes, signs and affixes: they answer. -/
def goP {O:Type} (s:Int)(x:Int⊕O):Prop:=match x with
  | .inl s'=>s'=s+1
  | .inr _=>True
def C0W {O:Type} (x:Int⊕O):Prop:=match x with
  | .inl _=>False
  | .inr _=>True
theorem Tot.srch {O:Type} {step:Int->Option (Int⊕O)} (n:Nat)(hn:n<=4294967296)(h: ∀s:Int,0<=s->s<(n:Int)->Tot (step s) (goP s))(he: ∀s:Int,s=n->Tot (step s) C0W):Tot (a0x step big 0) (λ_=>True):=by
  refine tW (λs:Int=>s) n (λ_=>True) hn ⟨trivial,by omega,by omega⟩ (λs _ h0 h1=>(h s h0 h1).mono (λo ho=> ?_)) (λs _ e=>(he s e).mono (λo ho=> ?_))
  cases o with
  |inl s'=>exact⟨trivial,ho⟩
  |inr r=>trivial
  cases o with
  |inl s'=>exact ho.elim
  |inr r=>trivial
def s0Y {A O:Type} (s:Int)(x:A⊕(Int⊕O)):Prop:=match x with
  | .inl _=>True
  | .inr y=>goP s y
theorem Tot.joinG {A O:Type} {x:Option (A⊕(Int⊕O))} {k:A->Option (Int⊕O)} {s:Int} (h:Tot x (s0Y s))(hk: ∀a,Tot (k a) (goP s)):Tot (Option.bind x (a0m k)) (goP s):=by
  refine tJ (h.mono (λy hy=> ?_))
  cases y with
  |inl a=>exact hk a
  |inr r=>exact hy
theorem Tot.joinT {A O:Type} {x:Option (A⊕O)} {k:A->Option O} (h:Tot x (λ_=>True))(hk: ∀a,Tot (k a) (λ_=>True)):Tot (Option.bind x (a0m k)) (λ_=>True):=by
  refine tJ (h.mono (λy _=> ?_))
  cases y with
  |inl a=>exact hk a
  |inr r=>trivial
theorem nx {s:Int} (h0:0<=s)(h1:s<=4294967296):IntKind.wrap .i64 (s+1)=s+1:=w64 (by omega) (by omega)
theorem s0O:Tot c0F (λl=>l.length=20):=tR rfl
theorem z0p(x:Int):Tot (d0z x) (λ_=>True):=by
  unfold d0z
  refine tB s0O (λl hl=>Tot.joinT (Tot.srch l.length (by omega) (λs h0 h1=>tY (dT h1) (tY (a0i h0 h1) (tI (λ_=>tR trivial) (λ_=>tR (nx h0 (by omega)))))) (λs e=>zE e trivial)) (λ_=>tR trivial))
theorem x0p(x:Int):Tot (d0g x) (λ_=>True):=by
  unfold d0g
  refine tB s0O (λl hl=>Tot.joinT (Tot.srch l.length (by omega) (λs h0 h1=>tY (dT h1) (Tot.joinG ?_ (λ_=>tR (nx h0 (by omega))))) (λs e=>zE e trivial)) (λ_=>tR trivial))
  refine Tot.mono (p:=λy=>s0Y s y) ?_ (λ_ h=>h)
  refine tW (λs:Int=>s) 10 (λ_=>True) (by omega) ⟨trivial,by omega,by omega⟩ (λu _ g0 g1=>tY (dT g1) (tY (a0i h0 h1) (tI (λ_=>tR trivial) (λ_=>tR ⟨trivial,nx g0 (by omega)⟩)))) (λu _ e=>zE e trivial)
theorem x0x(x:Int):Tot (c0s x) (λ_=>True):=by
  unfold c0s
  refine tB (q0O x) (λ_ _=>zC ?_ (λ_ _=>zC ?_ (λ_ _=>tB (x0p x) (λ_ _=>tI (λ_=>tR trivial) (λ_=>Tot.joinT ?_ (λ_=>tI (λ_=>tR trivial) (λ_=>Tot.joinT ?_ (λ_=> ?_))))))))
  · unfold d0p;repeat' (first|exact tR trivial|refine zI ?_ ?_|refine zB ?_ λ_=> ?_)
  · unfold d0X;repeat' (first|exact tR trivial|refine zI ?_ ?_|refine zB ?_ λ_=> ?_)
  · repeat' (first|exact tR trivial|refine zI ?_ ?_|refine zB ?_ λ_=> ?_)
  · repeat' (first|exact tR trivial|refine zI ?_ ?_|refine zB ?_ λ_=> ?_)
  · repeat' (first|exact tR trivial|refine zI ?_ ?_|refine zB ?_ λ_=> ?_)
theorem z0z {l:List Int} (hl:l.length<=4294967296):Tot (d0A l) (λ_=>True):=by
  unfold d0A
  refine Tot.joinT (Tot.srch l.length hl (λs h0 h1=>tY (dT h1) (Tot.joinG (tY (a0i h0 h1) (tB (x0x _) (λ_ _=> ?_))) (λ_=>tR (nx h0 (by omega))))) (λs e=>zE e trivial)) (λ_=>tR trivial)
  repeat' (first|exact tR trivial|refine zI ?_ ?_|refine zB ?_ λ_=> ?_)
theorem x0t {l:List Int} (hl:l.length<=4294967296):Tot (d0h l) (λ_=>True):=by
  unfold d0h
  refine Tot.joinT (tW (λs:Int×Int=>s.2) l.length (λ_=>True) hl ⟨trivial,by simp⟩ (λs _ h0 h1=>tY (dT h1) ?_) (λs _ e=>zE e trivial)) (λ_=>tR trivial)
  refine tJ (Tot.mono (p:=λx:Int⊕((Int×Int)⊕(Int⊕Bool))=>match x with| .inl _=>True| .inr (.inl _)=>False| .inr (.inr _)=>True) (tY (a0i h0 h1) (tJ (Tot.mono (p:=λx:Unit⊕(Int⊕((Int×Int)⊕(Int⊕Bool)))=>match x with| .inl _=>True| .inr (.inl _)=>True| .inr (.inr (.inl _))=>False| .inr (.inr (.inr _))=>True) ?_ (λx hx=> ?_)))) (λx hx=> ?_))
  · repeat' (first|exact tR trivial|refine zI ?_ ?_|refine zB ?_ λ_=> ?_)
  · cases x with
    |inl u=>
      show Tot _ _
      refine zC ?_ (λ_ _=> ?_)<;>repeat' (first|exact tR trivial|refine zI ?_ ?_|refine zB ?_ λ_=> ?_)
    |inr r=>
      cases r with
      |inl s=>trivial
      |inr q=>
        cases q with
        |inl _=>exact hx.elim
        |inr _=>trivial
  cases x with
  |inl u=>exact tR ⟨trivial,nx h0 (by omega)⟩
  |inr r=>
    cases r with
    |inl _=>exact hx.elim
    |inr _=>trivial
theorem x0q(s:c0T)(x:Int):Tot (d0c s x) (λ_=>True):=by
  unfold d0c
  exact Tot.joinT (Tot.srch 10 (by omega) (λs h0 h1=>tY (dT h1) (tI (λ_=>tR trivial) (λ_=>tR (nx h0 (by omega))))) (λs e=>zE e trivial)) (λ_=>tR trivial)
theorem y0x(s:c0T)(x:Int):Tot (b0O s x) (λ_=>True):=by
  unfold b0O
  refine tB (x0q s x) (λ_ _=> ?_)
  repeat' (first|exact tR trivial|refine zI ?_ ?_|refine zB ?_ λ_=> ?_)
theorem q0l {s:c0T} {l:List Int} (hl:l.length<=4294967296):Tot (c0I s l) (λ_=>True):=by
  unfold c0I
  refine tB (z0z hl) (λ_ _=>tB (x0t hl) (λ_ _=>Tot.joinT (by repeat' (first|exact tR trivial|refine zI ?_ ?_|refine zB ?_ λ_=> ?_)) (λ_=>Tot.joinT (Tot.srch l.length hl (λs h0 h1=>tY (dT h1) (Tot.joinG (tY (a0i h0 h1) (tB (y0x _ _) (λ_ _=>zC (tI (λ_=>tR trivial) (λ_=>tY (a0i h0 h1) (tB (x0x _) (λ_ _=>tR trivial)))) (λ_ _=> ?_)))) (λ_=>tR (nx h0 (by omega))))) (λs e=>zE e trivial)) (λ_=>tR trivial))))
  repeat' (first|exact tR trivial|refine zI ?_ ?_|refine zB ?_ λ_=> ?_)
theorem n0r {s:c0T} {a:f0B} (ha:w0P a):Tot (c0j s a) (λ_=>True):=by
  obtain⟨h1,h2⟩:=ha
  unfold c0j
  exact tY (a0k (by omega)) (tY (a0k (by omega)) (tB (q0l (by simp;omega)) (λ_ _=>tR trivial)))
theorem s0L {x y:List Int} (hl:x.length<=4294967296):Tot (c0L x y) (λ_=>True):=by
  unfold c0L
  refine tI (λ_=>tR trivial) (λh=>Tot.joinT (Tot.srch x.length hl (λs h0 h1=>tY (dT h1) (tY (a0i h0 h1) (tY (a0i h0 ?_) (tI (λ_=>tR trivial) (λ_=>tR (nx h0 (by omega))))))) (λs e=>zE e trivial)) (λ_=>tR trivial))
  have:=dFF h;omega
theorem n0o {a c:f0B} (ha:w0P a):Tot (c0i a c) (λ_=>True):=by
  obtain⟨h1,h2⟩:=ha
  unfold c0i
  refine tB (s0L (by omega)) (λ_ _=>zC (tI (λ_=>tB (s0L (by omega)) (λ_ _=>tR trivial)) (λ_=>tR trivial)) (λ_ _=>tR trivial))
theorem s0S {l:List a0c} {k:Int} (hl:l.length<=4294967296):Tot (c0y l k) (λ_=>True):=by
  unfold c0y
  refine zC (tW (λs:Int×Int=>s.2) l.length (λ_=>True) hl ⟨trivial,by simp⟩ (λs _ h0 h1=>tY (dT h1) (zC (tY (a0i h0 h1) ?_) (λ_ _=>tR ⟨trivial,nx h0 (by omega)⟩))) (λs _ e=>zE e trivial)) (λ_ _=>tR trivial)
  repeat' (first|exact tR trivial|refine zI ?_ ?_|refine zB ?_ λ_=> ?_)
theorem v0e {l:List a0c} (hl:l.length<=1000):Tot (c0H l) (λr=>r.length<=1001):=by
  unfold c0H
  refine tB (p:=λr:List a0c=>r.length<=1001) (tW (λs:Int×List a0c=>s.1) l.length (λs=>(s.2.length:Int)<=s.1) (by omega) ⟨by simp,by simp⟩ (λs hs h0 h1=>tY (dT h1) (tB (p:=λr:List a0c=>(r.length:Int)<=s.2.length+1) (tY (a0i h0 h1) (tI (λ_=>tY (a0k (by simp;omega)) (tR (by simp))) (λ_=>tY (a0i h0 h1) (tY (a0k (by simp;omega)) (tR (by simp)))))) (λr hr=>tR ⟨?_,nx h0 (by omega)⟩))) (λs hs e=>tN (dF (by omega)) (tR (by simp only;omega)))) (λ_ h=>tR h)
  rw[nx h0 (by omega)]
  simp only;omega
theorem v0f {p:a0j} (hp:h0I p 1000)(g:Int):Tot (c0P p g) (λr=>r.1.length<=1001/\r.2.length<=1001):=by
  obtain⟨p1,p2,p3,p4⟩:=hp
  unfold c0P
  refine tJ (zC (by repeat' (first|exact tR trivial|refine zI ?_ ?_|refine zB ?_ λ_=> ?_)) (λb _=>tI (λ_=>tR ⟨by simp only;omega,by simp only;omega⟩) (λ_=>tR (show Tot _ _ from ?_))))
  refine tJ (zC (by repeat' (first|exact tR trivial|refine zI ?_ ?_|refine zB ?_ λ_=> ?_)) (λb _=>tI (λ_=>tR ⟨by simp only;omega,by simp only;omega⟩) (λ_=>tR (show Tot _ _ from ?_))))
  refine tJ (zC (tI (λ_=>tB (s0S (by omega)) (λ_ _=>tB (s0S (by omega)) (λ_ _=>tR trivial))) (λ_=>tR trivial)) (λb _=>tI (λ_=>tB (v0e p3) (λa ha=>tB (v0e p4) (λc hc=>tR ⟨ha,hc⟩))) (λ_=>tR (show Tot _ _ from ?_))))
  exact tY (a0k (by simp;omega)) (tR ⟨by simp;omega,by simp only;omega⟩)
theorem y0w {l:List a0c} {s:c0T} {cur:List Int} (hl:l.length<=1001)(hc:cur.length<=6100):Tot (c0b l s cur) (λr=>r.length<=10000000):=by
  unfold c0b
  refine tB (p:=λr:List Int=>r.length<=10000000) (tW (λs:Int×List Int=>s.1) l.length (λs=>(s.2.length:Int)<=6100*s.1) (by omega) ⟨by simp,by simp⟩ (λu hu g0 g1=>tY (dT g1) ?_) (λu hu e=>tN (dF (by omega)) (tR (by simp only;omega)))) (λ_ h=>tR h)
  have one: ∀x:Int,Tot (bif room (u.2.length+([x]:List Int).length)then some (u.2++ [x])else none) (λr:List Int=>(r.length:Int)<=u.2.length+6100):=λx=>tY (a0k (by simp;omega)) (tR (by simp<;>omega))
  refine tB (p:=λr:List Int=>(r.length:Int)<=u.2.length+6100) (tY (a0i g0 g1) (tI (λ_=>tY (a0i g0 g1) (one _)) (λ_=>tI (λ_=>one _) (λ_=>tI (λ_=>one _) (λ_=>tI (λ_=>one _) (λ_=>tI (λ_=>tY (a0k (by omega)) (tR (by simp;omega))) (λ_=>tR (by omega)))))))) (λr hr=>tR ⟨?_,nx g0 (by omega)⟩)
  rw[nx g0 (by omega)]
  simp only;omega
theorem l0Y {p:a0j} {s:c0T} {g:Int} {cur:List Int} (hp:h0I p 1000)(hc:cur.length<=6100):Tot (b0D p s g cur) w0P:=by
  unfold b0D
  exact tB (v0f hp g) (λa ha=>tB (y0w ha.1 hc) (λc hc1=>tB (y0w ha.2 hc) (λd hd=>tR ⟨hc1,hd⟩)))
theorem A0P {t:List UInt8} (ht:t.length<=4294967296):Tot (d0O t) (λ_=>True):=by
  unfold d0O
  refine Tot.joinT (Tot.srch t.length ht (λs h0 h1=>tY (dT h1) (Tot.joinG (tY (a0i h0 h1) (zC ?_ (λ_ _=> ?_))) (λ_=>tR (nx h0 (by omega))))) (λs e=>zE e trivial)) (λ_=> ?_)
  · repeat' (first|exact tR trivial|refine zI ?_ ?_|refine zB ?_ λ_=> ?_)
  · repeat' (first|exact tR trivial|refine zI ?_ ?_|refine zB ?_ λ_=> ?_)
  · repeat' (first|exact tR trivial|refine zI ?_ ?_|refine zB ?_ λ_=> ?_)
theorem v0i(s:c0T):Tot (d0t s) (λ_=>True):=by
  unfold d0t
  generalize hL:([s.t_,s.r_,s.k_,s.j_,s.m_,s.b_]:List Int)=L
  have hl:L.length=6:=by rw[<-hL];rfl
  refine Tot.joinT (Tot.srch L.length (by omega) (λi h0 h1=>tY (dT h1) (Tot.joinG (tY (a0i h0 h1) (tY (a0i h0 h1) (tB (x0x _) (λ_ _=> ?_)))) (λ_=>tR (nx h0 (by omega))))) (λs e=>zE e trivial)) (λ_=>tB (z0p _) (λ_ _=>tR trivial))
  refine tJ (Tot.mono (p:=λx:Unit⊕(Unit⊕(Int⊕(Unit⊕Bool)))=>match x with| .inl _=>True| .inr y=>s0Y i y) ?_ (λx hx=> ?_))
  · refine zC (by repeat' (first|exact tR trivial|refine zI ?_ ?_|refine zB ?_ λ_=> ?_)) (λb _=>tI (λ_=>tR trivial) (λ_=>tR trivial))
  cases x with
  |inr y=>exact hx
  |inl u=>
    show Tot _ (s0Y i)
    exact tW (λs:Int=>s) i.toNat (λ_=>True) (by omega) ⟨trivial,by omega,by omega⟩ (λu _ g0 g1=>tY (dT (by omega)) (tY (a0i g0 (by omega)) (tY (a0i g0 (by omega)) (tY (a0i h0 h1) (tY (a0i h0 h1) (tI (λ_=>tR trivial) (λ_=>tR ⟨trivial,nx g0 (by omega)⟩))))))) (λu _ e=>tN (dF (by omega)) (tR trivial))
theorem s0z {k n:Int} {l:List a0c} (hl:l.length<=4294967296)(hk: ∀x∈l,0<=x.ae_/\x.ae_<=4):Tot (b0U k l n) (λ_=>True):=by
  unfold b0U
  refine zC (tW (λs:Int×Int×Int×Int×Int×Int=>s.1) l.length (λ_=>True) hl ⟨trivial,by simp⟩ (λs _ h0 h1=>tY (dT h1) (tY (a0i h0 h1) (tY (a0i h0 h1) ?_))) (λs _ e=>zE e trivial)) (λ_ _=> ?_)
  · have hk:=hk _ (h0D h0 h1)
    repeat' (first|exact tR ⟨trivial,nx h0 (by omega)⟩|(refine tI (λe=> ?_) (λe=> ?_)))
    all_goals(exfalso;simp only[decide_eq_false_iff_not,decide_eq_true_eq]at*;omega)
  · repeat' (first|exact tR trivial|refine zI ?_ ?_|refine zB ?_ λ_=> ?_)
theorem w0Q {s:c0T} {p:a0j} {c:List Int} {x:Int} (hp:h0I p 1000)(hc:c.length<=6100):Tot (c0O s p c x) (λ_=>True):=by
  unfold c0O
  refine Tot.joinT (Tot.srch 3 (by omega) (λi h0 h1=>tY (dT h1) (Tot.joinG (tB (l0Y hp hc) (λa ha=> ?_)) (λ_=>tR (nx h0 (by omega))))) (λs e=>zE e trivial)) (λ_=>tR trivial)
  obtain⟨h1',h2'⟩:=ha
  refine tY (a0k (by omega)) (tY (a0k (by omega)) (Tot.mono (p:=λy=>s0Y i y) ?_ (λ_ h=>h)))
  exact tW (λs:Int=>s) (a.c_++a.e_).length (λ_=>True) (by simp;omega) ⟨trivial,by omega,by omega⟩ (λu _ g0 g1=>tY (dT g1) (tY (a0i g0 g1) (tY (a0i g0 g1) (tI (λ_=>tR trivial) (λ_=>tR ⟨trivial,nx g0 (by simp at g1;omega)⟩))))) (λu _ e=>zE e trivial)
theorem q0h {s:c0T} {p:a0j} {c:List Int} (hp:h0I p 1000)(hc:c.length<=6100):Tot (c0h s p c) (λ_=>True):=by
  unfold c0h
  refine tB (x0x _) (λ_ _=>tB (y0x _ _) (λ_ _=>tB (w0Q hp hc) (λ_ _=> ?_)))
  repeat' (first|exact tR trivial|refine zI ?_ ?_|refine zB ?_ λ_=> ?_)
theorem o0Z {s:c0T} {p:a0j} {c:List Int} (hp:h0I p 1000)(hc:c.length<=6100):Tot (b0W s p c) (λ_=>True):=by
  unfold b0W
  refine tB (l0Y hp hc) (λa ha=>tB (l0Y hp hc) (λb hb=>tB (l0Y hp hc) (λd hd=>zC (tB (n0r ha) (λ_ _=>tI (λ_=>tB (n0r hb) (λ_ _=>tI (λ_=>tB (n0r hd) (λ_ _=>tR trivial)) (λ_=>tR trivial))) (λ_=>tR trivial))) (λ_ _=>tB (n0o ha) (λ_ _=>tB (n0o hb) (λ_ _=> ?_))))))
  repeat' (first|exact tR trivial|refine zI ?_ ?_|refine zB ?_ λ_=> ?_)
theorem x0A {s:c0T} {p:a0j} {c:List Int} (hp:h0I p 1000)(hc:c.length<=6100):Tot (c0Z s p c) (λ_=>True):=by
  unfold c0Z
  refine tB (q0l (by omega)) (λ_ _=>tB (o0Z hp hc) (λ_ _=>tB (q0h hp hc) (λ_ _=> ?_)))
  repeat' (first|exact tR trivial|refine zI ?_ ?_|refine zB ?_ λ_=> ?_)
theorem z0y(a b:List UInt8):Tot (d0r a b) (λ_=>True):=by
  unfold d0r
  refine tJ (Tot.mono (p:=λx:Unit⊕Bool=>match x with| .inl _=>a.length=3| .inr _=>True) (tB (p:=λb=>b=false->a.length=3) (tI (λ_=>tR (λh=>by cases h)) (λh=>tR (λ_=>by have:=dFF h;omega))) (λb hb=>tI (λ_=>tR trivial) (λe=>tR (hb e)))) (λx hx=> ?_))
  cases x with
  |inr r=>trivial
  |inl u=>
    have hx:a.length=3:=hx
    have i0:inR 0 a.length=true:=a0i (by omega) (by omega)
    have i1:inR 1 a.length=true:=a0i (by omega) (by omega)
    have i2:inR 2 a.length=true:=a0i (by omega) (by omega)
    show Tot _ _
    rw[i0,i1,i2]
    simp only[cond_true]
    repeat' (first|exact tR trivial|refine zI ?_ ?_|refine zB ?_ λ_=> ?_)
/-! Of what kinds the pieces of a pattern are. -/
def okK(l:List a0c):Prop:= ∀x∈l,0<=x.ae_/\x.ae_<=4
theorem okK.nil:okK []:=λx h=>by cases h
theorem okK.snoc {l:List a0c} {x:a0c} (h:okK l)(hx:0<=x.ae_/\x.ae_<=4):okK (l++ [x]):=by
  intro y hy
  rcases av.1 hy with hy|hy
  exact h y hy
  rw[bl.1 hy];exact hx
theorem okK.app {l m:List a0c} (h:okK l)(h2:okK m):okK (l++m):=by
  intro y hy
  rcases av.1 hy with hy|hy
  exact h y hy
  exact h2 y hy
theorem v0a(x:Int):Im (c0m x) (λr=>0<=r/\r<=4):=by
  unfold c0m
  repeat' (first|exact Im.ret ⟨by omega,by omega⟩|refine Im.ite ?_ ?_|refine Im.bindT (λ_=> ?_))
theorem k0h(l:List Int)(i:Int):Im (a0w l i) (λo=>okK o.1):=by
  unfold a0w
  have z: ∀r:Int,(0:Int)<=(⟨0,r⟩:a0c).ae_/\(⟨0,r⟩:a0c).ae_<=4:=λr=>⟨by simp,by simp⟩
  refine Im.join (λs=>okK s.2) (Im.loop (λs:Int×List a0c=>okK s.2) okK.nil (λs hs=> ?_) _) (λs hs=>Im.ret hs)
  refine Im.ite (Im.ite (Im.bind (v0a _) (λy hy=>Im.bindT (λy2=> ?_))) Im.none) (Im.ret hs)
  refine Im.ite (Im.ite (Im.ret (hs.snoc hy)) Im.none) (Im.ite (Im.ite (Im.ret hs) (Im.ite (Im.ret (hs.snoc (z _))) Im.none)) (Im.bindT (λy3=>Im.ite (Im.ite (Im.ret (hs.snoc (z _))) Im.none) (Im.bind (p:=λo=>okK o.2) ?_ (λo ho=>Im.ite (Im.ret okK.nil) (Im.ret ho))))))
  refine Im.loop (λt:Int×List a0c=>okK t.2) (s0:=(IntKind.wrap .i64 (s.1+1),s.2)) hs (λt ht=> ?_) _
  refine Im.join (λ_=>True) (Im.bindT (λb=>Im.ite (Im.ret trivial) (Im.ret ht))) (λ_ _=> ?_)
  exact Im.ite (Im.ite (Im.bindT (λv=>Im.ret (ht.snoc (z _)))) Im.none) Im.none
def x0W(p:a0j):Prop:=okK p.c_/\okK p.e_/\okK p.A_/\okK p.y_
theorem l0v {p q:a0j} (h:x0W p)(k:keepP p q):x0W q:=by
  obtain⟨a,b,c,d⟩:=h
  obtain⟨k1,k2,k3,k4⟩:=k
  exact⟨by rw[k1];exact a,by rw[k2];exact b,by rw[k3];exact c,by rw[k4];exact d⟩
theorem u0f(l:List Int):Im (b0h l) (λo=>x0W o.1):=by
  unfold b0h
  refine Im.bind (h0o _ _ _ _) (λa ka=> ?_)
  have ka:x0W a.1:=l0v ⟨okK.nil,okK.nil,okK.nil,okK.nil⟩ ka
  obtain⟨a1,a2,a3,a4⟩:=id ka
  refine Im.ite (Im.ret ka) (Im.bind (k0h _ _) (λb kb=>Im.ite (Im.ret ka) (Im.bind (h0o _ _ _ _) (λc kc=> ?_))))
  have z:x0W (⟨b.1,a.1.e_,a.1.A_,a.1.y_,a.1.O_,a.1.I_,a.1.z_,a.1.v_,a.1.o_,a.1.p_,a.1.w_,a.1.s_,a.1.u_,a.1.b_,a.1.U_,a.1.B_,a.1.P_⟩:a0j):=⟨kb,a2,a3,a4⟩
  have kc:=l0v z kc
  refine Im.ite (Im.ret z) (Im.bind (n0u _ _ _) (λd kd=>Im.ite (Im.ret z) (Im.bind (h0o _ _ _ _) (λe ke=>Im.ite (Im.ret z) (Im.bind (k0h _ _) (λf kf=>Im.ite (Im.ret z) (Im.bind (h0o _ _ _ _) (λg kg=>Im.ret ?_))))))))
  obtain⟨e1,e2,e3,e4⟩:=l0v (l0v kc kd) ke
  exact l0v (p:=⟨e.1.c_,f.1,e.1.A_,e.1.y_,e.1.O_,e.1.I_,e.1.z_,e.1.v_,e.1.o_,e.1.p_,e.1.w_,e.1.s_,e.1.u_,e.1.b_,e.1.U_,e.1.B_,e.1.P_⟩) ⟨e1,kf,e3,e4⟩ kg
theorem r0F {p:a0j} (l:List Int)(i a b:Int)(hp:x0W p):Im (a0Y p l i a b) (λo=>x0W o.1):=by
  unfold a0Y
  obtain⟨p1,p2,p3,p4⟩:=hp
  refine Im.bind (k0h _ _) (λc kc=>Im.ite (Im.ret ⟨p1,p2,p3,p4⟩) ?_)
  refine Im.join (λ_=>True) (Im.loop (λ_:Int×Int=>True) trivial (λs hs=> ?_) _) (λs _=>Im.bind (k0h _ _) (λd kd=>Im.ret ⟨p1,p2,kc,kd⟩))
  exact Im.ite (Im.bindT (λy=>Im.ite (Im.ite (Im.ret ⟨p1,p2,kc,p4⟩) (Im.ret trivial)) Im.none)) (Im.ret trivial)
theorem t0U(t:List UInt8):Im (a0B t) (λo=>x0W o.1):=by
  unfold a0B
  have z:okK ([]:List a0c):=okK.nil
  refine Im.bindT (λd=>Im.ite (Im.ret ⟨z,z,z,z⟩) (Im.ite (Im.ret ⟨z,z,z,z⟩) ?_))
  refine Im.bind (u0f _) (λf kf=> ?_)
  refine Im.bind (p:=λs=>okK s.2.2.1/\okK s.2.2.2.1/\okK s.2.2.2.2.1/\okK s.2.2.2.2.2.1) ?_ (λs hs=> ?_)
  exact Im.bindT (λb=>Im.ite (Im.bind (r0F _ _ _ _ kf) (λo ho=>Im.ret ho)) (Im.ret kf))
  refine Im.join (λ_=>True) (Im.bindT (λb=>Im.ite (Im.ret ⟨z,z,z,z⟩) (Im.ret trivial))) (λ_ _=> ?_)
  refine Im.join (λ_=>True) (Im.bindT (λb=>Im.ite (Im.ret ⟨z,z,z,z⟩) (Im.ret trivial))) (λ_ _=> ?_)
  exact Im.ret hs
theorem A0U {t:List UInt8} (ht:t.length<=100000):Tot (a0B t) (λo=>(h0I o.1 120/\x0W o.1)/\Tot (b0B o.1) (λ_=>True)):=by
  obtain⟨o,e,h1,h2⟩:=C0O ht
  exact⟨o,e,⟨h1,t0U t o e⟩,h2⟩
theorem B0n {p:a0j} (h:h0I p 120):h0I p 1000:=by
  obtain⟨a,b,c,d⟩:=h
  exact⟨by omega,by omega,by omega,by omega⟩
theorem y0J:h0I (⟨([]:List a0c),([]:List a0c),([]:List a0c),([]:List a0c),false,0,0,0,0,0,0,0,0,0,false,0,0⟩:a0j) 1000:=⟨by simp,by simp,by simp,by simp⟩
theorem q0g {s:c0T} {k:Int} {t:List UInt8} (ht:t.length<=100000):Tot (a0P s k t) (λr=>h0I r.1 1000):=by
  unfold a0P
  refine tB (A0U ht) (λy hy=>tB hy.2 (λ_ _=> ?_))
  obtain⟨⟨hl,hk1,hk2,hk3,hk4⟩,_⟩:=hy
  have l12:=B0n hl
  obtain⟨l1,l2,l3,l4⟩:=hl
  refine Tot.joinQ (zC (by repeat' (first|exact tR trivial|refine zI ?_ ?_|refine zB ?_ λ_=> ?_)) (λb _=>tI (λ_=>tR y0J) (λ_=>tR trivial))) (λ_=> ?_)
  refine Tot.joinQ (zC (by repeat' (first|exact tR trivial|refine zI ?_ ?_|refine zB ?_ λ_=> ?_)) (λb _=>tI (λ_=>tR y0J) (λ_=>tR trivial))) (λ_=> ?_)
  refine Tot.joinQ (zC (by repeat' (first|exact tR trivial|refine zI ?_ ?_|refine zB ?_ λ_=> ?_)) (λb _=>tI (λ_=>tR y0J) (λ_=>tR trivial))) (λ_=> ?_)
  refine tY (a0k (by omega)) (tY (a0k (by omega)) (tB (s0z (by simp;omega) (okK.app hk1 hk2)) (λ_ _=>tY (a0k (by omega)) (tY (a0k (by omega)) (tB (s0z (by simp;omega) (okK.app hk3 hk4)) (λ_ _=> ?_))))))
  refine Tot.joinQ (zC (by repeat' (first|exact tR trivial|refine zI ?_ ?_|refine zB ?_ λ_=> ?_)) (λb _=>tI (λ_=>tR y0J) (λ_=>tR trivial))) (λ_=> ?_)
  refine tB (o0Z l12 (by simp)) (λ_ _=>tB (q0h l12 (by simp)) (λ_ _=> ?_))
  exact Tot.joinQ (zC (by repeat' (first|exact tR trivial|refine zI ?_ ?_|refine zB ?_ λ_=> ?_)) (λb _=>tI (λ_=>tR y0J) (λ_=>tR trivial))) (λ_=>tR l12)
theorem m0W {s:c0T} {c:l0b} (ht:c.Z_.length<=100000):Tot (b0y s c) (λr=>h0I r.1 1000):=by
  unfold b0y
  refine tB (A0U ht) (λy hy=>tB hy.2 (λ_ _=> ?_))
  obtain⟨⟨hl,hk1,hk2,hk3,hk4⟩,_⟩:=hy
  have l12:=B0n hl
  obtain⟨l1,l2,l3,l4⟩:=hl
  refine Tot.joinQ (zC (by repeat' (first|exact tR trivial|refine zI ?_ ?_|refine zB ?_ λ_=> ?_)) (λb _=>tI (λ_=>tR y0J) (λ_=>tR trivial))) (λ_=> ?_)
  refine Tot.joinQ (zC (by repeat' (first|exact tR trivial|refine zI ?_ ?_|refine zB ?_ λ_=> ?_)) (λb _=>tI (λ_=>tR y0J) (λ_=>tR trivial))) (λ_=> ?_)
  refine tY (a0k (by omega)) (tY (a0k (by omega)) (tB (s0z (by simp;omega) (okK.app hk1 hk2)) (λ_ _=>tB (o0Z l12 (by simp)) (λ_ _=> ?_))))
  exact Tot.joinQ (zC (by repeat' (first|exact tR trivial|refine zI ?_ ?_|refine zB ?_ λ_=> ?_)) (λb _=>tI (λ_=>tR y0J) (λ_=>tR trivial))) (λ_=>tR l12)
theorem v0q {s:c0T} {p q:a0j} {a b:Int} (hp:h0I p 1000)(hq:h0I q 1000):Tot (b0N s p a q b) (λ_=>True):=by
  unfold b0N
  generalize hL:([(⟨0,0⟩:a0p),(⟨0,1⟩:a0p),(⟨1,0⟩:a0p),(⟨1,1⟩:a0p),(⟨1,2⟩:a0p),(⟨2,1⟩:a0p),(⟨2,2⟩:a0p)]:List a0p)=L
  have hl:L.length=7:=by rw[<-hL];rfl
  refine Tot.joinT (Tot.srch L.length (by omega) (λi h0 h1=>tY (dT h1) (Tot.joinG (tY (a0i h0 h1) (tY (a0i h0 h1) (tB (l0Y hp (by simp)) (λx hx=>tB (l0Y hq (by simp)) (λy hy=>tB (n0o hx) (λ_ _=>zC (by repeat' (first|exact tR trivial|refine zI ?_ ?_|refine zB ?_ λ_=> ?_)) (λ_ _=> ?_))))))) (λ_=>tR (nx h0 (by omega))))) (λs e=>zE e trivial)) (λ_=>tR trivial)
  repeat' (first|exact tR trivial|refine zI ?_ ?_|refine zB ?_ λ_=> ?_)
theorem x0M {l:List l0b} (h: ∀c∈l,c.Z_.length<=6000) {i:Int} (h0:0<=i)(h1:i<l.length):(nth l i).Z_.length<=100000:=by
  have:=h _ (h0D h0 h1);omega
theorem v0j {l:List l0b} {i:Int} (hl:l.length<=1000)(h0:0<=i)(h1:i<l.length):Tot (d0a l (nth l i).ah_) (λr=>0<=r/\r<l.length):=by
  unfold d0a
  refine tJ (Tot.mono (p:=λx:Unit⊕Int=>match x with| .inl _=>False| .inr r=>0<=r/\r<l.length) (tL (λs:Int=>0<=s/\s<=i) (λs=>(i-s).toNat) (by omega) (by omega) (λs hs=>tY (dT (by omega)) (tY (a0i hs.1 (by omega)) (tI (λ_=>tR ⟨hs.1,by omega⟩) (λe=> ?_))))) (λx hx=> ?_))
  have e:=dFF e
  have hne:s≠i:=λh=>e (by rw[h])
  rw[nx hs.1 (by omega)]
  exact tR ⟨⟨by omega,by omega⟩,by omega⟩
  cases x with
  |inl u=>exact hx.elim
  |inr r=>exact hx
theorem z0x {l:g0l} (hm:l.f_.length<=95)(ht: ∀c∈l.f_,c.Z_.length<=6000):Tot (c0C l) (λ_=>True):=by
  unfold c0C
  refine Tot.joinT (Tot.srch l.f_.length (by omega) (λi h0 h1=>tY (dT h1) (Tot.joinG (tY (a0i h0 h1) (tB (m0W (x0M ht h0 h1)) (λy hy=> ?_))) (λ_=>tR (nx h0 (by omega))))) (λs e=>zE e trivial)) (λ_=>tR trivial)
  refine tJ (Tot.mono (p:=λx:Unit⊕(Unit⊕(Int⊕(Unit⊕Int)))=>match x with| .inl _=>True| .inr z=>s0Y i z) (zC (by repeat' (first|exact tR trivial|refine zI ?_ ?_|refine zB ?_ λ_=> ?_)) (λb _=>tI (λ_=>tR trivial) (λ_=>tR trivial))) (λx hx=> ?_))
  cases x with
  |inr z=>exact hx
  |inl u=>
    show Tot _ (s0Y i)
    refine tJ (Tot.mono (p:=λx:Unit⊕(Unit⊕(Int⊕(Unit⊕Int)))=>match x with| .inl _=>True| .inr z=>s0Y i z) (zC ?_ (λb _=>tI (λ_=>tR trivial) (λ_=>tR trivial))) (λx hx=> ?_))
    · refine tI (λe=> ?_) (λ_=>tR trivial)
      have e:=dTT e
      have w:IntKind.wrap .i64 (i-1)=i-1:=w64 (by omega) (by omega)
      rw[w]
      have i1:inR (i-1) l.f_.length=true:=a0i (by omega) (by omega)
      rw[i1]
      simp only[cond_true]
      repeat' (first|exact tR trivial|refine zI ?_ ?_|refine zB ?_ λ_=> ?_)
    · cases x with
      |inr z=>exact hx
      |inl u=>
        show Tot _ (s0Y i)
        refine tB (v0j (by omega) h0 h1) (λf hf=> ?_)
        refine tJ (Tot.mono (p:=λx:Unit⊕(Unit⊕(Int⊕(Unit⊕Int)))=>match x with| .inl _=>True| .inr z=>s0Y i z) (zC (by repeat' (first|exact tR trivial|refine zI ?_ ?_|refine zB ?_ λ_=> ?_)) (λb _=>tI (λ_=>tR trivial) (λ_=>tR trivial))) (λx hx=> ?_))
        cases x with
        |inr z=>exact hx
        |inl u=>
          show Tot _ (s0Y i)
          exact tY (a0i hf.1 hf.2) (tB (m0W (x0M ht hf.1 hf.2)) (λz hz=>tB (show Tot (a0S _ _) (λ_=>True)from tR trivial) (λ_ _=>tY (a0i hf.1 hf.2) (tB (show Tot (a0S _ _) (λ_=>True)from tR trivial) (λ_ _=>tI (λ_=>tR trivial) (λ_=>tR trivial))))))
theorem A0O {l:g0l} (hp:l.a_.g_.length<=100000)(hm:l.f_.length<=95)(ht: ∀c∈l.f_,c.Z_.length<=6000):Tot (c0N l) (λ_=>True):=by
  unfold c0N
  refine tB (q0g hp) (λp hp=>Tot.joinT (Tot.srch l.f_.length (by omega) (λi h0 h1=>tY (dT h1) (Tot.joinG (tY (a0i h0 h1) (tB (m0W (x0M ht h0 h1)) (λy hy=>tY (a0i h0 h1) (tB (show Tot (a0S _ _) (λ_=>True)from tR trivial) (λ_ _=>tB (v0q hp hy) (λ_ _=>tI (λ_=>tR trivial) (λ_=> ?_))))))) (λ_=>tR (nx h0 (by omega))))) (λs e=>zE e trivial)) (λ_=>tR trivial))
  refine Tot.mono (p:=λy=>s0Y i y) ?_ (λ_ h=>h)
  exact tW (λs:Int=>s) (i.toNat+1) (λ_=>True) (by omega) ⟨trivial,by omega,by omega⟩ (λu _ g0 g1=>tY (dT (by omega)) (tY (a0i g0 (by omega)) (tB (m0W (x0M ht g0 (by omega))) (λz hz=>tY (a0i g0 (by omega)) (tB (show Tot (a0S _ _) (λ_=>True)from tR trivial) (λ_ _=>tB (v0q hz hy) (λ_ _=>tI (λ_=>tR trivial) (λ_=>tR ⟨trivial,nx g0 (by omega)⟩)))))))) (λu _ e=>tN (dF (by omega)) (tR trivial))
theorem x0B {b:List Int} (hl:b.length<=100000):Tot (b0q b) (λo=>(o.1.length:Int)<=b.length+4):=by
  unfold b0q
  refine tJ (tL (λs:Int×List Int=>0<=s.1/\s.1<=(b.length:Int)+4/\(s.2.length:Int)<=s.1) (λs=>((b.length:Int)+4-s.1).toNat) ⟨by simp only;omega,by simp only;omega,by simp⟩ (by simp only;omega) (λs hs=> ?_))
  refine tI (λhq=> ?_) (λ_=>tR (tR (show((s.2.length:Nat):Int)<=b.length+4 by omega)))
  have hq:=dTT hq
  refine tB (v0C hl hs.1 hq) (λn hn=>tI (λ_=>tR (show((([]:List Int).length:Nat):Int)<=b.length+4 by simp;omega)) (λhneg=> ?_))
  have hneg:=dFF hneg
  have his:=hn.resolve_left hneg
  refine tY (a0k (by simp;omega)) (tB (o0Q _) (λz hz=>tR ?_))
  have h1:=hz.2.2 his
  have e1:IntKind.wrap .i64 (s.1+z)=s.1+z:=w64 (by omega) (by omega)
  rw[e1]
  exact⟨⟨by simp only;omega,by simp only;omega,by simp;omega⟩,by simp only;omega⟩
theorem A0R {l:g0l} {p:a0j} (hp:h0I p 1000)(hc:l.i_.length<=105)(hs: ∀c∈l.i_,c.l_.length<=6000):Tot (c0V l p) (λ_=>True):=by
  unfold c0V
  refine Tot.joinT (tW (λs:List UInt8×Int=>s.2) l.i_.length (λ_=>True) (by omega) ⟨trivial,by simp⟩ (λs _ h0 h1=>tY (dT h1) ?_) (λs _ e=>zE e trivial)) (λ_=>tR trivial)
  have hsl:=hs _ (h0D h0 h1)
  have hbl:(i0C (nth l.i_ s.2).l_).length<=6000:=by rw[h0T];exact hsl
  refine tJ (Tot.mono (p:=λx:Unit⊕((List UInt8×Int)⊕(Unit⊕Int))=>match x with| .inl _=>True| .inr (.inl _)=>False| .inr (.inr _)=>True) (tY (a0i h0 h1) (tB (x0B (by omega)) (λd hd=>tB (x0A hp (by omega)) (λ_ _=>tB (z0y _ _) (λ_ _=> ?_))))) (λx hx=> ?_))
  · refine tJ (Tot.mono (p:=λx:Unit⊕(Unit⊕((List UInt8×Int)⊕(Unit⊕Int)))=>match x with| .inl _=>True| .inr (.inl _)=>True| .inr (.inr (.inl _))=>False| .inr (.inr (.inr _))=>True) (zC (by repeat' (first|exact tR trivial|refine zI ?_ ?_|refine zB ?_ λ_=> ?_)) (λb _=>tI (λ_=>tR trivial) (λ_=>tR trivial))) (λx hx=> ?_))
    cases x with
    |inl u=>exact tR trivial
    |inr r=>
      cases r with
      |inl _=>trivial
      |inr q=>
        cases q with
        |inl _=>exact hx.elim
        |inr _=>trivial
  cases x with
  |inl u=>exact tR ⟨trivial,nx h0 (by omega)⟩
  |inr r=>
    cases r with
    |inl _=>exact hx.elim
    |inr _=>trivial
def txt(s:List UInt8)(i:Int):Prop:=0<=i/\i<=s.length
def B0r(s:List UInt8)(i a:Int)(l:List a0p):(Int×Int)⊕((Int×List a0p)⊕(List a0p×Int×Bool))->Prop
  | .inl w=>a<w.1/\w.1<=s.length
  | .inr (.inl _)=>False
  | .inr (.inr o)=>txt s o.2.1/\i<=o.2.1/\o.1.length<=s.length
theorem g0P {s:List UInt8} {i:Int} (hl:s.length<=1000000)(h:txt s i):Tot (a0R s i) (λo=>i<=o/\o<=s.length):=by
  obtain⟨h0,h1⟩:=h
  unfold a0R
  refine tB (tL (λq=>i<=q/\q<=s.length) (λq=>(s.length-q).toNat) ⟨by omega,by omega⟩ (by omega) (λq hq=> ?_)) (λo ho=>tR ho)
  refine tJ (tB (p:=λb=>b=true->q<s.length) ?_ (λb hb=> ?_))
  refine tI (λh=> ?_) (λ_=>tR (by simp))
  have h:=dTT h
  exact tY (a0i (by omega) h) (tR λ_=>h)
  refine tI (λh=>tR ?_) (λ_=>tR hq)
  have:=hb h
  refine tR ?_
  simp only
  rw[w64 (by omega) (by omega)];omega
theorem q0c {s:List UInt8} {i:Int} (hl:s.length<=1000000)(h:txt s i):Tot (c0J s i) (λo=>i<=o/\o<=s.length):=by
  obtain⟨h0,h1⟩:=h
  unfold c0J
  refine tB (tL (λq=>i<=q/\q<=s.length) (λq=>(s.length-q).toNat) ⟨by omega,by omega⟩ (by omega) (λq hq=> ?_)) (λo ho=>tR ho)
  refine tJ (tB (p:=λb=>b=true->q<s.length) ?_ (λb hb=> ?_))
  refine tI (λh=> ?_) (λ_=>tR (by simp))
  have h:=dTT h
  refine tY (a0i (by omega) h) (tI (λ_=> ?_) (λ_=>tR λ_=>h))
  exact tY (a0i (by omega) h) (tR λ_=>h)
  refine tI (λh=>tR ?_) (λ_=>tR hq)
  have:=hb h
  refine tR ?_
  simp only
  rw[w64 (by omega) (by omega)];omega
theorem j0c {s:List UInt8} {i:Int} {x:List UInt8} (hl:s.length<=1000000)(h:txt s i)(hx:x.length<=10):Tot (b0u s i x) (λb=>b=true->i+x.length<=s.length):=by
  obtain⟨h0,h1⟩:=h
  unfold b0u
  rw[w64 (n:=i+(x.length:Int)) (by omega) (by omega)]
  refine tB (p:=λb=>b=true->i+x.length<=s.length) ?_ (λb hb=>tR hb)
  refine tI (λh=> ?_) (λ_=>tR (by simp))
  have h:=dTT h
  exact tY (q0T (by omega) (by omega) (by omega)) (tR λ_=>h)
theorem k0K {s:List UInt8} {i l:Int} (hl:s.length<=1000000)(h:txt s i):Tot (a0X s i l) (λo=>txt s o.2/\i<=o.2/\(0<=o.1->i<o.2)):=by
  unfold a0X
  refine tB (g0P hl h) (λy hy=> ?_)
  obtain⟨h0,h1⟩:=h
  refine tB (tL (λq:Int×Int=>y<=q.1/\q.1<=s.length) (λq:Int×Int=>((s.length:Int)-q.1).toNat) (post:=λq:Int×Int=>y<=q.1/\q.1<=s.length) ⟨by simp only;omega,by simp only;omega⟩ (by simp only;omega) (λq hq=> ?_)) (λo ho=> ?_)
  refine tJ (tB (p:=λb=>b=true->q.1<s.length) ?_ (λb hb=> ?_))
  refine tI (λh=> ?_) (λ_=>tR (by simp))
  have h:=dTT h
  refine tY (a0i (by omega) h) (tI (λ_=> ?_) (λ_=>tR λ_=>h))
  exact tY (a0i (by omega) h) (tR λ_=>h)
  refine tI (λh=>tR ?_) (λ_=>tR hq)
  have:=hb h
  refine zC ?_ (λv _=>tR ?_)
  refine tI (λ_=> ?_) (λ_=>tR trivial)
  exact tY (a0i (by omega) this) (tR trivial)
  simp only
  rw[w64 (n:=q.1+1) (by omega) (by omega)];omega
  refine tJ (tB (p:=λb=>b=false->y<o.1) ?_ (λb hb=> ?_))
  refine tI (λ_=>tR (by simp)) (λh=> ?_)
  have h:=dFF h
  have hlt:y<o.1:=by omega
  refine tI (λ_=>tR (by simp)) (λ_=> ?_)
  refine tY (a0i (by omega) (by omega)) (tI (λ_=> ?_) (λ_=>tR λ_=>hlt))
  exact tI (λ_=>tR (by simp)) (λ_=>tR λ_=>hlt)
  refine tI (λ_=>tR ?_) (λh=>tR ?_)
  exact⟨⟨by simp only;omega,by simp only;omega⟩,by simp only;omega,by simp only;omega⟩
  have:=hb h
  exact tR ⟨⟨by simp only;omega,by simp only;omega⟩,by simp only;omega,λ_=>by simp only;omega⟩
theorem r0G {s:List UInt8} {i:Int} (hl:s.length<=1000000)(h:txt s i):Tot (b0I s i) (λo=>txt s o.2.1/\i<=o.2.1/\o.1.length<=s.length):=by
  unfold b0I
  obtain⟨h0,h1⟩:=h
  refine tL (λq:Int×List a0p=>i<=q.1/\q.1<=s.length/\(q.2.length:Int)<=q.1) (λq:Int×List a0p=>((s.length:Int)-q.1).toNat) ⟨by simp only;omega,by simp only;omega,by simp;omega⟩ (by simp only;omega) (λq hq=> ?_)
  have tq:txt s q.1:=⟨by omega,by omega⟩
  refine tB (k0K hl tq) (λy hy=> ?_)
  obtain⟨⟨y1,y2⟩,y3,y4⟩:=hy
  refine tI (λ_=>tR ?_) (λhn=> ?_)
  exact⟨⟨y1,y2⟩,by simp only;omega,by simp⟩
  have hn:=dFF hn
  have y4:=y4 (by omega)
  refine tB (g0P hl ⟨y1,y2⟩) (λz hz=> ?_)
  refine tJ (Tot.mono (p:=B0r s i q.1 q.2) ?_ (λw hw=> ?_))
  refine tB (j0c (x:=[46,46]) hl ⟨by omega,hz.2⟩ (by simp)) (λb hb=> ?_)
  refine tI (λh=> ?_) (λ_=>tR ⟨by simp only;omega,by simp only;omega⟩)
  have hb:=hb h
  simp at hb
  rw[w64 (n:=z+2) (by omega) (by omega)]
  refine tB (k0K hl ⟨by omega,by omega⟩) (λv hv=> ?_)
  obtain⟨⟨v1,v2⟩,v3,v4⟩:=hv
  refine tI (λ_=>tR ⟨⟨v1,v2⟩,by simp only;omega,by simp⟩) (λhn=>tR ⟨by simp only;omega,by simp only;omega⟩)
  cases w with
  |inr r=>
    cases r with
    |inl x=>exact hw.elim
    |inr o=>exact hw
  |inl w=>
    obtain⟨w1,w2⟩:=hw
    refine tY (a0k (by simp;omega)) ?_
    refine tB (g0P hl ⟨by omega,w2⟩) (λc hc=> ?_)
    refine tB (j0c (x:=[44]) hl ⟨by omega,hc.2⟩ (by simp)) (λb hb=> ?_)
    refine tI (λ_=>tR ?_) (λh=>tR ?_)
    exact⟨⟨by simp only;omega,by simp only;omega⟩,by simp only;omega,by simp;omega⟩
    have hb:=hb (by simpa using h)
    simp at hb
    simp only
    rw[w64 (n:=c+1) (by omega) (by omega)]
    simp;omega
theorem z0s(x:Int):Tot (e0f x) (λ_=>True):=by
  unfold e0f
  refine zC ?_ (λ_ _=>tR trivial)
  repeat' (first|exact tR trivial|refine tI (λ_=> ?_) (λ_=> ?_))
def C0E(s:List UInt8)(i:Int)(o:a0M×Int×Bool):Prop:=txt s o.2.1/\(o.2.2=true->i<o.2.1)/\o.1.R_.length<=s.length
theorem x0w {s:List UInt8} {i:Int} (hl:s.length<=1000000)(h:txt s i):Tot (c0z s i) (C0E s i):=by
  unfold c0z
  obtain⟨h0,h1⟩:=h
  refine tB (g0P hl ⟨h0,h1⟩) (λy hy=> ?_)
  refine tJ (tB (p:=λb=>b=false->y<s.length) ?_ (λb hb=> ?_))
  refine tB (q0c hl ⟨by omega,hy.2⟩) (λw hw=> ?_)
  refine tI (λ_=>tR (by simp)) (λh=> ?_)
  have h:=dFF h
  rw[w64 (n:=y+1) (by omega) (by omega)]at h
  have hlt:y<s.length:=by omega
  refine tY (a0i (by omega) hlt) ?_
  exact tB (z0s _) (λ_ _=>tR λ_=>hlt)
  refine tI (λ_=>tR ?_) (λh=>tR ?_)
  exact⟨⟨by simp only;omega,hy.2⟩,by simp,by simp⟩
  have hlt:=hb h
  refine tY (a0i (by omega) hlt) ?_
  rw[w64 (n:=y+1) (by omega) (by omega)]
  refine tB (g0P hl ⟨by omega,by omega⟩) (λz hz=> ?_)
  refine tJ (Tot.mono (p:=λx:(Int×Int)⊕(a0M×Int×Bool)=>match x with| .inl w=>y<w.1/\w.1<=s.length| .inr o=>C0E s i o) ?_ (λw hw=> ?_))
  refine tB (j0c (x:=[37]) hl ⟨by omega,hz.2⟩ (by simp)) (λb2 hb2=> ?_)
  refine tI (λh=> ?_) (λ_=>tR ⟨by simp only;omega,hz.2⟩)
  have hb2:=hb2 h
  simp at hb2
  rw[w64 (n:=z+1) (by omega) (by omega)]
  refine tB (k0K hl ⟨by omega,by omega⟩) (λv hv=> ?_)
  obtain⟨⟨v1,v2⟩,v3,v4⟩:=hv
  refine tI (λ_=>tR ⟨⟨v1,v2⟩,by simp,by simp⟩) (λ_=> ?_)
  exact tB (g0P hl ⟨v1,v2⟩) (λu hu=>tR ⟨by simp only;omega,hu.2⟩)
  cases w with
  |inr o=>exact hw
  |inl w=>
    obtain⟨w1,w2⟩:=hw
    refine tB (p:=λu:Int×Bool=>y<u.1/\u.1<=s.length) ?_ (λu hu=> ?_)
    refine tB (j0c (x:=[33,61]) hl ⟨by omega,w2⟩ (by simp)) (λb3 hb3=> ?_)
    refine tI (λh=>tR ?_) (λ_=>tR ⟨w1,w2⟩)
    have hb3:=hb3 h
    simp at hb3
    rw[w64 (n:=w.1+1) (by omega) (by omega)]
    exact⟨by simp only;omega,by simp only;omega⟩
    refine tB (j0c (x:=[61]) hl ⟨by omega,hu.2⟩ (by simp)) (λb4 hb4=> ?_)
    refine tI (λ_=>tR ⟨⟨by simp only;omega,hu.2⟩,by simp,by simp⟩) (λh=> ?_)
    have hb4:=hb4 (by simpa using h)
    simp at hb4
    rw[w64 (n:=u.1+1) (by omega) (by omega)]
    refine tB (r0G hl ⟨by omega,by omega⟩) (λo ho=>tR ?_)
    obtain⟨⟨o1,o2⟩,o3,o4⟩:=ho
    exact⟨⟨o1,o2⟩,λ_=>by simp only;omega,o4⟩
/-! Rules: what is read of them, and that it answers. -/
theorem z0f(n:Int):IntKind.wrap .i64 n<=9223372036854775807:=by
  have h:IntKind.wrap .i64 n=if n%18446744073709551616≥9223372036854775808 then n%18446744073709551616-18446744073709551616 else n%18446744073709551616:=by
    unfold IntKind.wrap
    simp[IntKind.signed,IntKind.bits]
  rw[h]
  split<;>omega
theorem m0e(s:List UInt8)(i l:Int):Im (a0X s i l) (λo=>o.1<=9223372036854775807):=by
  unfold a0X
  refine Im.bindT (λy=>Im.bind (p:=λq:Int×Int=>q.2<=9223372036854775807) (Im.loop (λq:Int×Int=>q.2<=9223372036854775807) (by simp) (λq hq=> ?_) _) (λq hq=> ?_))
  refine Im.join (λ_=>True) (Im.bindT (λb=>Im.ite (Im.ret trivial) (Im.ret hq))) (λ_ _=>Im.bind (p:=λv:Int=>v<=9223372036854775807) (Im.ite (Im.ite (Im.ret (z0f _)) Im.none) (Im.ret hq)) (λv hv=>Im.ret hv))
  exact Im.join (λ_=>True) (Im.bindT (λb=>Im.ite (Im.ret (by simp)) (Im.ret trivial))) (λ_ _=>Im.ret hq)
def y0E(n:Int):Prop:=0<=n/\n<=9223372036854775807
def x0y(g:a0p):Prop:=y0E g.g_/\y0E g.h_
def r0J(r:a0M):Prop:=y0E r.ar_/\ ∀g∈r.R_,x0y g
theorem t0Q(s:List UInt8)(i:Int):Im (b0I s i) (λo=> ∀g∈o.1,x0y g):=by
  unfold b0I
  refine Im.loop (λq:Int×List a0p=> ∀g∈q.2,x0y g) (λg h=>by cases h) (λq hq=> ?_) _
  refine Im.bind (m0e _ _ _) (λy hy=>Im.iteC (λ_=>Im.ret (λg h=>by cases h)) (λhn=>Im.bindT (λz=> ?_)))
  have hn:=dFF hn
  refine Im.join (λw:Int×Int=>y0E w.2) (Im.bindT (λb=>Im.ite (Im.bind (m0e _ _ _) (λv hv=>Im.iteC (λ_=>Im.ret (λg h=>by cases h)) (λhn=>Im.ret ⟨by have:=dFF hn;simp only;omega,hv⟩))) (Im.ret ⟨by simp only;omega,hy⟩))) (λw hw=> ?_)
  have hs: ∀g∈q.2++ [(⟨y.1,w.2⟩:a0p)],x0y g:=by
    intro g hg
    rcases av.1 hg with h|h
    exact hq g h
    rw[bl.1 h];exact⟨⟨by simp only;omega,hy⟩,hw⟩
  exact Im.ite (Im.bindT (λ_=>Im.bindT (λ_=>Im.ite (Im.ret hs) (Im.ret hs)))) Im.none
theorem z0w(s:List UInt8)(i:Int):Im (c0z s i) (λo=>r0J o.1):=by
  unfold c0z
  have z:y0E 0:=⟨by omega,by omega⟩
  have e: ∀ {a b:Int} {c:Bool},y0E b->r0J (⟨a,b,c,[]⟩:a0M):=λh=>⟨h,λg hg=>by cases hg⟩
  refine Im.bindT (λy=>Im.join (λ_=>True) (Im.bindT (λb=>Im.ite (Im.ret (e z)) (Im.ret trivial))) (λ_ _=>Im.ite (Im.bindT (λz2=> ?_)) Im.none))
  refine Im.join (λw:Int×Int=>y0E w.2) (Im.bindT (λb=>Im.ite (Im.bind (m0e _ _ _) (λv hv=>Im.iteC (λ_=>Im.ret (e z)) (λhn=>Im.bindT (λ_=>Im.ret ⟨by have:=dFF hn;simp only;omega,hv⟩)))) (Im.ret z))) (λw hw=> ?_)
  refine Im.bindT (λu=>Im.bindT (λb=>Im.ite (Im.ret (e hw)) (Im.bind (t0Q _ _) (λo ho=>Im.ret ⟨hw,ho⟩))))
def x0c(c:List (List a0M)):Prop:= ∀x∈c,∀r∈x,r0J r
theorem v0w(s:List UInt8):Im (b0z s) (λo=>x0c o.1):=by
  unfold b0z
  have z:x0c []:=λx hx=>by cases hx
  refine Im.ite (Im.ret z) (Im.join (λq:Bool×List (List a0M)×List a0M=>x0c q.2.1/\ ∀r∈q.2.2,r0J r) (Im.loop (λq:Int×Bool×Int×List (List a0M)×List a0M=>x0c q.2.2.2.1/\ ∀r∈q.2.2.2.2,r0J r) ⟨z,λr h=>by cases h⟩ (λq hq=> ?_) _) (λq hq=> ?_))
  refine Im.bind (z0w _ _) (λy hy=>Im.ite (Im.ret z) (Im.bindT (λf=>Im.ite (Im.bindT (λzz=> ?_)) Im.none)))
  have h2: ∀r∈q.2.2.2.2++ [y.1],r0J r:=by
    intro r hr
    rcases av.1 hr with h|h
    exact hq.2 r h
    rw[bl.1 h];exact hy
  have h3:x0c (q.2.2.2.1++ [q.2.2.2.2++ [y.1]]):=by
    intro x hx
    rcases av.1 hx with h|h
    exact hq.1 x h
    rw[bl.1 h];exact h2
  refine Im.ite (Im.ret ⟨hq.1,h2⟩) (Im.bindT (λw=>Im.join (λ_=>True) (Im.bindT (λb=>Im.ite (Im.ret z) (Im.ret trivial))) (λ_ _=> ?_)))
  refine Im.bind (p:=λu:List (List a0M)×List a0M=>x0c u.1/\ ∀r∈u.2,r0J r) (Im.ite (Im.ite (Im.ite (Im.ret ⟨h3,λr h=>by cases h⟩) Im.none) (Im.ret ⟨hq.1,h2⟩)) Im.none) (λu hu=>Im.ret hu)
  refine Im.ite (Im.ret z) (Im.ite (Im.ret ?_) Im.none)
  intro x hx
  rcases av.1 hx with h|h
  exact hq.1 x h
  rw[bl.1 h];exact hq.2
def fewC(c:List (List a0M)):Prop:=c.length<=401/\ ∀x∈c,x.length<=401/\ ∀r∈x,r.R_.length<=400
theorem fewC.nil:fewC []:=⟨by simp,λx h=>by cases h⟩
theorem s0M(s:List UInt8):Tot (b0z s) (λo=>fewC o.1):=by
  unfold b0z
  refine tI (λ_=>tR fewC.nil) (λhs4=> ?_)
  have hs4:=dFF hs4
  have hl:s.length<=1000000:=by omega
  have hl4:s.length<=400:=by omega
  refine tJ (tL (λq:Int×Bool×Int×List (List a0M)×List a0M=>txt s q.2.2.1/\((q.2.2.2.1.length:Int)<=q.2.2.1/\(q.2.2.2.2.length:Int)<=q.2.2.1)/\(∀x∈q.2.2.2.1,x.length<=401/\ ∀r∈x,r.R_.length<=400)/\ ∀r∈q.2.2.2.2,r.R_.length<=400) (λq:Int×Bool×Int×List (List a0M)×List a0M=>((s.length:Int)-q.2.2.1).toNat) ⟨⟨by simp,by simp⟩,⟨by simp,by simp⟩,by simp,by simp⟩ (by simp only;omega) (λq hq=> ?_))
  obtain⟨⟨q1,q2⟩,⟨q3,q4⟩,q5,q6⟩:=hq
  refine tB (x0w hl ⟨q1,q2⟩) (λy hy=> ?_)
  obtain⟨⟨y1,y2⟩,y3,y4⟩:=hy
  refine tI (λ_=>tR (show fewC _ from fewC.nil)) (λhok=> ?_)
  have y3:=y3 (by simpa using hok)
  have h2: ∀r∈q.2.2.2.2++ [y.1],r.R_.length<=400:=by
    intro r hr
    rcases av.1 hr with h|h
    exact q6 r h
    rw[bl.1 h];omega
  have h3: ∀x∈q.2.2.2.1++ [q.2.2.2.2++ [y.1]],x.length<=401/\ ∀r∈x,r.R_.length<=400:=by
    intro x hx
    rcases av.1 hx with h|h
    exact q5 x h
    rw[bl.1 h];exact⟨by simp;omega,h2⟩
  refine zC ?_ (λf _=> ?_)
  · repeat' (first|exact tR trivial|refine zI ?_ ?_|refine zB ?_ λ_=> ?_)
  refine tY (a0k (by simp;omega)) ?_
  refine tB (g0P hl ⟨y1,y2⟩) (λz hz=> ?_)
  refine tI (λ_=>tR ?_) (λhne=> ?_)
  show Tot (bif f then _ else _) _
  refine tI (λ_=>tR fewC.nil) (λ_=> ?_)
  exact tY (a0k (by simp;omega)) (tR ⟨by simp;omega,h3⟩)
  · refine tB (q0c hl ⟨by omega,hz.2⟩) (λw hw=> ?_)
    have hin:inS z w s.length=true:=q0T (by omega) (by omega) (by omega)
    rw[hin]
    simp only[cond_true]
    refine tJ (zC ?_ (λb _=> ?_))
    · repeat' (first|exact tR trivial|refine zI ?_ ?_|refine zB ?_ λ_=> ?_)
    refine tI (λ_=>tR (show fewC _ from fewC.nil)) (λ_=>tR ?_)
    refine tB (p:=λu:List (List a0M)×List a0M=>((u.1.length:Int)<=z/\(u.2.length:Int)<=z)/\(∀x∈u.1,x.length<=401/\ ∀r∈x,r.R_.length<=400)/\ ∀r∈u.2,r.R_.length<=400) ?_ (λu hu=>tR ?_)
    refine tI (λ_=>tY (a0k (by simp;omega)) (tR ⟨⟨by simp;omega,by simp;omega⟩,h3,λr h=>by cases h⟩)) (λ_=>tR ⟨⟨by simp;omega,by simp;omega⟩,q5,h2⟩)
    obtain⟨⟨u1,u2⟩,u3,u4⟩:=hu
    refine⟨⟨⟨by simp only;omega,by simp only;omega⟩,⟨by simp only;omega,by simp only;omega⟩,u3,u4⟩,by simp only;omega⟩
theorem D0s: ∃m,big=m+1:=⟨big-1,by unfold big;omega⟩
theorem z0F {x:Int} (h:y0E x):Tot (a0O big x) (λr=>r.length<=20):=by
  obtain⟨h0,h1⟩:=h
  obtain⟨m,hm⟩:=D0s
  rw[show a0O big x=a0O (m+1) x by rw[<-hm]]
  simp only[a0O]
  refine tN (dF (by omega)) (tB (p:=λr:List UInt8=>r.length<=20) ?_ (λ_ h=>tR h))
  refine tL (λq:Int×List UInt8=>(0<=q.1/\q.1<=9223372036854775807)/\q.2.length<=20/\q.1<10^(20-q.2.length)) (λq=>q.1.toNat) ⟨⟨h0,h1⟩,by simp[c0S],by simp[c0S];omega⟩ (by simp only;omega) (λq hq=> ?_)
  obtain⟨⟨q0,q0'⟩,q1,q2⟩:=hq
  refine tI (λe=> ?_) (λ_=>tR q1)
  have e:=dTT e
  have hlen:q.2.length<=18:=by
    rcases br q.2.length 19 with h|h
    omega
    have:20-q.2.length<=1:=by omega
    have h5:(10:Int)^(20-q.2.length)<=10^1:=by
      have:=Nat.pow_le_pow_right (show 0<10 by omega) this
      exact_mod_cast this
    omega
  have hq10:Int.tdiv q.1 10=q.1/10:=Int.tdiv_eq_ediv_of_nonneg q0
  have w1:IntKind.wrap .i64 (Int.tdiv q.1 10)=q.1/10:=by rw[hq10];exact w64 (by omega) (by omega)
  rw[w1]
  refine tY (a0k (by simp[c0S];omega)) (tR ⟨⟨⟨by simp only;omega,by simp only;omega⟩,by simp[c0S];omega, ?_⟩,by simp only;omega⟩)
  have e1:20-q.2.length=(20-(q.2.length+1))+1:=by omega
  rw[e1,Int.pow_succ]at q2
  have l1:(c0S [IntKind.wrap .u8 (IntKind.wrap .i64 (48+Int.tmod (q.1/10) 10))]++q.2).length=q.2.length+1:=by simp[c0S]
  show q.1/10<10^(20-(c0S [IntKind.wrap .u8 (IntKind.wrap .i64 (48+Int.tmod (q.1/10) 10))]++q.2).length)
  rw[l1]
  generalize(10:Int)^(20-(q.2.length+1))=K at q2⊢
  omega
theorem z0q {c:List (List a0M)} (hc:fewC c)(hv:x0c c):Tot (d0v c) (λ_=>True):=by
  obtain⟨c1,c2⟩:=hc
  unfold d0v
  refine zC (tW (λs:List UInt8×Int=>s.2) c.length (λs=>(s.1.length:Int)<=7000000*s.2) (by omega) ⟨by simp,by simp⟩ (λs hs h0 h1=>tY (dT h1) ?_) (λs _ e=>zE e trivial)) (λ_ _=>tR trivial)
  have i0:inR s.2 c.length=true:=a0i h0 h1
  have hm:=h0D h0 h1
  obtain⟨d1,d2⟩:=c2 _ hm
  have hv1:=hv _ hm
  generalize hd:nth c s.2=d at d1 d2 hv1⊢
  refine tB (p:=λr:List UInt8=>(r.length:Int)<=7000000*s.2+7000000) ?_ (λr hr=>tR ⟨by rw[nx h0 (by omega)];simp only;omega,nx h0 (by omega)⟩)
  refine tB (p:=λr:List UInt8=>(r.length:Int)<=7000000*s.2+4) (tI (λ_=>tY (a0k (by simp;omega)) (tR (by simp;omega))) (λ_=>tR (by omega))) (λa ha=> ?_)
  refine tW (λt:List UInt8×Int=>t.2) d.length (λt=>(t.1.length:Int)<=7000000*s.2+4+17300*t.2) (by omega) ⟨by simp only;omega,by simp⟩ (λt ht g0 g1=>tY i0 (tY (dT g1) ?_)) (λt ht e=>tY i0 (tN (dF (by omega)) (tR (by simp only;omega))))
  have i1:inR t.2 d.length=true:=a0i g0 g1
  have hm2:=h0D g0 g1
  have e1:=d2 _ hm2
  obtain⟨e2,e3⟩:=hv1 _ hm2
  generalize nth d t.2=q at e1 e2 e3⊢
  refine tB (p:=λr:List UInt8=>(r.length:Int)<=7000000*s.2+4+17300*t.2+17300) (tY i0 (tY i1 ?_)) (λr hr=>tR ⟨by rw[nx g0 (by omega)];simp only;omega,nx g0 (by omega)⟩)
  refine tB (p:=λr:List UInt8=>(r.length:Int)<=7000000*s.2+4+17300*t.2+5) (tI (λ_=>tY (a0k (by simp;omega)) (tR (by simp;omega))) (λ_=>tR (by omega))) (λu hu=> ?_)
  have lo: ∀o:Int,(c0S ([o]:List Int)).length=1:=λo=>by simp[c0S]
  refine tY (a0k (by rw[lo];omega)) ?_
  refine tB (p:=λr:List UInt8=>(r.length:Int)<=7000000*s.2+4+17300*t.2+29) (tI (λ_=>tY (a0k (by simp[lo];omega)) (tB (z0F e2) (λn hn=>tY (a0k (by simp[lo];omega)) (tR (by simp[lo];omega))))) (λ_=>tR (by simp[lo];omega))) (λv hv=> ?_)
  refine tB (p:=λr:List UInt8=>(r.length:Int)<=7000000*s.2+4+17300*t.2+33) (tI (λ_=>tY (a0k (by simp;omega)) (tR (by simp;omega))) (λ_=>tY (a0k (by simp;omega)) (tR (by simp;omega)))) (λw hw=> ?_)
  refine tW (λz:List UInt8×Int=>z.2) q.R_.length (λz=>(z.1.length:Int)<=7000000*s.2+4+17300*t.2+33+43*z.2) (by omega) ⟨by simp only;omega,by simp⟩ (λz hz k0 k1=>tY (dT k1) ?_) (λz hz e=>tN (dF (by omega)) (tR (by simp only;omega)))
  have i2:inR z.2 q.R_.length=true:=a0i k0 k1
  obtain⟨r1,r2⟩:=e3 _ (h0D k0 k1)
  refine tB (p:=λr:List UInt8=>(r.length:Int)<=z.1.length+43) ?_ (λr hr=>tR ⟨by rw[nx k0 (by omega)];simp only;omega,nx k0 (by omega)⟩)
  refine tB (p:=λr:List UInt8=>(r.length:Int)<=z.1.length+1) (tI (λ_=>tY (a0k (by simp;omega)) (tR (by simp))) (λ_=>tR (by omega))) (λx hx=> ?_)
  refine tY i2 (tB (z0F r1) (λn hn=>tY (a0k (by omega)) (tY i2 (tY i2 (tI (λ_=> ?_) (λ_=>tR (by simp;omega)))))))
  refine tY (a0k (by simp;omega)) (tY i2 (tB (z0F r2) (λn2 hn2=>tY (a0k (by simp;omega)) (tR (by simp;omega)))))
theorem v0g {x y:List (List a0M)} (hx:x.length<=401)(hx2: ∀c∈x,c.length<=401/\ ∀r∈c,r.R_.length<=400):Tot (d0w x y) (λ_=>True):=by
  unfold d0w
  refine tI (λ_=>tR trivial) (λhl=> ?_)
  have hl:=dFF hl
  refine Tot.joinT (Tot.srch x.length (by omega) (λs h0 h1=>tY (dT h1) (Tot.joinG (tY (a0i h0 h1) (tY (a0i h0 (by omega)) (tI (λ_=>tR trivial) (λhl2=> ?_)))) (λ_=>tR (nx h0 (by omega))))) (λs e=>zE e trivial)) (λ_=>tR trivial)
  have hl2:=dFF hl2
  have i0:inR s x.length=true:=a0i h0 h1
  have i0':inR s y.length=true:=a0i h0 (by omega)
  obtain⟨d1,d2⟩:=hx2 _ (h0D h0 h1)
  generalize nth x s=a at d1 d2 hl2⊢
  generalize nth y s=b at hl2⊢
  refine tW (λt:Int=>t) a.length (λ_=>True) (by omega) ⟨trivial,by omega,by omega⟩ (λt _ g0 g1=>tY i0 (tY (dT g1) ?_)) (λt _ e=>tY i0 (tN (dF (by omega)) (tR trivial)))
  have i1:inR t a.length=true:=a0i g0 g1
  have i1':inR t b.length=true:=a0i g0 (by omega)
  have e1:=d2 _ (h0D g0 g1)
  generalize nth a t=q at e1⊢
  generalize nth b t=p
  refine tJ (Tot.mono (p:=λz:Unit⊕(Int⊕(Unit⊕(Int⊕(Unit⊕Bool))))=>match z with| .inl _=>True| .inr (.inl _)=>False| .inr (.inr o)=>s0Y s o) (tY i0 (tY i1 (tY i0' (tY i1' ?_)))) (λz hz=> ?_))
  refine tJ (Tot.mono (p:=λw:Unit⊕(Unit⊕(Int⊕(Unit⊕(Int⊕(Unit⊕Bool)))))=>match w with| .inl _=>q.R_.length=p.R_.length| .inr (.inl _)=>True| .inr (.inr (.inl _))=>False| .inr (.inr (.inr o))=>s0Y s o) (tB (p:=λb=>b=false->q.R_.length=p.R_.length) ?_ (λb hb=>tI (λ_=>tR trivial) (λe=>tR (hb e)))) (λw hw=> ?_))
  exact tI (λ_=>tR (λh=>by cases h)) (λ_=>tI (λ_=>tR (λh=>by cases h)) (λ_=>tI (λ_=>tR (λh=>by cases h)) (λ_=>tR (λh=>by have:=dFF h;omega))))
  cases w with
  |inl u=>
    have hw:q.R_.length=p.R_.length:=hw
    exact tW (λz:Int=>z) q.R_.length (λ_=>True) (by omega) ⟨trivial,by omega,by omega⟩ (λz _ k0 k1=>tY (dT k1) (tY (a0i k0 k1) (tY (a0i k0 (by omega)) (tI (λ_=>tR trivial) (λ_=>tR ⟨trivial,nx k0 (by omega)⟩))))) (λz _ e=>zE e trivial)
  |inr r=>
    cases r with
    |inl _=>trivial
    |inr r=>
      cases r with
      |inl _=>exact hw.elim
      |inr o=>exact hw
  cases z with
  |inl u=>exact tR ⟨trivial,nx g0 (by omega)⟩
  |inr r=>
    cases r with
    |inl _=>exact hz.elim
    |inr o=>exact hz
theorem x0v {c:List (List a0M)} (hc:fewC c)(hv:x0c c):Tot (d0d c) (λ_=>True):=by
  unfold d0d
  refine tB (z0q hc hv) (λt _=>tB (s0M t) (λo ho=> ?_))
  exact zC (tI (λ_=>tB (v0g hc.1 hc.2) (λ_ _=>tR trivial)) (λ_=>tR trivial)) (λ_ _=>tR trivial)
theorem z0r {x:List o0h} (hx:x.length<=1000):Tot (d0u x) (λ_=>True):=by
  unfold d0u
  refine Tot.joinT (tW (λs:Int×List e0O=>s.1) x.length (λs=>(s.2.length:Int)<=s.1) (by omega) ⟨by simp,by simp⟩ (λs hs h0 h1=>tY (dT h1) ?_) (λs _ e=>zE e trivial)) (λ_=>tR trivial)
  have i0:inR s.1 x.length=true:=a0i h0 h1
  refine tJ (Tot.mono (p:=λy:List e0O⊕((Int×List e0O)⊕(List e0O⊕(List e0O×Int×Int)))=>match y with| .inl l=>(l.length:Int)<=s.1+1| .inr (.inl _)=>False| .inr (.inr _)=>True) ?_ (λy hy=> ?_))
  · refine tJ (Tot.mono (p:=λw:Unit⊕(List e0O⊕((Int×List e0O)⊕(List e0O⊕(List e0O×Int×Int))))=>match w with| .inl _=>True| .inr (.inl _)=>False| .inr (.inr (.inl _))=>False| .inr (.inr (.inr _))=>True) (zC ?_ (λb _=>tI (λ_=>tR trivial) (λ_=>tR trivial))) (λw hw=> ?_))
    refine tY i0 (tI (λ_=>tR trivial) (λ_=>tY i0 (tI (λ_=>tR trivial) (λ_=>tI (λe=> ?_) (λ_=>tR trivial)))))
    have e:=dTT e
    have w1:IntKind.wrap .i64 (s.1-1)=s.1-1:=w64 (by omega) (by omega)
    rw[w1]
    exact tY i0 (tY (a0i (by omega) (by omega)) (tR trivial))
    · cases w with
      |inr r=>
        cases r with
        |inl _=>exact hw.elim
        |inr r=>
          cases r with
          |inl _=>exact hw.elim
          |inr _=>trivial
      |inl u=>
        refine tY i0 (tB (p:=λo=>fewC o.1/\x0c o.1) ?_ (λo ho=>tB (x0v ho.1 ho.2) (λ_ _=> ?_)))
        obtain⟨o,e,h⟩:=s0M (nth x s.1).ag_
        exact⟨o,e,h,v0w _ o e⟩
        · refine tJ (Tot.mono (p:=λw:Unit⊕(List e0O⊕((Int×List e0O)⊕(List e0O⊕(List e0O×Int×Int))))=>match w with| .inl _=>True| .inr (.inl _)=>False| .inr (.inr (.inl _))=>False| .inr (.inr (.inr _))=>True) (zC (by repeat' (first|exact tR trivial|refine zI ?_ ?_|refine zB ?_ λ_=> ?_)) (λb _=>tI (λ_=>tR trivial) (λ_=>tR trivial))) (λw hw=> ?_))
          cases w with
          |inr r=>
            cases r with
            |inl _=>exact hw.elim
            |inr r=>
              cases r with
              |inl _=>exact hw.elim
              |inr _=>trivial
          |inl u=>exact tY i0 (tY (a0k (by simp;omega)) (tR (show((_:List e0O).length:Int)<=_ by simp;omega)))
  cases y with
  |inl l=>exact tR ⟨by rw[nx h0 (by omega)];exact hy,nx h0 (by omega)⟩
  |inr r=>
    cases r with
    |inl _=>exact hy.elim
    |inr _=>trivial
theorem x0D {l:g0l} (h0:l.J_.length<=4294967296)(h:l.a_.g_.length<=100000/\l.a_.h_.length<=100000/\l.a_.n_.length<=100000/\l.a_.x_.length<=100000)(hr:l.T_.length<=8)(hc:l.i_.length<=105)(hs: ∀c∈l.i_,c.l_.length<=6000)(hm:l.f_.length<=95)(ht: ∀c∈l.f_,c.Z_.length<=6000):Tot (d0b l) (λ_=>True):=by
  unfold d0b
  obtain⟨p0,p1,p2,p3⟩:=h
  refine tB (A0P h0) (λ_ _=>tI (λ_=>tR trivial) (λ_=>tB (v0i _) (λ_ _=>tI (λ_=>tR trivial) (λ_=> ?_))))
  refine tJ (Tot.mono (p:=λx=>match x with| .inl s=>s.1.length<=1000/\s.2.1.length<=1000/\s.2.2.1.length<=1000/\s.2.2.2.1.length<=1000| .inr _=>True) (tW (λs:Int×(List a0c)×(List a0c)×(List a0c)×(List a0c)×Bool×Int×Int×Int×Int×Int×Int×Int×Int×Int×Bool×Int×Int=>s.1) 4 (λs=>s.2.1.length<=1000/\s.2.2.1.length<=1000/\s.2.2.2.1.length<=1000/\s.2.2.2.2.1.length<=1000) (by omega) ⟨⟨by simp,by simp,by simp,by simp⟩,by simp⟩ (λs hs' g0 g1=>tY (dT g1) ?_) (λs hs' e=>tN (dF (by omega)) (tR hs'))) (λx hx=> ?_))
  have st:IntKind.wrap .i64 (s.1+1)=s.1+1:=nx g0 (by omega)
  refine tI (λ_=>tB (q0g p0) (λy hy=>tI (λ_=>tR trivial) (λ_=>tR ⟨hy,st⟩))) (λe0=>tI (λ_=>tB (q0g p1) (λy hy=>tI (λ_=>tR trivial) (λ_=>tR ⟨hy,st⟩))) (λe1=>tI (λ_=>tB (q0g p2) (λy hy=>tI (λ_=>tR trivial) (λ_=>tR ⟨hy,st⟩))) (λe2=>tI (λ_=>tB (q0g p3) (λy hy=>tI (λ_=>tR trivial) (λ_=>tR ⟨hy,st⟩))) (λe3=> ?_))))
  have:=dFF e0;have:=dFF e1;have:=dFF e2;have:=dFF e3;omega
  cases x with
  |inr _=>trivial
  |inl s=>
    show Tot _ _
    refine tB (z0r (by omega)) (λ_ _=>tI (λ_=>tR trivial) (λ_=>tB (A0R hx hc hs) (λ_ _=>tI (λ_=>tR trivial) (λ_=>tB (z0x hm ht) (λ_ _=>tI (λ_=>tR trivial) (λ_=>tB (A0O p0 hm ht) (λ_ _=>tI (λ_=>tR trivial) (λ_=>tR trivial))))))))
end Go.Proofs.YthodkmamingnhaaGreatDoor
