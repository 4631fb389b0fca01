/-
 What those functions come to, told by plain functions of lists and numbers. Conditions: as each theorem says.
-/
import Derived.Test.YtcapcgbamehojaaGreatDoorGd
import Derived.Test.YtcapcgbamehojaaGreatDoorSyZ
namespace Go.Proofs.YtcapcgbamehojaaGreatDoor
open Go Go.Sy Go.RowKit Go.ChangeShapes Go.WideShapes Go.ChangeAt
set_option linter.unusedVariables false
set_option linter.unusedSimpArgs false
set_option maxRecDepth 100000
set_option maxHeartbeats 4000000
/-! What always answers. -/
theorem v0Z {S O:Type} {step:S→Option (S⊕O)} (I:S→Prop)(μ:S→Nat)(post:O→Prop) {s0:S} (h0:I s0)(hb:μ s0<18446744073709551616)
  (hs: ∀s,I s→(∃s',step s=some (.inl s')∧I s'∧μ s'<μ s)∨ ∃o,step s=some (.inr o)∧post o): ∃o,a0l step big s0=some o∧post o:=by
 have key: ∀m s,I s→μ s<m→ ∃o,a0l step m s=some o∧post o:=by
  intro m
  induction m with
  |zero=>intro s _ h;omega
  |succ m ih=>
   intro s hi hm
   rcases hs s hi with⟨s',h1,h2,h3⟩|⟨o,h1,h2⟩
   ·rw[e0a h1];exact ih s' h2 (by omega)
   ·exact⟨o,e0T h1,h2⟩
 exact key big s0 h0 hb
def Tot {α:Type} (x:Option α)(p:α→Prop):Prop:= ∃o,x=some o∧p o
theorem tR {α:Type} {a:α} {p:α→Prop} (h:p a):Tot (some a) p:=⟨a,rfl,h⟩
theorem tB {α β:Type} {x:Option α} {k:α→Option β} {p:α→Prop} {q:β→Prop} (h:Tot x p)(hk: ∀o,p o→Tot (k o) q):Tot (Option.bind x k) q:=by
 obtain⟨o,rfl,h⟩:=h;exact hk o h
theorem tI {α:Type} {b:Bool} {t e:Option α} {p:α→Prop} (ht:b=true→Tot t p)(he:b=false→Tot e p):Tot (bif b then t else e) p:=by
 cases b with
 |true=>exact ht rfl
 |false=>exact he rfl
theorem tY {α:Type} {b:Bool} {t e:Option α} {p:α→Prop} (h:b=true)(ht:Tot t p):Tot (bif b then t else e) p:=by subst h;exact ht
theorem tN {α:Type} {b:Bool} {t e:Option α} {p:α→Prop} (h:b=false)(he:Tot e p):Tot (bif b then t else e) p:=by subst h;exact he
theorem Tot.mono {α:Type} {x:Option α} {p q:α→Prop} (h:Tot x p)(hq: ∀o,p o→q o):Tot x q:=by obtain⟨o,h1,h2⟩:=h;exact⟨o,h1,hq o h2⟩
def A0E {S X:Type} (k:S→Option X)(p:X→Prop):S⊕X→Prop
 | .inl s=>Tot (k s) p
 | .inr r=>p r
theorem tJ {S X:Type} {x:Option (S⊕X)} {k:S→Option X} {p:X→Prop} (h:Tot x (A0E k p)):Tot (Option.bind x (a0j k)) p:=by
 obtain⟨o,rfl,h⟩:=h
 cases o with
 |inl s=>exact h
 |inr r=>exact⟨r,rfl,h⟩
theorem tL {S O:Type} {step:S→Option (S⊕O)} (I:S→Prop)(μ:S→Nat) {post:O→Prop} {s0:S} (h0:I s0)(hb:μ s0<18446744073709551616)
  (hs: ∀s,I s→Tot (step s) (fun x=>match x with| .inl s'=>I s'∧μ s'<μ s| .inr o=>post o)):Tot (a0l step big s0) post:=by
 refine v0Z I μ post h0 hb (fun s hi=> ?_)
 obtain⟨x,h1,h2⟩:=hs s hi
 cases x with
 |inl s'=>exact .inl ⟨s',h1,h2⟩
 |inr o=>exact .inr ⟨o,h1,h2⟩
theorem Tot.any {α:Type} {x:Option α} {p:α→Prop} (h:Tot x p):Tot x (fun _=>True):=h.mono (fun _ _=>trivial)
theorem dTT {p:Prop} [Decidable p](h:decide p=true):p:=of_decide_eq_true h
theorem dFF {p:Prop} [Decidable p](h:decide p=false): ¬p:=of_decide_eq_false h
theorem tM {α β γ:Type} {x:α⊕β} {f:α→Option γ} {g:β→Option γ} {p:γ→Prop} (hf: ∀a,x= .inl a→Tot (f a) p)(hg: ∀b,x= .inr b→Tot (g b) p):Tot (Sum.elim f g x) p:=by
 cases x with
 |inl a=>exact hf a rfl
 |inr b=>exact hg b rfl
def s0o {α β:Type} (p:α→Prop):α⊕β→Prop
 | .inl a=>p a
 | .inr _=>True
theorem tS {α β γ:Type} {x:Option (α⊕β)} {f:α→Option γ} {g:β→Option γ} {p:α→Prop} {q:γ→Prop} (h:Tot x (s0o p))(hf: ∀a,p a→Tot (f a) q)(hg: ∀b,Tot (g b) q):Tot (Option.bind x fun y=>Sum.elim f g y) q:=by
 obtain⟨o,rfl,h⟩:=h
 cases o with
 |inl a=>exact hf a h
 |inr b=>exact hg b
theorem tW {S O:Type} {step:S→Option (S⊕O)} (ix:S→Int)(n:Nat)(I:S→Prop) {post:O→Prop} {s0:S} (hn:n≤4294967296)(h0:I s0∧0≤ix s0∧ix s0≤n)
  (hs: ∀s,I s→0≤ix s→ix s<n→Tot (step s) (fun x=>match x with| .inl s'=>I s'∧ix s'=ix s+1| .inr o=>post o)) (he: ∀s,I s→ix s=n→Tot (step s) (fun x=>match x with| .inl _=>False| .inr o=>post o)):Tot (a0l step big s0) post:=by
 refine tL (fun s=>I s∧0≤ix s∧ix s≤n) (fun s=>((n:Int)-ix s).toNat) h0 (by omega) (fun s hi=> ?_)
 by_cases h:ix s=n
 ·refine Tot.mono (he s hi.1 h) (fun o ho=> ?_)
  cases o with
  |inl _=>exact absurd ho id
  |inr _=>exact ho
 ·refine Tot.mono (hs s hi.1 hi.2.1 (by omega)) (fun o ho=> ?_)
  cases o with
  |inl s'=>exact⟨⟨ho.1,by rw[ho.2];omega,by rw[ho.2];omega⟩,by rw[ho.2];omega⟩
  |inr _=>exact ho
def jp {S R E:Type} (p:S→Prop):S⊕(R⊕E)→Prop
 | .inl s=>p s
 | .inr (.inl _)=>False
 | .inr (.inr _)=>True
theorem tE {S R E:Type} {x:Option (S⊕(R⊕E))} {k:S→Option (R⊕E)} {p:S→Prop} {q:R→Prop} (h:Tot x (jp p))(hk: ∀s,p s→Tot (k s) (s0o q)):Tot (Option.bind x (a0j k)) (s0o q):=by
 obtain⟨o,rfl,h⟩:=h
 match o,h with
 | .inl s,h=>exact hk s h
 | .inr (.inr e),_=>exact⟨_,rfl,trivial⟩
/-! Patterns are read, or not: it answers. -/
def ra(l:List Int)(i:Int):Prop:=0≤i∧i≤(l.length:Int)
section
variable {l : List Int} (hl : l.length ≤ 100000) {b m p k d : Int}
include hl
theorem y0d {c on i:Int} (h:ra l i)(ho:0≤on∧on≤1):Tot (a0X c on l i b m p k d) (fun r=>r=true→i+on<l.length):=by
 obtain⟨h0,h1⟩:=h
 unfold a0X
 rw[w64 (n:=i+on) (by omega) (by omega)]
 refine tB (p:=fun r=>r=true→i+on<l.length) ?_ (fun _ h=>tR h)
 refine tI (fun h=> ?_) (fun _=>tR (fun h=>by cases h))
 exact tY (a0r (by omega) (dTT h)) (tR (fun _=>dTT h))
theorem u0M {c i:Int} (h:ra l i):Tot (a0t c l i b m p k d) (fun r=>(r.1=true∧r.2=i+1∧i<l.length)∨(r.1=false∧r.2=i)):=by
 unfold a0t
 refine tB (y0d hl h (by omega)) (fun y hy=> ?_)
 obtain⟨h0,h1⟩:=h
 cases y with
 |false=>exact tR (.inr ⟨rfl,rfl⟩)
 |true=>
  have:=hy rfl
  exact tR (.inl ⟨rfl,w64 (by omega) (by omega),by omega⟩)
theorem s0u {c i:Int} (h:ra l i):Tot (a0t c l i b m p k d) (fun r=>ra l r.2∧i≤r.2):=by
 refine(u0M hl h).mono (fun r hr=> ?_)
 obtain⟨h0,h1⟩:=h
 rcases hr with⟨_,e,e2⟩|⟨_,e⟩
 ·exact⟨⟨by omega,by omega⟩,by omega⟩
 ·exact⟨⟨by omega,by omega⟩,by omega⟩
theorem p0q {c i:Int} (h:ra l i):Tot (b0e c l i b m p k d) (fun r=>ra l r.2∧i≤r.2):=by
 unfold b0e
 refine tB (p:=fun s:Int×Int=>ra l s.2∧i≤s.2) (tL (fun s:Int×Int=>ra l s.2∧i≤s.2) (fun s=>((l.length:Int)-s.2).toNat) ⟨h,ag _⟩ (by have:=h.1;simp only;omega) (fun s hs=> ?_)) (fun _ h=>tR h)
 refine tB (u0M hl hs.1) (fun y hy=> ?_)
 obtain⟨⟨h0,h1⟩,h2⟩:=hs
 rcases hy with⟨e1,e2,e3⟩|⟨e1,e2⟩
 ·rw[e1,e2];exact tR ⟨⟨⟨by simp only;omega,by simp only;omega⟩,by simp only;omega⟩,by simp only;omega⟩
 ·rw[e1,e2];exact tR ⟨⟨h0,h1⟩,h2⟩
theorem t0J {w i:Int} (h:ra l i) {x8 x18 x9 x10 x11 x12 x13 x14 x15 x16 x17 x19 x20} :Tot (b0N w l i b m p k d x8 x9 x10 x11 x12 x13 x14 x15 x16 x17 x18 x19 x20) (s0o fun r=>ra l r.1∧i≤r.1):=by
 unfold b0N
 refine tJ (tB (p:=fun r:Bool×Int=>ra l r.2∧i≤r.2) (tI (fun _=>tR ⟨h,ag _⟩) (fun _=>tB (s0u hl h) (fun y hy=>tR hy))) (fun s hs=>tI (fun _=>tR hs) (fun _=>tR (show Tot _ _ from ?_))))
 refine tJ (tI (fun _=>tR trivial) (fun hd=>tR (show Tot _ _ from ?_)))
 have:=dFF hd
 obtain⟨⟨h0,h1⟩,h2⟩:=hs
 have e:IntKind.wrap .i64 (s.2+1)=s.2+1:=w64 (by omega) (by omega)
 refine tY (a0r h0 (by omega)) (tR ?_)
 rw[e];exact⟨⟨by simp only;omega,by simp only;omega⟩,by simp only;omega⟩
theorem w0P {w i:Int} (h:ra l i) {x8 x9 x19 x10 x11 x12 x13 x14 x15 x16 x17 x18 x20 x21} :Tot (b0M w l i b m p k d x8 x9 x10 x11 x12 x13 x14 x15 x16 x17 x18 x19 x20 x21) (s0o fun r=>ra l r.1∧i≤r.1):=
 t0J (x8:=x9) (x9:=x10) (x10:=x11) (x11:=x12) (x12:=x13) (x13:=x14) (x14:=x15) (x15:=x16) (x16:=x17) (x17:=x18) (x18:=x19) (x19:=x20) (x20:=x21) hl h
theorem z0n {w i:Int} (h:ra l i) {x8 x9 x10 x20 x11 x12 x13 x14 x15 x16 x17 x18 x19 x21 x22} :Tot (c0i w l i b m p k d x8 x9 x10 x11 x12 x13 x14 x15 x16 x17 x18 x19 x20 x21 x22) (s0o fun r=>ra l r.1∧i≤r.1):=
 t0J (x8:=x10) (x9:=x11) (x10:=x12) (x11:=x13) (x12:=x14) (x13:=x15) (x14:=x16) (x15:=x17) (x16:=x18) (x17:=x19) (x18:=x20) (x19:=x21) (x20:=x22) hl h
theorem s0O {i:Int} (h:ra l i):Tot (b0U l i b m p k d) (fun r=>(r.1=true∧r.2=i+2∧i+1<l.length)∨(r.1=false∧r.2=i)):=by
 unfold b0U
 refine tJ (tB (p:=fun r=>r=false→i+1<l.length) (tB (y0d hl h (by omega)) (fun y _=>tI (fun _=>tR (fun h=>by cases h)) (fun _=>tB (y0d hl h (by omega)) (fun z hz=>tR (fun e=>hz (by simpa using e)))))) (fun s hs=> ?_))
 obtain⟨h0,h1⟩:=h
 cases s with
 |true=>exact tR (.inr ⟨rfl,rfl⟩)
 |false=>
  have:=hs rfl
  exact tR (tR (.inl ⟨rfl,w64 (by omega) (by omega),this⟩))
theorem v0O {i:Int} {o:List a0c} (h:ra l i)(hi:i<l.length)(ho:(o.length:Int)≤i):Tot (b0p l i b m p k d o) (s0o fun r=>ra l r.1∧i<r.1∧(r.2.length:Int)≤r.1):=by
 unfold b0p
 refine tB (s0O hl h) (fun y hy=> ?_)
 obtain⟨h0,h1⟩:=h
 rcases hy with⟨e1,e2,e3⟩|⟨e1,e2⟩
 ·rw[e1,e2]
  exact tY rfl (tY (a0v (by simp;omega)) (tR ⟨⟨by simp only;omega,by simp only;omega⟩,by simp only;omega,by simp;omega⟩))
 ·rw[e1,e2,w64 (n:=i+1) (by omega) (by omega)]
  refine tJ (tL (fun s:Int×List a0c=>ra l s.1∧i<s.1∧(s.2.length:Int)≤s.1) (fun s=>((l.length:Int)-s.1).toNat) ⟨⟨by simp only;omega,by simp only;omega⟩,by simp only;omega,by simp only;omega⟩ (by simp only;omega) (fun s hs=> ?_))
  refine tI (fun hlt=> ?_) (fun _=>tR (tR trivial))
  have hlt:=dTT hlt
  refine tB (s0O hl hs.1) (fun y hy=> ?_)
  obtain⟨⟨g0,g1⟩,g2,g3⟩:=hs
  rcases hy with⟨e1,e2,e3⟩|⟨e1,e2⟩
  ·rw[e1,e2]
   exact tY rfl (tY (a0v (by simp;omega)) (tR ⟨⟨⟨by simp only;omega,by simp only;omega⟩,by simp only;omega,by simp;omega⟩,by simp only;omega⟩))
  ·rw[e1,e2]
   refine tB (u0M hl ⟨g0,g1⟩) (fun y hy=> ?_)
   rcases hy with⟨e1,e2,e3⟩|⟨e1,e2⟩
   ·rw[e1,e2]
    exact tR ⟨⟨by simp only;omega,by simp only;omega⟩,by simp only;omega,by simp only;omega⟩
   ·rw[e1,e2,w64 (n:=s.1+1) (by omega) (by omega)]
    exact tN rfl (tY (a0r g0 hlt) (tY (a0v (by simp;omega)) (tR ⟨⟨⟨by simp only;omega,by simp only;omega⟩,by simp only;omega,by simp;omega⟩,by simp only;omega⟩)))
omit hl in
theorem o0L(x:Int):Tot (e0t x) (fun _=>True):=by
 unfold e0t
 refine tJ (tB (p:=fun _=>True) ?_ (fun s _=>tI (fun _=>tR trivial) (fun _=>tR (tB (p:=fun _=>True) ?_ (fun _ _=>tR trivial)))))
 ·repeat' (first|exact tR trivial|refine tI (fun _=> ?_) (fun _=> ?_))
 ·exact tI (fun _=>tR trivial) (fun _=>tR trivial)
theorem o0y {i:Int} (h:ra l i):Tot (a0O l i b m p k d) (s0o fun r=>ra l r.2∧i≤r.2∧(r.1.length:Int)≤r.2):=by
 unfold a0O
 refine tJ (tL (fun s:Int×List a0c=>ra l s.1∧i≤s.1∧(s.2.length:Int)≤s.1) (fun s=>((l.length:Int)-s.1).toNat) ⟨h,ag _,by have:=h.1;simpa using this⟩ (by have:=h.1;simp only;omega) (fun s hs=> ?_))
 refine tI (fun hlt=> ?_) (fun _=>tR (tR hs))
 have hlt:=dTT hlt
 obtain⟨⟨g0,g1⟩,g2,g3⟩:=hs
 have e:IntKind.wrap .i64 (s.1+1)=s.1+1:=w64 (by omega) (by omega)
 rw[e]
 refine tY (a0r g0 hlt) ?_
 have step: ∀t:a0c,(ra l (s.1+1)∧i≤s.1+1∧((s.2++ [t]).length:Int)≤s.1+1)∧((l.length:Int)-(s.1+1)).toNat<((l.length:Int)-s.1).toNat:=fun t=>⟨⟨⟨by omega,by omega⟩,by omega,by simp;omega⟩,by omega⟩
 have rm: ∀t:a0c,room (s.2.length+([t]:List a0c).length)=true:=fun t=>a0v (by simp;omega)
 iterate 4 refine tI (fun _=>tB (p:=fun _=>True) (tY (rm _) (tR trivial)) (fun _ _=>tR (step _))) (fun _=> ?_)
 refine tJ (tB (y0d hl ⟨g0,g1⟩ (by omega)) (fun y hy=>tI (fun _=> ?_) (fun _=>tB (o0L _) (fun _ _=>tI (fun _=>tR ⟨⟨g0,g1⟩,g2,g3⟩) (fun _=>tY (rm _) (tR (tR (step _))))))))
 exact tS (v0O hl ⟨g0,g1⟩ hlt g3) (fun a ha=>tR ⟨⟨ha.1,by have:=ha.2.1;simp only;omega,ha.2.2⟩,by have:=ha.2.1;have:=ha.1.2;simp only;omega⟩) (fun a=>tR trivial)
theorem t0G {w i:Int} (h:ra l i)(ho:0≤w∧w≤1) {x8 x9 x10 x11 x12 x13 x14 x15 x16 x17 x18 x19 x20 x21} :Tot (b0V w l i b m p k d x8 x9 x10 x11 x12 x13 x14 x15 x16 x17 x18 x19 x20 x21) (fun r=>r=true→i+w<l.length):=by
 unfold b0V
 refine tB (p:=fun r=>r=true→i+w<l.length) (tB (y0d hl h ho) (fun y hy=> ?_)) (fun _ h=>tR h)
 refine tI (fun e=>tR (fun _=>hy e)) (fun _=>tI (fun _=>tB (y0d hl h ho) (fun y hy=>tR hy)) (fun _=>tR (fun h=>by cases h)))
theorem u0U {w i:Int} (h:ra l i) {x8 x9 x10 x11 x12 x13 x14 x15 x16 x17 x18 x19 x20 x21} :Tot (b0W w l i b m p k d x8 x9 x10 x11 x12 x13 x14 x15 x16 x17 x18 x19 x20 x21) (fun r=>r=true→i<l.length):=by
 unfold b0W
 refine tB (p:=fun r=>r=true→i<l.length) ?_ (fun _ h=>tR h)
 refine tI (fun _=>tB (y0d hl h (by omega)) (fun y hy=>tI (fun e=>tB (t0G hl h (by omega)) (fun z _=>tR (fun _=> ?_))) (fun _=>tR (fun h=>by cases h)))) (fun _=>tR (fun h=>by cases h))
 have:=hy e
 omega
theorem u0W {w v i:Int} (h:ra l i) {x9 x10 x11 x12 x13 x14 x15 x16 x17 x18 x19 x20 x21 x22} :Tot (b0l w v l i b m p k d x9 x10 x11 x12 x13 x14 x15 x16 x17 x18 x19 x20 x21 x22) (fun _=>True):=by
 unfold b0l
 refine tJ (tB (p:=fun _=>True) (tI (fun _=>tR trivial) (fun _=>tB (u0U hl h) (fun _ _=>tR trivial))) (fun _ _=>tI (fun _=>tR trivial) (fun _=>tR (show Tot _ _ from ?_))))
 exact tJ (tB (p:=fun _=>True) (tI (fun _=>tR trivial) (fun _=>tR trivial)) (fun _ _=>tI (fun _=>tR trivial) (fun _=>tR (tR trivial))))
theorem v0R {i:Int} (h:ra l i) {x7 x8 x9 x10 x11 x12 x13 x14 x15 x16 x17 x18 x19 x20} :Tot (b0q l i b m p k d x7 x8 x9 x10 x11 x12 x13 x14 x15 x16 x17 x18 x19 x20) (s0o fun r=>ra l r.1∧i≤r.1):=by
 unfold b0q
 refine tJ (tL (fun s:Int×Int×Int×Int×Int×Int=>ra l s.2.2.1∧i≤s.2.2.1) (fun s=>((l.length:Int)-s.2.2.1).toNat) ⟨h,ag _⟩ (by have:=h.1;simp only;omega) (fun s hs=> ?_))
 refine tJ (tB (p:=fun r=>r=true→s.2.2.1<l.length) (tB (t0G hl hs.1 (by omega)) (fun y hy=>tI (fun e=>tR (fun _=>by have:=hy e;omega)) (fun _=>tB (u0U hl hs.1) (fun y hy=>tR hy)))) (fun r hr=>tI (fun e=>tR (show Tot _ _ from ?_)) (fun _=>tR (tJ (tI (fun _=>tR trivial) (fun _=>tR (show Tot _ _ from tI (fun _=>tR hs) (fun _=>tI (fun _=>tR hs) (fun _=>tR hs)))))))))
 have hlt:=hr e
 refine tB (u0M hl hs.1) (fun y hy=> ?_)
 obtain⟨⟨g0,g1⟩,g2⟩:=hs
 rcases hy with⟨e1,e2,e3⟩|⟨e1,e2⟩
 ·rw[e1,e2]
  exact tR ⟨⟨⟨by simp only;omega,by simp only;omega⟩,by simp only;omega⟩,by simp only;omega⟩
 ·rw[e1,e2]
  refine tB (p:=fun t:Int×Int×Int=>t.1=s.2.2.1+1) (tB (u0M hl ⟨g0,g1⟩) (fun z hz=> ?_)) (fun t ht=> ?_)
  ·rcases hz with⟨e1,e2,e3⟩|⟨e1,e2⟩
   ·rw[e1,e2];exact tR rfl
   ·rw[e1,e2,w64 (n:=s.2.2.1+1) (by omega) (by omega)];exact tR rfl
  ·rw[ht]
   refine tB (u0W hl ⟨by omega,by omega⟩) (fun y _=>tM (fun a _=>tR ⟨⟨⟨by simp only;omega,by simp only;omega⟩,by simp only;omega⟩,by simp only;omega⟩) (fun a _=>tR trivial))
theorem s0r {i:Int} (h:ra l i) {x7 x8 x9 x10 x11 x12 x13 x14 x15 x16 x17 x18 x19 x20} :Tot (b0f l i b m p k d x7 x8 x9 x10 x11 x12 x13 x14 x15 x16 x17 x18 x19 x20) (s0o fun r=>ra l r.1∧i≤r.1):=by
 unfold b0f
 refine tB (s0u hl h) (fun y hy=>tI (fun _=>tR hy) (fun _=>tB (p0q hl hy.1) (fun z hz=>tB (p0q hl hz.1) (fun w hw=>tI (fun _=>tR trivial) (fun _=>tR ⟨hw.1, ?_⟩)))))
 have:=hy.2;have:=hz.2;have:=hw.2
 simp only;omega
theorem v0W {i:Int} (h:ra l i) {x7 x8 x9 x10 x11 x12 x13 x14 x15 x16 x17 x18 x19 x20} :Tot (b0r l i b m p k d x7 x8 x9 x10 x11 x12 x13 x14 x15 x16 x17 x18 x19 x20) (s0o fun r=>ra l r.1∧i≤r.1):=by
 unfold b0r
 refine tB (p0q hl h) (fun y hy=> ?_)
 refine tE (p:=fun s=>ra l s.1∧i≤s.1) (tI (fun _=>tB (p0q hl hy.1) (fun z hz=>tR ⟨hz.1,bw hy.2 hz.2⟩)) (fun _=>tS (v0R hl hy.1) (fun a ha=>tS (s0r hl ha.1) (fun c hc=>tR ⟨hc.1,bw hy.2 (bw ha.2 hc.2)⟩) (fun c=>tR trivial)) (fun a=>tR trivial))) (fun s hs=> ?_)
 refine tB (s0u hl hs.1) (fun z hz=>tI (fun _=>tR ⟨hz.1,bw hs.2 hz.2⟩) (fun _=>tB (s0u hl hz.1) (fun u hu=>tB (p0q hl hu.1) (fun v hv=>tI (fun _=>tR trivial) (fun _=>tR ⟨hv.1,bw hs.2 (bw hz.2 (bw hu.2 hv.2))⟩)))))
theorem s0k {q:List Int} {i:Int} (hq:q.length≤100000)(h:ra l i) {x8 x9 x10 x11 x12 x13 x14 x15 x16 x17 x18 x19 x20 x21 x22} :Tot (b0d q l i b m p k d x8 x9 x10 x11 x12 x13 x14 x15 x16 x17 x18 x19 x20 x21 x22) (s0o fun r=>ra l r.1∧r.2.1.length≤l.length∧r.2.2.length≤l.length):=by
 unfold b0d
 refine tS (o0y hl h) (fun a ha=>tJ (tW (fun s:Int×Int=>s.1) q.length (fun s=>ra l s.2) (by omega) ⟨ha.1,ag _,by simp⟩ (fun s hs g0 g1=> ?_) (fun s hs e=> ?_))) (fun a=>tR trivial)
 ·rw[dT g1]
  refine tJ (tY (a0r g0 g1) (tB (s0u hl hs) (fun y hy=>tI (fun _=>tR trivial) (fun _=>tR (tR ⟨hy.1,w64 (by omega) (by omega)⟩)))))
 ·rw[dF (show¬s.1<(q.length:Int) by omega)]
  refine tR (tS (o0y hl hs) (fun c hc=>tR ⟨hc.1, ?_, ?_⟩) (fun c=>tR trivial))
  ·have:=ha.2.2;have:=ha.1.2;simp only;omega
  ·have:=hc.2.2;have:=hc.1.2;simp only;omega
end
def o0B(x:d0b)(n:Nat):Prop:=x.r_.length≤n∧x.q_.length≤n∧x.B_.length≤n∧x.E_.length≤n
theorem x0e(l:List Int)(a b:Int):(cut l a b).length≤l.length:=by unfold cut;simp;omega
theorem t0H {l:List Int} (hl:l.length≤100000) {i b m p k d:Int} (h:ra l i):Tot (b0k l i b m p k d) (s0o fun r=>o0B r.1 l.length):=by
 unfold b0k
 refine tS (t0J hl h) (fun y4 h4=> ?_) (fun _=>tR trivial)
 refine tS (o0y hl h4.1) (fun y11 h11=> ?_) (fun _=>tR trivial)
 refine tE (p:=fun s:Int×Int×Int=>ra l s.1) (tI (fun _=>tS (w0P hl h11.1) (fun a ha=>tR ha.1) (fun _=>tR trivial)) (fun _=>tR h11.1)) (fun s hs=> ?_)
 refine tS (v0W hl hs) (fun y47 h47=> ?_) (fun _=>tR trivial)
 refine tY (i0a hs.1 h47.2 h47.1.2) ?_
 refine tS (w0P hl h47.1) (fun y55 h55=> ?_) (fun _=>tR trivial)
 refine tS (o0y hl h55.1) (fun y62 h62=> ?_) (fun _=>tR trivial)
 refine tE (p:=fun s:Int×Int×Int=>ra l s.1) (tI (fun _=>tS (z0n hl h62.1) (fun a ha=>tR ha.1) (fun _=>tR trivial)) (fun _=>tR h62.1)) (fun s2 hs2=> ?_)
 refine tE (p:=fun s:Int×List a0c×List a0c×Bool=>ra l s.1∧s.2.1.length≤l.length∧s.2.2.1.length≤l.length) (tB (s0u hl hs2) (fun y hy=>tI (fun _=>tS (s0k hl (aH (x0e ..) hl) hy.1) (fun a ha=>tR ha) (fun _=>tR trivial)) (fun _=>tR ⟨hy.1,by simp,by simp⟩))) (fun s3 hs3=> ?_)
 refine tE (p:=fun _=>True) (tI (fun _=>tR trivial) (fun _=>tR trivial)) (fun _ _=>tR ⟨?_, ?_,hs3.2.1,hs3.2.2⟩)
 ·have:=h11.2.2;have:=h11.1.2;simp only;omega
 ·have:=h62.2.2;have:=h62.1.2;simp only;omega
theorem z0i {l:List Int} (hl:l.length≤100000):Tot (k0x l) (fun r=>o0B r.1 l.length):=by
 unfold k0x
 refine tB (show Tot f0t (fun _=>True)from tR trivial) (fun _ _=>tS (t0H hl ⟨ag _,by omega⟩) (fun a ha=>tB (p:=fun _=>True) (by unfold f0Q;exact tR trivial) (fun _ _=>tR ha)) (fun a=>tB (p:=fun _=>True) (by unfold f0P;exact tR trivial) (fun _ _=>tR ?_)))
 exact⟨by simp,by simp,by simp,by simp⟩
/-! Bytes are read, patterns written: it answers. -/
theorem x0k(x:Int):Tot (f0H x) (fun n=>0≤n∧n≤4):=by
 unfold f0H
 refine tB (p:=fun _=>True) ?_ (fun y _=> ?_)
 ·unfold h0X
  refine tB (p:=fun _=>True) ?_ (fun _ _=>tR trivial)
  repeat' (first|exact tR trivial|refine tI (fun _=> ?_) (fun _=> ?_))
 ·repeat' (first|exact tR ⟨by omega,by omega⟩|refine tI (fun _=> ?_) (fun _=> ?_))
theorem y0k {l:List Int} (h0:0<l.length)(hl:l.length≤100000):Tot (f0p l) (fun r=>0≤r.2∧r.2≤l.length):=by
 unfold f0p
 have i0:inR 0 l.length=true:=a0r (ag _) (by omega)
 refine tY i0 (tB (p:=fun n=>0≤n∧n≤4) ?_ (fun y hy=> ?_))
 ·unfold e0A
  repeat' (first|exact tR ⟨by omega,by omega⟩|refine tI (fun _=> ?_) (fun _=> ?_))
 refine tJ (tB (p:=fun r=>r=false→1≤y∧y≤l.length) (tI (fun _=>tR (fun h=>by cases h)) (fun e=>tR (fun h=> ?_))) (fun r hr=>tI (fun _=>tR ⟨ag _,by simp only;omega⟩) (fun e=>tR (show Tot _ _ from ?_))))
 ·have:=dFF e;have:=dFF h;omega
 obtain⟨y1,y2⟩:=hr e
 refine tY i0 (tB (p:=fun _=>True) ?_ (fun m _=> ?_))
 ·unfold k0m
  repeat' (first|exact tR trivial|refine tI (fun _=> ?_) (fun _=> ?_))
 have hc:(cut l 1 y).length≤l.length:=x0e ..
 refine tJ (tY (i0a (by omega) y1 y2) (tW (fun s:Int×Int=>s.2) (cut l 1 y).length (fun _=>True) (by omega) ⟨trivial,ag _,by simp⟩ (fun s _ g0 g1=> ?_) (fun s _ e=> ?_)))
 ·refine tY (dT g1)<|tY (a0r g0 g1) (tI (fun _=>tR ⟨ag _,by simp only;omega⟩) (fun _=>tR ⟨trivial,w64 (by omega) (by omega)⟩))
 ·rw[dF (show¬s.2<((cut l 1 y).length:Int) by omega)]
  exact tR (tB (x0k _) (fun z hz=>tI (fun _=>tR ⟨ag _,by simp only;omega⟩) (fun _=>tR ⟨by simp only;omega,y2⟩)))
theorem r0C {l:List Int} (hl:l.length≤100000):Tot (d0y l) (fun r=>r.1.length≤l.length):=by
 unfold d0y
 refine tJ (tL (fun s:Int×List Int=>ra l s.1∧(s.2.length:Int)≤s.1) (fun s=>((l.length:Int)-s.1).toNat) ⟨⟨ag _,by simp only;omega⟩,by simp⟩ (by simp only;omega) (fun s hs=> ?_))
 obtain⟨⟨g0,g1⟩,g2⟩:=hs
 refine tI (fun hlt=> ?_) (fun _=>tR (tR (by simp only;omega)))
 have hlt:=dTT hlt
 have hc:((cut l s.1 (l.length:Int)).length:Int)=(l.length:Int)-s.1:=by unfold cut;simp;omega
 refine tY (i0a g0 g1 (by omega)) (tB (y0k (by omega) (by omega)) (fun y hy=>tI (fun _=>tR (show([]:List Int).length≤_ by simp)) (fun hn=>tY (a0v (by simp;omega)) (tR ?_))))
 have hn:=dFF hn
 rw[w64 (n:=s.1+y.2) (by omega) (by omega)]
 exact⟨⟨⟨by simp only;omega,by simp only;omega⟩,by simp;omega⟩,by simp only;omega⟩
theorem t0I {t:List UInt8} (ht:t.length≤100000):Tot (h0l t) (fun r=>o0B r.1 120):=by
 have z: ∀a c:Int,Tot (some ((⟨([]:List a0c),([]:List a0c),([]:List a0c),([]:List a0c),false,0,0,0,0,0,0,0,0,0,false,0,0⟩:d0b),a,c)) (fun r:d0b×Int×Int=>o0B r.1 120):=fun a c=>tR ⟨by simp,by simp,by simp,by simp⟩
 unfold h0l
 refine tB (r0C (by rw[a0K];exact ht)) (fun y hy=>tI (fun _=>z _ _) (fun _=>tI (fun _=>z _ _) (fun h=> ?_)))
 have h:=dFF h
 refine tB (z0i (by rw[a0K]at hy;omega)) (fun q hq=>tI (fun _=>z _ _) (fun _=>tI (fun _=>z _ _) (fun _=>tR ?_)))
 obtain⟨q1,q2,q3,q4⟩:=hq
 exact⟨by simp only;omega,by simp only;omega,by simp only;omega,by simp only;omega⟩
theorem o0M(n:Int):Tot (f0O n) (fun r=>0≤r∧r≤121):=by
 unfold f0O v0Y A0u
 refine tR ?_
 split<;>split<;>omega
theorem k0u {o:List Int} {c n:Int} (ho:o.length≤100000):Tot (d0Z o c n) (fun r=>r.length≤o.length+121):=by
 unfold d0Z
 refine tB (p:=fun r:List Int=>r.length≤o.length+121) (tB (o0M n) (fun y hy=>tL (fun s:Int×List Int=>0≤s.1∧s.1≤y∧(s.2.length:Int)≤o.length+s.1) (fun s=>(y-s.1).toNat) ⟨ag _,hy.1,by simp⟩ (by simp only;omega) (fun s hs=> ?_))) (fun _ h=>tR h)
 refine tI (fun hlt=>tY (a0v (by simp;omega)) (tR ?_)) (fun _=>tR (by simp only;omega))
 have hlt:=dTT hlt
 rw[w64 (n:=s.1+1) (by omega) (by omega)]
 exact⟨⟨by simp only;omega,by simp only;omega,by simp;omega⟩,by simp only;omega⟩
theorem u0v(p:d0b)(n:Int):Tot (g0n p n) (fun _=>True):=by
 unfold g0n
 refine tJ (tB (p:=fun _=>True) (tI (fun _=>tR trivial) (fun _=>tR trivial)) (fun _ _=>tI (fun _=>tR trivial) (fun _=>tR (show Tot _ _ from tB (p:=fun _=>True) ?_ (fun _ _=>tR trivial)))))
 refine tI (fun _=>tR trivial) (fun _=>tI (fun h=>tY ?_ (tR trivial)) (fun _=>tR trivial))
 have:=dTT h
 unfold nz
 rw[dF (by omega)];rfl
theorem s0J {o:List Int} {p:d0b} (ho:o.length≤10000):Tot (h0j o p) (fun r=>r.length≤o.length+500):=by
 unfold h0j
 refine tB (o0M _) (fun y hy=>tB (o0M _) (fun z hz=> ?_))
 rw[w64 (n:=y+z) (by omega) (by omega)]
 refine tB (p:=fun r:List Int=>r.length≤o.length+500) (tL (fun s:Int×List Int=>0≤s.1∧s.1≤y+z∧(s.2.length:Int)≤o.length+s.1+s.1) (fun s=>(y+z-s.1).toNat) ⟨ag _,by simp only;omega,by simp⟩ (by simp only;omega) (fun s hs=> ?_)) (fun _ h=>tR h)
 refine tI (fun hlt=> ?_) (fun _=>tR (by simp only;omega))
 have hlt:=dTT hlt
 rw[w64 (n:=s.1+1) (by omega) (by omega)]
 refine tB (p:=fun t:List Int=>(t.length:Int)≤s.2.length+2) (tB (p:=fun t:List Int=>(t.length:Int)≤s.2.length+1) (tB (p:=fun _=>True) (tI (fun _=>tB (u0v _ _) (fun _ _=>tR trivial)) (fun _=>tR trivial)) (fun _ _=>tI (fun _=>tY (a0v (by simp;omega)) (tR (by simp))) (fun _=>tR (by omega)))) (fun t ht=>tI (fun _=>tY (a0v (by simp;omega)) (tR (by simp;omega))) (fun _=>tY (a0v (by simp;omega)) (tR (by simp;omega))))) (fun t ht=>tR ?_)
 exact⟨⟨by simp only;omega,by simp only;omega,by simp only;omega⟩,by simp only;omega⟩
theorem s0N(p:d0b):Tot (h0k p) (fun r=>r.length≤2000):=by
 unfold h0k
 refine tB (p:=fun r:List Int=>r.length≤1000) (tB (p:=fun _=>True) (tI (fun _=>tR trivial) (fun _=>tR trivial)) (fun _ _=>tI (fun _=> ?_) (fun _=> ?_))) (fun r hr=>tB (p:=fun r:List Int=>r.length≤2000) ?_ (fun _ h=>tR h))
 ·exact tB (k0u (by simp)) (fun a ha=>tB (o0M _) (fun _ _=>tB (k0u (by simp at ha;omega)) (fun c hc=>tR (by simp at ha;omega))))
 ·refine tB (s0J (by simp)) (fun a ha=>tI (fun _=>tY (a0v (by simp at ha⊢;omega)) (tB (k0u (by simp at ha⊢;omega)) (fun c hc=>tB (o0M _) (fun _ _=>tB (k0u (by simp at ha hc⊢;omega)) (fun e he=>tR (by simp at ha hc he;omega)))))) (fun _=>tR (by simp at ha;omega)))
 ·refine tI (fun _=>tY (a0v (by simp;omega)) (tB (p:=fun t:List Int=>t.length≤r.length+2) (tI (fun _=>tY (a0v (by simp;omega)) (tR (by simp))) (fun _=>tR (by simp))) (fun t ht=>tB (k0u (by omega)) (fun u hu=>tR (by omega))))) (fun _=>tR (by omega))
theorem q0Z {o:List Int} {p:d0b} {w:Int} (ho:o.length≤100000):Tot (i0E o p w) (fun r=>r.length≤o.length+2):=by
 unfold i0E
 exact tI (fun _=>tR (by omega)) (fun _=>tY (a0v (by simp;omega)) (tR (by simp)))
theorem l0g {E X:Type} [DecidableEq X] {f:E→Option (Unit⊕X)} {p:X→Prop} (hf: ∀e,f e=some (.inl ())∨ ∃x,f e=some (.inr x)∧p x): ∀ms:List E,(∀a∈ms,∀b∈ms,f a≠some (.inl ())→f b≠some (.inl ())→f a=f b)→Tot (i0K f ms) (fun o=>match o with| .inl _=> ∀e∈ms,f e=some (.inl ())| .inr x=>p x∧ ∃e∈ms,f e=some (.inr x))
 | [],_=>tR (fun e h=>by cases h)
 |e::ms,h=>by
  obtain⟨o,ho,hp⟩:=l0g hf ms (fun a ha b hb=>h a (aj _ ha) b (aj _ hb))
  simp only[i0K,ho]
  rcases hf e with he|⟨x,he,hx⟩
  ·rw[he]
   cases o with
   |inl u=>
    refine tR (fun a ha=> ?_)
    rcases aN.1 ha with rfl|ha
    ·exact he
    ·exact hp a ha
   |inr y=>exact tR ⟨hp.1,hp.2.imp fun a ha=>⟨aj _ ha.1,ha.2⟩⟩
  ·rw[he]
   cases o with
   |inl u=>exact tR ⟨hx,e,ap ..,he⟩
   |inr y=>
    obtain⟨a,ha,hy⟩:=hp.2
    have:=h e (ap ..) a (aj _ ha) (by rw[he];simp) (by rw[hy];simp)
    rw[he,hy]at this
    obtain rfl:=aA (aC this)
    simp only[if_true]
    exact tR ⟨hx,e,ap ..,he⟩
theorem x0J(t:a0c):Tot (i0D t) (fun r=>r.length≤2):=by
 unfold i0D
 refine tI (fun _=>tI (fun _=>tR (by simp)) (fun _=>tR (by simp))) (fun _=> ?_)
 refine tJ (Tot.mono (p:=fun x=>match x with| .inl _=>True| .inr r=>(r:List Int).length≤2) ?_ (fun x hx=> ?_))
 ·show Tot (Option.bind _ _) _
  refine tJ (Tot.mono (l0g (p:=fun x:Unit⊕List Int=>match x with| .inl _=>False| .inr r=>r.length≤2) (fun e=> ?_) _ (fun a ha c hc h1 h2=> ?_)) (fun x hx=> ?_))
  ·by_cases h:e.2=t.L_
   ·rw[dT h];exact .inr ⟨_,rfl,by simp⟩
   ·rw[dF h];exact .inl rfl
  ·have f1:a.2=t.L_:=by
    by_cases h:a.2=t.L_
    ·exact h
    ·rw[dF h]at h1;exact absurd rfl h1
   have f2:c.2=t.L_:=by
    by_cases h:c.2=t.L_
    ·exact h
    ·rw[dF h]at h2;exact absurd rfl h2
   have:a=c:=by
    have key: ∀a∈([(45,1),(43,2),(37,3),(164,4)]:List (Int×Int)),∀c∈([(45,1),(43,2),(37,3),(164,4)]:List (Int×Int)),a.2=c.2→a=c:=by decide+kernel
    exact key a ha c hc (f1.trans f2.symm)
   rw[this]
  ·match x,hx with
   | .inl _,_=>exact tR trivial
   | .inr (.inr r),h=>exact h.1
 ·match x,hx with
  | .inl _,_=>exact tR (by simp)
  | .inr r,h=>exact h
theorem l0M {o:List Int} {q:List a0c} (ho:o.length≤50000)(hq:q.length≤1000):Tot (f0u o q) (fun r=>r.length≤o.length+3001):=by
 unfold f0u
 refine tB (p:=fun s:Bool×List Int=>s.2.length≤o.length+3000) (tW (fun s:Bool×Int×List Int=>s.2.1) q.length (fun s=>(s.2.2.length:Int)≤o.length+3*s.2.1) (by omega) ⟨by simp,ag _,by simp⟩ (fun s hs g0 g1=> ?_) (fun s hs e=> ?_)) (fun s hs=>tB (p:=fun r:List Int=>r.length≤o.length+3001) (tI (fun _=>tY (a0v (by simp;omega)) (tR (by simp;omega))) (fun _=>tR (by omega))) (fun _ h=>tR h))
 ·rw[dT g1,w64 (n:=s.2.1+1) (by omega) (by omega)]
  refine tB (p:=fun r:Bool×List Int=>(r.2.length:Int)≤s.2.2.length+3) (tY (a0r g0 g1) (tB (p:=fun _=>True) (tI (fun _=>tR trivial) (fun _=>tR trivial)) (fun u _=>tB (p:=fun _=>True) ?_ (fun v _=>tB (p:=fun r:Bool×List Int=>(r.2.length:Int)≤s.2.2.length+1) (tI (fun _=>tY (a0v (by simp;omega)) (tR (by simp))) (fun _=>tR (by simp only;omega))) (fun w hw=>tB (x0J _) (fun z hz=>tY (a0v (by omega)) (tR (by simp;omega)))))))) (fun r hr=>tR ⟨?_,rfl⟩)
  ·repeat' (first|exact tR trivial|refine tI (fun _=> ?_) (fun _=> ?_)|exact tB (o0L _) (fun _ _=>tR trivial))
  ·simp only;omega
 ·rw[dF (show¬s.2.1<(q.length:Int) by omega)]
  exact tR (by simp only;omega)
theorem r0M {p:d0b} (hp:o0B p 1000):Tot (g0l p) (fun r=>r.length≤20000):=by
 unfold g0l
 obtain⟨p1,p2,p3,p4⟩:=hp
 refine tB (s0N p) (fun n hn=>tB (q0Z (by simp)) (fun a ha=> ?_))
 simp only[az]at ha
 refine tB (l0M (by omega) p1) (fun b hb=>tB (q0Z (by omega)) (fun c hc=>tY (a0v (by omega)) ?_))
 refine tB (q0Z (by simp;omega)) (fun d hd=> ?_)
 simp only[ao]at hd
 refine tB (l0M (by omega) p2) (fun e he=>tB (q0Z (by omega)) (fun f hf=>tB (p:=fun r:List Int=>r.length≤20000) (tI (fun _=>tY (a0v (by simp;omega)) (tB (l0M (by simp;omega) p3) (fun g hg=> ?_))) (fun _=>tR (by omega))) (fun _ h=>tR h)))
 simp only[ao,ak,az]at hg
 exact tY (a0v (by omega)) (tB (l0M (by simp;omega) p4) (fun i hi=>tR (by simp only[ao]at hi;omega)))
theorem u0L(r:Int):(Utf8.encode r).data.toList.length≤4:=by
 unfold Utf8.encode
 simp only
 repeat' (first|(split)|simp)
theorem o0P: ∀l:List Int,(k0s l).length≤4*l.length
 | []=>by simp[k0s]
 |x::l=>by
  have h1:=u0L x
  have h2:=o0P l
  have:k0s (x::l)=(Utf8.encode x).data.toList++k0s l:=rfl
  rw[this,ao,ak];omega
theorem v0q {x y:List a0c} (hx:x.length≤1000):Tot (g0K x y) (fun _=>True):=by
 unfold g0K
 refine tI (fun _=>tR trivial) (fun h=>tJ (tW (fun s:Int=>s) x.length (fun _=>True) (by omega) ⟨trivial,ag _,by simp⟩ (fun s _ g0 g1=> ?_) (fun s _ e=> ?_)))
 ·have h:=dFF h
  exact tY (dT g1)<|tY (a0r g0 g1) (tY (a0r g0 (by omega)) (tI (fun _=>tR trivial) (fun _=>tR ⟨trivial,w64 (by omega) (by omega)⟩)))
 ·rw[dF (show¬s<(x.length:Int) by omega)]
  exact tR (tR trivial)
theorem z0d {x y:d0b} (hx:o0B x 1000):Tot (k0y x y) (fun _=>True):=by
 unfold k0y g0m
 obtain⟨p1,p2,p3,p4⟩:=hx
 refine tB (p:=fun _=>True) (show Tot (bif _ then _ else _) _ from ?_) (fun _ _=>tR trivial)
 refine tI (fun _=>tI (fun _=>tI (fun _=>tB (v0q p1) (fun _ _=>tI (fun _=>tB (v0q p2) (fun _ _=>tI (fun _=>tB (v0q p3) (fun _ _=>tI (fun _=>tB (v0q p4) (fun _ _=>tR trivial)) (fun _=>tR trivial))) (fun _=>tR trivial))) (fun _=>tR trivial))) (fun _=>tR trivial)) (fun _=>tR trivial)) (fun _=>tR trivial)
theorem x0A {p:d0b} (hp:o0B p 1000):Tot (i0F p) (fun _=>True):=by
 unfold i0F
 refine tB (p:=fun t:List UInt8=>t.length≤100000) (by
  unfold l0O
  refine tB (r0M hp) (fun r hr=>tR ?_)
  have:=o0P r;omega) (fun t ht=>tB (t0I ht) (fun q _=>tB (p:=fun _=>True) (tI (fun _=>tB (z0d hp) (fun _ _=>tR trivial)) (fun _=>tR trivial)) (fun _ _=>tR trivial)))
/-! Rules are read, and written: it answers. -/
def inI(n:Int):Prop:= -9223372036854775808≤n∧n≤9223372036854775807
theorem v0l(n:Int):inI (IntKind.wrap .i64 n):=by
 have h:IntKind.wrap .i64 n=if n%18446744073709551616≥9223372036854775808 then n%18446744073709551616-18446744073709551616 else n%18446744073709551616:=by
  unfold IntKind.wrap
  simp[IntKind.signed,IntKind.bits]
 unfold inI
 rw[h]
 split<;>omega
theorem B0g:inI 0:=⟨by omega,by omega⟩
def rb(t:List UInt8)(i:Int):Prop:=0≤i∧i≤(t.length:Int)
def A0d(k:Int→Option Bool)(x0:List UInt8)(x1:Int):Option ((List UInt8)×Int):=
 (Option.bind (a0l (fun(s1:Int)=>(Option.bind (Option.bind (bif(decide (s1<(x0.length:Int)))then(bif inR s1 x0.length then(some ((decide (((((x0.getD (s1:Int).toNat 0).toNat:Nat):Int))=32))))else none)else(some false)) fun(s2:Bool)=>(bif s2 then(some (.inl ()))else(some (.inr (.inr s1))))) (a0j fun(s3:Unit)=>(some (.inl (IntKind.wrap .i64 (s1+1))))))) big x1) fun(s4:Int)=>(Option.bind (a0l (fun(s5:Int)=>(Option.bind (Option.bind (bif(decide (s5<(x0.length:Int)))then(bif inR s5 x0.length then(Option.bind (k ((((x0.getD (s5:Int).toNat 0).toNat:Nat):Int))) fun y0=>(some y0))else none)else(some false)) fun(s6:Bool)=>(bif s6 then(some (.inl ()))else(some (.inr (.inr s5))))) (a0j fun(s7:Unit)=>(some (.inl (IntKind.wrap .i64 (s5+1))))))) big s4) fun(s8:Int)=>(bif inS s4 s8 x0.length then(some ((cut x0 s4 s8),s4))else none)))
section
variable {t : List UInt8} (ht : t.length ≤ 400)
include ht
theorem w0L {k:Int→Option Bool} (hk: ∀x,Tot (k x) (fun _=>True)) {i:Int} (h:rb t i):Tot (a0l (fun(s5:Int)=>(Option.bind (Option.bind (bif(decide (s5<(t.length:Int)))then(bif inR s5 t.length then(k ((((t.getD (s5:Int).toNat 0).toNat:Nat):Int)))else none)else(some false)) fun(s6:Bool)=>(bif s6 then(some (.inl ()))else(some (.inr (.inr s5))))) (a0j fun(s7:Unit)=>(some (.inl (IntKind.wrap .i64 (s5+1))))))) big i) (fun r=>rb t r∧i≤r):=by
 refine tL (fun s=>rb t s∧i≤s) (fun s=>((t.length:Int)-s).toNat) ⟨h,ag _⟩ (by have:=h.1;omega) (fun s hs=> ?_)
 obtain⟨⟨g0,g1⟩,g2⟩:=hs
 refine tJ (tB (p:=fun r=>r=true→s<t.length) (tI (fun e=>tY (a0r g0 (dTT e)) ((hk _).mono (fun _ _ _=>dTT e))) (fun _=>tR (fun h=>by cases h))) (fun r hr=>tI (fun e=>tR (show Tot _ _ from tR ?_)) (fun _=>tR ⟨⟨g0,g1⟩,g2⟩)))
 have:=hr e
 rw[w64 (n:=s+1) (by omega) (by omega)]
 exact⟨⟨⟨by omega,by omega⟩,by omega⟩,by omega⟩
theorem x0w {k:Int→Option Bool} (hk: ∀x,Tot (k x) (fun _=>True)) {i:Int} (h:rb t i):Tot (A0d k t i) (fun r=>rb t r.2∧i≤r.2∧r.2+r.1.length≤t.length):=by
 unfold A0d
 have hk2: ∀x,Tot (Option.bind (k x) fun y0=>some y0) (fun _=>True):=fun x=>tB (hk x) (fun _ _=>tR trivial)
 refine tB (w0L ht (k:=fun x=>some (decide (x=32))) (fun _=>tR trivial) h) (fun a ha=>tB (w0L ht hk2 ha.1) (fun b hb=>tY (i0a ha.1.1 hb.2 hb.1.2) (tR ⟨ha.1,ha.2, ?_⟩)))
 have h1:=ha.1.1;have h2:=hb.2;have h3:=hb.1.2
 unfold cut;simp;omega
theorem p0L {q:List UInt8} {i:Int} (h:rb t i)(hq:q.length≤3):Tot (a0y q t i) (fun r=>rb t r.2∧i≤r.2):=by
 unfold a0y
 refine tB (x0w ht (k:=c0J) (fun _=>tR trivial) h) (fun a ha=>tY (i0a ha.1.1 ha.1.2 (ag _)) (tB (p:=fun r=>r=true→a.2+q.length≤t.length) ?_ (fun y hy=>tI (fun _=>tR ⟨ha.1,ha.2.1⟩) (fun e=>tR ?_))))
 ·unfold c0s c0e
  refine tB (p:=fun r=>r=true→a.2+q.length≤t.length) (tB (p:=fun r=>r=true→a.2+q.length≤t.length) (tI (fun e=> ?_) (fun _=>tR (fun h=>by cases h))) (fun _ h=>tR h)) (fun _ h=>tR h)
  have e:=dTT e
  refine tY (i0a (ag _) (by omega) e) (tR (fun _=> ?_))
  have h1:=ha.1.1;have h2:=ha.1.2
  unfold cut at e;simp at e;omega
 ·have:=hy (by simpa using e)
  have h1:=ha.1.1;have h2:=ha.2.1
  rw[w64 (n:=a.2+q.length) (by omega) (by omega)]
  exact⟨⟨by simp only;omega,by simp only;omega⟩,by simp only;omega⟩
theorem s0K {i:Int} (h:rb t i):Tot (a0U t i) (fun r=>rb t r.2∧i≤r.2∧r.2+r.1.length≤t.length):=by
 unfold a0U
 refine tB (x0w ht (k:=b0G) (fun x=> ?_) h) (fun a ha=>tR ha)
 unfold b0G
 refine tB (p:=fun _=>True) ?_ (fun _ _=>tR trivial)
 repeat' (first|exact tR trivial|refine tI (fun _=> ?_) (fun _=> ?_))
theorem t0O {v i:Int} (h:rb t i):Tot (a0z v t i) (fun r=>rb t r.2.2∧i≤r.2.2∧inI r.1∧(r.2.1=true→i<r.2.2)):=by
 unfold a0z
 have z:=B0g
 refine tB (x0w ht (k:=b0o) (fun x=> ?_) h) (fun a ha=>tJ (tB (p:=fun r=>r=false→0<a.1.length) ?_ (fun r hr=>tI (fun _=>tR ⟨ha.1,ha.2.1,z,fun h=>by cases h⟩) (fun e=>tR (show Tot _ _ from ?_)))))
 ·unfold b0o
  exact tB (p:=fun _=>True) (tI (fun _=>tR trivial) (fun _=>tR trivial)) (fun _ _=>tR trivial)
 ·refine tI (fun _=>tR (fun h=>by cases h)) (fun e=> ?_)
  have e:=dFF e
  refine tI (fun _=>tR (fun h=>by cases h)) (fun _=>tI (fun _=>tY (a0r (ag _) (by omega)) (tR (fun _=>by omega))) (fun _=>tR (fun _=>by omega)))
 ·have:=hr e
  obtain⟨⟨h0,h1⟩,h2,h3⟩:=ha
  have hL:(a0k a.1).length=a.1.length:=a0K _
  refine tB (p:=inI) (tW (fun s:Int×Int=>s.2) (a0k a.1).length (fun s=>inI s.1) (by omega) ⟨z,ag _,by simp⟩ (fun s hs g0 g1=> ?_) (fun s hs e=> ?_)) (fun n hn=>tI (fun _=>tR ⟨⟨h0,h1⟩,h2,z,fun h=>by cases h⟩) (fun _=>tR ?_))
  ·exact tY (dT g1)<|tY (a0r g0 g1) (tR ⟨v0l _,w64 (by omega) (by omega)⟩)
  ·rw[dF (show¬s.2<((a0k a.1).length:Int) by omega)]
   exact tR hs
  ·have:=h.1
   rw[w64 (n:=a.2+a.1.length) (by omega) (by omega)]
   exact⟨⟨by simp only;omega,by simp only;omega⟩,by simp only;omega,hn,fun _=>by simp only;omega⟩
theorem z0o {i:Int} (h:rb t i) {x2 x3 x4} :Tot (b0c t i x2 x3 x4) (fun r=>r.1=true→rb t r.2.1∧i<r.2.1):=by
 unfold b0c
 refine tB (s0K ht h) (fun a ha=>tJ (tB (p:=fun r=>r=false→a.1.length=1) ?_ (fun r hr=>tI (fun _=>tR (fun h=>by cases h)) (fun e=>tR (show Tot _ _ from ?_)))))
 ·refine tI (fun _=>tR (fun h=>by cases h)) (fun e=>tB (p:=fun _=>True) ?_ (fun _ _=>tR (fun _=> ?_)))
  ·unfold d0t f0I d0V stringslite_IndexByte
   have e:(a.1.length:Int)=1:=by have:=dFF e;omega
   rw[dF (show¬(a.1.length:Int)=0 by omega),dT e]
   refine tB (p:=fun _=>True) (tB (p:=fun _=>True) (tB (p:=fun _=>True) (tR trivial) (fun _ _=>tI (fun _=>tR trivial) (fun _=>tY rfl (tY (a0r (ag _) (by omega)) (tR trivial))))) (fun _ _=>tR trivial)) (fun _ _=>tR trivial)
  ·have:=dFF e;omega
 ·have:=hr e
  obtain⟨⟨h0,h1⟩,h2,h3⟩:=ha
  refine tY (a0r (ag _) (by omega)) (tR (fun _=> ?_))
  rw[w64 (n:=a.2+1) (by omega) (by omega)]
  exact⟨⟨by simp only;omega,by simp only;omega⟩,by simp only;omega⟩
theorem z0w {i:Int} (h:rb t i) {x2 x4} :Tot (b0H t i x2 0 x4) (fun r=>rb t r.2.1∧i≤r.2.1∧inI r.2.2):=by
 unfold b0H
 exact tB (p0L ht h (by simp)) (fun a ha=>tI (fun _=>tR ⟨ha.1,ha.2,B0g⟩) (fun _=>tB (t0O ht ha.1) (fun c hc=>tR ⟨hc.1,bw ha.2 hc.2.1,hc.2.2.1⟩)))
theorem x0s {i:Int} (h:rb t i) {x2 x3 x4} :Tot (b0v t i x2 x3 x4) (fun r=>rb t r.2.1∧i≤r.2.1):=by
 unfold b0v
 exact tB (p0L ht h (by simp)) (fun a ha=>tI (fun _=>tR ha) (fun _=>tB (p0L ht ha.1 (by simp)) (fun c hc=>tR ⟨hc.1,bw ha.2 hc.2⟩)))
def x0z(l:List a0T):Prop:=l.length≤400∧ ∀x∈l,inI x.e_∧inI x.f_
theorem v0N {i:Int} (h:rb t i) {x2 x3 x4} :Tot (b0j t i x2 x3 x4) (fun r=>rb t r.2.1∧i≤r.2.1∧x0z r.2.2):=by
 unfold b0j
 refine tL (fun s:Int×List a0T=>rb t s.1∧i≤s.1∧(s.2.length:Int)≤s.1∧ ∀x∈s.2,inI x.e_∧inI x.f_) (fun s=>((t.length:Int)-s.1).toNat) ⟨h,ag _,by have:=h.1;simpa using this,by simp⟩ (by have:=h.1;simp only;omega) (fun s hs=> ?_)
 obtain⟨g1,g2,g3,g4⟩:=hs
 refine tB (t0O ht g1) (fun a ha=>tB (p:=fun r:Bool×Int×Int=>rb t r.2.2∧a.2.2≤r.2.2∧inI r.2.1∧(r.1=true→a.2.1=true)) ?_ (fun c hc=> ?_))
 ·refine tB (p:=fun r:Bool×Int=>rb t r.2∧a.2.2≤r.2∧(r.1=true→a.2.1=true)) (tI (fun e=>tB (p0L ht ha.1 (by simp)) (fun c hc=>tR ⟨hc.1,hc.2,fun _=>e⟩)) (fun _=>tR ⟨ha.1,ag _,fun h=>by cases h⟩)) (fun c hc=> ?_)
  exact tI (fun e=>tB (t0O ht hc.1) (fun d hd=>tR ⟨hd.1,bw hc.2.1 hd.2.1,hd.2.2.1,fun _=>hc.2.2 e⟩)) (fun _=>tR ⟨hc.1,hc.2.1,ha.2.2.1,id⟩)
 obtain⟨⟨c0,c1⟩,c2,c3,c4⟩:=hc
 have a2:=ha.2.1
 have hall: ∀x∈s.2++ [(⟨a.1,c.2.1⟩:a0T)],inI x.e_∧inI x.f_:=fun x hx=>by
  rcases ay.1 hx with hx|hx
  ·exact g4 x hx
  ·obtain rfl:=bn.1 hx
   exact⟨ha.2.2.1,c3⟩
 have g1':=g1.2
 refine tI (fun _=>tR ⟨⟨c0,c1⟩,by simp only;omega,by simp only;omega,g4⟩) (fun e=>tY (a0v (by simp;omega)) (tB (p0L ht ⟨c0,c1⟩ (by simp)) (fun d hd=> ?_)))
 have:=ha.2.2.2 (c4 (by simpa using e))
 obtain⟨⟨d0,d1⟩,d2⟩:=hd
 exact tI (fun _=>tR ⟨⟨d0,d1⟩,by simp only;omega,by simp;omega,hall⟩) (fun _=>tR ⟨⟨⟨d0,d1⟩,by simp only;omega,by simp;omega,hall⟩,by simp only;omega⟩)
def t0B(r:a0e):Prop:=inI r.v_∧x0z r.R_
theorem n0k {i:Int} (h:rb t i):Tot (a0N t i) (fun r=>r.2.1=true→rb t r.2.2∧i<r.2.2∧t0B r.1):=by
 unfold a0N
 refine tJ (tB (p:=fun s:Bool×Int×Int×Int×Bool×List a0T=>s.1=true→rb t s.2.1∧i<s.2.1∧inI s.2.2.2.1∧x0z s.2.2.2.2.2) ?_ (fun s hs=>tI (fun e=>tR (fun _=>⟨(hs e).1,(hs e).2.1,(hs e).2.2.1,(hs e).2.2.2⟩)) (fun _=>tR (show Tot _ _ from tR (fun h=>by cases h)))))
 refine tB (z0o ht h) (fun a ha=>tI (fun e=> ?_) (fun _=>tR (fun h=>by cases h)))
 have ha:=ha e
 refine tB (z0w ht ha.1) (fun c hc=>tI (fun _=>tB (x0s ht hc.1) (fun d hd=>tI (fun _=>tB (v0N ht hd.1) (fun f hf=>tR (fun _=>⟨hf.1, ?_,hc.2.2,hf.2.2⟩))) (fun _=>tR (fun h=>by cases h)))) (fun _=>tR (fun h=>by cases h)))
 exact Int.lt_of_lt_of_le ha.2 (bw hc.2.1 (bw hd.2 hf.2.1))
def t0s(l:List a0e):Prop:=l.length≤400∧ ∀r∈l,t0B r
def l0w(c:List (List a0e)):Prop:=c.length≤401∧ ∀l∈c,t0s l
theorem z0f:Tot (b0w t 0) (fun r=>l0w r.1):=by
 unfold b0w
 refine tJ (Tot.mono (p:=fun x=>match x with| .inl s=>(s.2.1.length:Int)≤400∧(∀l∈s.2.1,t0s l)∧t0s s.2.2| .inr r=>l0w r.1) (tL (fun s:Int×List (List a0e)×List a0e=>rb t s.1∧(s.2.1.length:Int)≤s.1∧(s.2.2.length:Int)≤s.1∧(∀l∈s.2.1,t0s l)∧ ∀r∈s.2.2,t0B r) (fun s=>((t.length:Int)-s.1).toNat) ⟨⟨ag _,by simp only;omega⟩,by simp,by simp,by simp,by simp⟩ (by simp only;omega) (fun s hs=> ?_)) (fun x hx=> ?_))
 ·obtain⟨g1,g2,g3,g4,g5⟩:=hs
  refine tB (n0k ht g1) (fun a ha=>tI (fun _=>tR ⟨by simp,by simp⟩) (fun e=> ?_))
  obtain⟨a1,a2,a3⟩:=ha (by simpa using e)
  have g1':=g1.2;have a1':=a1.2
  have hall: ∀r∈s.2.2++ [a.1],t0B r:=fun x hx=>by
   rcases ay.1 hx with hx|hx
   ·exact g5 x hx
   ·obtain rfl:=bn.1 hx
    exact a3
  have hrow:t0s (s.2.2++ [a.1]):=⟨by simp;omega,hall⟩
  refine tY (a0v (by simp;omega)) (tB (s0K ht a1) (fun w hw=> ?_))
  obtain⟨⟨w0,w1⟩,w2,w3⟩:=hw
  have ew:IntKind.wrap .i64 (w.2+w.1.length)=w.2+w.1.length:=w64 (by omega) (by omega)
  rw[ew]
  refine tI (fun _=>tR ⟨⟨⟨by simp only;omega,by simp only;omega⟩,by simp only;omega,by simp;omega,g4,hall⟩,by simp only;omega⟩) (fun _=>tI (fun _=>tY (a0v (by simp;omega)) (tR ⟨⟨⟨by simp only;omega,by simp only;omega⟩,by simp;omega,by simp;omega,fun l hl=> ?_,by simp⟩,by simp only;omega⟩)) (fun _=>tR ⟨by simp only;omega,g4,hrow⟩))
  rcases ay.1 hl with hl|hl
  ·exact g4 l hl
  ·obtain rfl:=bn.1 hl
   exact hrow
 ·cases x with
  |inr r=>exact hx
  |inl s=>
   obtain⟨s1,s2,s3⟩:=hx
   refine show Tot _ _ from tY (a0v (by simp;omega)) (tR ⟨by simp;omega,fun l hl=> ?_⟩)
   rcases ay.1 hl with hl|hl
   ·exact s2 l hl
   ·obtain rfl:=bn.1 hl
    exact s3
end
theorem d0A {T:Type} [Inhabited T] {l:List T} {i:Int} (h0:0≤i)(h1:i<l.length):nth l i∈l:=by
 obtain⟨k,rfl⟩:=bA h0
 rw[g0o (by omega)];exact bW _
theorem s0P {c:List (List a0e)} (hc:l0w c):Tot (d0l c) (fun _=>True):=by
 unfold d0l
 have hn:=hc.1
 refine tJ (tW (fun s:Int×Int=>s.2) c.length (fun _=>True) (by omega) ⟨trivial,ag _,by simp⟩ (fun s _ g0 g1=> ?_) (fun s _ e=> ?_))
 ·rw[dT g1]
  have hm:=(hc.2 _ (d0A g0 g1)).1
  refine tJ (tY (a0r g0 g1) (tW (fun s:Int=>s) (nth c s.2).length (fun _=>True) (by omega) ⟨trivial,ag _,by simp⟩ (fun u _ f0 f1=> ?_) (fun u _ e=> ?_)))
  ·exact tY (dT f1)<|tY (a0r f0 f1) (tI (fun _=>tR trivial) (fun _=>tR ⟨trivial,w64 (by omega) (by omega)⟩))
  ·rw[dF (show¬u<((nth c s.2).length:Int) by omega)]
   exact tR (tR ⟨trivial,w64 (by omega) (by omega)⟩)
 ·rw[dF (show¬s.2<(c.length:Int) by omega)]
  exact tR (tR trivial)
theorem r0f(t:List UInt8):Tot (c0D t) (fun r=>l0w r.1):=by
 unfold c0D
 have z:l0w []:=⟨by simp,by simp⟩
 refine tI (fun _=>tR z) (fun e=> ?_)
 have e:=dFF e
 exact tB (z0f (by omega)) (fun a ha=>tI (fun _=>tR z) (fun _=>tB (s0P ha) (fun _ _=>tI (fun _=>tR z) (fun _=>tR ha))))
/-! Decimal numerals: what the library's functions lay. -/
def dgs(u:Nat):Nat→List Int
 |0=> []
 |n+1=>dgs (u/10) n++ [((48+u%10:Nat):Int)]
theorem u0N: ∀(n u:Nat),(dgs u n).length=n
 |0,u=>rfl
 |n+1,u=>by simp[dgs,u0N n]
theorem y0v(u n:Nat):dgs u (n+2)=dgs (u/100) n++ [((48+u/10%10:Nat):Int),((48+u%10:Nat):Int)]:=by
 show dgs (u/10) (n+1)++_=_
 show(dgs (u/10/10) n++_)++_=_
 rw[cI,aK];rfl
theorem z0S: ∀(u:Nat),dgs u (Lib.nDigits u)=a0k (Lib.decDigits u):=by
 intro u
 induction u using Nat.strongRecOn with
 |_ u ih=>
  by_cases h:u<10
  ·rw[Lib.nDigits_small h,Lib.decDigits,dif_pos h]
   simp only[dgs,a0k,ah,av,bc]
   rw[UInt8.toNat_ofNat_of_lt' (by simp only[UInt8.size];omega),bU h]
  ·rw[Lib.nDigits_big h,Lib.decDigits,dif_neg h]
   show dgs (u/10) (Lib.nDigits (u/10))++_=_
   rw[ih (u/10) (by omega)]
   simp only[a0k,cB,ah,av]
   rw[UInt8.toNat_ofNat_of_lt' (by simp only[UInt8.size];omega)]
theorem A0D(p:Nat)(h:p<100):(k1_.getD (p*2) 0).toNat=48+p/10:=by
 have: ∀q:Fin 100,(k1_.getD (q.val*2) 0).toNat=48+q.val/10:=by decide+kernel
 exact this ⟨p,h⟩
theorem A0C(p:Nat)(h:p<100):(k1_.getD (p*2+1) 0).toNat=48+p%10:=by
 have: ∀q:Fin 100,(k1_.getD (q.val*2+1) 0).toNat=48+q.val%10:=by decide+kernel
 exact this ⟨p,h⟩
theorem tm8(a:Nat):Int.tmod (a:Int) 100000000=((a%100000000:Nat):Int):=by rw[bG (by omega)];omega
theorem tm4(a:Nat):Int.tmod (a:Int) 10000=((a%10000:Nat):Int):=by rw[bG (by omega)];omega
theorem tm2(a:Nat):Int.tmod (a:Int) 100=((a%100:Nat):Int):=by rw[bG (by omega)];omega
theorem td8(a:Nat):Int.tdiv (a:Int) 100000000=((a/100000000:Nat):Int):=by rw[bM (by omega)];omega
theorem td4(a:Nat):Int.tdiv (a:Int) 10000=((a/10000:Nat):Int):=by rw[bM (by omega)];omega
theorem td2(a:Nat):Int.tdiv (a:Int) 100=((a/100:Nat):Int):=by rw[bM (by omega)];omega
theorem s0I {a:Nat} (h:a<4294967296):IntKind.u32.wrap (a:Int)=(a:Int):=B0i (by omega) (by omega)
theorem A0l {a:Nat} (h:a<18446744073709551616):IntKind.u64.wrap (a:Int)=(a:Int):=B0b (by omega) (by omega)
theorem x0T(a:Nat):(a:Int)*2=((a*2:Nat):Int):=by omega
theorem z0F:k1_.length=200:=by kernel_rfl
theorem A0G {a:Nat} (h:a<200):inR (a:Int) k1_.length=true:=e0v (by rw[z0F];exact h)
theorem m0e {T:Type} (xs:List T)(j:Int)(y:T):(b0u xs j y).length=xs.length:=by simp[b0u]
theorem v0j(x:Int):((0:Nat):Int)+x=x:=by simp
theorem t0k {T:Type} (p l:List T)(k:Nat)(v:T):b0u (p++l) (((p.length+k:Nat):Int)) v=p++l.set k v:=by
 unfold b0u
 rw[aR,List.set_append_right _ _ (by omega)]
 congr 2;omega
theorem A0I {o j n:Nat} (h:o+j<n):inP o (j:Int) n=true:=by simp[inP];omega
theorem o0C {a b:Nat} (h:b≤a)(h2:a<1000):IntKind.wrap .i64 ((a:Int)-(b:Int))=((a-b:Nat):Int):=by rw[w64 (by omega) (by omega)];omega
theorem x0j {a:Nat} (h:1≤a)(h2:a<1000):IntKind.wrap .i64 ((a:Int)-1)=((a-1:Nat):Int):=o0C h h2
theorem x0i {a:Nat} (h:2≤a)(h2:a<1000):IntKind.wrap .i64 ((a:Int)-2)=((a-2:Nat):Int):=o0C h h2
theorem z0a {a:Nat} (h:3≤a)(h2:a<1000):IntKind.wrap .i64 ((a:Int)-3)=((a-3:Nat):Int):=o0C h h2
theorem y0Z {a:Nat} (h:4≤a)(h2:a<1000):IntKind.wrap .i64 ((a:Int)-4)=((a-4:Nat):Int):=o0C h h2
theorem A0p {a:Nat} (h:5≤a)(h2:a<1000):IntKind.wrap .i64 ((a:Int)-5)=((a-5:Nat):Int):=o0C h h2
theorem A0o {a:Nat} (h:6≤a)(h2:a<1000):IntKind.wrap .i64 ((a:Int)-6)=((a-6:Nat):Int):=o0C h h2
theorem A0n {a:Nat} (h:7≤a)(h2:a<1000):IntKind.wrap .i64 ((a:Int)-7)=((a-7:Nat):Int):=o0C h h2
theorem A0m {a:Nat} (h:8≤a)(h2:a<1000):IntKind.wrap .i64 ((a:Int)-8)=((a-8:Nat):Int):=o0C h h2
def FB(R:List Int)(x0:Nat)(s:Int×Int×List Int):Prop:= ∃(v n:Nat) (p q:List Int),s=((v:Int),(n:Int),p++q)∧p.length=n∧v<10^n∧v<18446744073709551616∧p.length+q.length=24∧n≤x0∧dgs v n++q=R
theorem A0x {p:List Int} {k:Nat} (h:p.length=k+8): ∃p' a b c d e f g i,p=p'++ [a,b,c,d,e,f,g,i]∧p'.length=k:=by
 refine⟨p.take k, ?_⟩
 have h2:(p.drop k).length=8:=by simp;omega
 match hd:p.drop k,h2 with
 | [a,b,c,d,e,f,g,i],_=>exact⟨a,b,c,d,e,f,g,i,by rw[←hd,bH],by simp;omega⟩
theorem B0w(u n:Nat):dgs u (n+8)=dgs (u/100000000) n++ [((48+u%100000000/10000/100/10:Nat):Int),((48+u%100000000/10000/100%10:Nat):Int),((48+u%100000000/10000%100/10:Nat):Int),((48+u%100000000/10000%100%10:Nat):Int),
  ((48+u%100000000%10000/100/10:Nat):Int),((48+u%100000000%10000/100%10:Nat):Int),((48+u%100000000%10000%100/10:Nat):Int),((48+u%100000000%10000%100%10:Nat):Int)]:=by
 rw[y0v,y0v,y0v,y0v]
 simp only[aK,aY,bc,cI]
 congr 1
 congr 1
 ·omega
 congr 1
 ·omega
 congr 1
 ·omega
 congr 1
 ·omega
 congr 1
 ·omega
 congr 1
 ·omega
 congr 1
 ·omega
 congr 1
 ·omega
theorem y0R(a:Nat):(a:Int)+1=((a+1:Nat):Int):=by omega
theorem u0m(p:Nat)(h:p<100):(((k1_.getD (((p*2:Nat):Int)).toNat 0).toNat:Nat):Int)=((48+p/10:Nat):Int):=by rw[aR,A0D p h]
theorem u0l(p:Nat)(h:p<100):(((k1_.getD (((p*2+1:Nat):Int)).toNat 0).toNat:Nat):Int)=((48+p%10:Nat):Int):=by rw[aR,A0C p h]
theorem w8c {a:Nat} (h:a<256):IntKind.u8.wrap (a:Int)=(a:Int):=w8 (by omega) (by omega)
theorem y0Q(a:Nat):(48:Int)+(a:Int)=((48+a:Nat):Int):=by omega
theorem y0Y:((0:Nat):Int)+0=((0:Nat):Int):=rfl
theorem A0J {n:Nat} (h:0<n):inP 0 0 n=true:=by simp[inP];omega
theorem A0H {n:Nat} {x:Int} (hx:x.toNat=n)(h:0<n):inR 0 x.toNat=true:=a0r (by omega) (by omega)
theorem x0v {T:Type} (p:List T)(k:Nat)(v:T):b0u p ((k:Nat):Int) v=p.set k v:=by simp[b0u]
def FA(R:List Int)(x0 b:Nat)(s:Int×Int×List Int):Prop:= ∃(v n:Nat) (p q:List Int),s=((n:Int),(v:Int),p++q)∧p.length=n∧v<4294967296∧v<10^n∧n<b∧p.length+q.length=24∧n≤x0∧dgs v n++q=R
theorem A0y {p:List Int} {k:Nat} (h:p.length=k+4): ∃p' a b c d,p=p'++ [a,b,c,d]∧p'.length=k:=by
 refine⟨p.take k, ?_⟩
 have h2:(p.drop k).length=4:=by simp;omega
 match hd:p.drop k,h2 with
 | [a,b,c,d],_=>exact⟨a,b,c,d,by rw[←hd,bH],by simp;omega⟩
theorem A0z {p:List Int} {k:Nat} (h:p.length=k+2): ∃p' a b,p=p'++ [a,b]∧p'.length=k:=by
 refine⟨p.take k, ?_⟩
 have h2:(p.drop k).length=2:=by simp;omega
 match hd:p.drop k,h2 with
 | [a,b],_=>exact⟨a,b,by rw[←hd,bH],by simp;omega⟩
theorem B0x(u n:Nat):dgs u (n+4)=dgs (u/10000) n++ [((48+u%10000/100/10:Nat):Int),((48+u%10000/100%10:Nat):Int),((48+u%10000%100/10:Nat):Int),((48+u%10000%100%10:Nat):Int)]:=by
 rw[y0v,y0v]
 simp only[aK,aY,bc,cI]
 congr 1
 congr 1
 ·omega
 congr 1
 ·omega
 congr 1
 ·omega
 congr 1
 ·omega
set_option maxHeartbeats 4000000 in
theorem A0L {v n:Nat} {a:List Int} (hn:n≤24)(ha:a.length=24)(hv:v<10^n)(hv2:v<18446744073709551616):b0J (n:Int) (v:Int) a=some (dgs v n++a.drop n):=by
 unfold b0J
 have tn:((n:Int)).toNat=n:=by omega
 refine f0C (fun s=>FB (dgs v n++a.drop n) n s∧s.2.1<8) (t0V (FB (dgs v n++a.drop n) n) (fun s=>s.2.1.toNat) _ (fun s hs=> ?_) _ _ ?_ ?_) ?_
 ·obtain⟨w,k,p,q,rfl,hp,hw,hw2,hl,hk,hR⟩:=hs
  by_cases h8:8≤k
  ·left
   obtain⟨j,rfl⟩: ∃j,k=j+8:=⟨k-8,by omega⟩
   obtain⟨p,a0,a1,a2,a3,a4,a5,a6,a7,rfl,hp'⟩:=A0x hp
   have hpl:p.length+8+q.length=24:=by simp at hl;omega
   refine⟨(((w/100000000:Nat):Int),((j:Nat):Int),p++([((48+w%100000000/10000/100/10:Nat):Int),((48+w%100000000/10000/100%10:Nat):Int),((48+w%100000000/10000%100/10:Nat):Int),((48+w%100000000/10000%100%10:Nat):Int),
  ((48+w%100000000%10000/100/10:Nat):Int),((48+w%100000000%10000/100%10:Nat):Int),((48+w%100000000%10000%100/10:Nat):Int),((48+w%100000000%10000%100%10:Nat):Int)]++q)), ?_,⟨w/100000000,j,p,_,rfl,hp', ?_,by omega, ?_,by omega, ?_⟩,by simp only[aR];omega⟩
   ·simp only[]
    have d8:decide (((j+8:Nat):Int)≥8)=true:=dT (by omega)
    rw[d8]
    have hlen0:(p++ [a0,a1,a2,a3,a4,a5,a6,a7]++q).length=24:=by simp;omega
    have e1:j+8-1=p.length+7:=by omega
    have e2:j+8-2=p.length+6:=by omega
    have e3:j+8-3=p.length+5:=by omega
    have e4:j+8-4=p.length+4:=by omega
    have e5:j+8-5=p.length+3:=by omega
    have e6:j+8-6=p.length+2:=by omega
    have e7:j+8-7=p.length+1:=by omega
    have e8:j+8-8=p.length+0:=by omega
    simp(disch:=omega) only[tm8,tm4,tm2,td8,td4,td2,s0I,A0l,x0T,y0R,A0G,x0j,x0i,z0a,y0Z,A0p,A0o,A0n,A0m,e1,e2,e3,e4,e5,e6,e7,e8,tn,e0v,cond_true]
    simp(disch:=omega) only[m0e,hlen0,A0I,cond_true,u0m,u0l,v0j]
    simp only[aK,t0k,aY,bc,cC,cD]
    try simp only[bS,hp']
   ·rw[Nat.pow_add]at hw
    exact cw (by rw[cM];exact hw)
   ·simp;omega
   ·rw[←hR,B0w,aK]
  ·right
   refine⟨((w:Int),(k:Int),p++q), ?_,⟨w,k,p,q,rfl,hp,hw,hw2,hl,hk,hR⟩,by simp only;omega⟩
   rw[dF (by simp only;omega)];rfl
 ·exact⟨v,n,a.take n,a.drop n,by rw[bH,tn],by simp;omega,hv,hv2,by simp;omega,am _,rfl⟩
 ·simp only[aR];exact y0H (by omega)
 ·rintro s ⟨⟨w,k,p,q,rfl,hp,hw,hw2,hl,hk,hR⟩,h8⟩
  simp only at h8
  have hk8:k<8:=by omega
  have hw7:w<10000000:=aS hw (aH (Nat.pow_le_pow_right (by decide) (show k≤7 by omega)) (by decide))
  simp only
  refine f0C (FA (dgs v n++a.drop n) n 4) ?_ (fun s hs=> ?_)
  ·by_cases h4:4≤k
   ·obtain⟨j,rfl⟩: ∃j,k=j+4:=⟨k-4,by omega⟩
    obtain⟨p,a0,a1,a2,a3,rfl,hp'⟩:=A0y hp
    have hpl:p.length+4+q.length=24:=by simp at hl;omega
    refine⟨((j:Int),((w/10000:Nat):Int),p++([((48+w%10000/100/10:Nat):Int),((48+w%10000/100%10:Nat):Int),((48+w%10000%100/10:Nat):Int),((48+w%10000%100%10:Nat):Int)]++q)), ?_,⟨w/10000,j,p,_,rfl,hp',by omega, ?_,by omega, ?_,by omega, ?_⟩⟩
    ·rw[dT (show((j+4:Nat):Int)≥4 by omega)]
     have hlen0:(p++ [a0,a1,a2,a3]++q).length=24:=by simp;omega
     have e1:j+4-1=p.length+3:=by omega
     have e2:j+4-2=p.length+2:=by omega
     have e3:j+4-3=p.length+1:=by omega
     have e4:j+4-4=p.length+0:=by omega
     simp(disch:=omega) only[tm4,tm2,td4,td2,s0I,x0T,y0R,A0G,x0j,x0i,z0a,y0Z,e1,e2,e3,e4,tn,e0v,cond_true]
     simp(disch:=omega) only[m0e,hlen0,A0I,cond_true,u0m,u0l,v0j]
     simp only[aK,t0k,aY,bc,cC,cD]
     try simp only[bS,hp']
    ·rw[Nat.pow_add]at hw
     exact cw (by rw[cM];exact hw)
    ·simp;omega
    ·rw[←hR,B0x,aK]
   ·refine⟨((k:Int),(w:Int),p++q), ?_,⟨w,k,p,q,rfl,hp,by omega,hw,by omega,hl,hk,hR⟩⟩
    rw[dF (by omega),s0I (by omega)];rfl
  ·obtain⟨w,k,p,q,rfl,hp,hw7,hw,hk4,hl,hk,hR⟩:=hs
   simp only
   refine f0C (FA (dgs v n++a.drop n) n 2) ?_ (fun s hs=> ?_)
   ·by_cases h2:2≤k
    ·obtain⟨j,rfl⟩: ∃j,k=j+2:=⟨k-2,by omega⟩
     obtain⟨p,a0,a1,rfl,hp'⟩:=A0z hp
     have hpl:p.length+2+q.length=24:=by simp at hl;omega
     refine⟨((j:Int),((w/100:Nat):Int),p++([((48+w%100/10:Nat):Int),((48+w%100%10:Nat):Int)]++q)), ?_,⟨w/100,j,p,_,rfl,hp',by omega, ?_,by omega, ?_,by omega, ?_⟩⟩
     ·rw[dT (show((j+2:Nat):Int)≥2 by omega)]
      have hlen0:(p++ [a0,a1]++q).length=24:=by simp;omega
      have e1:j+2-1=p.length+1:=by omega
      have e2:j+2-2=p.length+0:=by omega
      simp(disch:=omega) only[tm2,td2,s0I,x0T,y0R,A0G,x0j,x0i,e1,e2,tn,e0v,cond_true]
      simp(disch:=omega) only[m0e,hlen0,A0I,cond_true,u0m,u0l,v0j]
      simp only[aK,t0k,aY,bc,cC,cD]
      try simp only[bS,hp']
     ·rw[Nat.pow_add]at hw
      exact cw (by rw[cM];exact hw)
     ·simp;omega
     ·rw[←hR,y0v,aK]
      congr 2
      congr 1
      ·omega
      congr 1
      omega
    ·refine⟨((k:Int),(w:Int),p++q), ?_,⟨w,k,p,q,rfl,hp,by omega,hw,by omega,hl,hk,hR⟩⟩
     rw[dF (by omega)];rfl
   ·obtain⟨w,k,p,q,rfl,hp,hw7,hw,hk2,hl,hk,hR⟩:=hs
    simp only
    rw[←hR]
    by_cases h1:1≤k
    ·obtain rfl:k=1:=by omega
     obtain⟨a0,rfl⟩:=List.length_eq_one_iff.1 hp
     have hw10:w<10:=by simpa using hw
     rw[dT (by omega),A0H tn (by omega),A0J (by simp)]
     simp only[cond_true,y0Y,x0v,aY,bc,cD,dgs,y0Q]
     rw[s0I (by omega),w8c (by omega),bU hw10]
    ·obtain rfl:k=0:=by omega
     obtain rfl:=ar hp
     rw[dF (by omega)];rfl
theorem A0B: ∀q:Fin 256,(k2_.getD q.val 0).toNat=Lib.bitLen q.val:=by decide+kernel
theorem z0E:k2_.length=256:=by kernel_rfl
def A0U(u b m:Nat)(s:Int×Int):Prop:= ∃x k:Nat,s=((x:Int),(k:Int))∧x<b∧x<18446744073709551616∧Lib.bitLen u=k+Lib.bitLen x∧k≤m
theorem fd(a b:Nat):Int.fdiv (a:Int) (b:Int)=((a/b:Nat):Int):=by rw[Int.fdiv_eq_ediv_of_nonneg _ (by omega)];rfl
theorem w0e {u:Nat} (h:u<18446744073709551616):h0z (u:Int)=some (Lib.bitLen u:Int):=by
 unfold h0z
 refine f0C (A0U u 4294967296 32) ?_ (fun s hs=> ?_)
 ·by_cases c:4294967296≤u
  ·refine⟨_,by rw[dT (by omega)];rfl,u/4294967296,32, ?_,by omega,by omega,Lib.bitLen_shift32 u c h,by omega⟩
   rw[show(4294967296:Int)=((4294967296:Nat):Int)from rfl,fd];rfl
  ·exact⟨((u:Int),0),by rw[dF (by omega)];rfl,u,0,rfl,by omega,h,by omega,by omega⟩
 ·obtain⟨x,k,rfl,hx,hx2,hb,hk⟩:=hs
  simp only
  refine f0C (A0U u 65536 48) ?_ (fun s hs=> ?_)
  ·by_cases c:65536≤x
   ·refine⟨_,by rw[dT (by omega)];rfl,x/65536,k+16, ?_,by omega,by omega,by rw[hb,Lib.bitLen_shift16 x c hx2];omega,by omega⟩
    rw[show(65536:Int)=((65536:Nat):Int)from rfl,fd,w64 (by omega) (by omega)];rfl
   ·exact⟨((x:Int),(k:Int)),by rw[dF (by omega)];rfl,x,k,rfl,by omega,hx2,hb,by omega⟩
  ·obtain⟨x,k,rfl,hx,hx2,hb,hk⟩:=hs
   simp only
   refine f0C (A0U u 256 56) ?_ (fun s hs=> ?_)
   ·by_cases c:256≤x
    ·refine⟨_,by rw[dT (by omega)];rfl,x/256,k+8, ?_,by omega,by omega,by rw[hb,Lib.bitLen_shift8 x c hx2];omega,by omega⟩
     rw[show(256:Int)=((256:Nat):Int)from rfl,fd,w64 (by omega) (by omega)];rfl
    ·exact⟨((x:Int),(k:Int)),by rw[dF (by omega)];rfl,x,k,rfl,by omega,hx2,hb,by omega⟩
   ·obtain⟨x,k,rfl,hx,hx2,hb,hk⟩:=hs
    simp only
    have h8:=Lib.bitLen_le8 ⟨x,hx⟩
    simp only at h8
    rw[w8c hx,e0v (by rw[z0E];omega),aR,A0B ⟨x,hx⟩]
    simp only[cond_true]
    rw[w64 (n:=(Lib.bitLen x:Int)) (by omega) (by omega),w64 (by omega) (by omega),hb]
    rfl
theorem A0A: ∀q:Fin 20,nth k3_ (q.val:Int)=((10^q.val:Nat):Int):=by decide+kernel
theorem numDigits_eq {u:Nat} (h1:1≤u)(h:u<18446744073709551616):d0e (u:Int)=some (Lib.nDigits u:Int):=by
 unfold d0e
 rw[w0e h]
 have hb:Lib.bitLen u≤64:=Lib.bitLen_le u 64 (by omega) h
 obtain⟨e1,e2⟩:=Lib.numDigits_eq u h1 h
 simp only[aa]
 unfold d0X
 have e3:Int.fdiv (IntKind.wrap .i64 ((Lib.bitLen u:Int)*78913)) 262144=(Lib.l10 (Lib.bitLen u):Int):=by
  rw[w64 (by omega) (by omega),show(262144:Int)=((262144:Nat):Int)from rfl,show(Lib.bitLen u:Int)*78913=((Lib.bitLen u*78913:Nat):Int) by omega,fd];rfl
 rw[e3]
 simp only[aa]
 rw[e0v (by omega),A0A ⟨Lib.l10 (Lib.bitLen u),by omega⟩]
 simp only[cond_true]
 rw[←e1]
 unfold f0J
 by_cases c:10^Lib.l10 (Lib.bitLen u)≤u
 ·rw[dT (by omega),if_pos c]
  simp only[cond_true,aa]
  rw[w64 (by omega) (by omega)];rfl
 ·rw[dF (by omega),if_neg c]
  simp only[cond_false,aa]
  rw[w64 (by omega) (by omega)];rfl
theorem z0c {u:Nat} (h:u<100):d0W (u:Int)=some (Lib.decDigits u):=by
 have: ∀q:Fin 100,d0W (q.val:Int)=some (Lib.decDigits q.val):=by
  intro q
  have e: ∀q:Fin 100,d0W (q.val:Int)=some (if q.val<10 then [UInt8.ofNat (48+q.val)]else [UInt8.ofNat (48+q.val/10),UInt8.ofNat (48+q.val%10)]):=by decide+kernel
  rw[e q]
  split
  ·rename_i c;rw[Lib.decDigits_one c]
  ·rename_i c;rw[Lib.decDigits_two c q.isLt]
 exact this ⟨u,h⟩
theorem n0A {x0:List Int} {u:Nat} (hu:u<18446744073709551616)(hl:x0.length≤4000000000):c0G x0 (u:Int) 10=some (x0++a0k (Lib.decDigits u)):=by
 have hd:=Lib.nDigits_le20 u hu
 unfold c0G
 rw[dT rfl]
 simp only[cond_true]
 by_cases c:u<100
 ·rw[dT (by omega),w64 (by omega) (by omega),z0c c]
  simp only[cond_true,aa]
  rw[a0v (by rw[Lib.decDigits_length];omega)];rfl
 ·rw[dF (by omega),numDigits_eq (by omega) hu]
  simp only[cond_false,aa]
  rw[i0a (by omega) (by omega) (by omega)]
  simp only[cond_true]
  rw[A0L (by omega) rfl (Lib.lt_pow_nDigits u) hu]
  simp only[aa]
  rw[i0a (by omega) (by omega) (by simp[u0N,rep];omega),v0G (by omega)]
  simp only[Bool.and_self,cond_true]
  congr 2
  rw[v0j,cut,z0S]
  simp only[aR,Int.toNat_zero,cG]
  rw[List.take_append_of_le_length (by simp[a0k,Lib.decDigits_length])]
  exact List.take_of_length_le (by simp[a0k,Lib.decDigits_length])
theorem n0z {x0:List Int} {n:Int} (h0: -9223372036854775808≤n)(h1:n≤9223372036854775807)(hl:x0.length≤3000000000):a0V x0 n 10=some (x0++a0k (Lib.itoa n)):=by
 unfold a0V c0H
 by_cases c:n<0
 ·rw[dT c,a0v (by simp;omega)]
  simp only[cond_true,aa]
  have e:IntKind.wrap .u64 (0-IntKind.wrap .u64 n)=((n.natAbs:Nat):Int):=by
   unfold IntKind.wrap
   simp only[IntKind.signed,IntKind.bits,bR,aE,if_false]
   omega
  rw[e,n0A (by omega) (by simp;omega)]
  simp only[aa]
  unfold Lib.itoa
  rw[if_pos c,aK];rfl
 ·rw[dF c]
  simp only[cond_false,aa]
  have e:IntKind.wrap .u64 n=((n.toNat:Nat):Int):=by rw[B0b (by omega) (by omega)];omega
  rw[e,n0A (by omega) (by omega)]
  simp only[aa]
  unfold Lib.itoa
  rw[if_neg c]
/-! What is read of rules, classes, signs and affixes: it answers. -/
theorem y0J {x:List Int} {n:Int} (hn:inI n)(hl:x.length≤2999999000):Tot (a0V x n 10) (fun r=>r.length≤x.length+21):=by
 rw[n0z hn.1 hn.2 (by omega)]
 have:=Lib.itoa_length_le n hn.1 hn.2
 exact tR (by simp[a0k];omega)
theorem z0e {x:List Int} {r:a0e} (hr:t0B r)(hx:x.length≤2950000000):Tot (c0I x r) (fun o=>o.length≤x.length+18100):=by
 obtain⟨h1,h2,h3⟩:=hr
 unfold c0I
 refine tY (a0v (by simp;omega)) (tB (p:=fun o:List Int=>o.length≤x.length+25) ?_ (fun a ha=>tB (p:=fun o:List Int=>o.length≤x.length+29) ?_ (fun c hc=>tB (p:=fun o:List Int=>o.length≤x.length+18100) ?_ (fun _ h=>tR h))))
 ·refine tI (fun _=>tY (a0v (by simp;omega)) (tB (y0J h1 (by simp[a0k];omega)) (fun a ha=>tR (by simp[a0k]at ha;omega)))) (fun _=>tR (by simp))
 ·refine tI (fun _=>tY (a0v (by simp;omega)) (tR (by simp[a0k];omega))) (fun _=>tY (a0v (by simp;omega)) (tR (by simp[a0k];omega)))
 ·refine tW (fun s:Int×List Int=>s.1) r.R_.length (fun s=>(s.2.length:Int)≤x.length+29+45*s.1) (by omega) ⟨by simp only;omega,ag _,by simp⟩ (fun s hs g0 g1=> ?_) (fun s hs e=> ?_)
  ·obtain⟨m1,m2⟩:=h3 _ (d0A g0 g1)
   refine tY (dT g1) (tB (p:=fun o:List Int=>(o.length:Int)≤s.2.length+45) (tY (a0r g0 g1) (tB (p:=fun o:List Int=>(o.length:Int)≤s.2.length+1) (tI (fun _=>tY (a0v (by simp;omega)) (tR (by simp))) (fun _=>tR (by omega))) (fun a ha=>tB (y0J m1 (by omega)) (fun c hc=>tI (fun _=>tY (a0v (by simp;omega)) (tB (y0J m2 (by simp[a0k];omega)) (fun d hd=>tR (by simp[a0k]at hd;omega)))) (fun _=>tR (by omega)))))) (fun a ha=>tR ⟨?_,w64 (by omega) (by omega)⟩))
   rw[w64 (n:=s.1+1) (by omega) (by omega)]
   simp only;omega
  ·refine tN (dF (by omega)) (tR (by omega))
theorem x0x {c:List (List a0e)} (hc:l0w c):Tot (g0d c) (fun _=>True):=by
 unfold g0d
 have hn:=hc.1
 refine tB (p:=fun _=>True) (tW (fun s:Int×List Int=>s.1) c.length (fun s=>(s.2.length:Int)≤7242000*s.1) (by omega) ⟨by simp,ag _,by simp⟩ (fun s hs g0 g1=> ?_) (fun s hs e=>tN (dF (by omega)) (tR trivial))) (fun _ _=>tR trivial)
 obtain⟨m1,m2⟩:=hc.2 _ (d0A g0 g1)
 refine tY (dT g1) (tB (p:=fun o:List Int=>(o.length:Int)≤s.2.length+7242000) (tY (a0r g0 g1) (tW (fun u:Int×List Int=>u.1) (nth c s.1).length (fun u=>(u.2.length:Int)≤s.2.length+18105*u.1) (by omega) ⟨by simp,ag _,by simp⟩ (fun u hu f0 f1=> ?_) (fun u hu e=>tN (dF (by omega)) (tR (by omega))))) (fun o ho=>tR ⟨?_,w64 (by omega) (by omega)⟩))
 ·refine tY (dT f1) (tB (p:=fun o:List Int=>(o.length:Int)≤u.2.length+18105) (tY (a0r f0 f1) (tB (p:=fun o:List Int=>(o.length:Int)≤u.2.length+5) (tI (fun _=>tR (by omega)) (fun _=>tI (fun _=>tY (a0v (by simp;omega)) (tR (by simp[a0k]<;>omega))) (fun _=>tY (a0v (by simp;omega)) (tR (by simp[a0k]<;>omega))))) (fun a ha=>tB (z0e (m2 _ (d0A f0 f1)) (by omega)) (fun d hd=>tR (by omega))))) (fun o ho=>tR ⟨?_,w64 (by omega) (by omega)⟩))
  rw[w64 (n:=u.1+1) (by omega) (by omega)]
  simp only;omega
 ·rw[w64 (n:=s.1+1) (by omega) (by omega)]
  simp only;omega
theorem o0l {T:Type} {x y:List T} {k:Int→Option (Int⊕(Unit⊕Bool))} (hx:x.length≤4294967296)(hk: ∀s:Int,0≤s→s<x.length→x.length=y.length→Tot (k s) (fun o=>o= .inl (IntKind.wrap .i64 (s+1))∨ ∃b,o= .inr (.inr b))):
  Tot (bif decide (¬(x.length:Int)=(y.length:Int))then some false else Option.bind (a0l (fun s=>bif decide (s<(x.length:Int))then k s else some (.inr (.inl ()))) big 0) (a0j fun(_:Unit)=>some true)) (fun _=>True):=by
 refine tI (fun _=>tR trivial) (fun h=>tJ (tW (fun s:Int=>s) x.length (fun _=>True) hx ⟨trivial,ag _,by simp⟩ (fun s _ g0 g1=>tY (dT g1) ?_) (fun s _ e=>tN (dF (by omega)) (tR (tR trivial)))))
 have h:=dFF h
 refine(hk s g0 g1 (by omega)).mono (fun o ho=> ?_)
 rcases ho with rfl|⟨b,rfl⟩
 ·exact⟨trivial,w64 (by omega) (by omega)⟩
 ·trivial
theorem A0M {x y:List a0T} (hx:x.length≤4294967296):Tot (c0n x y) (fun _=>True):=by
 unfold c0n
 exact o0l hx (fun s g0 g1 e=>tY (a0r g0 g1) (tY (a0r g0 (by omega)) (tI (fun _=>tR (.inr ⟨_,rfl⟩)) (fun _=>tR (.inl rfl)))))
theorem z0O {x y:List Int} (hx:x.length≤4294967296):Tot (e0C x y) (fun _=>True):=by
 unfold e0C
 exact o0l hx (fun s g0 g1 e=>tY (a0r g0 g1) (tY (a0r g0 (by omega)) (tI (fun _=>tR (.inr ⟨_,rfl⟩)) (fun _=>tR (.inl rfl)))))
theorem x0y {c d:List (List a0e)} (hc:l0w c):Tot (f0r c d) (fun _=>True):=by
 unfold f0r g0s
 refine tB (o0l (aH hc.1 (by decide)) (fun s g0 g1 e=>tY (a0r g0 g1) (tY (a0r g0 (by omega)) (tB (p:=fun _=>True) ?_ (fun _ _=>tI (fun _=>tR (.inr ⟨_,rfl⟩)) (fun _=>tR (.inl rfl))))))) (fun _ _=>tR trivial)
 have hm:=hc.2 _ (d0A g0 g1)
 unfold f0i d0T
 refine tB (o0l (aH hm.1 (by decide)) (fun u f0 f1 e=>tY (a0r f0 f1) (tY (a0r f0 (by omega)) (tB (p:=fun _=>True) ?_ (fun _ _=>tI (fun _=>tR (.inr ⟨_,rfl⟩)) (fun _=>tR (.inl rfl))))))) (fun _ _=>tR trivial)
 have hr:=(hm.2 _ (d0A f0 f1)).2.1
 unfold e0D
 refine tB (p:=fun _=>True) (tI (fun _=>tI (fun _=>tI (fun _=>tB (A0M (aH hr (by decide))) (fun _ _=>tR trivial)) (fun _=>tR trivial)) (fun _=>tR trivial)) (fun _=>tR trivial)) (fun _ _=>tR trivial)
theorem v0F {c:List (List a0e)} (hc:l0w c):Tot (d0Y c) (fun _=>True):=by
 unfold d0Y
 exact tB (x0x hc) (fun t _=>tB (r0f t) (fun d _=>tB (p:=fun _=>True) (tI (fun _=>tB (x0y hc) (fun _ _=>tR trivial)) (fun _=>tR trivial)) (fun _ _=>tR trivial)))
theorem x0I {l:List k0S} (hl:l.length≤1000):Tot (g0f l) (fun _=>True):=by
 unfold g0f
 refine tJ (tW (fun s:Int×Int×List b0z=>s.2.1) l.length (fun s=>(s.2.2.length:Int)≤s.2.1) (by omega) ⟨by simp,ag _,by simp⟩ (fun s hs g0 g1=>tY (dT g1) ?_) (fun s hs e=>tN (dF (by omega)) (tR (tR trivial))))
 have e1:IntKind.wrap .i64 (s.2.1+1)=s.2.1+1:=w64 (by omega) (by omega)
 rw[e1]
 refine tJ (tY (a0r g0 g1) ?_)
 refine tB (p:=fun _=>True) ?_ (fun y _=> ?_)
 ·unfold f0Y f0k
  exact tB (p:=fun _=>True) (tI (fun _=>tR trivial) (fun _=>tR trivial)) (fun _ _=>tR trivial)
 refine tI (fun _=>tR trivial) (fun _=> ?_)
 refine tB (r0f _) (fun c hc=> ?_)
 refine tJ (tB (p:=fun _=>True) (tI (fun _=>tR trivial) (fun _=>tB (v0F hc) (fun _ _=>tR trivial))) (fun _ _=> ?_))
 refine tI (fun _=>tR trivial) (fun _=>tR (show Tot _ _ from ?_))
 exact tY (a0v (by simp;omega)) (tR (show Tot _ _ from tR ⟨by simp;omega,rfl⟩))
theorem p0Y(x:Int):Tot (d0a x) (fun _=>True):=by
 unfold d0a
 refine tJ (tW (fun s:Int=>s) 20 (fun _=>True) (by decide) ⟨trivial,ag _,by decide⟩ (fun s _ g0 g1=>tY (dT (by omega)) (tJ (tY (a0r g0 g1) (tB (p:=fun _=>True) (tI (fun _=>tR trivial) (fun _=>tR trivial)) (fun _ _=>tI (fun _=>tR trivial) (fun _=>tR (show Tot _ _ from tR ⟨trivial,w64 (by omega) (by omega)⟩))))))) (fun s _ e=>tN (dF (by omega)) (tR (tR trivial))))
theorem A0F(x:Int):Tot (h0X x) (fun _=>True):=by
 unfold h0X
 refine tB (p:=fun _=>True) ?_ (fun _ _=>tR trivial)
 repeat' (first|exact tR trivial|refine tI (fun _=> ?_) (fun _=> ?_))
theorem s0Z(x:Int):Tot (a0u x k0l) (fun r=>r.2=k0l):=by
 rw[k0o (List.Perm.refl _)]
 exact tB (A0F x) (fun _ _=>tI (fun _=>tR rfl) (fun _=>tI (fun _=>tR rfl) (fun _=>tI (fun _=>tR rfl) (fun _=>tB (p0Y x) (fun _ _=>tI (fun _=>tR rfl) (fun _=>tR rfl))))))
theorem A0e(x:Int):Tot (f0V x) (fun _=>True):=by
 unfold f0V
 refine tB (p:=fun y=>y=k0l) ⟨_,rfl,rfl⟩ (fun y hy=> ?_)
 subst hy
 exact tB (s0Z x) (fun _ _=>tR trivial)
theorem y0F {l:List Int} (hl:l.length≤4294967296):Tot (h0y l) (fun _=>True):=by
 unfold h0y
 refine tB (p:=fun y=>y=k0l) ⟨_,rfl,rfl⟩ (fun y hy=> ?_)
 subst hy
 refine tJ (tW (fun s:Int×List (a0n×Int)=>s.1) l.length (fun s=>s.2=k0l) hl ⟨rfl,ag _,by simp⟩ (fun s hs g0 g1=>tY (dT g1) (tJ (tY (a0r g0 g1) (by
  rw[hs]
  exact tB (s0Z _) (fun y hy=>tB (p:=fun _=>True) (by repeat' (first|exact tR trivial|refine tI (fun _=> ?_) (fun _=> ?_))) (fun _ _=>tI (fun _=>tR (show Tot _ _ from tR ⟨hy,w64 (by omega) (by omega)⟩)) (fun _=>tR trivial))))))) (fun s _ e=>tN (dF (by omega)) (tR (tR trivial))))
theorem x0n {l:List Int} (hl:l.length≤4294967296):Tot (g0q l) (fun _=>True):=by
 unfold g0q
 refine tJ (tW (fun s:Int×Int=>s.2) l.length (fun _=>True) hl ⟨trivial,ag _,by simp⟩ (fun s _ g0 g1=>tY (dT g1) (tJ (tY (a0r g0 g1) ?_))) (fun s _ e=>tN (dF (by omega)) (tR (tR trivial))))
 have e:IntKind.wrap .i64 (s.2+1)=s.2+1:=w64 (by omega) (by omega)
 have two: ∀b c:Bool,Tot (bif b then some c else some false) (fun _=>True):=fun b c=>tI (fun _=>tR trivial) (fun _=>tR trivial)
 exact tB (two _ _) (fun _ _=>tI (fun _=>tR trivial) (fun _=>tB (two _ _) (fun _ _=>tI (fun _=>tR (show Tot _ _ from tR ⟨trivial,e⟩)) (fun _=>tB (two _ _) (fun _ _=>tI (fun _=>tR trivial) (fun _=>tI (fun _=>tR (show Tot _ _ from tR ⟨trivial,e⟩)) (fun _=>tR (show Tot _ _ from tR ⟨trivial,e⟩))))))))
theorem x0f(s:e0h)(x:Int):Tot (f0h s x) (fun _=>True):=by
 unfold f0h
 exact tB (p:=fun _=>True) (tI (fun _=>tR trivial) (fun _=>tI (fun _=>tR trivial) (fun _=>tR trivial))) (fun _ _=>tR trivial)
theorem t0m {s:e0h} {l:List Int} (hl:l.length≤4294967296):Tot (j0j s l) (fun _=>True):=by
 unfold j0j
 refine tJ (tW (fun s:Int=>s) l.length (fun _=>True) hl ⟨trivial,ag _,by simp⟩ (fun i _ g0 g1=>tY (dT g1) (tJ (tY (a0r g0 g1) (tB (p0Y _) (fun _ _=>tB (p:=fun _=>True) (tI (fun _=>tR trivial) (fun _=>tB (x0f _ _) (fun _ _=>tR trivial))) (fun _ _=>tI (fun _=>tR trivial) (fun _=>tR (show Tot _ _ from tR ⟨trivial,w64 (by omega) (by omega)⟩)))))))) (fun i _ e=>tN (dF (by omega)) (tR (show Tot _ _ from ?_))))
 exact tB (p:=fun _=>True) (tB (y0F hl) (fun _ _=>tI (fun _=>tB (x0n hl) (fun _ _=>tR trivial)) (fun _=>tR trivial))) (fun _ _=>tR trivial)
theorem y0B {l:List Int} (hl:l.length≤4294967296):Tot (f0q l) (fun r=>r.length≤l.length):=by
 unfold f0q
 refine tI (fun h=> ?_) (fun _=>tY (a0v hl) (tR (am _)))
 obtain rfl:=ar (af h)
 exact⟨[],by show n0c (some []) (some [])=_;simp[n0c],by simp⟩
theorem r0F {l:List a0c} (hl:l.length≤4294967296):Tot (e0H l) (fun r=>r.length≤l.length):=by
 unfold e0H
 refine tI (fun h=> ?_) (fun _=>tY (a0v hl) (tR (am _)))
 obtain rfl:=ar (af h)
 exact⟨[],by show n0c (some []) (some [])=_;simp[n0c],by simp⟩
def v0i(a:n0e):Prop:=a.r_.length≤1000000∧a.q_.length≤1000000
theorem y0S {s:e0h} {a:n0e} (ha:v0i a):Tot (e0J s a) (fun _=>True):=by
 unfold e0J
 obtain⟨h1,h2⟩:=ha
 exact tB (y0B (by omega)) (fun c hc=>tY (a0v (by omega)) (tB (t0m (by simp;omega)) (fun _ _=>tR trivial)))
theorem q0V {a c:n0e} (ha:v0i a):Tot (b0i a c) (fun _=>True):=by
 unfold b0i
 exact tB (p:=fun _=>True) (tB (z0O (aH ha.1 (by decide))) (fun _ _=>tI (fun _=>tB (z0O (aH ha.2 (by decide))) (fun _ _=>tR trivial)) (fun _=>tR trivial))) (fun _ _=>tR trivial)
theorem o0n {l:List a0c} {k:Int} (hl:l.length≤4294967296):Tot (d0U l k) (fun _=>True):=by
 unfold d0U
 refine tB (p:=fun _=>True) (tW (fun s:Int×Int=>s.2) l.length (fun _=>True) hl ⟨trivial,ag _,by simp⟩ (fun s _ g0 g1=>tY (dT g1) (tB (p:=fun _=>True) (tY (a0r g0 g1) (tI (fun _=>tR trivial) (fun _=>tR trivial))) (fun _ _=>tR ⟨trivial,w64 (by omega) (by omega)⟩))) (fun s _ e=>tN (dF (by omega)) (tR trivial))) (fun _ _=>tR trivial)
theorem z0D {l put:List a0c} (hl:l.length≤1000)(hp:put.length≤1):Tot (c0V l put) (fun r=>r.length≤1001):=by
 unfold c0V
 exact tB (r0F (by omega)) (fun c hc=>tY (a0v (by omega)) (tR (by simp;omega)))
theorem v0B {T:Type} (l:List T)(i:Int)(x:T):(b0u l i x).length=l.length:=by simp[b0u]
theorem r0c {l:List a0c} (hl:l.length≤1000):Tot (e0I l) (fun r=>r.length≤1001):=by
 unfold e0I
 refine tB (r0F (by omega)) (fun c hc=>tB (p:=fun r:List a0c=>r.length≤1001) (tW (fun s:Int×List a0c=>s.1) c.length (fun s=>s.2.length=c.length) (by omega) ⟨rfl,ag _,by simp⟩ (fun s hs g0 g1=>tY (dT g1) ?_) (fun s hs e=>tN (dF (by omega)) (tR (by simp only;omega)))) (fun _ h=>tR h))
 have hi:inR s.1 s.2.length=true:=a0r g0 (by omega)
 refine tB (p:=fun r:List a0c=>r.length=c.length) (tY hi (tY hi (tI (fun _=>tY hi (tY hi (tR (by rw[v0B];exact hs)))) (fun _=>tR hs)))) (fun r hr=>tR ⟨hr,w64 (by omega) (by omega)⟩)
theorem v0z {p:d0b} (hp:o0B p 1000)(s:Int):Tot (f0z p s) (fun r=>r.1.length≤1001∧r.2.length≤1001):=by
 unfold f0z
 obtain⟨p1,p2,p3,p4⟩:=hp
 have c1:([]:List a0c).length≤1:=by simp
 have c2: ∀t:a0c,([t]:List a0c).length≤1:=fun t=>by simp
 have two: ∀ {x y:List a0c} {a:List a0c},x.length≤1000→y.length≤1000→a.length≤1→Tot (Option.bind (c0V x a) fun y0=>Option.bind (c0V y []) fun y1=>some (y0,y1)) (fun r=>r.1.length≤1001∧r.2.length≤1001):=fun hx hy ha=>tB (z0D hx ha) (fun a ha=>tB (z0D hy c1) (fun c hc=>tR ⟨ha,hc⟩))
 refine tI (fun _=>tI (fun _=>two p3 p4 c1) (fun _=>two p1 p2 (c2 _))) (fun _=>tI (fun _=> ?_) (fun _=>two p1 p2 c1))
 refine tJ (tB (p:=fun _=>True) (tI (fun _=>tB (o0n (by omega)) (fun _ _=>tB (o0n (by omega)) (fun _ _=>tR trivial))) (fun _=>tR trivial)) (fun _ _=>tI (fun _=>tB (r0c p3) (fun a ha=>tB (r0c p4) (fun c hc=>tR ⟨ha,hc⟩))) (fun _=>tR (two p1 p2 (c2 _)))))
theorem o0U {l:List a0c} {s:e0h} {cur:List Int} (hl:l.length≤1001)(hc:cur.length≤900):Tot (e0e l s cur) (fun r=>r.length≤1000000):=by
 unfold e0e
 refine tB (show Tot (e0d s cur) (fun _=>True)from tR trivial) (fun _ _=>tB (p:=fun r:List Int=>r.length≤1000000) (tW (fun s:Int×List Int=>s.1) l.length (fun s=>(s.2.length:Int)≤900*s.1) (by omega) ⟨by simp,ag _,by simp⟩ (fun u hu g0 g1=>tY (dT g1) ?_) (fun u hu e=>tN (dF (by omega)) (tR (by simp only;omega)))) (fun _ h=>tR h))
 have one: ∀x:Int,Tot (bif room (u.2.length+([x]:List Int).length)then some (u.2++ [x])else none) (fun r:List Int=>(r.length:Int)≤u.2.length+900):=fun x=>tY (a0v (by simp;omega)) (tR (by simp<;>omega))
 refine tB (p:=fun r:List Int=>(r.length:Int)≤u.2.length+900) (tY (a0r g0 g1) (tI (fun _=>one _) (fun _=>tI (fun _=>one _) (fun _=>tI (fun _=>one _) (fun _=>tI (fun _=>one _) (fun _=>tI (fun _=>tY (a0v (by omega)) (tR (by simp;omega))) (fun _=>tY (a0v (by simp;omega)) (tR (by simp;omega))))))))) (fun r hr=>tR ⟨?_,w64 (by omega) (by omega)⟩)
 rw[w64 (n:=u.1+1) (by omega) (by omega)]
 simp only;omega
theorem y0M {p:d0b} {s:e0h} {g:Int} {cur:List Int} (hp:o0B p 1000)(hc:cur.length≤900):Tot (h0V p s g cur) v0i:=by
 unfold h0V
 exact tB (v0z hp g) (fun a ha=>tB (o0U ha.1 hc) (fun c hc1=>tB (o0U ha.2 hc) (fun d hd=>tR ⟨hc1,hd⟩)))
/-! The check of a locale: it answers. -/
theorem n0V {a c:List a0c} {s m:Int} (ha:a.length≤1000)(hc:c.length≤1000):Tot (f0m a c s m) (fun _=>True):=by
 have one: ∀k:Int,Tot (c0f k a c) (fun _=>True):=fun k=>by
  unfold c0f
  exact tB (o0n (by omega)) (fun _ _=>tB (o0n (by omega)) (fun _ _=>tR trivial))
 unfold f0m
 refine tB (p:=fun _=>True) (tI (fun _=>tR trivial) (fun _=>tI (fun _=>tR trivial) (fun _=>tR trivial))) (fun _ _=>tB (p:=fun _=>True) (tB (one _) (fun _ _=>tI (fun _=>tB (one _) (fun _ _=>tI (fun _=>tB (one _) (fun _ _=>tI (fun _=>tB (one _) (fun _ _=>tR trivial)) (fun _=>tR trivial))) (fun _=>tR trivial))) (fun _=>tR trivial))) (fun _ _=>tR trivial))
def A0j(a:m0N):Prop:=v0i a.e_∧v0i a.f_∧v0i a.n_
theorem l0R {s:e0h} {p:d0b} {cur:List Int} (hp:o0B p 1000)(hc:cur.length≤900):Tot (e0b s p cur) A0j:=by
 unfold e0b
 exact tB (y0M hp hc) (fun a ha=>tB (y0M hp hc) (fun c hc1=>tB (y0M hp hc) (fun d hd=>tR ⟨ha,hc1,hd⟩)))
theorem s0Q {s:e0h} {p:d0b} {cur:List Int} (hp:o0B p 1000)(hc:cur.length≤900):Tot (d0q s p cur) (fun _=>True):=by
 unfold d0q
 refine tB (l0R hp hc) (fun a ha=>tJ (tL (fun i:Int=>0≤i∧i≤3) (fun i=>(3-i).toNat) (by omega) (by decide) (fun i hi=> ?_)))
 have st: ∀ {a:n0e} (k:Int),v0i a→0≤k∧k<3∧i=k→IntKind.wrap .i64 (k+1)=k+1→Tot (Option.bind (e0J s a) fun y1=>bif !y1 then some (.inr (.inr false))else some (.inl (IntKind.wrap .i64 (k+1)))) (fun x:Int⊕(Unit⊕Bool)=>match x with| .inl s'=>(0≤s'∧s'≤3)∧(3-s').toNat<(3-i).toNat| .inr o=>True):=fun {a} k ha hk e=>tB (y0S ha) (fun _ _=>tI (fun _=>tR trivial) (fun _=>tR (by rw[e];simp only;omega)))
 have fin:Tot (Option.bind (Option.bind (b0i a.e_ a.f_) fun y4=>bif !y4 then Option.bind (b0i a.f_ a.n_) fun y5=>some (!y5)else some false) fun s1=>some s1) (fun _=>True):=tB (p:=fun _=>True) (tB (q0V ha.1) (fun _ _=>tI (fun _=>tB (q0V ha.2.1) (fun _ _=>tR trivial)) (fun _=>tR trivial))) (fun _ _=>tR trivial)
 refine Tot.mono (p:=fun x:Int⊕(Unit⊕Bool)=>match x with| .inl s'=>(0≤s'∧s'≤3)∧(3-s').toNat<(3-i).toNat| .inr o=>True) ?_ (fun x hx=> ?_)
 ·refine tI (fun h=>tI (fun h0=>st 0 ha.1 ⟨by omega,by omega,dTT h0⟩ (by decide)) (fun h0=>tI (fun h1=>st 1 ha.2.1 ⟨by omega,by omega,dTT h1⟩ (by decide)) (fun h1=>tI (fun h2=>st 2 ha.2.2 ⟨by omega,by omega,dTT h2⟩ (by decide)) (fun h2=> ?_)))) (fun _=>tR trivial)
  have:=dTT h;have:=dFF h0;have:=dFF h1;have:=dFF h2;omega
 ·match x,hx with
  | .inl _,h=>exact h
  | .inr (.inl _),_=>exact fin
  | .inr (.inr _),_=>trivial
theorem u0S {l:List Int} {x:Int} (hl:l.length≤4294967296):Tot (a0W l x) (fun _=>True):=by
 unfold a0W g0E
 exact tB (p:=fun _=>True) (tJ (tW (fun s:Int=>s) l.length (fun _=>True) hl ⟨trivial,ag _,by simp⟩ (fun i _ g0 g1=>tY (dT g1) (tY (a0r g0 g1) (tI (fun _=>tR trivial) (fun _=>tR ⟨trivial,w64 (by omega) (by omega)⟩)))) (fun i _ e=>tN (dF (by omega)) (tR (tR trivial))))) (fun _ _=>tR trivial)
theorem u0s(s:e0h)(x:Int):Tot (e0B s x) (fun _=>True):=by
 unfold e0B
 refine tB (p:=fun _=>True) ?_ (fun _ _=>tB (p:=fun _=>True) (tI (fun _=>tR trivial) (fun _=>tB (x0f _ _) (fun _ _=>tR trivial))) (fun _ _=>tR trivial))
 unfold k0p
 exact tJ (tB (p:=fun _=>True) (tI (fun _=>tR trivial) (fun _=>tR trivial)) (fun _ _=>tI (fun _=>tR trivial) (fun _=>tR (tR trivial))))
theorem v0T {s:e0h} {p:d0b} (hp:o0B p 1000):Tot (h0n s p) (fun _=>True):=by
 unfold h0n
 refine tI (fun _=>tR trivial) (fun _=>tB (A0e _) (fun _ _=>tJ (tB (p:=fun _=>True) (tI (fun _=>tI (fun _=>tR trivial) (fun _=>tB (u0s _ _) (fun _ _=>tR trivial))) (fun _=>tB (u0s _ _) (fun _ _=>tR trivial))) (fun _ _=>tI (fun _=>tR trivial) (fun _=>tR (show Tot _ _ from ?_))))))
 refine tJ (tB (l0R hp (by simp)) (fun a ha=>tL (fun i:Int=>0≤i∧i≤3) (fun i=>(3-i).toNat) (by omega) (by decide) (fun i hi=> ?_)))
 have st: ∀ {a:n0e},v0i a→Tot (Option.bind (a0W a.r_ p.y_) fun y4=>bif y4 then some true else Option.bind (a0W a.q_ p.y_) fun y5=>some y5) (fun _=>True):=fun ha=>tB (u0S (aH ha.1 (by decide))) (fun _ _=>tI (fun _=>tR trivial) (fun _=>tB (u0S (aH ha.2 (by decide))) (fun _ _=>tR trivial)))
 refine tI (fun h=>tJ (Tot.mono (p:=fun x:Int⊕(Int⊕(Unit⊕Bool))=>match x with| .inl s'=>s'=i| .inr (.inl _)=>False| .inr (.inr (.inl _))=>False| .inr (.inr (.inr _))=>True) ?_ (fun x hx=> ?_))) (fun _=>tR (tR trivial))
 ·refine tI (fun h0=>tB (st ha.1) (fun _ _=>tI (fun _=>tR trivial) (fun _=>tR (dTT h0).symm))) (fun h0=>tI (fun h1=>tB (st ha.2.1) (fun _ _=>tI (fun _=>tR trivial) (fun _=>tR (dTT h1).symm))) (fun h1=>tI (fun h2=>tB (st ha.2.2) (fun _ _=>tI (fun _=>tR trivial) (fun _=>tR (dTT h2).symm))) (fun h2=> ?_)))
  have:=dTT h;have:=dFF h0;have:=dFF h1;have:=dFF h2;omega
 ·match x,hx with
  | .inl s',e=>
   have:=dTT h
   subst e
   refine tR ?_
   rw[w64 (n:=s'+1) (by omega) (by omega)]
   exact⟨by omega,by omega⟩
  | .inr (.inr (.inr _)),_=>trivial
theorem t0U {t:List UInt8} (ht:t.length≤100000):Tot (j0o t) (fun r=>o0B r.1 1000):=by
 unfold j0o
 refine tB (t0I ht) (fun y hy=> ?_)
 have hy:o0B y.1 1000:=⟨by have:=hy.1;omega,by have:=hy.2.1;omega,by have:=hy.2.2.1;omega,by have:=hy.2.2.2;omega⟩
 exact tB (p:=fun _=>True) (tI (fun _=>tB (x0A hy) (fun _ _=>tR trivial)) (fun _=>tR trivial)) (fun _ _=>tR hy)
theorem z0r(p:d0b)(s:Int):Tot (f0v p s) (fun _=>True):=by
 unfold f0v
 repeat' (first|exact tR trivial|refine tI (fun _=> ?_) (fun _=> ?_)|refine tB (p:=fun _=>True) ?_ (fun _ _=> ?_))
theorem z0C: ∀ {a c d e:List a0c},a=[]→c=[]→d=[]→e=[]→o0B (⟨a,c,d,e,false,0,0,0,0,0,0,0,0,0,false,0,0⟩:d0b) 1000:=by
 rintro _ _ _ _ rfl rfl rfl rfl;exact⟨by simp,by simp,by simp,by simp⟩
theorem f0l {s:e0h} {k:Int} {t:List UInt8} (ht:t.length≤100000):Tot (a0G s k t) (fun r=>o0B r.1 1000):=by
 have z:=z0C rfl rfl rfl rfl
 unfold a0G
 refine tB (t0U ht) (fun y hy=> ?_)
 obtain⟨h1,h2,h3,h4⟩:=id hy
 refine tJ (tB (p:=fun _=>True) (tI (fun _=>tR trivial) (fun _=>tI (fun _=>tR trivial) (fun _=>tR trivial))) (fun _ _=>tI (fun _=>tR z) (fun _=>tR (show Tot _ _ from ?_))))
 refine tJ (tB (p:=fun _=>True) (tB (z0r _ _) (fun _ _=>tI (fun _=>tR trivial) (fun _=>tB (n0V h1 h2) (fun _ _=>tI (fun _=>tR trivial) (fun _=>tI (fun _=>tB (n0V h3 h4) (fun _ _=>tR trivial)) (fun _=>tR trivial)))))) (fun _ _=>tI (fun _=>tR z) (fun _=>tR (show Tot _ _ from ?_))))
 exact tJ (tB (p:=fun _=>True) (tB (s0Q hy (by simp)) (fun _ _=>tI (fun _=>tR trivial) (fun _=>tB (v0T hy) (fun _ _=>tR trivial)))) (fun _ _=>tI (fun _=>tR z) (fun _=>tR (show Tot _ _ from tR hy))))
theorem z0v(c:Int):Tot (i0z c) (fun _=>True):=by
 unfold i0z
 refine tB (p:=fun _=>True) (by unfold f0k;exact tR trivial) (fun _ _=>tJ (tB (p:=fun b=>b=false→0≤c∧c<6) (tI (fun _=>tR (fun h=>by cases h)) (fun h=>tR (fun h2=> ?_))) (fun b hb=>tI (fun _=>tR trivial) (fun e=>tR (show Tot _ _ from ?_)))))
 ·have:=dFF h;have:=dFF h2;omega
 ·have:=hb e
  refine tI (fun _=>tR trivial) (fun h0=>tI (fun _=>tR trivial) (fun h1=>tI (fun _=>tR trivial) (fun h2=>tI (fun _=>tR trivial) (fun h3=>tI (fun _=>tR trivial) (fun h4=>tI (fun _=>tR trivial) (fun h5=> ?_))))))
  have:=dFF h0;have:=dFF h1;have:=dFF h2;have:=dFF h3;have:=dFF h4;have:=dFF h5;omega
theorem t0j {s:e0h} {c:i0s} (ht:c.D_.length≤100000):Tot (d0w s c) (fun r=>o0B r.1 1000):=by
 have z:=z0C rfl rfl rfl rfl
 unfold d0w
 refine tB (t0U ht) (fun y hy=> ?_)
 obtain⟨h1,h2,h3,h4⟩:=id hy
 refine tJ (tB (p:=fun _=>True) (tI (fun _=>tR trivial) (fun _=>tI (fun _=>tR trivial) (fun _=>tI (fun _=>tR trivial) (fun _=>tB (z0v _) (fun _ _=>tR trivial))))) (fun _ _=>tI (fun _=>tR z) (fun _=>tR (show Tot _ _ from ?_))))
 refine tJ (tB (p:=fun _=>True) (tI (fun _=>tR trivial) (fun _=>tI (fun _=>tR trivial) (fun _=>tI (fun _=>tR trivial) (fun _=>tR trivial)))) (fun _ _=>tI (fun _=>tR z) (fun _=>tR (show Tot _ _ from tI (fun _=>tR z) (fun _=> ?_)))))
 exact tJ (tB (p:=fun _=>True) (tB (n0V h1 h2) (fun _ _=>tI (fun _=>tR trivial) (fun _=>tB (s0Q hy (by simp)) (fun _ _=>tR trivial)))) (fun _ _=>tI (fun _=>tR z) (fun _=>tR (show Tot _ _ from tR hy))))
theorem x0U {s:e0h} {p:d0b} {g:List Int} (hp:o0B p 1000)(hg:g.length≤100000):Tot (e0m s p g) (fun _=>True):=by
 unfold e0m
 refine tJ (tB (p:=fun b=>b=false→g.length≤20) (tI (fun _=>tR (fun h=>by cases h)) (fun _=>tI (fun _=>tR (fun h=>by cases h)) (fun h=>tB (t0m (by omega)) (fun _ _=>tR (fun _=>by have:=dFF h;omega))))) (fun b hb=>tI (fun _=>tR trivial) (fun e=>tR (show Tot _ _ from ?_))))
 exact tJ (tB (p:=fun _=>True) (tI (fun _=>tB (u0S (by omega)) (fun _ _=>tR trivial)) (fun _=>tR trivial)) (fun _ _=>tI (fun _=>tR trivial) (fun _=>tR (show Tot _ _ from tB (s0Q hp (by have:=hb e;omega)) (fun _ _=>tR trivial)))))
theorem y0G(c:Int):Tot (e0u c) (fun _=>True):=by
 unfold e0u
 exact tB (p:=fun _=>True) (tI (fun _=>tR trivial) (fun _=>tR trivial)) (fun _ _=>tR trivial)
theorem z0V(t:List UInt8):Tot (j0q t) (fun _=>True):=by
 unfold j0q
 refine tI (fun _=>tR trivial) (fun h=> ?_)
 have h:=dFF h
 have hL:(a0k t).length=t.length:=a0K t
 exact tJ (tW (fun s:Int=>s) (a0k t).length (fun _=>True) (by omega) ⟨trivial,ag _,by simp⟩ (fun i _ g0 g1=>tY (dT g1) (tY (a0r g0 g1) (tB (y0G _) (fun _ _=>tI (fun _=>tR trivial) (fun _=>tR ⟨trivial,w64 (by omega) (by omega)⟩))))) (fun i _ e=>tN (dF (by omega)) (tR (tR trivial))))
theorem A0r(t:List UInt8):Tot (k0b t) (fun _=>True):=by
 unfold k0b
 refine tJ (tB (p:=fun b=>b=false→t.length≤20) (tI (fun _=>tR (fun h=>by cases h)) (fun _=>tR (fun h=>by have:=dFF h;omega))) (fun b hb=>tI (fun _=>tR trivial) (fun e=>tR (show Tot _ _ from ?_))))
 have:=hb e
 have hL:(a0k t).length=t.length:=a0K t
 refine tJ (tW (fun s:Int=>s) (a0k t).length (fun _=>True) (by omega) ⟨trivial,ag _,by simp⟩ (fun i _ g0 g1=>tY (dT g1) (tJ (tY (a0r g0 g1) (tB (p:=fun _=>True) (tB (p:=fun _=>True) ?_ (fun _ _=> ?_)) (fun _ _=>tI (fun _=>tR trivial) (fun _=>tR (show Tot _ _ from tR ⟨trivial,w64 (by omega) (by omega)⟩))))))) (fun i _ e=>tN (dF (by omega)) (tR (tR trivial))))
 ·unfold j0p
  exact tB (p:=fun _=>True) (tI (fun _=>tI (fun _=>tR trivial) (fun _=>tB (y0G _) (fun _ _=>tR trivial))) (fun _=>tB (y0G _) (fun _ _=>tR trivial))) (fun _ _=>tR trivial)
 ·repeat' (first|exact tR trivial|refine tI (fun _=> ?_) (fun _=> ?_))
theorem z0K(s:e0h):Tot (g0D s) (fun _=>True):=by
 unfold g0D
 refine tB (p:=fun _=>True) ?_ (fun _ _=>tI (fun _=>tR trivial) (fun _=>tJ (tB (p:=fun _=>True) ?_ (fun ms _=>tJ (Tot.mono (l0g (p:=fun x:Unit⊕Bool=>x= .inr false) (fun e=> ?_) ms (fun a _ c _ h1 h2=> ?_)) (fun x hx=> ?_))))))
 ·unfold h0x
  exact tB (p0Y _) (fun _ _=>tB (p:=fun _=>True) (tI (fun _=>tR trivial) (fun _=>tR trivial)) (fun _ _=>tR trivial))
 ·unfold d0J
  refine tB (p:=fun _=>True) (tL (fun s:Int×List (Int×Int)=>0≤s.1∧s.1≤6) (fun s=>(6-s.1).toNat) (by decide) (by decide) (fun i hi=>tI (fun h=> ?_) (fun _=>tR trivial))) (fun _ _=>tR trivial)
  have st: ∀k:Int,0≤k∧k<6∧i.1=k→IntKind.wrap .i64 (k+1)=k+1→(0≤IntKind.wrap .i64 (k+1)∧IntKind.wrap .i64 (k+1)≤6)∧(6-IntKind.wrap .i64 (k+1)).toNat<(6-i.1).toNat:=fun k hk e=>by rw[e];omega
  refine tI (fun h0=>tR (st 0 ⟨by omega,by omega,dTT h0⟩ (by decide))) (fun h0=>tI (fun h1=>tR (st 1 ⟨by omega,by omega,dTT h1⟩ (by decide))) (fun h1=>tI (fun h2=>tR (st 2 ⟨by omega,by omega,dTT h2⟩ (by decide))) (fun h2=>tI (fun h3=>tR (st 3 ⟨by omega,by omega,dTT h3⟩ (by decide))) (fun h3=>tI (fun h4=>tR (st 4 ⟨by omega,by omega,dTT h4⟩ (by decide))) (fun h4=>tI (fun h5=>tR (st 5 ⟨by omega,by omega,dTT h5⟩ (by decide))) (fun h5=> ?_))))))
  have:=dTT h;have:=dFF h0;have:=dFF h1;have:=dFF h2;have:=dFF h3;have:=dFF h4;have:=dFF h5;omega
 ·obtain⟨v,hv,_⟩:=A0e e.1
  simp only[hv,aa]
  have: ∀b:Bool,(bif b then(some (.inr (.inr false)):Option (Unit⊕(Unit⊕Bool)))else some (.inl ()))=some (.inl ())∨ ∃x,(bif b then(some (.inr (.inr false)):Option (Unit⊕(Unit⊕Bool)))else some (.inl ()))=some (.inr x)∧x= .inr false:=fun b=>by
   cases b with
   |false=>exact .inl rfl
   |true=>exact .inr ⟨_,rfl,rfl⟩
  cases decide (e.2>1)with
  |true=>exact this true
  |false=>
   cases decide (¬v=0)with
   |true=>exact this _
   |false=>exact this false
 ·obtain⟨v,hv,_⟩:=A0e a.1
  obtain⟨u,hu,_⟩:=A0e c.1
  simp only[hv,hu,aa]at h1 h2⊢
  revert h1 h2
  cases decide (a.2>1)<;>cases decide (¬v=0)<;>cases decide (¬v=4)<;>cases decide (c.2>1)<;>cases decide (¬u=0)<;>cases decide (¬u=4)<;>intro h1 h2<;>first|rfl|exact absurd rfl h1|exact absurd rfl h2
 ·cases x with
  |inl _=>exact tR (tR trivial)
  |inr y=>obtain rfl:=hx.1;trivial
noncomputable def w0w(S:e0h)(p:d0b)(xs:List l0S)(s0:(List UInt8)×Int):Option (((List UInt8)×Int)⊕(Unit⊕(Int×Bool))):=
 (bif(decide (s0.2<(xs.length:Int)))then(Option.bind (bif inR s0.2 xs.length then(Option.bind (Option.bind (Option.bind (j0q ((nth xs s0.2).z_)) fun y2=>(bif(!y2)then(some true)else(bif(Op.bytesLess ((nth xs s0.2).z_) s0.1||((nth xs s0.2).z_)==s0.1)then(some true)else(bif(decide (((nth xs s0.2).af_)<0))then(some true)else(some ((decide (((nth xs s0.2).af_)>4)))))))) fun(s1:Bool)=>(bif s1 then(some (.inr (.inr (.inr (.inr (s0.2,false))))))else(some (.inl ())))) (a0j fun(s3:Unit)=>(Option.bind (d0y ((a0k ((nth xs s0.2).A_)))) fun y1=>(Option.bind (Option.bind (bif(decide (¬y1.2.2=0))then(some true)else(Option.bind (e0m S p y1.1) fun y3=>(some (!y3)))) fun(s2:Bool)=>(bif s2 then(some (.inr (.inr (.inr (.inr (s0.2,false))))))else(some (.inl ())))) (a0j fun(s4:Unit)=>(some (.inl ())))))))else none) (a0j fun(s5:Unit)=>(some (.inl ((nth xs s0.2).z_,(IntKind.wrap .i64 (s0.2+1)))))))else(some (.inr (.inl ()))))
theorem m0E {S:e0h} {p:d0b} {xs:List l0S} {s:(List UInt8)×Int} {o:((List UInt8)×Int)⊕(Unit⊕(Int×Bool))} (h:w0w S p xs s=some o):
  (¬s.2<(xs.length:Int)∧o= .inr (.inl ()))∨(s.2<(xs.length:Int)∧((∃a,o= .inl (a,IntKind.wrap .i64 (s.2+1)))∨o= .inr (.inr (s.2,false)))):=by
 unfold w0w at h
 by_cases hl:s.2<(xs.length:Int)
 ·rw[dT hl]at h
  simp only[cond_true]at h
  refine .inr ⟨hl, ?_⟩
  obtain⟨q1,a1,h⟩:=a0d h
  cases q1 with
  |inl u=>left;exact⟨_,(aC h).symm⟩
  |inr z=>
   right
   obtain rfl:=oi h
   cases hi:inR s.2 xs.length with
   |false=>rw[hi]at a1;cases a1
   |true=>
    rw[hi]at a1
    simp only[cond_true]at a1
    obtain⟨q2,a2,a1⟩:=a0d a1
    cases q2 with
    |inr z2=>
     obtain rfl:=oi a1
     obtain⟨s1,_,a2⟩:=a0d a2
     cases s1 with
     |false=>cases a2
     |true=>exact(aA (aA (aC a2))).symm
    |inl u=>
     obtain⟨y1,_,a1⟩:=a0d a1
     obtain⟨q3,a3,a1⟩:=a0d a1
     cases q3 with
     |inl u=>cases a1
     |inr z3=>
      obtain rfl:=oi a1
      obtain⟨s2,_,a3⟩:=a0d a3
      cases s2 with
      |false=>cases a3
      |true=>exact(aA (aA (aC a3))).symm
 ·rw[dF hl]at h
  exact .inl ⟨hl,(aC h).symm⟩
theorem d0m {S O:Type} {f:S→Option (S⊕O)} : ∀ {n:Nat} {s:S} {o:O},a0l f n s=some o→ ∃s',f s'=some (.inr o)
 |0,_,_,h=>by cases h
 |n+1,s,o,h=>by
  simp only[a0l]at h
  cases hf:f s with
  |none=>rw[hf]at h;cases h
  |some q=>
   rw[hf]at h
   cases q with
   |inl s'=>exact d0m h
   |inr o'=>obtain rfl:=aC h;exact⟨s,hf⟩
theorem y0y(x:j0P):a0R x=Option.bind (a0G x.a_.S_ 3 x.a_.g_.s_) fun y0=>Option.bind (a0l (w0w x.a_.S_ y0.1 x.a_.d_) big (([]:List UInt8),0)) (a0j fun(_:Unit)=>some (100,decide ((x.a_.d_.length:Int)≤100))):=rfl
noncomputable def w0i(S:e0h)(xs:List i0s)(s0:Int×(List (Int×Int))):Option ((Int×(List (Int×Int)))⊕(Unit⊕(Int×Bool))):=
 (bif(decide (s0.1<(xs.length:Int)))then(Option.bind (bif inR s0.1 xs.length then(Option.bind (d0w S (nth xs s0.1)) fun y0=>(Option.bind (Option.bind (bif(!y0.2)then(some true)else(bif(decide (s0.1>0))then(bif inR (IntKind.wrap .i64 (s0.1-1)) xs.length then(Option.bind (i0L ((nth xs (IntKind.wrap .i64 (s0.1-1)))) (nth xs s0.1)) fun y2=>(some (!y2)))else none)else(some false))) fun(s2:Bool)=>(bif s2 then(some (.inr (.inr (.inr (.inr (s0.1,false))))))else(some (.inl ())))) (a0j fun(s5:Unit)=>(Option.bind (bif(!((c0C (fun a b:Int=>a==b) s0.2 ((nth xs s0.1).G_)).isSome))then(Option.bind (d0f (nth xs s0.1) y0.1) fun y1=>(bif(c0C (fun a b:Int=>a==b) s0.2 ((nth xs s0.1).G_)).isNone then(some (y1,(s0.2++ [(((nth xs s0.1).G_),y1)])))else none))else(some (((c0C (fun a b:Int=>a==b) s0.2 ((nth xs s0.1).G_)).getD 0),s0.2))) fun(s1:Int×(List (Int×Int)))=>(Option.bind (bif(!((c0C (fun a b:Int=>a==b) s0.2 ((nth xs s0.1).G_)).isSome))then(bif(decide (¬((nth xs s0.1).F_)=0))then(some true)else(Option.bind (d0f (nth xs s0.1) y0.1) fun y3=>(some (decide (¬s1.1=y3)))))else(Option.bind (d0f (nth xs s0.1) y0.1) fun y4=>(some (decide (¬s1.1=y4))))) fun(s3:Bool)=>(bif s3 then(some (.inr (.inr (.inr (s0.1,false)))))else(some (.inl s1.2))))))))else none) (a0j fun(s4:(List (Int×Int)))=>(some (.inl ((IntKind.wrap .i64 (s0.1+1)),s4)))))else(some (.inr (.inl ()))))
theorem k0c {S:e0h} {xs:List i0s} {s:Int×(List (Int×Int))} {o:(Int×(List (Int×Int)))⊕(Unit⊕(Int×Bool))} (h:w0i S xs s=some o):
  (¬s.1<(xs.length:Int)∧o= .inr (.inl ()))∨(s.1<(xs.length:Int)∧((∃a,o= .inl (IntKind.wrap .i64 (s.1+1),a))∨o= .inr (.inr (s.1,false)))):=by
 unfold w0i at h
 by_cases hl:s.1<(xs.length:Int)
 ·rw[dT hl]at h
  simp only[cond_true]at h
  refine .inr ⟨hl, ?_⟩
  obtain⟨q1,a1,h⟩:=a0d h
  cases q1 with
  |inl u=>left;exact⟨_,(aC h).symm⟩
  |inr z=>
   right
   obtain rfl:=oi h
   cases hi:inR s.1 xs.length with
   |false=>rw[hi]at a1;cases a1
   |true=>
    rw[hi]at a1
    simp only[cond_true]at a1
    obtain⟨y0,_,a1⟩:=a0d a1
    obtain⟨q2,a2,a1⟩:=a0d a1
    cases q2 with
    |inr z2=>
     obtain rfl:=oi a1
     obtain⟨s1,_,a2⟩:=a0d a2
     cases s1 with
     |false=>cases a2
     |true=>exact(aA (aA (aC a2))).symm
    |inl u=>
     obtain⟨y1,_,a1⟩:=a0d a1
     obtain⟨s3,_,a3⟩:=a0d a1
     cases s3 with
     |false=>cases a3
     |true=>exact(aA (aC a3)).symm
 ·rw[dF hl]at h
  exact .inl ⟨hl,(aC h).symm⟩
theorem w0y(x:j0P):b0b x=Option.bind (a0l (w0i x.a_.S_ x.a_.b_) big (0,([]:List (Int×Int)))) (a0j fun(_:Unit)=>some (90,decide ((x.a_.b_.length:Int)≤90))):=rfl
noncomputable def B0o(S:e0h)(xs:List i0s)(s0:Int×(List a0F)):Option ((Int×(List a0F))⊕(Unit⊕(Int×Bool))):=
 (bif(decide (s0.1<(xs.length:Int)))then(Option.bind (bif inR s0.1 xs.length then(Option.bind (d0w S (nth xs s0.1)) fun y2=>(Option.bind (e0b S y2.1 ([]:List Int)) fun y0=>(Option.bind (d0f (nth xs s0.1) y2.1) fun y1=>(bif room (s0.2.length+([(⟨y0,y1⟩:a0F)]:List a0F).length)then(a0l (fun(s1:Int)=>(bif(decide (s1<((((s0.2++([(⟨y0,y1⟩:a0F)]:List a0F))).length:Int))))then(bif inR s1 ((s0.2++([(⟨y0,y1⟩:a0F)]:List a0F))).length then(bif inR s1 ((s0.2++([(⟨y0,y1⟩:a0F)]:List a0F))).length then(bif inR (IntKind.wrap .i64 (s0.1+1)) ((s0.2++([(⟨y0,y1⟩:a0F)]:List a0F))).length then(bif inR (IntKind.wrap .i64 (s0.1+1)) ((s0.2++([(⟨y0,y1⟩:a0F)]:List a0F))).length then(Option.bind (h0r ((⟨(⟨(((nth ((s0.2++([(⟨y0,y1⟩:a0F)]:List a0F))) s1).t_).e_),(((nth ((s0.2++([(⟨y0,y1⟩:a0F)]:List a0F))) s1).t_).f_),(((nth ((s0.2++([(⟨y0,y1⟩:a0F)]:List a0F))) s1).t_).n_)⟩:m0N),(nth ((s0.2++([(⟨y0,y1⟩:a0F)]:List a0F))) s1).aa_⟩:a0F)) ((⟨(⟨(((nth ((s0.2++([(⟨y0,y1⟩:a0F)]:List a0F))) (IntKind.wrap .i64 (s0.1+1))).t_).e_),(((nth ((s0.2++([(⟨y0,y1⟩:a0F)]:List a0F))) (IntKind.wrap .i64 (s0.1+1))).t_).f_),(((nth ((s0.2++([(⟨y0,y1⟩:a0F)]:List a0F))) (IntKind.wrap .i64 (s0.1+1))).t_).n_)⟩:m0N),(nth ((s0.2++([(⟨y0,y1⟩:a0F)]:List a0F))) (IntKind.wrap .i64 (s0.1+1))).aa_⟩:a0F))) fun y5=>(bif y5 then(some (.inr (.inr (.inr (.inr (s0.1,false))))))else(some (.inl (IntKind.wrap .i64 (s1+1))))))else none)else none)else none)else none)else(some (.inr (.inl ((s0.2++([(⟨y0,y1⟩:a0F)]:List a0F)))))))) big 0)else none))))else none) (a0j fun(s2:(List a0F))=>(some (.inl ((IntKind.wrap .i64 (s0.1+1)),s2)))))else(some (.inr (.inl ()))))
def m0Z(p0 p1 p2 p3 p4 p5 p6:Option (Int×Bool))(s0:Int):Option (Int⊕(Unit⊕(Int×Int×Int))):=
 (bif(decide (s0<7))then(bif(decide (s0=0))then(Option.bind p0 fun y0=>(bif(!y0.2)then(some (.inr (.inr ((IntKind.wrap .i64 (0+1)),y0.1,8))))else(some (.inl (IntKind.wrap .i64 (0+1))))))else(bif(decide (s0=1))then(Option.bind p1 fun y1=>(bif(!y1.2)then(some (.inr (.inr ((IntKind.wrap .i64 (1+1)),y1.1,8))))else(some (.inl (IntKind.wrap .i64 (1+1))))))else(bif(decide (s0=2))then(Option.bind p2 fun y2=>(bif(!y2.2)then(some (.inr (.inr ((IntKind.wrap .i64 (2+1)),y2.1,8))))else(some (.inl (IntKind.wrap .i64 (2+1))))))else(bif(decide (s0=3))then(Option.bind p3 fun y3=>(bif(!y3.2)then(some (.inr (.inr ((IntKind.wrap .i64 (3+1)),y3.1,8))))else(some (.inl (IntKind.wrap .i64 (3+1))))))else(bif(decide (s0=4))then(Option.bind p4 fun y4=>(bif(!y4.2)then(some (.inr (.inr ((IntKind.wrap .i64 (4+1)),y4.1,8))))else(some (.inl (IntKind.wrap .i64 (4+1))))))else(bif(decide (s0=5))then(Option.bind p5 fun y5=>(bif(!y5.2)then(some (.inr (.inr ((IntKind.wrap .i64 (5+1)),y5.1,8))))else(some (.inl (IntKind.wrap .i64 (5+1))))))else(bif(decide (s0=6))then(Option.bind p6 fun y6=>(bif(!y6.2)then(some (.inr (.inr ((IntKind.wrap .i64 (6+1)),y6.1,8))))else(some (.inl (IntKind.wrap .i64 (6+1))))))else none)))))))else(some (.inr (.inl ()))))
theorem r0G(l:l0A):g0p l=Option.bind (a0l (m0Z (d0v ⟨l⟩) (c0K ⟨l⟩) (b0a ⟨l⟩) (c0L ⟨l⟩) (a0R ⟨l⟩) (b0b ⟨l⟩) (b0I ⟨l⟩)) big 0) (a0j fun(_:Unit)=>some (0,0,0)):=rfl
theorem z0Y(p0 p1 p2 p3 p4 p5 p6:Option (Int×Bool))(n:Nat):((∃r,Option.bind (a0l (m0Z p0 p1 p2 p3 p4 p5 p6) (n+8) 0) (a0j fun(_:Unit)=>some ((0,0,0):Int×Int×Int))=some r∧r.2.2=0)→(∃w,p0=some (w,true))∧(∃w,p1=some (w,true))∧(∃w,p2=some (w,true))∧(∃w,p3=some (w,true))∧(∃w,p4=some (w,true))∧(∃w,p5=some (w,true))∧(∃w,p6=some (w,true)))∧(((∃w,p0=some (w,true))∧(∃w,p1=some (w,true))∧(∃w,p2=some (w,true))∧(∃w,p3=some (w,true))∧(∃w,p4=some (w,true))∧(∃w,p5=some (w,true))∧(∃w,p6=some (w,true)))→Option.bind (a0l (m0Z p0 p1 p2 p3 p4 p5 p6) (n+8) 0) (a0j fun(_:Unit)=>some ((0,0,0):Int×Int×Int))=some (0,0,0)):=by
 rcases p0 with _|⟨a0,b0⟩
 ·refine⟨fun⟨r,h,_⟩=> ?_,fun h=> ?_⟩
  ·exact absurd ((show Option.bind (a0l (m0Z none p1 p2 p3 p4 p5 p6) (n+8) 0) (a0j fun(_:Unit)=>some (0,0,0))=none by kernel_rfl).symm.trans h) (by simp)
  ·obtain⟨⟨w,e⟩,_,_,_,_,_,_⟩:=h;cases e
 cases b0 with
 |false=>
  refine⟨fun⟨r,h,hr⟩=> ?_,fun h=> ?_⟩
  ·have:=oi ((show Option.bind (a0l (m0Z (some (a0,false)) p1 p2 p3 p4 p5 p6) (n+8) 0) (a0j fun(_:Unit)=>some (0,0,0))=some (1,a0,8) by kernel_rfl).symm.trans h)
   subst this;cases hr
  ·obtain⟨⟨w,e⟩,_,_,_,_,_,_⟩:=h;cases e
 |true=>
  rcases p1 with _|⟨a1,b1⟩
  ·refine⟨fun⟨r,h,_⟩=> ?_,fun h=> ?_⟩
   ·exact absurd ((show Option.bind (a0l (m0Z (some (a0,true)) none p2 p3 p4 p5 p6) (n+8) 0) (a0j fun(_:Unit)=>some (0,0,0))=none by kernel_rfl).symm.trans h) (by simp)
   ·obtain⟨_,⟨w,e⟩,_,_,_,_,_⟩:=h;cases e
  cases b1 with
  |false=>
   refine⟨fun⟨r,h,hr⟩=> ?_,fun h=> ?_⟩
   ·have:=oi ((show Option.bind (a0l (m0Z (some (a0,true)) (some (a1,false)) p2 p3 p4 p5 p6) (n+8) 0) (a0j fun(_:Unit)=>some (0,0,0))=some (2,a1,8) by kernel_rfl).symm.trans h)
    subst this;cases hr
   ·obtain⟨_,⟨w,e⟩,_,_,_,_,_⟩:=h;cases e
  |true=>
   rcases p2 with _|⟨a2,b2⟩
   ·refine⟨fun⟨r,h,_⟩=> ?_,fun h=> ?_⟩
    ·exact absurd ((show Option.bind (a0l (m0Z (some (a0,true)) (some (a1,true)) none p3 p4 p5 p6) (n+8) 0) (a0j fun(_:Unit)=>some (0,0,0))=none by kernel_rfl).symm.trans h) (by simp)
    ·obtain⟨_,_,⟨w,e⟩,_,_,_,_⟩:=h;cases e
   cases b2 with
   |false=>
    refine⟨fun⟨r,h,hr⟩=> ?_,fun h=> ?_⟩
    ·have:=oi ((show Option.bind (a0l (m0Z (some (a0,true)) (some (a1,true)) (some (a2,false)) p3 p4 p5 p6) (n+8) 0) (a0j fun(_:Unit)=>some (0,0,0))=some (3,a2,8) by kernel_rfl).symm.trans h)
     subst this;cases hr
    ·obtain⟨_,_,⟨w,e⟩,_,_,_,_⟩:=h;cases e
   |true=>
    rcases p3 with _|⟨a3,b3⟩
    ·refine⟨fun⟨r,h,_⟩=> ?_,fun h=> ?_⟩
     ·exact absurd ((show Option.bind (a0l (m0Z (some (a0,true)) (some (a1,true)) (some (a2,true)) none p4 p5 p6) (n+8) 0) (a0j fun(_:Unit)=>some (0,0,0))=none by kernel_rfl).symm.trans h) (by simp)
     ·obtain⟨_,_,_,⟨w,e⟩,_,_,_⟩:=h;cases e
    cases b3 with
    |false=>
     refine⟨fun⟨r,h,hr⟩=> ?_,fun h=> ?_⟩
     ·have:=oi ((show Option.bind (a0l (m0Z (some (a0,true)) (some (a1,true)) (some (a2,true)) (some (a3,false)) p4 p5 p6) (n+8) 0) (a0j fun(_:Unit)=>some (0,0,0))=some (4,a3,8) by kernel_rfl).symm.trans h)
      subst this;cases hr
     ·obtain⟨_,_,_,⟨w,e⟩,_,_,_⟩:=h;cases e
    |true=>
     rcases p4 with _|⟨a4,b4⟩
     ·refine⟨fun⟨r,h,_⟩=> ?_,fun h=> ?_⟩
      ·exact absurd ((show Option.bind (a0l (m0Z (some (a0,true)) (some (a1,true)) (some (a2,true)) (some (a3,true)) none p5 p6) (n+8) 0) (a0j fun(_:Unit)=>some (0,0,0))=none by kernel_rfl).symm.trans h) (by simp)
      ·obtain⟨_,_,_,_,⟨w,e⟩,_,_⟩:=h;cases e
     cases b4 with
     |false=>
      refine⟨fun⟨r,h,hr⟩=> ?_,fun h=> ?_⟩
      ·have:=oi ((show Option.bind (a0l (m0Z (some (a0,true)) (some (a1,true)) (some (a2,true)) (some (a3,true)) (some (a4,false)) p5 p6) (n+8) 0) (a0j fun(_:Unit)=>some (0,0,0))=some (5,a4,8) by kernel_rfl).symm.trans h)
       subst this;cases hr
      ·obtain⟨_,_,_,_,⟨w,e⟩,_,_⟩:=h;cases e
     |true=>
      rcases p5 with _|⟨a5,b5⟩
      ·refine⟨fun⟨r,h,_⟩=> ?_,fun h=> ?_⟩
       ·exact absurd ((show Option.bind (a0l (m0Z (some (a0,true)) (some (a1,true)) (some (a2,true)) (some (a3,true)) (some (a4,true)) none p6) (n+8) 0) (a0j fun(_:Unit)=>some (0,0,0))=none by kernel_rfl).symm.trans h) (by simp)
       ·obtain⟨_,_,_,_,_,⟨w,e⟩,_⟩:=h;cases e
      cases b5 with
      |false=>
       refine⟨fun⟨r,h,hr⟩=> ?_,fun h=> ?_⟩
       ·have:=oi ((show Option.bind (a0l (m0Z (some (a0,true)) (some (a1,true)) (some (a2,true)) (some (a3,true)) (some (a4,true)) (some (a5,false)) p6) (n+8) 0) (a0j fun(_:Unit)=>some (0,0,0))=some (6,a5,8) by kernel_rfl).symm.trans h)
        subst this;cases hr
       ·obtain⟨_,_,_,_,_,⟨w,e⟩,_⟩:=h;cases e
      |true=>
       rcases p6 with _|⟨a6,b6⟩
       ·refine⟨fun⟨r,h,_⟩=> ?_,fun h=> ?_⟩
        ·exact absurd ((show Option.bind (a0l (m0Z (some (a0,true)) (some (a1,true)) (some (a2,true)) (some (a3,true)) (some (a4,true)) (some (a5,true)) none) (n+8) 0) (a0j fun(_:Unit)=>some (0,0,0))=none by kernel_rfl).symm.trans h) (by simp)
        ·obtain⟨_,_,_,_,_,_,⟨w,e⟩⟩:=h;cases e
       cases b6 with
       |false=>
        refine⟨fun⟨r,h,hr⟩=> ?_,fun h=> ?_⟩
        ·have:=oi ((show Option.bind (a0l (m0Z (some (a0,true)) (some (a1,true)) (some (a2,true)) (some (a3,true)) (some (a4,true)) (some (a5,true)) (some (a6,false))) (n+8) 0) (a0j fun(_:Unit)=>some (0,0,0))=some (7,a6,8) by kernel_rfl).symm.trans h)
         subst this;cases hr
        ·obtain⟨_,_,_,_,_,_,⟨w,e⟩⟩:=h;cases e
       |true=>
        exact⟨fun _=>⟨⟨a0,rfl⟩,⟨a1,rfl⟩,⟨a2,rfl⟩,⟨a3,rfl⟩,⟨a4,rfl⟩,⟨a5,rfl⟩,⟨a6,rfl⟩⟩,fun _=>by kernel_rfl⟩
theorem B0z:big=18446744073709551608+8:=rfl
def y0X(l:l0A):Prop:=(l.g_.e_.length≤100000∧l.g_.f_.length≤100000∧l.g_.n_.length≤100000∧l.g_.s_.length≤100000)∧l.w_.length≤1000∧(l.d_.length≤1000∧ ∀c∈l.d_,c.A_.length≤100000)∧l.b_.length≤1000∧ ∀c∈l.b_,c.D_.length≤100000
theorem y0a {x:j0P} (h:y0X x.a_):Tot (b0a x) (fun _=>True):=by
 unfold b0a
 obtain⟨⟨p0,p1,p2,p3⟩,_⟩:=h
 refine tJ (Tot.mono (p:=fun o:Unit⊕(Int×Bool)=>True) (tL (fun i:Int=>0≤i∧i≤4) (fun i=>(4-i).toNat) (by decide) (by decide) (fun i hi=>tI (fun h=> ?_) (fun _=>tR trivial))) (fun o _=> ?_))
 ·have st: ∀k:Int,0≤k∧k<4∧i=k→IntKind.wrap .i64 (k+1)=k+1→(0≤IntKind.wrap .i64 (k+1)∧IntKind.wrap .i64 (k+1)≤4)∧(4-IntKind.wrap .i64 (k+1)).toNat<(4-i).toNat:=fun k hk e=>by rw[e];omega
  refine tI (fun h0=>tB (f0l p0) (fun _ _=>tI (fun _=>tR trivial) (fun _=>tR (st 0 ⟨by omega,by omega,dTT h0⟩ (by decide))))) (fun h0=> ?_)
  refine tI (fun h1=>tB (f0l p1) (fun _ _=>tI (fun _=>tR trivial) (fun _=>tR (st 1 ⟨by omega,by omega,dTT h1⟩ (by decide))))) (fun h1=> ?_)
  refine tI (fun h2=>tB (f0l p2) (fun _ _=>tI (fun _=>tR trivial) (fun _=>tR (st 2 ⟨by omega,by omega,dTT h2⟩ (by decide))))) (fun h2=> ?_)
  refine tI (fun h3=>tB (f0l p3) (fun _ _=>tI (fun _=>tR trivial) (fun _=>tR (st 3 ⟨by omega,by omega,dTT h3⟩ (by decide))))) (fun h3=> ?_)
  have:=dTT h;have:=dFF h0;have:=dFF h1;have:=dFF h2;have:=dFF h3;omega
 ·cases o with
  |inl _=>exact tR trivial
  |inr _=>trivial
theorem y0b {x:j0P} (h:y0X x.a_):Tot (a0R x) (fun _=>True):=by
 unfold a0R
 obtain⟨⟨_,_,_,p3⟩,_,⟨hn,hc⟩,_⟩:=h
 refine tB (f0l p3) (fun y hy=>tJ (tW (fun s:List UInt8×Int=>s.2) x.a_.d_.length (fun _=>True) (by omega) ⟨trivial,ag _,by simp⟩ (fun s _ g0 g1=>tY (dT g1) ?_) (fun s _ e=>tN (dF (by omega)) (tR (tR trivial)))))
 have hs:=hc _ (d0A g0 g1)
 have e:IntKind.wrap .i64 (s.2+1)=s.2+1:=w64 (by omega) (by omega)
 rw[e]
 refine tJ (tY (a0r g0 g1) (tJ (tB (p:=fun _=>True) (tB (z0V _) (fun _ _=> ?_)) (fun _ _=>tI (fun _=>tR trivial) (fun _=>tR (show Tot _ _ from ?_))))))
 ·repeat' (first|exact tR trivial|refine tI (fun _=> ?_) (fun _=> ?_))
 ·refine tB (r0C (by rw[a0K];exact hs)) (fun d hd=>tJ (tB (p:=fun _=>True) (tI (fun _=>tR trivial) (fun _=>tB (x0U hy (by rw[a0K]at hd;omega)) (fun _ _=>tR trivial))) (fun _ _=>tI (fun _=>tR trivial) (fun _=>tR (show Tot _ _ from tR (show Tot _ _ from tR ⟨trivial,rfl⟩))))))
theorem w0j {x:j0P} (h:y0X x.a_):Tot (b0b x) (fun _=>True):=by
 unfold b0b
 obtain⟨_,_,_,hn,hc⟩:=h
 refine tJ (tW (fun s:Int×List (Int×Int)=>s.1) x.a_.b_.length (fun _=>True) (by omega) ⟨trivial,ag _,by simp⟩ (fun s _ g0 g1=>tY (dT g1) ?_) (fun s _ e=>tN (dF (by omega)) (tR (tR trivial))))
 have hs:=hc _ (d0A g0 g1)
 have e:IntKind.wrap .i64 (s.1+1)=s.1+1:=w64 (by omega) (by omega)
 rw[e]
 have pw: ∀(c:i0s) (p:d0b),Tot (d0f c p) (fun _=>True):=fun c p=>by unfold d0f;exact tR trivial
 refine tJ (tY (a0r g0 g1) (tB (t0j hs) (fun y _=>tJ (tB (p:=fun _=>True) (tI (fun _=>tR trivial) (fun _=>tI (fun hp=> ?_) (fun _=>tR trivial))) (fun _ _=>tI (fun _=>tR trivial) (fun _=>tR (show Tot _ _ from ?_)))))))
 ·have hp:=dTT hp
  rw[w64 (n:=s.1-1) (by omega) (by omega)]
  refine tY (a0r (by omega) (by omega)) (tB (p:=fun _=>True) ?_ (fun _ _=>tR trivial))
  unfold i0L
  exact tB (p:=fun _=>True) (tI (fun _=>tR trivial) (fun _=>tI (fun _=>tR trivial) (fun _=>tR trivial))) (fun _ _=>tR trivial)
 ·refine tB (p:=fun _=>True) (tI (fun hn=>tB (pw _ _) (fun _ _=>tY ?_ (tR trivial))) (fun _=>tR trivial)) (fun _ _=>tB (p:=fun _=>True) (tI (fun _=>tI (fun _=>tR trivial) (fun _=>tB (pw _ _) (fun _ _=>tR trivial))) (fun _=>tB (pw _ _) (fun _ _=>tR trivial))) (fun _ _=>tI (fun _=>tR trivial) (fun _=>tR (show Tot _ _ from tR ⟨trivial,rfl⟩))))
  revert hn
  cases c0C (fun a b:Int=>a==b) s.2 (nth x.a_.b_ s.1).G_ with
  |none=>intro _;rfl
  |some v=>intro h;cases h
theorem y0P {a c:a0F} (ha:A0j a.t_):Tot (h0r a c) (fun _=>True):=by
 unfold h0r
 have sm: ∀ {u:n0e} (v:n0e),v0i u→Tot (Option.bind (b0i u v) fun y=>some y) (fun _=>True):=fun v hu=>tB (q0V hu) (fun _ _=>tR trivial)
 refine tJ (tW (fun s:Int=>s) 3 (fun _=>True) (by decide) ⟨trivial,ag _,by decide⟩ (fun i _ g0 g1=>tY (dT (by omega)) (tJ (tW (fun s:Int=>s) 3 (fun _=>True) (by decide) ⟨trivial,ag _,by decide⟩ (fun j _ f0 f1=>tY (dT (by omega)) ?_) (fun j _ e=>tN (dF (by omega)) (tR (show Tot _ _ from tR ⟨trivial,w64 (by omega) (by omega)⟩)))))) (fun i _ e=>tN (dF (by omega)) (tR (tR trivial))))
 have e:IntKind.wrap .i64 (j+1)=j+1:=w64 (by omega) (by omega)
 rw[e]
 refine tJ (tJ (tB (p:=fun _=>True) (tI (fun _=>tR trivial) (fun _=>tR trivial)) (fun _ _=>tI (fun _=>tR (show Tot _ _ from tR ⟨trivial,rfl⟩)) (fun _=>tR (show Tot _ _ from ?_)))))
 refine tB (p:=fun _=>True) (tI (fun _=>tR trivial) (fun _=>tR trivial)) (fun _ _=>tB (p:=fun _=>True) (tI (fun _=> ?_) (fun _=>tR trivial)) (fun _ _=>tI (fun _=>tR trivial) (fun _=>tR (show Tot _ _ from tR ⟨trivial,rfl⟩))))
 have three: ∀ {u:n0e} (v w z:n0e),v0i u→Tot (bif decide (j=0)then(Option.bind (b0i u v) fun y=>some y)else bif decide (j=1)then(Option.bind (b0i u w) fun y=>some y)else bif decide (j=2)then(Option.bind (b0i u z) fun y=>some y)else none) (fun _=>True):=fun v w z hu=>tI (fun _=>sm v hu) (fun h0=>tI (fun _=>sm w hu) (fun h1=>tI (fun _=>sm z hu) (fun h2=>by have:=dFF h0;have:=dFF h1;have:=dFF h2;omega)))
 exact tI (fun _=>three _ _ _ ha.1) (fun h0=>tI (fun _=>three _ _ _ ha.2.1) (fun h1=>tI (fun _=>three _ _ _ ha.2.2) (fun h2=>by have:=dFF h0;have:=dFF h1;have:=dFF h2;omega)))
theorem y0c {x:j0P} (h:y0X x.a_):Tot (b0I x) (fun _=>True):=by
 unfold b0I
 obtain⟨⟨p0,_⟩,_,_,hn,hc⟩:=h
 refine tB (f0l p0) (fun y hy=>tB (l0R hy (by simp)) (fun a ha=> ?_))
 refine tJ (tW (fun s:Int×List a0F=>s.1) x.a_.b_.length (fun s=>(s.2.length:Int)=s.1+1∧ ∀u∈s.2,A0j u.t_) (by omega) ⟨⟨by simp,by simpa using ha⟩,ag _,by simp⟩ (fun s hs g0 g1=>tY (dT g1) ?_) (fun s _ e=>tN (dF (by omega)) (tR (tR trivial))))
 obtain⟨hl,hall⟩:=hs
 have e:IntKind.wrap .i64 (s.1+1)=s.1+1:=w64 (by omega) (by omega)
 rw[e]
 refine tJ (tY (a0r g0 g1) (tB (t0j (hc _ (d0A g0 g1))) (fun c hc1=>tB (l0R hc1 (by simp)) (fun d hd=>tB (p:=fun _=>True) (by unfold d0f;exact tR trivial) (fun w _=>tY (a0v (by simp;omega)) ?_)))))
 have hlen:((s.2++ [(⟨d,w⟩:a0F)]).length:Int)=s.1+2:=by simp;omega
 have hal: ∀u∈s.2++ [(⟨d,w⟩:a0F)],A0j u.t_:=fun u hu=>by
  rcases ay.1 hu with hu|hu
  ·exact hall u hu
  ·obtain rfl:=bn.1 hu
   exact hd
 revert hlen hal
 generalize s.2++ [(⟨d,w⟩:a0F)]=ls
 intro hlen hal
 have hi:inR (s.1+1) ls.length=true:=a0r (by omega) (by omega)
 refine tW (fun j:Int=>j) ls.length (fun _=>True) (by omega) ⟨trivial,ag _,by simp⟩ (fun j _ f0 f1=>tY (dT f1) (tY (a0r f0 f1) (tY (a0r f0 f1) (tY hi (tY hi (tB (y0P (hal _ (d0A f0 f1))) (fun _ _=>tI (fun _=>tR trivial) (fun _=>tR ⟨trivial,w64 (by omega) (by omega)⟩)))))))) (fun j _ e=>tN (dF (by omega)) (tR (show Tot _ _ from tR ⟨⟨by simp only;omega,hal⟩,rfl⟩)))
theorem y0C {p0 p1 p2 p3 p4 p5 p6:Option (Int×Bool)} (h0:Tot p0 (fun _=>True))(h1:Tot p1 (fun _=>True))(h2:Tot p2 (fun _=>True))(h3:Tot p3 (fun _=>True))(h4:Tot p4 (fun _=>True))(h5:Tot p5 (fun _=>True))(h6:Tot p6 (fun _=>True)):Tot (Option.bind (a0l (m0Z p0 p1 p2 p3 p4 p5 p6) big 0) (a0j fun(_:Unit)=>some ((0,0,0):Int×Int×Int))) (fun _=>True):=by
 refine tB (p:=fun _=>True) (tL (fun i:Int=>0≤i∧i≤7) (fun i=>(7-i).toNat) (by decide) (by decide) (fun i hi=> ?_)) (fun o _=>by cases o<;>exact tR trivial)
 unfold m0Z
 have st: ∀k:Int,0≤k∧k<7∧i=k→IntKind.wrap .i64 (k+1)=k+1→(0≤IntKind.wrap .i64 (k+1)∧IntKind.wrap .i64 (k+1)≤7)∧(7-IntKind.wrap .i64 (k+1)).toNat<(7-i).toNat:=fun k hk e=>by rw[e];omega
 refine tI (fun h=> ?_) (fun _=>tR trivial)
 refine tI (fun q0=>tB h0 (fun _ _=>tI (fun _=>tR trivial) (fun _=>tR (st 0 ⟨by omega,by omega,dTT q0⟩ (by decide))))) (fun q0=> ?_)
 refine tI (fun q1=>tB h1 (fun _ _=>tI (fun _=>tR trivial) (fun _=>tR (st 1 ⟨by omega,by omega,dTT q1⟩ (by decide))))) (fun q1=> ?_)
 refine tI (fun q2=>tB h2 (fun _ _=>tI (fun _=>tR trivial) (fun _=>tR (st 2 ⟨by omega,by omega,dTT q2⟩ (by decide))))) (fun q2=> ?_)
 refine tI (fun q3=>tB h3 (fun _ _=>tI (fun _=>tR trivial) (fun _=>tR (st 3 ⟨by omega,by omega,dTT q3⟩ (by decide))))) (fun q3=> ?_)
 refine tI (fun q4=>tB h4 (fun _ _=>tI (fun _=>tR trivial) (fun _=>tR (st 4 ⟨by omega,by omega,dTT q4⟩ (by decide))))) (fun q4=> ?_)
 refine tI (fun q5=>tB h5 (fun _ _=>tI (fun _=>tR trivial) (fun _=>tR (st 5 ⟨by omega,by omega,dTT q5⟩ (by decide))))) (fun q5=> ?_)
 refine tI (fun q6=>tB h6 (fun _ _=>tI (fun _=>tR trivial) (fun _=>tR (st 6 ⟨by omega,by omega,dTT q6⟩ (by decide))))) (fun q6=> ?_)
 have:=dTT h;have:=dFF q0;have:=dFF q1;have:=dFF q2;have:=dFF q3;have:=dFF q4;have:=dFF q5;have:=dFF q6;omega
theorem y0E {l:l0A} (h:y0X l): ∃r,g0p l=some r:=by
 rw[r0G]
 refine(y0C ?_ ?_ (y0a h) ?_ (y0b h) (w0j h) (y0c h)).imp (fun _ h=>h.1)
 ·unfold d0v;exact tB (A0r _) (fun _ _=>tR trivial)
 ·unfold c0K;exact tB (z0K _) (fun _ _=>tR trivial)
 ·unfold c0L;exact tB (x0I h.2.1) (fun _ _=>tR trivial)
theorem k0C {S O:Type} {f:S→Option (S⊕O)} (I:S→Prop) {post:O→Prop} (hs: ∀s s',I s→f s=some (.inl s')→I s')(he: ∀s o,I s→f s=some (.inr o)→post o): ∀(n:Nat) (s:S) (o:O),I s→a0l f n s=some o→post o
 |0,_,_,_,h=>by cases h
 |n+1,s,o,hi,h=>by
  simp only[a0l]at h
  cases hf:f s with
  |none=>rw[hf]at h;cases h
  |some q=>
   rw[hf]at h
   cases q with
   |inl s'=>exact k0C I hs he n s' o (hs s s' hi hf) h
   |inr o'=>obtain rfl:=aC h;exact he s _ hi hf
theorem u0H {T S O:Type} [Inhabited T] [DecidableEq T] {xs ys:List T} (hlen:xs.length=ys.length)(hb:xs.length≤4611686018427387904)(ok bad:O) {step:Int→Option (Int⊕O)}
  (hs: ∀i:Nat,i<xs.length→step (i:Int)=some (if nth xs (i:Int)=nth ys (i:Int)then .inl ((i:Int)+1)else .inr bad)) (he:step (xs.length:Int)=some (.inr ok)):
  a0l step big 0=some (if xs=ys then ok else bad):=by
 obtain⟨o,h1,h2⟩:=j0n (step:=step) xs.length (fun i=>(i:Int)) (fun i=> ∀j,j<i→nth xs (j:Int)=nth ys (j:Int)) (fun o=>o=if xs=ys then ok else bad) rfl (fun j hj=>by omega) (fun i hi hI=>by
  rw[hs i hi]
  by_cases c:nth xs (i:Int)=nth ys (i:Int)
  ·left
   rw[if_pos c]
   refine⟨by simp,fun j hj=> ?_⟩
   by_cases e:j=i
   ·subst e;exact c
   ·exact hI j (by omega)
  ·right
   rw[if_neg c]
   refine⟨bad,rfl, ?_⟩
   rw[if_neg (fun e=>c (by rw[e]))]) (fun hI=>⟨ok,he,by
  rw[if_pos]
  apply List.ext_getElem hlen
  intro i h1 h2
  have:=hI i h1
  rwa [g0o h1,g0o h2]at this⟩) (by omega)
 have h1':a0l step big 0=some o:=h1
 rw[h1',h2]
theorem j0m {S S' O O':Type} {f:S→Option (S⊕O)} {g:S'→Option (S'⊕O')} (G:O→Prop)(R:S→S'→Prop)(Ro:O→O'→Prop)(hn: ∀s s' t,R s s'→f s=some (.inl t)→ ∃t',g s'=some (.inl t')∧R t t')(ho: ∀s s' o,R s s'→f s=some (.inr o)→G o→ ∃o',g s'=some (.inr o')∧Ro o o'): ∀(n:Nat) (s:S) (s':S') (o:O),R s s'→a0l f n s=some o→G o→Tot (a0l g n s') (Ro o)
 |0,_,_,_,_,h,_=>by cases h
 |n+1,s,s',o,hR,h,hG=>by
  simp only[a0l]at h⊢
  cases hf:f s with
  |none=>rw[hf]at h;cases h
  |some q=>
   rw[hf]at h
   cases q with
   |inl t=>
    obtain⟨t',e,hR'⟩:=hn s s' t hR hf
    rw[e];exact j0m G R Ro hn ho n t t' o hR' h hG
   |inr x=>
    obtain rfl:=aC h
    obtain⟨o',e,h'⟩:=ho s s' _ hR hf hG
    rw[e];exact⟨o',rfl,h'⟩
/-! What the reader of rules reads the document's reads. -/
def bt(t:List UInt8)(p:Int):Int:=(((t.getD p.toNat 0).toNat:Nat):Int)
theorem A0P(t:List UInt8)(p:Int):0≤bt t p∧bt t p<256:=by
 unfold bt
 have:=UInt8.toNat_lt (t.getD p.toNat 0)
 omega
def f0K(b:Int→Bool)(t:List UInt8)(i k:Int):Prop:=i≤k∧k≤(t.length:Int)∧(∀p,i≤p→p<k→b (bt t p)=true)∧(k<(t.length:Int)→b (bt t k)=false)
theorem i0v {b:Int→Bool} {t:List UInt8} {i k k':Int} (h:f0K b t i k)(h':f0K b t i k'):k=k':=by
 obtain⟨a1,a2,a3,a4⟩:=h
 obtain⟨c1,c2,c3,c4⟩:=h'
 rcases Int.lt_trichotomy k k' with e|e|e
 ·have:=c3 k a1 e;rw[a4 (by omega)]at this;cases this
 ·exact e
 ·have:=a3 k' c1 e;rw[c4 (by omega)]at this;cases this
def scn(X:Int→Option Bool)(t:List UInt8)(i:Int):Option Int:=a0l (fun(s:Int)=>(Option.bind (Option.bind (bif(decide (s<(t.length:Int)))then(bif inR s t.length then X s else none)else(some false)) fun(y:Bool)=>(bif y then(some (.inl ()))else(some (.inr (.inr s))))) (a0j fun(_:Unit)=>(some (.inl (IntKind.wrap .i64 (s+1))))))) big i
theorem t0l {X:Int→Option Bool} {b:Int→Bool} {t:List UInt8} {i:Int} (ht:t.length≤400)(hX: ∀p:Int,0≤p→p<t.length→X p=some (b (bt t p)))(h:rb t i):Tot (scn X t i) (f0K b t i):=by
 obtain⟨h0,h1⟩:=h
 unfold scn
 refine tL (fun s=>i≤s∧s≤(t.length:Int)∧ ∀p,i≤p→p<s→b (bt t p)=true) (fun s=>((t.length:Int)-s).toNat) ⟨ag _,h1,fun p _ _=>by omega⟩ (by omega) (fun s hs=> ?_)
 obtain⟨g0,g1,g2⟩:=hs
 by_cases hl:s<(t.length:Int)
 ·rw[dT hl,a0r (by omega) hl,hX s (by omega) hl]
  simp only[cond_true,aa]
  cases hb:b (bt t s)with
  |true=>
   refine tR ?_
   rw[w64 (n:=s+1) (by omega) (by omega)]
   refine⟨⟨by omega,by omega,fun p p0 p1=> ?_⟩,by omega⟩
   by_cases e:p=s
   ·subst e;exact hb
   ·exact g2 p p0 (by omega)
  |false=>exact tR ⟨g0,g1,g2,fun _=>hb⟩
 ·rw[dF hl]
  exact tR ⟨g0,g1,g2,fun e=>absurd e hl⟩
theorem w0K {X:Int→Option Bool} {b:Int→Bool} {t:List UInt8} {i k:Int} (ht:t.length≤400)(hX: ∀p:Int,0≤p→p<t.length→X p=some (b (bt t p)))(h0:0≤i)(h:f0K b t i k):scn X t i=some k:=by
 obtain⟨k',e,h'⟩:=t0l ht hX ⟨h0,by have:=h.1;have:=h.2.1;omega⟩
 rw[e,i0v h' h]
theorem w0J {X:Int→Option Bool} {b:Int→Bool} {t:List UInt8} {i k:Int} (ht:t.length≤400)(hX: ∀p:Int,0≤p→p<t.length→X p=some (b (bt t p)))(h:rb t i)(e:scn X t i=some k):f0K b t i k:=by
 obtain⟨k',e',h'⟩:=t0l ht hX h
 obtain rfl:=oi (e.symm.trans e')
 exact h'
def spB(c:Int):Bool:=decide (c=32)
def loB(c:Int):Bool:=decide (97≤c∧c≤122)
def leB(c:Int):Bool:=decide (97≤c∧c≤122∨65≤c∧c≤90)
def diB(c:Int):Bool:=decide (48≤c∧c≤57)
section
variable {t : List UInt8} (ht : t.length ≤ 400)
include ht
theorem j0Z {i j:Int} (h0:0≤i)(h:f0K spB t i j):a0B t i=some j:=by
 have:=w0K ht (X:=fun p=>some (decide (bt t p=32))) (fun p _ _=>rfl) h0 h
 unfold a0B
 exact(congrArg (fun o=>Option.bind o fun s=>some s) this).trans rfl
theorem s0L {i k:Int} (h0:0≤i)(h:f0K loB t i k):b0h t i=some k:=by
 have:=w0K ht (X:=fun p=>bif decide (bt t p≥97)then(bif inR p t.length then some (decide (bt t p≤122))else none)else some false) (fun p p0 p1=>by
  rw[a0r p0 p1]
  unfold loB
  by_cases e:bt t p≥97
  ·rw[dT e]
   by_cases e2:bt t p≤122
   ·rw[dT (show 97≤bt t p∧bt t p≤122 from⟨e,e2⟩)];simp[e2]
   ·rw[dF (show¬(97≤bt t p∧bt t p≤122)from fun h=>e2 h.2)];simp[e2]
  ·rw[dF e,dF (show¬(97≤bt t p∧bt t p≤122)from fun h=>e h.1)];rfl) h0 h
 unfold b0h
 exact(congrArg (fun o=>Option.bind o fun s=>some s) this).trans rfl
theorem t0r {k:Int→Option Bool} {b:Int→Bool} (hk: ∀x,k x=some (b x)) {i:Int} (h:rb t i) {r:List UInt8×Int} (hr:A0d k t i=some r): ∃j q,f0K spB t i j∧f0K b t j q∧r=(cut t j q,j):=by
 unfold A0d at hr
 obtain⟨j,e1,hr⟩:=a0d hr
 obtain⟨q,e2,hr⟩:=a0d hr
 obtain⟨e3,hr⟩:=a0Q hr
 obtain rfl:=oi hr
 have s1:=w0J ht (X:=fun p=>some (decide (bt t p=32))) (b:=spB) (fun p _ _=>rfl) h e1
 refine⟨j,q,s1,w0J ht (X:=fun p=>Option.bind (k (bt t p)) fun y0=>some y0) (fun p _ _=>by rw[hk];rfl) ⟨by have:=h.1;have:=s1.1;omega,s1.2.1⟩ e2,rfl⟩
omit ht in
theorem y0x {j n:Int} (h0:0≤j)(hn:0≤n)(h:j+n≤(t.length:Int)):cut (cut t j (t.length:Int)) 0 n=cut t j (j+n):=by
 unfold cut
 rw[aR,List.take_length,Int.toNat_zero,cG,List.take_drop]
 congr 2
 omega
omit ht in
theorem n0x {j k:Int} (h0:0≤j)(h1:j≤k)(h2:k≤(t.length:Int)):(((cut t j k).length:Nat):Int)=k-j:=by
 unfold cut
 simp only[aV,aJ]
 omega
theorem p0M {x:List UInt8} (hq:x.length≤3) {i:Int} (h:rb t i) {r:Bool×Int} (hr:a0y x t i=some r): ∃j,f0K spB t i j∧a0o t j x=some r.1∧(r.1=true→r.2=j+x.length∧r.2≤t.length)∧(r.1=false→r.2=j):=by
 unfold a0y at hr
 obtain⟨y,e1,hr⟩:=a0d hr
 obtain⟨_,hr⟩:=a0Q hr
 obtain⟨z,e2,hr⟩:=a0d hr
 obtain⟨j,q,s1,s2,rfl⟩:=t0r ht (k:=c0J) (b:=fun _=>false) (fun _=>rfl) h e1
 simp only at e2 hr
 have j0:0≤j:=by have:=h.1;have:=s1.1;omega
 have j1:=s1.2.1
 have hl:=n0x j0 j1 (ag _)
 refine⟨j,s1, ?_⟩
 have hp:c0s (cut t j (t.length:Int)) x=bif decide (((cut t j (t.length:Int)).length:Int)≥(x.length:Int))then(bif inS 0 (x.length:Int) (cut t j (t.length:Int)).length then some (cut (cut t j (t.length:Int)) 0 (x.length:Int)==x)else none)else some false:=by
  unfold c0s c0e
  rw[Option.bind_fun_some,Option.bind_fun_some]
 rw[hp]at e2
 unfold a0o
 rw[w64 (n:=j+x.length) (by omega) (by omega)]
 by_cases hc:((cut t j (t.length:Int)).length:Int)≥(x.length:Int)
 ·rw[dT hc]at e2
  simp only[cond_true]at e2
  obtain⟨_,e2⟩:=a0Q e2
  obtain rfl:=oi e2
  rw[y0x j0 (by omega) (by omega)]at hr
  rw[dT (show j+(x.length:Int)≤t.length by omega),i0a j0 (by omega) (by omega)]
  simp only[cond_true,aa]
  rw[w64 (n:=j+x.length) (by omega) (by omega)]at hr
  cases hb:cut t j (j+x.length)==x with
  |true=>
   rw[hb]at hr
   obtain rfl:=oi hr
   exact⟨rfl,fun _=>⟨rfl,by simp only;omega⟩,fun e=>by cases e⟩
  |false=>
   rw[hb]at hr
   obtain rfl:=oi hr
   exact⟨rfl,(fun e=>by cases e),fun _=>rfl⟩
 ·rw[dF hc]at e2
  obtain rfl:=oi e2
  obtain rfl:=oi hr
  rw[dF (show¬j+(x.length:Int)≤t.length by omega)]
  exact⟨rfl,(fun e=>by cases e),fun _=>rfl⟩
end
/-! Numbers. -/
def vl(t:List UInt8)(j:Int):Nat→Int
 |0=>0
 |m+1=>vl t j m*10+(bt t (j+(m:Int))-48)
theorem z0b {t:List UInt8} {j:Int} {d:Nat} (hd: ∀p:Int,j≤p→p<j+d→diB (bt t p)=true): ∀m:Nat,m≤d→0≤vl t j m∧vl t j m<((10^m:Nat):Int)
 |0,_=>⟨ag _,by simp[vl]⟩
 |m+1,h=>by
  obtain⟨h1,h2⟩:=z0b hd m (by omega)
  have h3:=of_decide_eq_true (hd (j+m) (by omega) (by omega))
  have e:vl t j (m+1)=vl t j m*10+(bt t (j+(m:Int))-48):=rfl
  rw[e,Nat.pow_succ]
  generalize vl t j m=v at*
  generalize 10^m=w at*
  omega
theorem B0k {t:List UInt8} {j:Int} {d m:Nat} (hd: ∀p:Int,j≤p→p<j+d→diB (bt t p)=true)(h:m≤d)(h9:m≤9):0≤vl t j m∧vl t j m≤999999999:=by
 obtain⟨h1,h2⟩:=z0b hd m h
 have:10^m≤10^9:=Nat.pow_le_pow_right (by decide) h9
 omega
theorem q0r {t:List UInt8} {j q:Int} (h0:0≤j)(h2:q≤(t.length:Int)) {m:Nat} (hm:j+m<q):nth (a0k (cut t j q)) (m:Int)=bt t (j+m):=by
 have hl:=n0x h0 (show j≤q by omega) h2
 rw[g0o (by rw[a0K];omega)]
 unfold a0k bt cut
 have hj:j.toNat+m<t.length:=by omega
 rw[List.getElem_map,List.getElem_drop,List.getElem_take,show(j+(m:Int)).toNat=j.toNat+m by omega,aw,ac hj]
 rfl
section
variable {t : List UInt8} (ht : t.length ≤ 400)
include ht
theorem t0P {v i:Int} (hv:0≤v)(h:rb t i) {r:Int×Bool×Int} (hr:a0z v t i=some r)(ho:r.2.1=true):a0D t i v=some (r.1,r.2.2)∧(v≤r.1∧r.1≤999999999)∧i<r.2.2∧r.2.2≤t.length:=by
 unfold a0z at hr
 obtain⟨y,e1,hr⟩:=a0d hr
 obtain⟨j,q,s1,s2,rfl⟩:=t0r ht (k:=b0o) (b:=diB) (fun x=>by
  unfold b0o diB
  by_cases h1:48≤x
  ·by_cases h2:x≤57<;>simp[h1,h2]
  ·simp[h1]) h e1
 have i0:=h.1
 have j0:0≤j:=by have:=s1.1;omega
 have jq:=s2.1
 have ql:=s2.2.1
 have hl:=n0x j0 jq ql
 obtain⟨s,e2,hr⟩:=a0d hr
 obtain⟨bd,e3,e4⟩:=a0d e2
 cases bd with
 |true=>obtain rfl:=oi e4;obtain rfl:=oi hr;cases ho
 |false=>
  obtain rfl:=oi e4
  obtain⟨d,hd⟩: ∃d:Nat,q=j+d:=⟨(q-j).toNat,by omega⟩
  subst hd
  have hdd: ∀p:Int,j≤p→p<j+d→diB (bt t p)=true:=s2.2.2.1
  have hlen:(cut t j (j+d)).length=d:=by omega
  simp only[hlen]at e3
  -- what the checks say
  have c1:1≤d:=by
   cases d with
   |zero=>cases(show(some true:Option Bool)=some false from e3)
   |succ d=>omega
  rw[dF (show¬(d:Int)=0 by omega)]at e3
  simp only[cond_false]at e3
  have c2:d≤9:=by
   by_cases h9:(d:Int)>9
   ·rw[dT h9]at e3;cases e3
   ·omega
  rw[dF (show¬(d:Int)>9 by omega)]at e3
  simp only[cond_false]at e3
  have c3:1<d→bt t j≠48:=fun h1=>by
   rw[dT (show(d:Int)>1 by omega)]at e3
   simp only[cond_true]at e3
   obtain⟨_,e3⟩:=a0Q e3
   have e5:=of_decide_eq_false (oi e3)
   have:=q0r (m:=0) j0 ql (by omega)
   rw[Int.natCast_zero,Int.add_zero]at this
   rw[←this]
   intro e6
   apply e5
   rw[←e6,show(0:Int)=((0:Nat):Int)from rfl,g0o (by rw[a0K];omega)]
   unfold a0k
   rw[List.getElem_map,aR,aw,ac (by omega)]
   rfl
  obtain⟨n,e5,hr⟩:=a0d hr
  have v9:=fun m (hm:m≤d)=>B0k (t:=t) (j:=j) hdd hm (by omega)
  obtain⟨n',e6,rfl⟩:=j0n (step:=(fun(s0:Int×Int)=>(bif(decide (s0.2<((a0k (cut t j (j+d))).length:Int)))then(bif inR s0.2 (a0k (cut t j (j+d))).length then(some (.inl ((IntKind.wrap .i64 ((IntKind.wrap .i64 (s0.1*10))+((IntKind.wrap .i64 ((IntKind.wrap .u8 ((nth (a0k (cut t j (j+d))) s0.2)-48))))))),(IntKind.wrap .i64 (s0.2+1)))))else none)else(some (.inr s0.1))))) d (fun m=>(vl t j m,(m:Int))) (fun _=>True) (fun o=>o=vl t j d) (s0:=(0,0)) rfl trivial (fun m hm _=>by
   left
   refine⟨?_,trivial⟩
   have hb:=of_decide_eq_true (hdd (j+m) (by omega) (by omega))
   have:=v9 m (by omega)
   have:=v9 (m+1) (by omega)
   have e:vl t j (m+1)=vl t j m*10+(bt t (j+(m:Int))-48):=rfl
   simp only
   rw[a0K,hlen,dT (by omega),a0r (by omega) (by omega),q0r j0 ql (by omega),w8 (n:=bt t (j+m)-48) (by omega) (by omega),w64 (n:=bt t (j+m)-48) (by omega) (by omega),w64 (n:=vl t j m*10) (by omega) (by omega),w64 (by omega) (by omega),w64 (n:=(m:Int)+1) (by omega) (by omega),e]
   rfl) (fun _=>⟨_,by simp only;rw[a0K,hlen,dF (by omega)];rfl,rfl⟩) (by omega)
  obtain rfl:=oi (e6.symm.trans e5)
  have h9:=v9 d (am _)
  by_cases hv2:vl t j d<v
  ·rw[dT hv2]at hr;obtain rfl:=oi hr;cases ho
  ·rw[dF hv2]at hr
   obtain rfl:=oi hr
   simp only[hlen]
   rw[w64 (n:=j+d) (by omega) (by omega)]
   refine⟨?_,⟨by omega,by omega⟩,by have:=s1.1;omega,ql⟩
   unfold a0D
   rw[j0Z ht i0 s1,aa]
   obtain⟨o,e7,rfl⟩:=j0n (step:=(fun(s0:Int×Int)=>(Option.bind (Option.bind (bif(decide (s0.1<(t.length:Int)))then(bif inR s0.1 t.length then(bif(decide (((((t.getD (s0.1:Int).toNat 0).toNat:Nat):Int))≥48))then(bif inR s0.1 t.length then(some ((decide (((((t.getD (s0.1:Int).toNat 0).toNat:Nat):Int))≤57))))else none)else(some false))else none)else(some false)) fun(s2:Bool)=>(bif s2 then(some (.inl ()))else(some (.inr (.inr (s0.1,s0.2)))))) (a0j fun(s5:Unit)=>(Option.bind (bif(decide ((IntKind.wrap .i64 (s0.1-j))<9))then(bif inR s0.1 t.length then(some ((IntKind.wrap .i64 ((IntKind.wrap .i64 (s0.2*10))+((IntKind.wrap .i64 ((IntKind.wrap .u8 (((((t.getD (s0.1:Int).toNat 0).toNat:Nat):Int))-48)))))))))else none)else(some s0.2)) fun(s3:Int)=>(some (.inl ((IntKind.wrap .i64 (s0.1+1)),s3)))))))) d (fun m=>(j+(m:Int),vl t j m)) (fun _=>True) (fun o:Int×Int=>o=(j+(d:Int),vl t j d)) (s0:=(j,0)) (by simp[vl]) trivial (fun m hm _=>by
    left
    refine⟨?_,trivial⟩
    have hb:=of_decide_eq_true (hdd (j+m) (by omega) (by omega))
    have:=v9 m (by omega)
    have:=v9 (m+1) (by omega)
    have e:vl t j (m+1)=vl t j m*10+(bt t (j+(m:Int))-48):=rfl
    unfold bt at*
    simp only
    rw[dT (by omega),a0r (by omega) (by omega),dT (by omega),dT (by omega)]
    simp only[cond_true,aa,a0j]
    rw[w64 (n:=j+(m:Int)-j) (by omega) (by omega),dT (by omega),w8 (n:=(((t.getD (j+(m:Int)).toNat 0).toNat:Nat):Int)-48) (by omega) (by omega),w64 (n:=(((t.getD (j+(m:Int)).toNat 0).toNat:Nat):Int)-48) (by omega) (by omega),w64 (n:=vl t j m*10) (by omega) (by omega),w64 (by omega) (by omega),w64 (n:=j+(m:Int)+1) (by omega) (by omega),e]
    simp only[cond_true,aa]
    rw[show j+(m:Int)+1=j+((m+1:Nat):Int) by omega]) (fun _=>⟨_,by
     simp only
     by_cases hq:j+(d:Int)<t.length
     ·have hb:=of_decide_eq_false (s2.2.2.2 hq)
      unfold bt at hb
      rw[dT hq,a0r (by omega) hq]
      by_cases h48:(((t.getD (j+(d:Int)).toNat 0).toNat:Nat):Int)≥48
      ·rw[dT h48,dF (show¬(((t.getD (j+(d:Int)).toNat 0).toNat:Nat):Int)≤57 by omega)];rfl
      ·rw[dF h48];rfl
     ·rw[dF hq];rfl,rfl⟩) (by omega)
   rw[e7,aa]
   simp only
   rw[w64 (n:=j+(d:Int)-j) (by omega) (by omega),dF (show¬j+(d:Int)=j by omega),dF (show¬j+(d:Int)-j>9 by omega),a0r j0 (by omega),dF hv2]
   simp only[cond_true,cond_false]
   by_cases hz:bt t j=48
   ·have hd1:d=1:=by
     rcases bv 1 d with h|h
     ·exact absurd hz (c3 h)
     ·omega
    rw[dT (show(((t.getD j.toNat 0).toNat:Nat):Int)=48 from hz),dF (show¬j+(d:Int)-j>1 by omega)];rfl
   ·rw[dF (show¬(((t.getD j.toNat 0).toNat:Nat):Int)=48 from hz)];rfl
end
/-! Relations. -/
theorem B0v: ∀k:Fin 256,d0t ([110,105,118,119,102,116,99,101]:List UInt8) [UInt8.ofNat k.val]=some true→d0N (k.val:Int)=some true∧loB (k.val:Int)=true:=by decide+kernel
section
variable {t : List UInt8} (ht : t.length ≤ 400)
include ht
theorem s0M {i:Int} (h:rb t i) {r:List UInt8×Int} (hr:a0U t i=some r): ∃j q,f0K spB t i j∧f0K leB t j q∧r=(cut t j q,j):=by
 unfold a0U at hr
 obtain⟨y,e1,hr⟩:=a0d hr
 obtain rfl:=oi hr
 exact t0r ht (k:=b0G) (b:=leB) (fun x=>by
  unfold b0G leB
  by_cases h1:97≤x
  ·by_cases h2:x≤122
   ·simp[h1,h2]
   ·by_cases h3:65≤x<;>by_cases h4:x≤90<;>simp[h1,h2,h3,h4]
  ·by_cases h3:65≤x<;>by_cases h4:x≤90<;>simp[h1,h3,h4]) h e1
theorem x0N {i:Int} (h:rb t i) {x2 x3 x4} {r:Bool×Int×Int} (hr:b0c t i x2 x3 x4=some r)(ho:r.1=true): ∃j,f0K spB t i j∧r=(true,j+1,bt t j)∧b0h t j=some (j+1)∧d0N (bt t j)=some true∧j<t.length:=by
 unfold b0c at hr
 obtain⟨y,e1,hr⟩:=a0d hr
 obtain⟨j,q,s1,s2,rfl⟩:=s0M ht h e1
 have j0:0≤j:=by have:=h.1;have:=s1.1;omega
 have jq:=s2.1
 have ql:=s2.2.1
 have hl:=n0x j0 jq ql
 obtain⟨s,e2,hr⟩:=a0d hr
 obtain⟨bd,e3,e4⟩:=a0d e2
 cases bd with
 |true=>obtain rfl:=oi e4;obtain rfl:=oi hr;cases ho
 |false=>
  obtain rfl:=oi e4
  by_cases c1:((cut t j q).length:Int)=1
  ·rw[dF (not_not_intro c1)]at e3
   obtain⟨z,e3,e5⟩:=a0d e3
   have hz:z=true:=by cases z with
    |true=>rfl
    |false=>cases e5
   subst hz
   obtain⟨_,hr⟩:=a0Q hr
   obtain rfl:=oi hr
   obtain rfl:q=j+1:=by omega
   have hj:j.toNat<t.length:=by omega
   have hc:cut t j (j+1)=[t[j.toNat]]:=by
    apply List.ext_getElem
    ·simp only[List.length_singleton];omega
    ·intro k k0 k1
     simp only[List.length_singleton]at k1
     obtain rfl:k=0:=by omega
     simp[cut]
   have hb:bt t j=((t[j.toNat].toNat:Nat):Int):=by
    unfold bt;rw[aw,ac hj];rfl
   have hlt:=UInt8.toNat_lt t[j.toNat]
   rw[hc]at e3
   obtain⟨k1,k2⟩:=B0v ⟨t[j.toNat].toNat,hlt⟩ (by simp only;rw[UInt8.ofNat_toNat];exact e3)
   refine⟨j,s1, ?_,s0L ht j0 ⟨by omega,by omega,fun p p0 p1=> ?_,fun e=> ?_⟩,by rw[hb];exact k1,by omega⟩
   ·simp only
    rw[w64 (n:=j+1) (by omega) (by omega),hc,hb];rfl
   ·obtain rfl:p=j:=by omega
    rw[hb];exact k2
   ·have:=of_decide_eq_false (s2.2.2.2 e)
    exact decide_eq_false (by omega)
  ·rw[dT c1]at e3;cases e3
theorem n0J {j:Int} {x:List UInt8} (h0:0≤j)(h1:j≤t.length)(hx:x.length≤3):a0o t j x=some (decide (j+(x.length:Int)≤t.length)&&cut t j (j+x.length)==x):=by
 unfold a0o
 rw[w64 (n:=j+x.length) (by omega) (by omega)]
 by_cases h:j+(x.length:Int)≤t.length
 ·rw[dT h,i0a h0 (by omega) h];rfl
 ·rw[dF h];rfl
theorem x0u {j:Int} (h0:0≤j)(h1:j≤t.length)(h:a0o t j ([61]:List UInt8)=some true):a0o t j ([33,61]:List UInt8)=some false:=by
 rw[n0J ht h0 h1 (by decide)]at h⊢
 have h:=oi h
 simp only[ak,az,ae,decide_eq_true_eq,beq_iff_eq]at h
 congr 1
 rw[Bool.and_eq_false_iff]
 right
 rw[beq_eq_false_iff_ne]
 intro e
 have e2:(cut t j (j+1)).head?=(cut t j (j+2)).head?:=by
  unfold cut
  rw[List.head?_drop,List.head?_drop,aT,aT,if_pos (by omega),if_pos (by omega)]
 have h2:cut t j (j+1)=[61]:=h.2
 have e3:cut t j (j+2)=[33,61]:=e
 rw[h2,e3]at e2
 revert e2;decide
theorem x0t {j:Int} (h0:0≤j)(h1:j≤t.length)(h:a0o t j ([33,61]:List UInt8)=some true):a0o t (j+1) ([61]:List UInt8)=some true:=by
 rw[n0J ht h0 h1 (by decide)]at h
 have h:=oi h
 simp only[ak,az,ae,decide_eq_true_eq,beq_iff_eq]at h
 rw[n0J ht (by omega) (by omega) (by decide)]
 have h2:cut t j (j+2)=[33,61]:=h.2
 have e3:cut t (j+1) (j+1+1)=(cut t j (j+2)).drop 1:=by
  unfold cut
  rw[List.drop_drop,show(j+1+1).toNat=(j+2).toNat by omega,show(j+1).toNat=j.toNat+1 by omega]
 simp only[ak,az]
 rw[dT (by omega)]
 have e4:cut t (j+1) (j+1+((0+1:Nat):Int))=[61]:=by
  show cut t (j+1) (j+1+1)=_
  rw[e3,h2];rfl
 rw[e4];rfl
omit ht in
theorem n0I {i j:Int} (h:f0K spB t i j):f0K spB t j j:=⟨ag _,h.2.1,fun p _ _=>by omega,h.2.2.2⟩
omit ht in
theorem x0q {i j:Int} (h:rb t i)(h2:f0K spB t i j):rb t j:=⟨by have:=h.1;have:=h2.1;omega,h2.2.1⟩
def rOk(l:List a0T):Prop:= ∀x∈l,(0≤x.e_∧x.e_≤999999999)∧0≤x.f_∧x.f_≤999999999
def x0G(t:List UInt8)(s1:Int×List a0T):Option ((Int×List a0T)⊕(Bool×Int×List a0T)):=(Option.bind (a0z 0 t s1.1) fun y0=>(Option.bind (Option.bind (bif y0.2.1 then(Option.bind (a0y ([46,46]:List UInt8) t y0.2.2) fun y3=>(some (y3.1,y3.2)))else(some (false,y0.2.2))) fun(s2:Bool×Int)=>(bif s2.1 then(Option.bind (a0z (IntKind.wrap .i64 (y0.1+1)) t s2.2) fun y1=>(some (y1.2.1,y1.1,y1.2.2)))else(some (y0.2.1,y0.1,s2.2)))) fun(s0:Bool×Int×Int)=>(bif(!s0.1)then(some (.inr (false,s0.2.2,s1.2)))else(bif room (s1.2.length+([(⟨y0.1,s0.2.1⟩:a0T)]:List a0T).length)then(Option.bind (a0y ([44]:List UInt8) t s0.2.2) fun y2=>(bif(!y2.1)then(some (.inr (true,y2.2,(s1.2++([(⟨y0.1,s0.2.1⟩:a0T)]:List a0T)))))else(some (.inl (y2.2,(s1.2++([(⟨y0.1,s0.2.1⟩:a0T)]:List a0T)))))))else none))))
def o0W(t:List UInt8)(s0:Int×List a0T):Option ((Int×List a0T)⊕(List a0T×Int×Bool)):=(Option.bind (a0D t s0.1 0) fun y0=>(bif(decide (y0.1<0))then(some (.inr (([]:List a0T),y0.2,false)))else(Option.bind (a0B t y0.2) fun y2=>(Option.bind (Option.bind (a0o t y2 ([46,46]:List UInt8)) fun y4=>(bif y4 then(Option.bind (a0D t (IntKind.wrap .i64 (y2+2)) (IntKind.wrap .i64 (y0.1+1))) fun y1=>(bif(decide (y1.1<0))then(some (.inr (.inr (([]:List a0T),y1.2,false))))else(some (.inl (y1.2,y1.1)))))else(some (.inl (y0.2,y0.1))))) (a0j fun(s1:Int×Int)=>(bif room (s0.2.length+([(⟨y0.1,s1.2⟩:a0T)]:List a0T).length)then(Option.bind (a0B t s1.1) fun y3=>(Option.bind (a0o t y3 ([44]:List UInt8)) fun y5=>(bif(!y5)then(some (.inr ((s0.2++([(⟨y0.1,s1.2⟩:a0T)]:List a0T)),s1.1,true)))else(some (.inl ((IntKind.wrap .i64 (y3+1)),(s0.2++([(⟨y0.1,s1.2⟩:a0T)]:List a0T))))))))else none))))))
theorem r0i {s:Int×List a0T} (h:rb t s.1)(hO:rOk s.2) {z:(Int×List a0T)⊕(Bool×Int×List a0T)} (hz:x0G t s=some z)(hg: ∀o,z= .inr o→o.1=true):(∃u,z= .inl u∧o0W t s=some (.inl u)∧rb t u.1∧rOk u.2)∨ ∃P R next,z= .inr (true,P,R)∧o0W t s=some (.inr (R,next,true))∧f0K spB t next P∧rb t next∧rOk R:=by
 unfold x0G at hz
 obtain⟨y0,e1,hz⟩:=a0d hz
 obtain⟨w,e2,hz⟩:=a0d hz
 obtain⟨s2,e3,e4⟩:=a0d e2
 have hw:w.1=true:=by
  cases hw:w.1 with
  |true=>rfl
  |false=>
   rw[hw]at hz
   have:=hg _ (oi hz).symm
   cases this
 have hy:y0.2.1=true:=by
  cases hy:y0.2.1 with
  |true=>rfl
  |false=>
   rw[hy]at e3 e4
   obtain rfl:=oi e3
   obtain rfl:=oi e4
   cases hw
 obtain⟨n1,n2,n3,n4⟩:=t0P ht (ag 0) h e1 hy
 have h0:=h.1
 rw[hy]at e3
 obtain⟨y3,e5,e6⟩:=a0d (show(Option.bind (a0y ([46,46]:List UInt8) t y0.2.2) fun y3=>some (y3.1,y3.2))=some s2 from e3)
 obtain rfl:=oi e6
 obtain⟨c,s1,g1,g2,g3⟩:=p0M ht (by decide) ⟨by omega,n4⟩ e5
 have c0:0≤c:=by have:=s1.1;omega
 -- where it goes on, and the second end
 obtain⟨next,k1,k2,k3,k4,k5⟩: ∃next,(Option.bind (a0o t c ([46,46]:List UInt8)) fun y4=>(bif y4 then(Option.bind (a0D t (IntKind.wrap .i64 (c+2)) (IntKind.wrap .i64 (y0.1+1))) fun y1=>(bif(decide (y1.1<0))then(some (.inr (.inr (([]:List a0T),y1.2,false))))else(some (.inl (y1.2,y1.1)))))else(some (.inl (y0.2.2,y0.1)))):Option ((Int×Int)⊕((Int×List a0T)⊕(List a0T×Int×Bool))))=some (.inl (next,w.2.1))∧rb t next∧rb t w.2.2∧(∀d,f0K spB t w.2.2 d→f0K spB t next d)∧0≤w.2.1∧w.2.1≤999999999:=by
  rw[g1]
  cases hb:y3.1 with
  |true=>
   simp only[hb,cond_true]at e4
   obtain⟨y1,e7,e8⟩:=a0d e4
   obtain rfl:=oi e8
   obtain⟨q1,q2⟩:=g2 hb
   rw[q1,w64 (n:=y0.1+1) (by omega) (by omega)]at e7
   simp only[ak,az]at e7 q1
   obtain⟨m1,m2,m3,m4⟩:=t0P ht (by omega) ⟨by omega,by omega⟩ e7 hw
   simp only at m1 m2 m3 m4⊢
   simp only[aa,cond_true]
   rw[w64 (n:=c+2) (by omega) (by omega),w64 (n:=y0.1+1) (by omega) (by omega)]
   have m1':a0D t (c+2) (y0.1+1)=some (y1.1,y1.2.2):=m1
   rw[m1',aa,dF (show¬(y1.1,y1.2.2).1<0 by simp only;omega)]
   exact⟨_,rfl,⟨by omega,m4⟩,⟨by omega,m4⟩,fun d hd=>hd,by omega,by omega⟩
  |false=>
   simp only[hb,cond_false]at e4
   obtain rfl:=oi e4
   have q1:=g3 hb
   simp only at q1⊢
   rw[q1]
   exact⟨_,rfl,⟨by omega,n4⟩,⟨c0,s1.2.1⟩,fun d hd=>by
    obtain rfl:=i0v hd (n0I s1)
    exact s1,by omega,by omega⟩
 rw[hw]at hz
 simp only[bk,cond_false]at hz
 obtain⟨e7,hz⟩:=a0Q hz
 obtain⟨y2,e8,hz⟩:=a0d hz
 obtain⟨d,s3,f1,f2,f3⟩:=p0M ht (by decide) k3 e8
 have s4:=k4 d s3
 have d0:0≤d:=by have:=s3.1;have:=k3.1;omega
 have d1:=s3.2.1
 have hO':rOk (s.2++ [(⟨y0.1,w.2.1⟩:a0T)]):=fun x hx=>by
  rcases ay.1 hx with hx|hx
  ·exact hO x hx
  ·obtain rfl:=bn.1 hx
   exact⟨⟨by simp only;omega,by simp only;omega⟩,by simp only;omega,by simp only;omega⟩
 have hq:o0W t s=(bif(!y2.1)then(some (.inr ((s.2++([(⟨y0.1,w.2.1⟩:a0T)]:List a0T)),next,true)))else(some (.inl ((IntKind.wrap .i64 (d+1)),(s.2++([(⟨y0.1,w.2.1⟩:a0T)]:List a0T)))))):=by
  unfold o0W
  rw[n1,aa,dF (show¬(y0.1,y0.2.2).1<0 by simp only;omega)]
  simp only[cond_false]
  rw[j0Z ht (by omega) s1,aa,k1]
  simp only[aa,a0j]
  rw[e7,j0Z ht k2.1 s4]
  simp only[cond_true,aa]
  rw[f1,aa]
 cases hb:y2.1 with
 |true=>
  rw[hb]at hz hq
  obtain rfl:=oi hz
  obtain⟨q1,q2⟩:=f2 hb
  simp only[ak,az]at q1
  left
  refine⟨_,rfl, ?_,⟨by simp only;omega,by simp only;omega⟩,hO'⟩
  rw[hq,w64 (n:=d+1) (by omega) (by omega),q1];rfl
 |false=>
  rw[hb]at hz hq
  obtain rfl:=oi hz
  right
  exact⟨y2.2,_,next,rfl,hq,by rw[f3 hb];exact s4,k2,hO'⟩
theorem t0E {i:Int} (h:rb t i) {x2 x3 x4} {r:Bool×Int×List a0T} (hr:b0j t i x2 x3 x4=some r)(ho:r.1=true): ∃next,d0r t i=some (r.2.2,next,true)∧f0K spB t next r.2.1∧rb t next∧rOk r.2.2:=by
 obtain⟨o,e,⟨next,h1,h2,h3,h4⟩⟩:=j0m (f:=x0G t) (g:=o0W t) (fun o=>o.1=true) (fun s s'=>s=s'∧rb t s.1∧rOk s.2) (fun o o'=> ∃next,o'=(o.2.2,next,true)∧f0K spB t next o.2.1∧rb t next∧rOk o.2.2) (fun s s' u hR hf=>by
  obtain⟨rfl,h1,h2⟩:=hR
  rcases r0i ht h1 h2 hf (fun o e=>by cases e)with⟨v,e1,e2,e3,e4⟩|⟨_,_,_,e,_⟩
  ·obtain rfl:=ba e1
   exact⟨_,e2,rfl,e3,e4⟩
  ·cases e) (fun s s' o hR hf hG=>by
  obtain⟨rfl,h1,h2⟩:=hR
  rcases r0i ht h1 h2 hf (fun o' e=>by obtain rfl:=aA e;exact hG)with⟨v,e1,_⟩|⟨P,R,next,e1,e2,e3,e4,e5⟩
  ·cases e1
  ·obtain rfl:=aA e1
   exact⟨_,e2,next,rfl,e3,e4,e5⟩) big (i,[]) (i,[]) r ⟨rfl,h,fun x hx=>by cases hx⟩ hr ho
 exact⟨next,by rw[←h1];exact e,h2,h3,h4⟩
end
/-! A rule, read. -/
def t0A(x:a0e):Prop:=(0≤x.p_∧x.p_<256)∧(0≤x.v_∧x.v_≤999999999)∧rOk x.R_
section
variable {t : List UInt8} (ht : t.length ≤ 400)
include ht
theorem q0l {i:Int} (h:rb t i) {r:a0e×Bool×Int} (hr:a0N t i=some r)(ho:r.2.1=true): ∃next,c0E t i=some (r.1,next,true)∧f0K spB t next r.2.2∧rb t next∧t0A r.1:=by
 unfold a0N at hr
 obtain⟨s,e1,hr⟩:=a0d hr
 obtain⟨s0,e2,e3⟩:=a0d e1
 have hs:s0.1=true:=by
  cases hs:s0.1 with
  |true=>rfl
  |false=>
   rw[hs]at e3
   obtain rfl:=oi e3
   obtain rfl:=oi hr
   cases ho
 rw[hs]at e3
 obtain rfl:=oi e3
 obtain rfl:=oi hr
 obtain⟨y0,e4,e2⟩:=a0d e2
 have hy0:y0.1=true:=by
  cases hy:y0.1 with
  |true=>rfl
  |false=>rw[hy]at e2;obtain rfl:=oi e2;cases hs
 rw[hy0]at e2
 obtain⟨y1,e5,e2⟩:=a0d (show(Option.bind (b0H t y0.2.1 y0.2.2 0 false) _)=some s0 from e2)
 have hy1:y1.1=true:=by
  cases hy:y1.1 with
  |true=>rfl
  |false=>rw[hy]at e2;obtain rfl:=oi e2;cases hs
 rw[hy1]at e2
 obtain⟨y2,e6,e2⟩:=a0d (show(Option.bind (b0v t y1.2.1 y0.2.2 y1.2.2 false) _)=some s0 from e2)
 have hy2:y2.1=true:=by
  cases hy:y2.1 with
  |true=>rfl
  |false=>rw[hy]at e2;obtain rfl:=oi e2;cases hs
 rw[hy2]at e2
 obtain⟨y3,e7,e2⟩:=a0d (show(Option.bind (b0j t y2.2.1 y0.2.2 y1.2.2 y2.2.2) _)=some s0 from e2)
 obtain rfl:=oi e2
 have hy3:y3.1=true:=hs
 simp only
 -- the operand
 obtain⟨j,s1,rfl,w1,w2,jl⟩:=x0N ht h e4 hy0
 simp only at e5 e6 e7⊢
 have j0:0≤j:=(x0q h s1).1
 have hb:=A0P t j
 -- what is left s0E
 unfold b0H at e5
 obtain⟨z,a1,a2⟩:=a0d e5
 obtain⟨j1,s2,b1,b2,b3⟩:=p0M ht (by decide) ⟨by omega,by omega⟩ a1
 have j10:0≤j1:=by have:=s2.1;omega
 have j1l:=s2.2.1
 obtain⟨c,k1,k2,k3,k4⟩: ∃c,(Option.bind (a0o t j1 ([37]:List UInt8)) fun y6=>(bif y6 then(Option.bind (a0D t (IntKind.wrap .i64 (j1+1)) 1) fun y1=>(bif(decide (y1.1<0))then(some (.inr ((⟨bt t j,0,false,([]:List a0T)⟩:a0e),y1.2,false)))else(Option.bind (a0B t y1.2) fun y7=>(some (.inl (y7,y1.1))))))else(some (.inl (j1,0)))):Option ((Int×Int)⊕(a0e×Int×Bool)))=some (.inl (c,y1.2.2))∧rb t y1.2.1∧f0K spB t y1.2.1 c∧(0≤y1.2.2∧y1.2.2≤999999999):=by
  rw[b1]
  cases hz:z.1 with
  |true=>
   rw[hz]at a2
   obtain⟨q,a3,a4⟩:=a0d (show(Option.bind (a0z 1 t z.2) _)=some y1 from a2)
   obtain rfl:=oi a4
   obtain⟨z1,z2⟩:=b2 hz
   rw[z1]at a3
   simp only[ak,az]at a3 z1
   obtain⟨n1,n2,n3,n4⟩:=t0P ht (by omega) ⟨by omega,by omega⟩ a3 hy1
   have n1':a0D t (j1+1) 1=some (q.1,q.2.2):=n1
   obtain⟨c,o1,o2⟩:=t0l ht (X:=fun p=>some (decide (bt t p=32))) (b:=spB) (fun p _ _=>rfl) (show rb t q.2.2 from⟨by omega,n4⟩)
   refine⟨c, ?_,⟨by simp only;omega,n4⟩,o2,by simp only;omega,by simp only;omega⟩
   simp only[aa,cond_true]
   rw[w64 (n:=j1+1) (by omega) (by omega),n1',aa,dF (show¬(q.1,q.2.2).1<0 by simp only;omega)]
   simp only[cond_false]
   rw[j0Z ht (by omega) o2]
   rfl
  |false=>
   rw[hz]at a2
   obtain rfl:=oi a2
   simp only
   rw[b3 hz]
   exact⟨j1,rfl,⟨j10,j1l⟩,n0I s2,ag _,by omega⟩
 -- the sign
 unfold b0v at e6
 obtain⟨v,c1,c2⟩:=a0d e6
 obtain⟨c',s3,d1,d2,d3⟩:=p0M ht (by decide) k2 c1
 obtain rfl:=i0v s3 k3
 have c0:0≤c':=by have:=s3.1;have:=k2.1;omega
 have cl:=s3.2.1
 obtain⟨p,q,l1,l2,l3,l4⟩: ∃p,∃q:Int×Bool,(Option.bind (a0o t c' ([33,61]:List UInt8)) fun y8=>(bif y8 then(some ((IntKind.wrap .i64 (c'+1)),true))else(some (c',false))))=some q∧a0o t q.1 ([61]:List UInt8)=some true∧(q.2=y2.2.2∧p=q.1+1∧y2.2.1=p)∧0≤q.1∧p≤t.length:=by
  cases hv:v.1 with
  |true=>
   rw[hv]at c2
   obtain rfl:=oi c2
   obtain⟨v1,v2⟩:=d2 hv
   simp only[ak,az]at v1
   refine⟨c'+1,(c',false), ?_,by rw[d1,hv],⟨rfl,rfl,by simp only;omega⟩,c0,by omega⟩
   rw[x0u ht c0 cl (by rw[d1,hv])];rfl
  |false=>
   rw[hv]at c2
   obtain⟨u,c3,c4⟩:=a0d (show(Option.bind (a0y ([33,61]:List UInt8) t v.2) _)=some y2 from c2)
   obtain rfl:=oi c4
   rw[d3 hv]at c3
   obtain⟨c'',s4,f1,f2,f3⟩:=p0M ht (by decide) ⟨c0,cl⟩ c3
   obtain rfl:=i0v s4 (n0I s3)
   have hu:u.1=true:=hy2
   obtain⟨u1,u2⟩:=f2 hu
   simp only[ak,az]at u1
   rw[hu]at f1
   refine⟨c''+2,(c''+1,true), ?_,x0t ht c0 cl f1,⟨hu.symm,by omega,by simp only;omega⟩,by simp only;omega,by omega⟩
   rw[f1,aa,w64 (n:=c''+1) (by omega) (by omega)];rfl
 obtain⟨l5,rfl,l6⟩:=l3
 rw[l6]at e7
 obtain⟨next,m1,m2,m3,m4⟩:=t0E ht ⟨by omega,l4.2⟩ e7 hy3
 refine⟨next, ?_,m2,m3,hb,k4,m4⟩
 unfold c0E
 have hj:(((t.getD j.toNat 0).toNat:Nat):Int)=bt t j:=rfl
 rw[j0Z ht h.1 s1,aa,w1]
 simp only[aa]
 rw[w64 (n:=j+1) (by omega) (by omega),dF (not_not_intro rfl),a0r j0 jl,hj,w2]
 simp only[cond_true,cond_false,aa,bk,a0j]
 rw[j0Z ht (by omega) s2]
 simp only[aa]
 rw[k1]
 simp only[aa,a0j]
 rw[l1,aa,l2]
 simp only[aa,bk,cond_false]
 rw[w64 (n:=q.1+1) (by omega) (by omega),m1,l5]
 rfl
end
/-! A condition, read. -/
def m0W(L:List a0e):Prop:=(∃x∈L,20<x.R_.length)∨20<L.length
theorem r0P {c:List (List a0e)} (hl:c.flatten.length≤1000)(hn:c.length≤1000)(h:d0l c=some false): ¬m0W c.flatten:=by
 unfold d0l at h
 obtain⟨o,e1,e2⟩:=a0d h
 obtain⟨o',e3,e4⟩:=e0o (step:=(fun(s0:Int×Int)=>(bif(decide (s0.2<(c.length:Int)))then(Option.bind (bif inR s0.2 c.length then(a0l (fun(s1:Int)=>(bif(decide (s1<((nth c s0.2).length:Int)))then(bif inR s1 (nth c s0.2).length then(bif(decide (((((nth (nth c s0.2) s1).R_).length:Int))>20))then(some (.inr (.inr (.inr (.inr true)))))else(some (.inl (IntKind.wrap .i64 (s1+1)))))else none)else(some (.inr (.inl ()))))) big 0)else none) (a0j fun(s3:Unit)=>(some (.inl ((IntKind.wrap .i64 (s0.1+((nth c s0.2).length:Int))),(IntKind.wrap .i64 (s0.2+1)))))))else(some (.inr (.inl s0.1))):Option ((Int×Int)⊕(Int⊕Bool))))) c (fun pre=>((pre.flatten.length:Int),(pre.length:Int))) (fun pre=> ∀x∈pre.flatten,x.R_.length≤20) (fun o=>(∀n,o= .inl n→n=(c.flatten.length:Int)∧ ∀x∈c.flatten,x.R_.length≤20)∧ ∀b,o= .inr b→b=true) (s0:=(0,0)) rfl (fun x hx=>by cases hx) (fun pre row suf hc hI=>by
  have hfl:pre.flatten.length+row.length≤1000:=by rw[hc]at hl;simp at hl⊢;omega
  have hin:=w0b (fun x:a0e=> !decide ((x.R_.length:Int)>20)) row (fun p=>(p.length:Int)) (.inl ():Unit⊕((Int×Int)⊕(Int⊕Bool))) (.inr (.inr (.inr true))) (s0:=0) (step:=(fun(s1:Int)=>(bif(decide (s1<(row.length:Int)))then(bif inR s1 row.length then(bif(decide (((((nth row s1).R_).length:Int))>20))then(some (.inr (.inr (.inr (.inr true)))))else(some (.inl (IntKind.wrap .i64 (s1+1)))))else none)else(some (.inr (.inl ())))))) rfl (fun p x q hp=>by
   have hb:(p++x::q).length≤4611686018427387904:=by rw[←hp];omega
   rw[hp,h0m,f0B,e0S,l0W hb]
   cases decide ((x.R_.length:Int)>20)<;>rfl) (by rw[f0E];rfl) (by omega)
  have hb:(pre++row::suf).length≤4611686018427387904:=by rw[←hc];omega
  simp only
  rw[hc,h0m,f0B,e0S,l0W hb]
  simp only[cond_true]
  rw[hin]
  by_cases ha:(row.all fun x=> !decide ((x.R_.length:Int)>20))=true
  ·left
   rw[if_pos ha]
   refine⟨?_,fun x hx=> ?_⟩
   ·simp only[aa,a0j]
    rw[w64 (n:=(pre.flatten.length:Int)+row.length) (by omega) (by omega)]
    simp
   ·rw[List.flatten_append,ay]at hx
    rcases hx with hx|hx
    ·exact hI x hx
    ·have:=List.all_eq_true.1 ha x (by simpa using hx)
     simp at this;omega
  ·right
   rw[if_neg ha]
   exact⟨.inr true,rfl,(fun n e=>by cases e),fun b e=>(aA e).symm⟩) (fun hI=>⟨.inl (c.flatten.length:Int),by simp only;rw[f0E];rfl,fun n e=>⟨(ba e).symm,hI⟩,(fun b e=>by cases e)⟩) (by omega)
 obtain rfl:=oi (e3.symm.trans e1)
 cases o' with
 |inr b=>
  obtain rfl:=e4.2 b rfl
  cases e2
 |inl n=>
  obtain⟨rfl,h2⟩:=e4.1 n rfl
  have h3:=of_decide_eq_false (oi e2)
  rintro(⟨x,hx,hx2⟩|h4)
  ·have:=h2 x hx;omega
  ·omega
def t0n(t:List UInt8)(s0:Int×(List (List a0e))×(List a0e)):Option ((Int×(List (List a0e))×(List a0e))⊕((Int×(List (List a0e))×(List a0e))⊕((List (List a0e))×Bool×Int))):=(Option.bind (a0N t s0.1) fun y0=>(bif(!y0.2.1)then(some (.inr (.inr (([]:List (List a0e)),false,y0.2.2))))else(bif room (s0.2.2.length+([y0.1]:List a0e).length)then(Option.bind (a0U t y0.2.2) fun y1=>(bif(y1.1==([97,110,100]:List UInt8))then(some (.inl ((IntKind.wrap .i64 (y1.2+(y1.1.length:Int))),s0.2.1,(s0.2.2++([y0.1]:List a0e)))))else(bif(y1.1==([111,114]:List UInt8))then(bif room (s0.2.1.length+(([(s0.2.2++([y0.1]:List a0e))]:List (List a0e))).length)then(some (.inl ((IntKind.wrap .i64 (y1.2+(y1.1.length:Int))),(s0.2.1++(([(s0.2.2++([y0.1]:List a0e))]:List (List a0e)))),([]:List a0e))))else none)else(some (.inr (.inl (y1.2,s0.2.1,(s0.2.2++([y0.1]:List a0e)))))))))else none)))
def t0o(t:List UInt8)(s0:Int×Bool×Int×(List (List a0e))×(List a0e)):Option ((Int×Bool×Int×(List (List a0e))×(List a0e))⊕((Bool×(List (List a0e))×(List a0e))⊕((List (List a0e))×Int×Int))):=(Option.bind (c0E t s0.2.2.1) fun y0=>(bif(!y0.2.2)then(some (.inr (.inr (([]:List (List a0e)),y0.2.1,2))))else(Option.bind (bif s0.2.1 then(some true)else(bif(decide ((y0.1.R_.length:Int)>20))then(some true)else(some ((decide ((IntKind.wrap .i64 (s0.1+1))>20)))))) fun(s2:Bool)=>(bif room (s0.2.2.2.2.length+([y0.1]:List a0e).length)then(Option.bind (a0B t y0.2.1) fun y1=>(bif(decide (y1=(t.length:Int)))then(some (.inr (.inl (s2,s0.2.2.2.1,(s0.2.2.2.2++([y0.1]:List a0e))))))else(Option.bind (b0h t y1) fun y2=>(Option.bind (Option.bind (bif inS y1 y2 t.length then(bif((cut t y1 y2) !=([97,110,100]:List UInt8))then(bif inS y1 y2 t.length then(some ((cut t y1 y2) !=([111,114]:List UInt8)))else none)else(some false))else none) fun(s4:Bool)=>(bif s4 then(some (.inr (.inr (.inr (([]:List (List a0e)),y1,2)))))else(some (.inl ())))) (a0j fun(s5:Unit)=>(Option.bind (bif inS y1 y2 t.length then(bif((cut t y1 y2)==([111,114]:List UInt8))then(bif room (s0.2.2.2.1.length+(([(s0.2.2.2.2++([y0.1]:List a0e))]:List (List a0e))).length)then(some ((s0.2.2.2.1++(([(s0.2.2.2.2++([y0.1]:List a0e))]:List (List a0e)))),([]:List a0e)))else none)else(some (s0.2.2.2.1,(s0.2.2.2.2++([y0.1]:List a0e)))))else none) fun(s3:(List (List a0e))×(List a0e))=>(some (.inl ((IntKind.wrap .i64 (s0.1+1)),s2,y2,s3.1,s3.2)))))))))else none))))
def rwR(t:List UInt8)(s:Int×(List (List a0e))×(List a0e))(s':Int×Bool×Int×(List (List a0e))×(List a0e)):Prop:=s'.2.2=s∧rb t s.1∧s'.1=((s.2.1.flatten++s.2.2).length:Int)∧s'.1≤s.1∧(s'.2.1=true↔m0W (s.2.1.flatten++s.2.2))∧(∀x∈s.2.1.flatten++s.2.2,t0A x)∧ ∀row∈s.2.1,row≠ []
section
variable {t : List UInt8} (ht : t.length ≤ 400)
include ht
theorem z0G {P q:Int} {w:List UInt8} (h0:0≤P)(h:f0K leB t P q)(hc:cut t P q=w)(hw:w=[97,110,100]∨w=[111,114]):b0h t P=some q∧P<t.length∧q=P+w.length∧(w.length:Int)≤3∧P<q:=by
 obtain⟨a1,a2,a3,a4⟩:=id h
 have hl:=n0x h0 a1 a2
 rw[hc]at hl
 have hw3:2≤w.length∧w.length≤3∧ ∀c∈w,loB (c.toNat:Int)=true:=by rcases hw with rfl|rfl<;>exact⟨by decide,by decide,by decide⟩
 refine⟨s0L ht h0 ⟨a1,a2,fun p p0 p1=> ?_,fun e=> ?_⟩,by omega,by omega,by omega,by omega⟩
 ·have hn:=q0r h0 a2 (m:=(p-P).toNat) (by omega)
  rw[show P+(((p-P).toNat:Nat):Int)=p by omega]at hn
  rw[←hn,hc,g0o (by rw[a0K];omega)]
  unfold a0k
  rw[List.getElem_map]
  exact hw3.2.2 _ (bW _)
 ·have:=of_decide_eq_false (a4 e)
  exact decide_eq_false (by omega)
theorem o0T {s:Int×(List (List a0e))×(List a0e)} {s':Int×Bool×Int×(List (List a0e))×(List a0e)} (hR:rwR t s s') {z:(Int×(List (List a0e))×(List a0e))⊕((Int×(List (List a0e))×(List a0e))⊕((List (List a0e))×Bool×Int))} (hz:t0n t s=some z)(hg: ∀o,z= .inr o→ ∃c row,o= .inl ((t.length:Int),c,row)):(∃u u',z= .inl u∧t0o t s'=some (.inl u')∧rwR t u u')∨ ∃b c row,z= .inr (.inl ((t.length:Int),c,row))∧t0o t s'=some (.inr (.inl (b,c,row)))∧(b=true↔m0W (c.flatten++row))∧(∀x∈c.flatten++row,t0A x)∧(∀r∈c++ [row],r≠ [])∧(c.flatten++row).length≤401∧room (c.length+1)=true:=by
 obtain⟨r1,⟨i0,il⟩,r2,r3,r4,r5,r6⟩:=hR
 obtain⟨m,f,s2⟩:=s'
 simp only at r1 r2 r3 r4
 subst r1
 unfold t0n at hz
 obtain⟨y0,e1,hz⟩:=a0d hz
 have hy:y0.2.1=true:=by
  cases hy:y0.2.1 with
  |true=>rfl
  |false=>
   rw[hy]at hz
   obtain⟨_,_,e⟩:=hg _ (oi hz).symm
   cases e
 rw[hy]at hz
 obtain⟨e2,hz⟩:=a0Q (show(bif room (s2.2.2.length+([y0.1]:List a0e).length)then _ else none)=some z from hz)
 obtain⟨y1,e3,hz⟩:=a0d hz
 obtain⟨next,k1,k2,k3,k4⟩:=q0l ht ⟨i0,il⟩ e1 hy
 obtain⟨o,e1',ho⟩:=n0k ht (i:=s2.1) ⟨i0,il⟩
 obtain rfl:=oi (e1.symm.trans e1')
 obtain⟨⟨p0,p1⟩,p2,_⟩:=ho hy
 obtain⟨P,q,s3,s4,rfl⟩:=s0M ht ⟨p0,p1⟩ e3
 obtain rfl:=i0v s3 (n0I k2)
 generalize y0.2.2=P at*
 simp only at hz
 have hx: ∀x∈s2.2.1.flatten++(s2.2.2++ [y0.1]),t0A x:=fun x hx=>by
  rw[←aK]at hx
  rcases ay.1 hx with hx|hx
  ·exact r5 x hx
  ·obtain rfl:=bn.1 hx;exact k4
 have hlen:m+1=((s2.2.1.flatten++(s2.2.2++ [y0.1])).length:Int):=by rw[r2];simp;omega
 obtain⟨f',hf,hf'⟩: ∃f',(bif f then(some true)else(bif(decide ((y0.1.R_.length:Int)>20))then(some true)else(some ((decide ((IntKind.wrap .i64 (m+1))>20))))))=some f'∧(f'=true↔m0W (s2.2.1.flatten++(s2.2.2++ [y0.1]))):=by
  rw[w64 (n:=m+1) (by omega) (by omega)]
  have key:m0W (s2.2.1.flatten++(s2.2.2++ [y0.1]))↔m0W (s2.2.1.flatten++s2.2.2)∨20<y0.1.R_.length∨m+1>20:=by
   rw[hlen]
   unfold m0W
   constructor
   ·rintro(⟨x,hx,h⟩|h)
    ·rw[←aK]at hx
     rcases ay.1 hx with hx|hx
     ·exact .inl (.inl ⟨x,hx,h⟩)
     ·obtain rfl:=bn.1 hx;exact .inr (.inl h)
    ·exact .inr (.inr (by omega))
   ·rintro((⟨x,hx,h⟩|h)|h|h)
    ·exact .inl ⟨x,by rw[←aK];exact ay.2 (.inl hx),h⟩
    ·exact .inr (by simp at h⊢;omega)
    ·exact .inl ⟨_,by simp,h⟩
    ·exact .inr (by omega)
  cases f with
  |true=>exact⟨true,rfl,by rw[key];exact⟨fun _=> .inl (r4.1 rfl),fun _=>rfl⟩⟩
  |false=>
   by_cases c1:(y0.1.R_.length:Int)>20
   ·rw[dT c1];exact⟨true,rfl,by rw[key];exact⟨fun _=> .inr (.inl (by omega)),fun _=>rfl⟩⟩
   ·rw[dF c1]
    refine⟨_,rfl, ?_⟩
    rw[key,decide_eq_true_eq]
    exact⟨fun h=> .inr (.inr h),fun h=>by
     rcases h with h|h|h
     ·cases r4.2 h
     ·omega
     ·exact h⟩
 have hlq:=n0x p0 s4.1 s4.2.1
 have hr: ∀row∈s2.2.1++ [s2.2.2++ [y0.1]],row≠ []:=fun row h=>by
  rcases ay.1 h with h|h
  ·exact r6 row h
  ·obtain rfl:=bn.1 h;simp
 have hrf: ∀w,t0o t (m,f,s2)=w↔(Option.bind (a0B t next) fun y1=>(bif(decide (y1=(t.length:Int)))then(some (.inr (.inl (f',s2.2.1,(s2.2.2++([y0.1]:List a0e))))))else(Option.bind (b0h t y1) fun y2=>(Option.bind (Option.bind (bif inS y1 y2 t.length then(bif((cut t y1 y2) !=([97,110,100]:List UInt8))then(bif inS y1 y2 t.length then(some ((cut t y1 y2) !=([111,114]:List UInt8)))else none)else(some false))else none) fun(s4:Bool)=>(bif s4 then(some (.inr (.inr (.inr (([]:List (List a0e)),y1,2)))))else(some (.inl ())))) (a0j fun(s5:Unit)=>(Option.bind (bif inS y1 y2 t.length then(bif((cut t y1 y2)==([111,114]:List UInt8))then(bif room (s2.2.1.length+(([(s2.2.2++([y0.1]:List a0e))]:List (List a0e))).length)then(some ((s2.2.1++(([(s2.2.2++([y0.1]:List a0e))]:List (List a0e)))),([]:List a0e)))else none)else(some (s2.2.1,(s2.2.2++([y0.1]:List a0e)))))else none) fun(s3:(List (List a0e))×(List a0e))=>(some (.inl ((IntKind.wrap .i64 (m+1)),f',y2,s3.1,s3.2)))))))))=w:=fun w=>by
  unfold t0o
  simp only
  rw[k1]
  simp only[aa,bk,cond_false]
  rw[hf]
  simp only[aa]
  rw[e2]
  exact Iff.rfl
 have ho2:=j0Z ht k3.1 k2
 by_cases ha:cut t P q=[97,110,100]
 ·left
  obtain⟨j1,j2,j3,j4,j5⟩:=z0G ht p0 s4 ha (.inl rfl)
  rw[ha]at hz
  obtain rfl:=oi hz
  refine⟨_,(m+1,f',q,s2.2.1,s2.2.2++ [y0.1]),rfl,(hrf _).2 ?_, ?_,⟨by simp only;rw[w64 (by simp only[ak,az];omega) (by simp only[ak,az];omega)];simp only[ak,az];omega,by simp only;rw[w64 (by simp only[ak,az];omega) (by simp only[ak,az];omega)];have:=s4.2.1;simp only[ak,az]at j3⊢;omega⟩,hlen, ?_,hf',hx,r6⟩
  ·rw[ho2,aa,dF (show¬P=(t.length:Int) by omega),j1]
   simp only[cond_false,aa]
   rw[i0a p0 s4.1 s4.2.1,ha,w64 (n:=m+1) (by omega) (by omega)]
   rfl
  ·simp only[ak,az]at j3
   simp only[ak,az]
   rw[w64 (by omega) (by omega),j3]
  ·have:=s4.2.1
   simp only[ak,az]
   rw[w64 (by omega) (by omega)];omega
 ·by_cases hb:cut t P q=[111,114]
  ·left
   obtain⟨j1,j2,j3,j4,j5⟩:=z0G ht p0 s4 hb (.inr rfl)
   rw[hb]at hz
   obtain⟨e4,hz⟩:=a0Q (show(bif room (s2.2.1.length+(([(s2.2.2++([y0.1]:List a0e))]:List (List a0e))).length)then _ else none)=some z from hz)
   obtain rfl:=oi hz
   have hfl:(s2.2.1++ [s2.2.2++ [y0.1]]).flatten++ []=s2.2.1.flatten++(s2.2.2++ [y0.1]):=by simp
   refine⟨_,(m+1,f',q,s2.2.1++ [s2.2.2++ [y0.1]],[]),rfl,(hrf _).2 ?_, ?_,⟨by simp only[ak,az];rw[w64 (by omega) (by omega)];omega,by have:=s4.2.1;simp only[ak,az]at j3⊢;rw[w64 (by omega) (by omega)];omega⟩,by simp only;rw[hfl];exact hlen, ?_,by simp only;rw[hfl];exact hf',by simp only;rw[hfl];exact hx,hr⟩
   ·rw[ho2,aa,dF (show¬P=(t.length:Int) by omega),j1]
    simp only[cond_false,aa]
    rw[i0a p0 s4.1 s4.2.1,hb,w64 (n:=m+1) (by omega) (by omega),e4]
    rfl
   ·simp only[ak,az]at j3
    simp only[ak,az]
    rw[w64 (by omega) (by omega),j3]
   ·have:=s4.2.1
    simp only[ak,az]
    rw[w64 (by omega) (by omega)];omega
  ·right
   rw[beq_eq_false_iff_ne.2 ha,beq_eq_false_iff_ne.2 hb]at hz
   obtain rfl:=oi hz
   obtain⟨c,row,e⟩:=hg _ rfl
   obtain⟨rfl,e8⟩:=aX (ba e)
   obtain⟨rfl,rfl⟩:=aX e8
   refine⟨f',_,_,rfl,(hrf _).2 ?_,hf',hx,hr,by omega, ?_⟩
   ·rw[ho2,aa,dT rfl];rfl
   ·have:s2.2.1.length≤s2.2.1.flatten.length:=by
     have: ∀l:List (List a0e),(∀row∈l,row≠ [])→l.length≤l.flatten.length:=by
      intro l
      induction l with
      |nil=>intro _;simp
      |cons a l ih=>
       intro hl
       have h1:=ih (fun x hx=>hl x (aj _ hx))
       have h2:0<a.length:=bZ.2 (hl a (ap ..))
       rw[cf,ao,ak];omega
     exact this _ r6
    rw[ao]at hlen
    exact a0v (by omega)
end
def y0A(c:List (List a0e)):Prop:=(∀x∈c.flatten,t0A x∧x.R_.length≤20)∧(∀r∈c,r≠ [])∧c.flatten.length≤20∧c.length≤20
theorem w0S: ∀ {l:List (List a0e)},(∀row∈l,row≠ [])→l.length≤l.flatten.length
 | [],_=>by simp
 |a::l,h=>by
  have h1:=w0S (l:=l) (fun x hx=>h x (aj _ hx))
  have h2:0<a.length:=bZ.2 (h a (ap ..))
  rw[cf,ao,ak];omega
theorem r0l {t:List UInt8} {c:List (List a0e)} {a:Int} (h:c0D t=some (c,a,0)):b0Q t=some (c,0,0)∧y0A c:=by
 unfold c0D at h
 by_cases ht:(t.length:Int)>400
 ·rw[dT ht]at h;cases h
 rw[dF ht]at h
 obtain⟨y0,e1,h⟩:=a0d (show(Option.bind (b0w t 0) _)=_ from h)
 have ht:t.length≤400:=by omega
 cases hy:y0.2.1 with
 |false=>rw[hy]at h;cases h
 |true=>
  rw[hy]at h
  obtain⟨y1,e2,h⟩:=a0d (show(Option.bind (d0l y0.1) _)=_ from h)
  cases y1 with
  |true=>cases h
  |false=>
   obtain rfl:=(aX (oi h)).1
   unfold b0w at e1
   obtain⟨o,e3,e4⟩:=a0d e1
   cases o with
   |inr v=>
    exfalso
    obtain rfl:=oi e4
    obtain⟨s',hs⟩:=d0m e3
    obtain⟨y,q1,q2⟩:=a0d hs
    cases hb:y.2.1 with
    |false=>rw[hb]at q2;obtain rfl:=aA (aA (oi q2));cases hy
    |true=>
     rw[hb]at q2
     obtain⟨_,q2⟩:=a0Q (show(bif room (s'.2.2.length+([y.1]:List a0e).length)then _ else none)=_ from q2)
     obtain⟨w,q3,q2⟩:=a0d q2
     cases h1:w.1==([97,110,100]:List UInt8)with
     |true=>rw[h1]at q2;cases q2
     |false=>
      rw[h1]at q2
      cases h2:w.1==([111,114]:List UInt8)with
      |true=>rw[h2]at q2;obtain⟨_,q2⟩:=a0Q (show(bif room (s'.2.1.length+(([(s'.2.2++([y.1]:List a0e))]:List (List a0e))).length)then _ else none)=_ from q2);cases q2
      |false=>rw[h2]at q2;cases q2
   |inl v=>
    obtain⟨e5,e4⟩:=a0Q (show(bif room (v.2.1.length+([v.2.2]:List (List a0e)).length)then _ else none)=_ from e4)
    obtain rfl:=oi e4
    have hv:v.1=(t.length:Int):=of_decide_eq_true hy
    obtain⟨P,c,row⟩:=v
    simp only at hv e2 e5⊢
    subst hv
    obtain⟨o',e6,c',row',b,h2,h3,h4,h5,h6,h7,h8⟩:=j0m (f:=t0n t) (g:=t0o t) (fun o=> ∃c row,o= .inl ((t.length:Int),c,row)) (rwR t) (fun o o'=> ∃c row b,o= .inl ((t.length:Int),c,row)∧o'= .inl (b,c,row)∧(b=true↔m0W (c.flatten++row))∧(∀x∈c.flatten++row,t0A x)∧(∀r∈c++ [row],r≠ [])∧(c.flatten++row).length≤401∧room (c.length+1)=true) (fun s s' u hR hf=>by
     rcases o0T ht hR hf (fun o e=>by cases e)with⟨v,u',e1,e2,e3⟩|⟨_,_,_,e,_⟩
     ·obtain rfl:=ba e1;exact⟨_,e2,e3⟩
     ·cases e) (fun s s' o hR hf hG=>by
     rcases o0T ht hR hf (fun o' e=>by obtain rfl:=aA e;exact hG)with⟨v,u',e1,_⟩|⟨b,c,row,e1,e2,e3,e4,e5,e6,e7⟩
     ·cases e1
     ·obtain rfl:=aA e1;exact⟨_,e2,c,row,b,rfl,rfl,e3,e4,e5,e6,e7⟩) big (0,[],[]) (0,false,0,[],[]) (.inl ((t.length:Int),c,row)) ⟨rfl,⟨ag _,by simp only;omega⟩,rfl,ag _,by simp[m0W],by simp,by simp⟩ e3 ⟨c,row,rfl⟩
    obtain⟨_,e7⟩:=aX (ba h2)
    obtain⟨rfl,rfl⟩:=aX e7
    subst h3
    have hfl:(c++ [row]).flatten=c.flatten++row:=by simp
    have hln:=w0S h6
    rw[hfl]at hln
    have hno: ¬m0W (c.flatten++row):=by
     have:=r0P (by rw[hfl];omega) (by omega) e2
     rwa [hfl]at this
    have hb:b=false:=by
     cases b with
     |false=>rfl
     |true=>exact absurd (h4.1 rfl) hno
    subst hb
    refine⟨?_,⟨fun x hx=> ?_,h6, ?_, ?_⟩⟩
    ·unfold b0Q
     rw[dF (by omega)]
     simp only[cond_false]
     exact(congrArg (fun o=>Option.bind o _) e6).trans (by
      show(bif room (c.length+([row]:List (List a0e)).length)then some (c++ [row],0,0)else none)=_
      rw[e5];rfl)
    ·rw[hfl]at hx
     refine⟨h5 x hx, ?_⟩
     rcases bv 20 x.R_.length with h|h
     ·exact absurd (.inl ⟨x,hx,h⟩) hno
     ·exact h
    ·rw[hfl]
     rcases bv 20 (c.flatten++row).length with h|h
     ·exact absurd (.inr h) hno
     ·exact h
    ·rcases bv 20 (c.flatten++row).length with h|h
     ·exact absurd (.inr h) hno
     ·omega
theorem r0D {m:Nat} :(Lib.decDigits m).dropLast++ [UInt8.ofNat (48+m%10)]=Lib.decDigits m:=by
 by_cases h:m<10
 ·rw[Lib.decDigits,dif_pos h,bU h];rfl
 ·rw[Lib.decDigits,dif_neg h];simp
theorem w0u {m:Nat} (h: ¬m<10):(Lib.decDigits m).dropLast=Lib.decDigits (m/10):=by
 rw[Lib.decDigits,dif_neg h];simp
theorem u0P {m:Nat} (h:m<10):(Lib.decDigits m).dropLast=[]:=by
 rw[Lib.decDigits,dif_pos h];rfl
theorem B0d(a:Nat):Int.tmod (a:Int) 10=((a%10:Nat):Int):=by rw[bG (by omega)];omega
theorem B0l(a:Nat):Int.tdiv (a:Int) 10=((a/10:Nat):Int):=by rw[bM (by omega)];omega
theorem p0h {f n:Nat} (h:n<9223372036854775808):a0s (f+1) (n:Int)=some (Lib.decDigits n):=by
 rw[a0s.eq_2,dF (by omega)]
 simp only[cond_false]
 generalize hst:(fun(s34:Int×(List UInt8))=>(bif(decide (s34.1≥10))then(bif room (((b0s (([(IntKind.wrap .u8 ((IntKind.wrap .i64 (48+((Int.tmod (IntKind.wrap .i64 (Int.tdiv s34.1 10)) 10))))))]:List Int)))).length+s34.2.length)then(some (.inl ((IntKind.wrap .i64 (Int.tdiv s34.1 10)),(((b0s (([(IntKind.wrap .u8 ((IntKind.wrap .i64 (48+((Int.tmod (IntKind.wrap .i64 (Int.tdiv s34.1 10)) 10))))))]:List Int))))++s34.2))))else none)else(some (.inr s34.2)):Option ((Int×List UInt8)⊕(List UInt8))))=step
 have key: ∀(m:Nat) (s:List UInt8) (f:Nat),m<f→m<9223372036854775808→s.length+Lib.nDigits m≤1000→a0l step f ((m:Int),s)=some ((Lib.decDigits m).dropLast++s):=by
  intro m
  induction m using Nat.strongRecOn with
  |_ m ih=>
   intro s f hf hm hs
   obtain⟨f,rfl⟩: ∃g,f=g+1:=⟨f-1,by omega⟩
   by_cases h10:m<10
   ·rw[e0T (o:=s)]
    ·rw[u0P h10];rfl
    ·subst hst;simp only;rw[dF (by omega)];rfl
   ·rw[Lib.nDigits_big h10]at hs
    rw[e0a (s':=(((m/10:Nat):Int),UInt8.ofNat (48+m/10%10)::s)),ih (m/10) (by omega) _ _ (by omega) (by omega) (by simp;omega)]
    ·rw[w0u h10]
     conv=>rhs;rw[←r0D (m:=m/10)]
     simp
    ·subst hst
     simp only
     rw[dT (by omega),B0l,w64 (n:=((m/10:Nat):Int)) (by omega) (by omega),B0d,w64 (by omega) (by omega),y0Q,w8c (by omega)]
     simp only[b0s,ah,av,aR]
     rw[a0v (by simp;omega)];rfl
 rw[B0d,w64 (by omega) (by omega),y0Q,w8c (by omega)]
 have h20:=Lib.nDigits_le20 n (by omega)
 rw[key n _ big (by unfold big;omega) h (by simp[b0s];omega)]
 simp only[b0s,ah,av,aR,aa,r0D]
theorem m0m {n:Int} (h0: -9223372036854775807≤n)(h1:n≤9223372036854775807):a0s big n=some (Lib.itoa n):=by
 unfold Lib.itoa
 by_cases c:n<0
 ·rw[show big=18446744073709551614+1+1 from rfl,a0s.eq_2,dT c,if_pos c]
  simp only[cond_true]
  rw[w64 (by omega) (by omega),show(0-n:Int)=((n.natAbs:Nat):Int) by omega,p0h (by omega)]
  have h20:=Lib.nDigits_le20 n.natAbs (by omega)
  simp only[aa]
  rw[a0v (by simp[Lib.decDigits_length];omega)];rfl
 ·rw[if_neg c,show n=((n.toNat:Nat):Int) by omega,show big=18446744073709551615+1 from rfl,p0h (by omega)];rfl
/-! Conditions' own texts, by either hand. -/
def jn {T:Type} (sep:List UInt8)(f:T→List UInt8):List T→List UInt8
 | []=> []
 |x::l=>f x++l.flatMap (fun y=>sep++f y)
theorem l0k {T:Type} {sep:List UInt8} {f:T→List UInt8} {pre:List T} {x:T} :jn sep f (pre++ [x])=jn sep f pre++((if pre=[]then []else sep)++f x):=by
 cases pre with
 |nil=>simp[jn]
 |cons a l=>simp[jn,bJ]
theorem r0s {T:Type} {sep:List UInt8} {f:T→List UInt8} {B:Nat} {l:List T} (h: ∀x∈l,(f x).length≤B):(jn sep f l).length≤l.length*(sep.length+B):=by
 cases l with
 |nil=>simp[jn]
 |cons a l=>
  have h0:=h a (ap ..)
  have h1: ∀l:List T,(∀x∈l,(f x).length≤B)→(l.flatMap fun y=>sep++f y).length≤l.length*(sep.length+B):=by
   intro l
   induction l with
   |nil=>simp
   |cons b l ih=>
    intro hl
    have:=ih (fun x hx=>hl x (aj _ hx))
    have:=hl b (ap ..)
    rw[aL,ao,ao,ak,bp];omega
  have:=h1 l (fun x hx=>h x (aj _ hx))
  unfold jn
  rw[ao,ak,bp];omega
theorem k0P(a c:List UInt8):a0k (a++c)=a0k a++a0k c:=by simp[a0k]
theorem A0b: ∀s:List UInt8,b0s (a0k s)=s
 | []=>rfl
 |c::s=>by
  have:=A0b s
  simp only[b0s,a0k,ah]at this⊢
  rw[this,aR,UInt8.ofNat_toNat]
def rgX(r:a0T):List UInt8:=Lib.itoa r.e_++(if r.e_=r.f_ then []else [46,46]++Lib.itoa r.f_)
def l0G(x:a0e):List UInt8:=b0s [x.p_]++((if x.v_=0 then []else [32,37,32]++Lib.itoa x.v_)++((if x.K_=true then [32,33,61,32]else [32,61,32])++jn [44] rgX x.R_))
theorem m0x {n:Int} (h0:0≤n)(h1:n≤999999999):(Lib.itoa n).length≤21:=Lib.itoa_length_le n (by omega) (by omega)
theorem t0u {r:a0T} (h:(0≤r.e_∧r.e_≤999999999)∧0≤r.f_∧r.f_≤999999999):(rgX r).length≤44:=by
 have h1:=m0x h.1.1 h.1.2
 have h2:=m0x h.2.1 h.2.2
 unfold rgX
 split<;>simp<;>omega
theorem v0L {x:a0e} (h:t0A x)(hR:x.R_.length≤20):(l0G x).length≤1000:=by
 have h1:=m0x h.2.1.1 h.2.1.2
 have h2:=r0s (sep:=[44]) (f:=rgX) (B:=44) (l:=x.R_) (fun r hr=>t0u (h.2.2 r hr))
 have h3:x.R_.length*(([44]:List UInt8).length+44)≤20*45:=ck hR (by decide)
 have h4:(b0s [x.p_]).length=1:=rfl
 unfold l0G
 simp only[ao,h4]
 split<;>split<;>simp<;>omega
theorem t0y(x:a0e):l0G x≠ []:=by
 intro h
 have:=congrArg List.length h
 have h4:(b0s [x.p_]).length=1:=rfl
 unfold l0G at this
 rw[ao,h4]at this
 simp at this
def t0D(s4:List UInt8)(x:a0e):Option (List UInt8):=(bif room (s4.length+((b0s (([x.p_]:List Int)))).length)then(Option.bind (bif(decide (¬(x.v_)=0))then(bif room (((s4++((b0s (([x.p_]:List Int)))))).length+([32,37,32]:List UInt8).length)then(Option.bind (a0s big (x.v_)) fun y1=>(bif room (((((s4++((b0s (([x.p_]:List Int))))))++([32,37,32]:List UInt8))).length+y1.length)then(some ((((((s4++((b0s (([x.p_]:List Int))))))++([32,37,32]:List UInt8)))++y1)))else none))else none)else(some ((s4++((b0s (([x.p_]:List Int)))))))) fun(s5:(List UInt8))=>(Option.bind (bif x.K_ then(bif room (s5.length+([32,33,61,32]:List UInt8).length)then(some (s5++([32,33,61,32]:List UInt8)))else none)else(bif room (s5.length+([32,61,32]:List UInt8).length)then(some (s5++([32,61,32]:List UInt8)))else none)) fun(s7:(List UInt8))=>(a0l (fun(s2:(List UInt8)×Int)=>(bif(decide (s2.2<((x.R_.length:Int))))then(Option.bind (Option.bind (bif(decide (s2.2>0))then(bif room (s2.1.length+([44]:List UInt8).length)then(some (s2.1++([44]:List UInt8)))else none)else(some s2.1)) fun(s3:(List UInt8))=>(bif inR s2.2 (x.R_).length then(Option.bind (a0s big ((nth (x.R_) s2.2).e_)) fun y0=>(bif room (s3.length+y0.length)then(bif inR s2.2 (x.R_).length then(bif inR s2.2 (x.R_).length then(bif(decide (¬((nth (x.R_) s2.2).f_)=((nth (x.R_) s2.2).e_)))then(bif room ((s3++y0).length+([46,46]:List UInt8).length)then(bif inR s2.2 (x.R_).length then(Option.bind (a0s big ((nth (x.R_) s2.2).f_)) fun y2=>(bif room (((s3++y0)++([46,46]:List UInt8)).length+y2.length)then(some ((((s3++y0)++([46,46]:List UInt8))++y2)))else none))else none)else none)else(some (s3++y0)))else none)else none)else none))else none)) fun(s8:(List UInt8))=>(some (.inl (s8,(IntKind.wrap .i64 (s2.2+1))))))else(some (.inr s2.1)))) big (s7,0))))else none)
theorem x0O {x:a0e} (h:t0A x):a0k (b0s [x.p_])=[x.p_]:=by
 have:=h.1
 simp only[a0k,b0s,ah,av,UInt8.toNat_ofNat']
 congr 1;omega
theorem y0K {a:List UInt8} {n:Int} (h0:0≤n)(h1:n≤999999999)(ha:a.length≤2000000):a0V (a0k a) n 10=some (a0k (a++Lib.itoa n)):=by
 rw[n0z (by omega) (by omega) (by rw[a0K];omega),k0P]
theorem n0T {T:Type} (pre:List T):decide ((pre.length:Int)>0)= !decide (pre=[]):=by cases pre<;>simp
theorem n0R {s:List UInt8} {x:a0e} (h:t0A x)(hR:x.R_.length≤20)(hs:s.length≤1000000):c0I (a0k s) x=some (a0k (s++l0G x))∧t0D s x=some (s++l0G x):=by
 have h1:=m0x h.2.1.1 h.2.1.2
 have h4:(b0s [x.p_]).length=1:=rfl
 -- the ranges
 have hlen: ∀pre suf:List a0T,x.R_=pre++suf→(jn [44] rgX pre).length≤900:=fun pre suf hp=>by
  have h2:=r0s (sep:=[44]) (f:=rgX) (B:=44) (l:=pre) (fun r hr=>t0u (h.2.2 r (by rw[hp];exact ay.2 (.inl hr))))
  have h3:pre.length*(([44]:List UInt8).length+44)≤20*45:=ck (by rw[hp]at hR;simp at hR;omega) (by decide)
  omega
 have hP: ∀a:List UInt8,a.length≤1000100→(Option.bind (a0l (fun(s0:Int×(List Int))=>(bif(decide (s0.1<(x.R_.length:Int)))then(Option.bind (bif inR s0.1 x.R_.length then(Option.bind (bif(decide (s0.1>0))then(bif room (s0.2.length+([44]:List Int).length)then(some (s0.2++([44]:List Int)))else none)else(some s0.2)) fun(s3:(List Int))=>(Option.bind (a0V s3 ((nth x.R_ s0.1).e_) 10) fun y0=>(bif(decide (¬((nth x.R_ s0.1).e_)=((nth x.R_ s0.1).f_)))then(bif room (y0.length+([46,46]:List UInt8).length)then(Option.bind (a0V ((y0++(a0k ([46,46]:List UInt8)))) ((nth x.R_ s0.1).f_) 10) fun y2=>(some y2))else none)else(some y0))))else none) fun(s4:(List Int))=>(some (.inl ((IntKind.wrap .i64 (s0.1+1)),s4))))else(some (.inr s0.2)))) big (0,a0k a)) fun(s5:(List Int))=>(some s5))=some (a0k (a++jn [44] rgX x.R_)):=fun a ha=>by
  refine f0C (fun q=>q=a0k (a++jn [44] rgX x.R_)) (e0o x.R_ (fun pre=>((pre.length:Int),a0k (a++jn [44] rgX pre))) (fun _=>True) _ (by simp[jn]) trivial (fun pre r suf hp _=> ?_) (fun _=>⟨_,by rw[f0E];rfl,rfl⟩) (by omega)) (fun q hq=>by rw[hq])
  have hb:(pre++r::suf).length≤4611686018427387904:=by rw[←hp];omega
  have hr:=h.2.2 r (by rw[hp];simp)
  have hl:=hlen pre (r::suf) hp
  have i0:=m0x hr.1.1 hr.1.2
  left
  refine⟨?_,trivial⟩
  rw[hp,h0m,f0B,e0S,l0W hb,n0T,l0k,a0K,a0v (by simp;omega)]
  simp only[cond_true]
  obtain⟨b,hb1,hb2,hb3⟩: ∃b,(bif !decide (pre=[])then some (a0k (a++jn [44] rgX pre)++ [44])else some (a0k (a++jn [44] rgX pre)))=some (a0k b)∧b=a++(jn [44] rgX pre++(if pre=[]then []else [44]))∧b.length≤1001100:=by
   by_cases hn:pre=[]
   ·exact⟨_,by rw[dT hn];rfl,by rw[if_pos hn];simp,by simp;omega⟩
   ·exact⟨a++jn [44] rgX pre++ [44],by rw[dF hn,k0P (a++jn [44] rgX pre) [44]];rfl,by rw[if_neg hn];simp,by simp;omega⟩
  rw[hb1,aa,y0K hr.1.1 hr.1.2 (by omega),aa,a0K,a0v (by simp;omega)]
  have e2:a0k (b++Lib.itoa r.e_)++a0k [46,46]=a0k (b++Lib.itoa r.e_++ [46,46]):=(k0P _ _).symm
  rw[e2,y0K hr.2.1 hr.2.2 (by simp;omega)]
  rw[show rgX r=Lib.itoa r.e_++(if r.e_=r.f_ then []else [46,46]++Lib.itoa r.f_)from rfl]
  by_cases he:r.e_=r.f_
  ·rw[dF (not_not_intro he),hb2];simp[he]
  ·rw[dT he,hb2];simp[he]
 have hQ: ∀a:List UInt8,a.length≤1000100→(a0l (fun(s2:(List UInt8)×Int)=>(bif(decide (s2.2<((x.R_.length:Int))))then(Option.bind (Option.bind (bif(decide (s2.2>0))then(bif room (s2.1.length+([44]:List UInt8).length)then(some (s2.1++([44]:List UInt8)))else none)else(some s2.1)) fun(s3:(List UInt8))=>(bif inR s2.2 (x.R_).length then(Option.bind (a0s big ((nth (x.R_) s2.2).e_)) fun y0=>(bif room (s3.length+y0.length)then(bif inR s2.2 (x.R_).length then(bif inR s2.2 (x.R_).length then(bif(decide (¬((nth (x.R_) s2.2).f_)=((nth (x.R_) s2.2).e_)))then(bif room ((s3++y0).length+([46,46]:List UInt8).length)then(bif inR s2.2 (x.R_).length then(Option.bind (a0s big ((nth (x.R_) s2.2).f_)) fun y2=>(bif room (((s3++y0)++([46,46]:List UInt8)).length+y2.length)then(some ((((s3++y0)++([46,46]:List UInt8))++y2)))else none))else none)else none)else(some (s3++y0)))else none)else none)else none))else none)) fun(s8:(List UInt8))=>(some (.inl (s8,(IntKind.wrap .i64 (s2.2+1))))))else(some (.inr s2.1)))) big (a,0))=some (a++jn [44] rgX x.R_):=fun a ha=>by
  obtain⟨o,e1,rfl⟩:=e0o x.R_ (fun pre=>(a++jn [44] rgX pre,(pre.length:Int))) (fun _=>True) (fun o=>o=a++jn [44] rgX x.R_) (s0:=(a,0)) (step:=(fun(s2:(List UInt8)×Int)=>(bif(decide (s2.2<((x.R_.length:Int))))then(Option.bind (Option.bind (bif(decide (s2.2>0))then(bif room (s2.1.length+([44]:List UInt8).length)then(some (s2.1++([44]:List UInt8)))else none)else(some s2.1)) fun(s3:(List UInt8))=>(bif inR s2.2 (x.R_).length then(Option.bind (a0s big ((nth (x.R_) s2.2).e_)) fun y0=>(bif room (s3.length+y0.length)then(bif inR s2.2 (x.R_).length then(bif inR s2.2 (x.R_).length then(bif(decide (¬((nth (x.R_) s2.2).f_)=((nth (x.R_) s2.2).e_)))then(bif room ((s3++y0).length+([46,46]:List UInt8).length)then(bif inR s2.2 (x.R_).length then(Option.bind (a0s big ((nth (x.R_) s2.2).f_)) fun y2=>(bif room (((s3++y0)++([46,46]:List UInt8)).length+y2.length)then(some ((((s3++y0)++([46,46]:List UInt8))++y2)))else none))else none)else none)else(some (s3++y0)))else none)else none)else none))else none)) fun(s8:(List UInt8))=>(some (.inl (s8,(IntKind.wrap .i64 (s2.2+1))))))else(some (.inr s2.1))))) (by simp[jn]) trivial (fun pre r suf hp _=>by
   have hb:(pre++r::suf).length≤4611686018427387904:=by rw[←hp];omega
   have hr:=h.2.2 r (by rw[hp];simp)
   have hl:=hlen pre (r::suf) hp
   have i0:=m0x hr.1.1 hr.1.2
   have i1:=m0x hr.2.1 hr.2.2
   left
   refine⟨?_,trivial⟩
   simp only
   rw[hp,h0m,f0B,e0S,l0W hb,n0T,l0k,a0v (by simp;omega),m0m (by omega) (by omega),m0m (by omega) (by omega)]
   simp only[cond_true]
   obtain⟨b,hb1,hb2,hb3⟩: ∃b,(bif !decide (pre=[])then some (a++jn [44] rgX pre++ [44])else some (a++jn [44] rgX pre))=some b∧b=a++(jn [44] rgX pre++(if pre=[]then []else [44]))∧b.length≤1001100:=by
    by_cases hn:pre=[]
    ·exact⟨_,by rw[dT hn];rfl,by rw[if_pos hn];simp,by simp;omega⟩
    ·exact⟨a++jn [44] rgX pre++ [44],by rw[dF hn];rfl,by rw[if_neg hn];simp,by simp;omega⟩
   rw[hb1]
   simp only[aa]
   rw[a0v (by omega),a0v (by simp;omega),a0v (by simp;omega)]
   rw[show rgX r=Lib.itoa r.e_++(if r.e_=r.f_ then []else [46,46]++Lib.itoa r.f_)from rfl]
   by_cases he:r.e_=r.f_
   ·rw[dF (show¬ ¬r.f_=r.e_ from not_not_intro he.symm),hb2];simp[he]
   ·rw[dT (show¬r.f_=r.e_ from fun e=>he e.symm),hb2];simp[he]) (fun _=>⟨_,by simp only;rw[f0E];rfl,rfl⟩) (by omega)
  exact e1
 constructor
 ·unfold c0I
  have eO:a0k s++ [x.p_]=a0k (s++b0s [x.p_]):=by rw[k0P,x0O h]
  rw[a0K,eO,a0v (by simp;omega),a0K,a0v (by simp;omega)]
  have e3:a0k (s++b0s [x.p_])++a0k [32,37,32]=a0k (s++b0s [x.p_]++ [32,37,32]):=(k0P _ _).symm
  rw[e3,y0K h.2.1.1 h.2.1.2 (by simp[h4];omega)]
  obtain⟨b,hb1,hb2,hb3⟩: ∃b,(bif decide (¬x.v_=0)then(bif true then(Option.bind (some (a0k (s++b0s [x.p_]++ [32,37,32]++Lib.itoa x.v_))) fun y1=>some y1)else none)else some (a0k (s++b0s [x.p_])))=some (a0k b)∧b=s++(b0s [x.p_]++(if x.v_=0 then []else [32,37,32]++Lib.itoa x.v_))∧b.length≤1000050:=by
   by_cases hm:x.v_=0
   ·exact⟨_,by rw[dF (not_not_intro hm)];rfl,by rw[if_pos hm];simp,by simp[h4];omega⟩
   ·exact⟨_,by rw[dT hm];rfl,by rw[if_neg hm];simp,by simp[h4];omega⟩
  simp only[cond_true]at hb1⊢
  rw[hb1]
  simp only[aa]
  rw[a0K,a0v (by simp;omega),a0v (by simp;omega)]
  cases hn:x.K_ with
  |true=>
   simp only[cond_true,aa]
   rw[←k0P,hP _ (by simp;omega)]
   unfold l0G
   rw[if_pos hn,hb2];simp
  |false=>
   simp only[cond_true,cond_false,aa]
   rw[←k0P,hP _ (by simp;omega)]
   unfold l0G
   rw[hn,hb2];simp
 ·unfold t0D
  rw[a0v (by simp[h4];omega),a0v (by simp[h4];omega),m0m (n:=x.v_) (by have:=h.2.1;omega) (by have:=h.2.1;omega)]
  simp only[cond_true,aa]
  rw[a0v (by simp[h4];omega)]
  obtain⟨b,hb1,hb2,hb3⟩: ∃b,(bif decide (¬x.v_=0)then(bif true then some (s++b0s [x.p_]++ [32,37,32]++Lib.itoa x.v_)else none)else some (s++b0s [x.p_]))=some b∧b=s++(b0s [x.p_]++(if x.v_=0 then []else [32,37,32]++Lib.itoa x.v_))∧b.length≤1000050:=by
   by_cases hm:x.v_=0
   ·exact⟨_,by rw[dF (not_not_intro hm)];rfl,by rw[if_pos hm];simp,by simp[h4];omega⟩
   ·exact⟨_,by rw[dT hm];rfl,by rw[if_neg hm];simp,by simp[h4];omega⟩
  rw[hb1]
  simp only[aa]
  rw[a0v (by simp;omega),a0v (by simp;omega)]
  cases hn:x.K_ with
  |true=>
   simp only[cond_true,aa]
   rw[hQ _ (by simp;omega)]
   unfold l0G
   rw[if_pos hn,hb2];simp
  |false=>
   simp only[cond_true,cond_false,aa]
   rw[hQ _ (by simp;omega)]
   unfold l0G
   rw[hn,hb2];simp
def k0T(row:List a0e):List UInt8:=jn [32,97,110,100,32] l0G row
def w0x(c:List (List a0e)):List UInt8:=jn [32,111,114,32] k0T c
theorem r0g {row:List a0e} (h: ∀x∈row,t0A x∧x.R_.length≤20)(hl:row.length≤20):(k0T row).length≤20200:=by
 have h2:=r0s (sep:=[32,97,110,100,32]) (f:=l0G) (B:=1000) (l:=row) (fun x hx=>v0L (h x hx).1 (h x hx).2)
 have h3:row.length*(([32,97,110,100,32]:List UInt8).length+1000)≤20*1005:=ck hl (by decide)
 unfold k0T;omega
theorem z0H {T:Type} {sep:List UInt8} {f:T→List UInt8} (hf: ∀x,f x≠ []) {l:List T} (h:l≠ []):jn sep f l≠ []:=by
 cases l with
 |nil=>exact absurd rfl h
 |cons a l=>intro e;exact hf a (List.append_eq_nil_iff.1 e).1
theorem w0M {c:List (List a0e)} {row:List a0e} (hr:row∈c):row.length≤c.flatten.length:=(List.sublist_flatten_of_mem hr).length_le
theorem x0o {c:List (List a0e)} (h:y0A c):g0d c=some (w0x c)∧d0h c=some (w0x c):=by
 obtain⟨h1,h2,h3,h4⟩:=h
 have hrow: ∀row∈c,row.length≤20∧row≠ []∧ ∀x∈row,t0A x∧x.R_.length≤20:=fun row hr=>⟨by have:=w0M hr;omega,h2 row hr,fun x hx=>h1 x (cu.2 ⟨row,hr,hx⟩)⟩
 have hlen: ∀pre suf:List (List a0e),c=pre++suf→(jn [32,111,114,32] k0T pre).length≤500000:=fun pre suf hp=>by
  have h5:=r0s (sep:=[32,111,114,32]) (f:=k0T) (B:=20200) (l:=pre) (fun row hr=>by
   have:=hrow row (by rw[hp];exact ay.2 (.inl hr))
   exact r0g this.2.2 this.1)
  have h6:pre.length*(([32,111,114,32]:List UInt8).length+20200)≤20*20204:=ck (by rw[hp]at h4;simp at h4;omega) (by decide)
  omega
 have hin: ∀row∈c,∀pre suf:List a0e,row=pre++suf→(jn [32,97,110,100,32] l0G pre).length≤20200:=fun row hr pre suf hp=>by
  have:=hrow row hr
  exact r0g (fun x hx=>this.2.2 x (by rw[hp];exact ay.2 (.inl hx))) (by have:=this.1;rw[hp]at this;simp at this;omega)
 constructor
 ·unfold g0d
  refine f0C (fun q=>q=a0k (w0x c)) (e0o c (fun pre=>((pre.length:Int),a0k (jn [32,111,114,32] k0T pre))) (fun _=>True) _ rfl trivial (fun pre row suf hc _=> ?_) (fun _=>⟨_,by rw[f0E];rfl,rfl⟩) (by omega)) (fun q hq=>by rw[hq,A0b])
  have hb:(pre++row::suf).length≤4611686018427387904:=by rw[←hc];omega
  have hr:row∈c:=by rw[hc];simp
  obtain⟨g1,g2,g3⟩:=hrow row hr
  have hl:=hlen pre (row::suf) hc
  left
  refine⟨?_,trivial⟩
  rw[hc,h0m,f0B,e0S,l0W hb]
  simp only[cond_true]
  obtain⟨o,e1,rfl⟩:=e0o (step:=(fun(s0:Int×(List Int))=>(bif(decide (s0.1<(row.length:Int)))then(Option.bind (bif inR s0.1 row.length then(Option.bind (bif(decide ((s0.2.length:Int)=0))then(some s0.2)else(bif(decide (s0.1=0))then(bif room (s0.2.length+([32,111,114,32]:List UInt8).length)then(some ((s0.2++(a0k ([32,111,114,32]:List UInt8)))))else none)else(bif room (s0.2.length+([32,97,110,100,32]:List UInt8).length)then(some ((s0.2++(a0k ([32,97,110,100,32]:List UInt8)))))else none))) fun(s3:(List Int))=>(Option.bind (c0I s3 (nth row s0.1)) fun y0=>(some y0)))else none) fun(s4:(List Int))=>(some (.inl ((IntKind.wrap .i64 (s0.1+1)),s4))))else(some (.inr s0.2))))) row (fun p=>((p.length:Int),a0k (jn [32,111,114,32] k0T pre++(if p=[]then []else(if pre=[]then []else [32,111,114,32])++jn [32,97,110,100,32] l0G p)))) (fun _=>True) (fun o=>o=a0k (jn [32,111,114,32] k0T (pre++ [row]))) (s0:=(0,a0k (jn [32,111,114,32] k0T pre))) (by simp) trivial (fun p x q hp _=>by
   have hb2:(p++x::q).length≤4611686018427387904:=by rw[←hp];omega
   have hx:=g3 x (by rw[hp];simp)
   have hl2:=hin row hr p (x::q) hp
   left
   refine⟨?_,trivial⟩
   simp only
   rw[hp,h0m,f0B,e0S,l0W hb2,if_neg (show¬p++ [x]=[] by simp),l0k]
   simp only[cond_true,a0K]
   obtain⟨b,hb3,hb4,hb5⟩: ∃b,(bif decide (((jn [32,111,114,32] k0T pre++(if p=[]then []else(if pre=[]then []else [32,111,114,32])++jn [32,97,110,100,32] l0G p)).length:Int)=0)then some (a0k (jn [32,111,114,32] k0T pre++(if p=[]then []else(if pre=[]then []else [32,111,114,32])++jn [32,97,110,100,32] l0G p)))else bif decide ((p.length:Int)=0)then bif room ((jn [32,111,114,32] k0T pre++(if p=[]then []else(if pre=[]then []else [32,111,114,32])++jn [32,97,110,100,32] l0G p)).length+([32,111,114,32]:List UInt8).length)then some (a0k (jn [32,111,114,32] k0T pre++(if p=[]then []else(if pre=[]then []else [32,111,114,32])++jn [32,97,110,100,32] l0G p))++a0k [32,111,114,32])else none else bif room ((jn [32,111,114,32] k0T pre++(if p=[]then []else(if pre=[]then []else [32,111,114,32])++jn [32,97,110,100,32] l0G p)).length+([32,97,110,100,32]:List UInt8).length)then some (a0k (jn [32,111,114,32] k0T pre++(if p=[]then []else(if pre=[]then []else [32,111,114,32])++jn [32,97,110,100,32] l0G p))++a0k [32,97,110,100,32])else none)=some (a0k b)∧b=jn [32,111,114,32] k0T pre++((if pre=[]then []else [32,111,114,32])++(jn [32,97,110,100,32] l0G p++if p=[]then []else [32,97,110,100,32]))∧b.length≤1000000:=by
    by_cases hp0:p=[]
    ·subst hp0
     by_cases hq0:pre=[]
     ·subst hq0;exact⟨[],rfl,rfl,by simp⟩
     ·have hne:jn [32,111,114,32] k0T pre≠ []:=by
       cases pre with
       |nil=>exact absurd rfl hq0
       |cons a l=>
        intro e
        have ha:=hrow a (by rw[hc];simp)
        exact z0H t0y ha.2.1 (List.append_eq_nil_iff.1 e).1
      have hn0: ¬(((jn [32,111,114,32] k0T pre).length:Nat):Int)=0:=by have:=bZ.2 hne;omega
      refine⟨jn [32,111,114,32] k0T pre++ [32,111,114,32], ?_,by rw[if_neg hq0];simp[jn],by simp;omega⟩
      simp only[if_true,bL]
      rw[dF hn0,dT (by simp),a0v (by simp;omega),k0P];rfl
    ·have hne:jn [32,97,110,100,32] l0G p≠ []:=z0H t0y hp0
     have hn0:0<(jn [32,97,110,100,32] l0G p).length:=bZ.2 hne
     have hp1: ¬(p.length:Int)=0:=by have:=bZ.2 hp0;omega
     have h9:(if pre=[]then []else([32,111,114,32]:List UInt8)).length≤4:=by split<;>simp
     simp only[if_neg hp0]
     refine⟨(jn [32,111,114,32] k0T pre++((if pre=[]then []else [32,111,114,32])++jn [32,97,110,100,32] l0G p))++ [32,97,110,100,32], ?_,by simp,by simp;omega⟩
     rw[dF (by simp;omega),dF hp1]
     simp only[cond_false]
     rw[a0v (by simp;omega),k0P _ [32,97,110,100,32]];rfl
   rw[hb3]
   simp only[aa]
   rw[(n0R hx.1 hx.2 hb5).1,hb4]
   simp) (fun _=>⟨_,by simp only;rw[f0E];rfl,by rw[if_neg g2,l0k];rfl⟩) (by omega)
  rw[e1];rfl
 ·unfold d0h
  refine f0C (fun q=>q=w0x c) (e0o c (fun pre=>(jn [32,111,114,32] k0T pre,(pre.length:Int))) (fun _=>True) _ rfl trivial (fun pre row suf hc _=> ?_) (fun _=>⟨_,by rw[f0E];rfl,rfl⟩) (by omega)) (fun q hq=>by rw[hq])
  have hb:(pre++row::suf).length≤4611686018427387904:=by rw[←hc];omega
  have hr:row∈c:=by rw[hc];simp
  obtain⟨g1,g2,g3⟩:=hrow row hr
  have hl:=hlen pre (row::suf) hc
  left
  refine⟨?_,trivial⟩
  rw[hc,h0m,f0B,e0S,l0W hb,n0T]
  simp only[cond_true]
  obtain⟨b,hb1,hb2,hb3⟩: ∃b,(bif !decide (pre=[])then(bif room ((jn [32,111,114,32] k0T pre).length+([32,111,114,32]:List UInt8).length)then some (jn [32,111,114,32] k0T pre++ [32,111,114,32])else none)else some (jn [32,111,114,32] k0T pre))=some b∧b=jn [32,111,114,32] k0T pre++(if pre=[]then []else [32,111,114,32])∧b.length≤500100:=by
   by_cases hn:pre=[]
   ·exact⟨_,by rw[dT hn];rfl,by rw[if_pos hn];simp,by omega⟩
   ·exact⟨jn [32,111,114,32] k0T pre++ [32,111,114,32],by rw[dF hn,a0v (by simp;omega)];rfl,by rw[if_neg hn],by simp;omega⟩
  rw[hb1]
  simp only[aa]
  obtain⟨o,e1,rfl⟩:=e0o (step:=(fun(s1:(List UInt8)×Int)=>(bif true then(bif(decide (s1.2<(row.length:Int)))then(Option.bind (bif true then(bif inR s1.2 row.length then(Option.bind (bif(decide (s1.2>0))then(bif room (s1.1.length+([32,97,110,100,32]:List UInt8).length)then(some (s1.1++([32,97,110,100,32]:List UInt8)))else none)else(some s1.1)) fun(s4:(List UInt8))=>t0D s4 (nth row s1.2))else none)else none) fun(s9:(List UInt8))=>(some (.inl (s9,(IntKind.wrap .i64 (s1.2+1))))))else(some (.inr s1.1)))else none))) row (fun p=>(b++jn [32,97,110,100,32] l0G p,(p.length:Int))) (fun _=>True) (fun o=>o=jn [32,111,114,32] k0T (pre++ [row])) (s0:=(b,0)) (by simp[jn]) trivial (fun p x q hp _=>by
   have hb4:(p++x::q).length≤4611686018427387904:=by rw[←hp];omega
   have hx:=g3 x (by rw[hp];simp)
   have hl2:=hin row hr p (x::q) hp
   left
   refine⟨?_,trivial⟩
   simp only
   rw[hp,h0m,f0B,e0S,l0W hb4,l0k,n0T]
   simp only[cond_true]
   by_cases hn:p=[]
   ·rw[dT hn,if_pos hn]
    simp only[bk,cond_false,aa]
    rw[(n0R hx.1 hx.2 (by simp;omega)).2];simp
   ·rw[dF hn,if_neg hn,a0v (by simp;omega)]
    simp only[Bool.not_false,cond_true,aa]
    rw[(n0R hx.1 hx.2 (by simp;omega)).2];simp) (fun _=>⟨_,by simp only;rw[f0E];rfl,by rw[l0k,hb2];simp[k0T]⟩) (by omega)
  exact(congrArg (fun o=>Option.bind o _) e1).trans rfl
/-! Conditions compared; rules, read. -/
theorem z0N {x y:List a0T} (hl:x.length≤4294967296):c0n x y=some (decide (x=y)):=by
 unfold c0n
 by_cases h:x.length=y.length
 ·rw[dF (by omega)]
  simp only[cond_false]
  rw[u0H (S:=Unit) h (by omega) (.inl ():Unit⊕Bool) (.inr false)]
  ·by_cases e:x=y
   ·rw[if_pos e,dT e];rfl
   ·rw[if_neg e,dF e];rfl
  ·intro i hi
   rw[dT (by omega),e0v hi,e0v (by omega),w64 (by omega) (by omega)]
   simp only[cond_true]
   generalize nth x (i:Int)=a
   generalize nth y (i:Int)=c
   obtain⟨a0,a1⟩:=a
   obtain⟨c0,c1⟩:=c
   by_cases h1:a0=c0<;>by_cases h2:a1=c1<;>simp[h1,h2]
  ·rw[f0E];rfl
 ·rw[dT (by omega),dF (by rintro rfl;exact h rfl)];rfl
theorem r0X {x y:a0e} (h:x.R_.length≤4294967296):e0D x y=some (decide (x=y)):=by
 unfold e0D
 rw[z0N h]
 obtain⟨o,m,n,R⟩:=x
 obtain⟨o',m',n',R'⟩:=y
 cases n<;>cases n'<;>by_cases h1:o=o'<;>by_cases h2:m=m'<;>by_cases h4:R=R'<;>simp[h1,h2,h4]
theorem r0W {x y:List a0e} (hl:x.length≤4294967296)(h: ∀r∈x,r.R_.length≤4294967296):f0i x y=some (decide (x=y)):=by
 unfold f0i d0T
 by_cases hc:x.length=y.length
 ·rw[dF (by omega)]
  simp only[cond_false]
  rw[u0H (S:=Unit) hc (by omega) (.inl ():Unit⊕Bool) (.inr false)]
  ·by_cases e:x=y
   ·rw[if_pos e,dT e];rfl
   ·rw[if_neg e,dF e];rfl
  ·intro i hi
   rw[dT (by omega),e0v hi,e0v (by omega),w64 (by omega) (by omega),r0X (h _ (d0A (by omega) (by omega)))]
   by_cases e:nth x (i:Int)=nth y (i:Int)<;>simp[e]
  ·rw[f0E];rfl
 ·rw[dT (by omega),dF (by rintro rfl;exact hc rfl)];rfl
theorem v0E {x y:List (List a0e)} (hl:x.length≤4294967296)(h: ∀row∈x,row.length≤4294967296∧ ∀r∈row,r.R_.length≤4294967296):f0r x y=some (decide (x=y)):=by
 unfold f0r g0s
 by_cases hc:x.length=y.length
 ·rw[dF (by omega)]
  simp only[cond_false]
  rw[u0H (S:=Unit) hc (by omega) (.inl ():Unit⊕Bool) (.inr false)]
  ·by_cases e:x=y
   ·rw[if_pos e,dT e];rfl
   ·rw[if_neg e,dF e];rfl
  ·intro i hi
   have hm:=h _ (d0A (l:=x) (i:=(i:Int)) (by omega) (by omega))
   rw[dT (by omega),e0v hi,e0v (by omega),w64 (by omega) (by omega),r0W hm.1 hm.2]
   by_cases e:nth x (i:Int)=nth y (i:Int)<;>simp[e]
  ·rw[f0E];rfl
 ·rw[dT (by omega),dF (by rintro rfl;exact hc rfl)];rfl
theorem A0s {c:List (List a0e)} (hl:c.length≤4294967296)(h: ∀row∈c,row.length≤4294967296∧ ∀r∈row,r.R_.length≤4294967296):c0v c c=some true:=by
 have key:Tot (c0v c c) (fun b=>b=true):=by
  unfold c0v
  have no: ∀ {p:Prop} [Decidable p],p→decide (¬p)=false:=fun h=>dF (not_not_intro h)
  refine tN (no rfl) (tJ (tW (fun s:Int=>s) c.length (fun _=>True) hl ⟨trivial,ag _,by simp⟩ (fun i _ g0 g1=> ?_) (fun i _ e=>tN (dF (by omega)) (tR (tR rfl)))))
  have hi:=a0r g0 g1
  have hm:=h _ (d0A g0 g1)
  have ei:IntKind.wrap .i64 (i+1)=i+1:=w64 (by omega) (by omega)
  rw[ei]
  refine tY (dT g1) (tJ (tY hi (tY hi (tN (no rfl) ?_))))
  refine tW (fun s:Int=>s) (nth c i).length (fun _=>True) hm.1 ⟨trivial,ag _,by simp⟩ (fun j _ f0 f1=> ?_) (fun j _ e=>tY hi (tN (dF (by omega)) (tR (show Tot _ _ from tR ⟨trivial,rfl⟩))))
  have hj:=a0r f0 f1
  have hR:=hm.2 _ (d0A f0 f1)
  have ej:IntKind.wrap .i64 (j+1)=j+1:=w64 (by omega) (by omega)
  rw[ej]
  refine tY hi (tY (dT f1) (tJ (tY hi (tY hj (tY hi (tY hj (tJ (tB (p:=fun b=>b=false) ?_ (fun b hb=> ?_)))))))))
  ·exact tN (no rfl) (tN (no rfl) (tN (bne_self_eq_false _) (tR (no rfl))))
  ·subst hb
   refine tR (show Tot _ _ from ?_)
   refine tW (fun s:Int=>s) (nth (nth c i) j).R_.length (fun _=>True) hR ⟨trivial,ag _,by simp⟩ (fun k _ k0 k1=> ?_) (fun k _ e=>tN (dF (by omega)) (tR (show Tot _ _ from tR ⟨trivial,rfl⟩)))
   have hk:=a0r k0 k1
   exact tY (dT k1) (tY hk (tY hk (tN (by simp) (tR ⟨trivial,w64 (by omega) (by omega)⟩))))
 obtain⟨b,e,rfl⟩:=key
 exact e
theorem v0J {c:List (List a0e)} (hq:y0A c)(h:d0Y c=some true):c0m c=some true:=by
 obtain⟨t1,t2⟩:=x0o hq
 obtain⟨h1,h2,h3,h4⟩:=hq
 have hb: ∀row∈c,row.length≤4294967296∧ ∀r∈row,r.R_.length≤4294967296:=fun row hr=>⟨by have:=w0M hr;omega,fun r hr2=>by have:=(h1 r (cu.2 ⟨row,hr,hr2⟩)).2;omega⟩
 unfold d0Y at h
 rw[t1,aa]at h
 obtain⟨y,e1,h⟩:=a0d h
 obtain⟨b,e2,h⟩:=a0d h
 obtain rfl:=oi h
 by_cases hy:y.2.2=0
 ·rw[dT hy]at e2
  obtain⟨b',e2,e3⟩:=a0d (show(Option.bind (f0r c y.1) fun y2=>some y2)=some true from e2)
  obtain rfl:=oi e3
  rw[v0E (by omega) hb]at e2
  have hc:=of_decide_eq_true (oi e2)
  obtain⟨d,a,e⟩:=y
  simp only at hy hc
  subst hy;subst hc
  unfold c0m
  rw[t2,aa,(r0l e1).1,aa,dT rfl]
  simp only[cond_true]
  rw[A0s (by omega) hb];rfl
 ·rw[dF hy]at e2;cases e2
def n0l(l:List k0S)(s0:Int×Int×(List b0z)):Option ((Int×Int×(List b0z))⊕((List b0z)⊕((List b0z)×Int×Int))):=(bif(decide (s0.2.1<(l.length:Int)))then(Option.bind (bif inR s0.2.1 l.length then(Option.bind (f0Y s0.1 ((nth l s0.2.1).F_)) fun y1=>(bif(!y1)then(some (.inr (.inr (.inr (([]:List b0z),s0.2.1,1)))))else(Option.bind (c0D ((nth l s0.2.1).H_)) fun y0=>(Option.bind (Option.bind (bif(decide (¬y0.2.2=0))then(some true)else(Option.bind (d0Y y0.1) fun y2=>(some (!y2)))) fun(s2:Bool)=>(bif s2 then(some (.inr (.inr (.inr (.inr (([]:List b0z),s0.2.1,2))))))else(some (.inl ())))) (a0j fun(s4:Unit)=>(bif room (s0.2.2.length+(([(⟨(nth l s0.2.1).F_,y0.1⟩:b0z)]:List b0z)).length)then(some (.inl ((s0.2.2++(([(⟨(nth l s0.2.1).F_,y0.1⟩:b0z)]:List b0z))))))else none))))))else none) (a0j fun(s3:(List b0z))=>(some (.inl ((nth l s0.2.1).F_,(IntKind.wrap .i64 (s0.2.1+1)),s3)))))else(some (.inr (.inl s0.2.2))))
def v0M(l:List k0S)(s0:Int×(List b0z)):Option ((Int×(List b0z))⊕((List b0z)⊕((List b0z)×Int×Int))):=(bif(decide (s0.1<(l.length:Int)))then(Option.bind (Option.bind (Option.bind (bif inR s0.1 l.length then(bif(decide (((nth l s0.1).F_)<1))then(some true)else(bif inR s0.1 l.length then(bif(decide (((nth l s0.1).F_)>5))then(some true)else(bif(decide (s0.1>0))then(bif inR s0.1 l.length then(bif inR (IntKind.wrap .i64 (s0.1-1)) l.length then(some ((decide (((nth l s0.1).F_)≤((nth l (IntKind.wrap .i64 (s0.1-1))).F_)))))else none)else none)else(some false)))else none))else none) fun(s2:Bool)=>(bif s2 then(some (.inr (.inr (.inr (.inr (([]:List b0z),s0.1,1))))))else(some (.inl ())))) (a0j fun(s5:Unit)=>(bif inR s0.1 l.length then(Option.bind (b0Q ((nth l s0.1).H_)) fun y0=>(Option.bind (c0m y0.1) fun y1=>(Option.bind (Option.bind (bif(decide (¬y0.2.2=0))then(some true)else(some (!y1))) fun(s3:Bool)=>(bif s3 then(some (.inr (.inr (.inr (.inr (([]:List b0z),s0.1,2))))))else(some (.inl ())))) (a0j fun(s6:Unit)=>(bif inR s0.1 l.length then(bif room (s0.2.length+(([(⟨(nth l s0.1).F_,y0.1⟩:b0z)]:List b0z)).length)then(some (.inl ((s0.2++(([(⟨(nth l s0.1).F_,y0.1⟩:b0z)]:List b0z))))))else none)else none)))))else none))) (a0j fun(s4:(List b0z))=>(some (.inl ((IntKind.wrap .i64 (s0.1+1)),s4)))))else(some (.inr (.inl s0.2))))
def rdR(l:List k0S)(s:Int×Int×List b0z)(s':Int×List b0z):Prop:=s'=s.2∧0≤s.2.1∧s.2.1≤l.length∧s.1=(if s.2.1=0 then 0 else(nth l (s.2.1-1)).F_)∧0≤s.1
theorem x0E {l:List k0S} (hl:l.length≤1000) {s:Int×Int×List b0z} {s':Int×List b0z} (hR:rdR l s s') {u:Int×Int×List b0z} (hf:n0l l s=some (.inl u)): ∃u',v0M l s'=some (.inl u')∧rdR l u u':=by
 obtain⟨rfl,h0,h1,h2,h3⟩:=hR
 unfold n0l at hf
 by_cases hlt:s.2.1<(l.length:Int)
 ·have hi:=a0r h0 hlt
  rw[dT hlt,hi]at hf
  simp only[cond_true]at hf
  obtain⟨o,e1,hf⟩:=a0d hf
  obtain⟨y1,e2,e1⟩:=a0d e1
  cases y1 with
  |false=>obtain rfl:=oi e1;cases hf
  |true=>
   obtain⟨y0,e3,e1⟩:=a0d (show(Option.bind (c0D ((nth l s.2.1).H_)) _)=some o from e1)
   obtain⟨v,e4,e1⟩:=a0d e1
   obtain⟨bd,e5,e6⟩:=a0d e4
   cases bd with
   |true=>obtain rfl:=oi e6;obtain rfl:=oi e1;cases hf
   |false=>
    obtain rfl:=oi e6
    obtain⟨e7,e1⟩:=a0Q (show(bif room (s.2.2.length+(([(⟨(nth l s.2.1).F_,y0.1⟩:b0z)]:List b0z)).length)then _ else none)=some o from e1)
    obtain rfl:=oi e1
    obtain rfl:=ba (oi hf)
    have hcat:s.1<(nth l s.2.1).F_∧(nth l s.2.1).F_<6:=by
     unfold f0Y f0k at e2
     by_cases c1:(nth l s.2.1).F_>s.1
     ·rw[dT c1]at e2
      exact⟨c1,of_decide_eq_true (oi e2)⟩
     ·rw[dF c1]at e2;cases e2
    have hy:y0.2.2=0:=by
     by_cases c:y0.2.2=0
     ·exact c
     ·rw[dT c]at e5;cases e5
    rw[dF (not_not_intro hy)]at e5
    obtain⟨y2,e8,e5⟩:=a0d (show(Option.bind (d0Y y0.1) fun y2=>some (!y2))=some false from e5)
    have hr:y2=true:=by cases y2 with
     |true=>rfl
     |false=>cases e5
    subst hr
    obtain⟨c,a,e⟩:=y0
    simp only at hy e8 e7⊢
    subst hy
    obtain⟨p1,p2⟩:=r0l e3
    refine⟨(s.2.1+1,s.2.2++ [⟨(nth l s.2.1).F_,c⟩]), ?_, ?_,by simp only;rw[w64 (by omega) (by omega)];omega,by simp only;rw[w64 (by omega) (by omega)];omega, ?_,by simp only;omega⟩
    ·unfold v0M
     rw[dT hlt,hi,dF (show¬(nth l s.2.1).F_<1 by omega),dF (show¬(nth l s.2.1).F_>5 by omega),p1]
     simp only[cond_true,cond_false]
     have hb:(bif decide (s.2.1>0)then bif inR (IntKind.wrap .i64 (s.2.1-1)) l.length then some (decide ((nth l s.2.1).F_≤(nth l (IntKind.wrap .i64 (s.2.1-1))).F_))else none else some false)=some false:=by
      by_cases c0:s.2.1>0
      ·rw[if_neg (by omega)]at h2
       rw[dT c0,w64 (n:=s.2.1-1) (by omega) (by omega),a0r (by omega) (by omega),dF (by omega)];rfl
      ·rw[dF c0];rfl
     rw[hb]
     simp only[aa,cond_false,a0j]
     rw[v0J p2 e8]
     simp only[aa]
     rw[dF (not_not_intro trivial),e7,w64 (n:=s.2.1+1) (by omega) (by omega)]
     rfl
    ·rw[w64 (n:=s.2.1+1) (by omega) (by omega)]
    ·simp only
     rw[w64 (n:=s.2.1+1) (by omega) (by omega),if_neg (by omega),show s.2.1+1-1=s.2.1 by omega]
 ·rw[dF hlt]at hf;cases hf
theorem x0D {l:List k0S} (hl:l.length≤1000) {q:List b0z} {a:Int} (h:g0f l=some (q,a,0)): ∃q',d0g l=some (q',0,0):=by
 unfold g0f at h
 obtain⟨o,e1,e2⟩:=a0d h
 have hG: ∃r,o= .inl r:=by
  cases o with
  |inl r=>exact⟨r,rfl⟩
  |inr v=>
   exfalso
   obtain rfl:=oi e2
   obtain⟨s,hs⟩:=d0m e1
   have hs:n0l l s=some (.inr (.inr (q,a,0))):=hs
   unfold n0l at hs
   by_cases hlt:s.2.1<(l.length:Int)
   ·rw[dT hlt]at hs
    simp only[cond_true]at hs
    obtain⟨o,e3,e4⟩:=a0d hs
    obtain⟨_,e3⟩:=a0Q e3
    obtain⟨y1,_,e3⟩:=a0d e3
    cases y1 with
    |false=>obtain rfl:=oi e3;cases e4
    |true=>
     obtain⟨y0,_,e3⟩:=a0d (show(Option.bind (c0D ((nth l s.2.1).H_)) _)=some o from e3)
     obtain⟨v,e5,e3⟩:=a0d e3
     obtain⟨bd,_,e6⟩:=a0d e5
     cases bd with
     |true=>obtain rfl:=oi e6;obtain rfl:=oi e3;cases e4
     |false=>
      obtain rfl:=oi e6
      obtain⟨_,e3⟩:=a0Q (show(bif room (s.2.2.length+(([(⟨(nth l s.2.1).F_,y0.1⟩:b0z)]:List b0z)).length)then _ else none)=some o from e3)
      obtain rfl:=oi e3;cases e4
   ·rw[dF hlt]at hs;cases hs
 obtain⟨r,rfl⟩:=hG
 obtain⟨o',e3,r',rfl⟩:=j0m (f:=n0l l) (g:=v0M l) (fun o=> ∃r,o= .inl r) (rdR l) (fun _ o'=> ∃r',o'= .inl r') (fun s s' u hR hf=>x0E hl hR hf) (fun s s' o hR hf hG=>by
  obtain⟨r,rfl⟩:=hG
  obtain⟨rfl,h0,h1,h2,h3⟩:=hR
  refine⟨.inl s.2.2, ?_,_,rfl⟩
  by_cases hlt:s.2.1<(l.length:Int)
  ·exfalso
   unfold n0l at hf
   rw[dT hlt]at hf
   simp only[cond_true]at hf
   obtain⟨o,e3,e4⟩:=a0d hf
   cases o with
   |inl _=>cases e4
   |inr v=>
    have e5:=oi e4
    obtain⟨_,e3⟩:=a0Q e3
    obtain⟨y1,_,e3⟩:=a0d e3
    cases y1 with
    |false=>obtain rfl:=aA (oi e3);cases e5
    |true=>
     obtain⟨y0,_,e3⟩:=a0d (show(Option.bind (c0D ((nth l s.2.1).H_)) _)=_ from e3)
     obtain⟨v',e6,e3⟩:=a0d e3
     obtain⟨bd,_,e7⟩:=a0d e6
     cases bd with
     |true=>obtain rfl:=oi e7;obtain rfl:=aA (oi e3);cases e5
     |false=>
      obtain rfl:=oi e7
      obtain⟨_,e3⟩:=a0Q (show(bif room (s.2.2.length+(([(⟨(nth l s.2.1).F_,y0.1⟩:b0z)]:List b0z)).length)then _ else none)=_ from e3)
      cases e3
  ·unfold v0M
   rw[dF hlt];rfl) big (0,0,[]) (0,[]) (.inl r) ⟨rfl,ag _,by simp,rfl,ag _⟩ e1 ⟨r,rfl⟩
 refine⟨r', ?_⟩
 unfold d0g
 exact(congrArg (fun o=>Option.bind o _) e3).trans rfl
theorem n0v(p:Int→Prop)(h: ∀k:Fin 256,p (k.val:Int)) {x:Int} (h0:0≤x)(h1:x<256):p x:=by
 obtain⟨n,rfl⟩:=bA h0
 exact h ⟨n,by omega⟩
theorem A0R {x:Int} (h0:0≤x)(h1:x<256):bits .and .u8 x 63=x%64:=n0v (fun x=>bits .and .u8 x 63=x%64) (by decide+kernel) h0 h1
def w0k(x:Int):Bool:=decide (0≤x∧x≤1114111∧(x<55296∨57343<x))
def o0O(x:Int):Int:=if w0k x then(if x<128 then 1 else if x<2048 then 2 else if x<65536 then 3 else 4)else 0
theorem w0G(x:Int):h0X x=some (w0k x):=by
 unfold h0X w0k
 by_cases h1:0≤x<;>by_cases h2:x≤1114111<;>by_cases h3:x<55296<;>simp[h1,h2,h3]
theorem t0h(x:Int):f0H x=some (o0O x):=by
 unfold f0H o0O
 rw[w0G]
 cases h:w0k x
 ·simp
 ·by_cases h1:x<128<;>by_cases h2:x<2048<;>by_cases h3:x<65536<;>simp[h1,h2,h3]
theorem y0l {a b:Int} (hb:0<b):Int.fdiv a b=a/b:=Int.fdiv_eq_ediv_of_nonneg _ (by omega)
theorem x0H(c:Int):e0A c=some (if c<128 then 1 else if c/32=6 then 2 else if c/16=14 then 3 else if c/8=30 then 4 else 0):=by
 unfold e0A
 rw[y0l (by decide),y0l (by decide),y0l (by decide)]
 by_cases h1:c<128<;>by_cases h2:c/32=6<;>by_cases h3:c/16=14<;>by_cases h4:c/8=30<;>simp[h1,h2,h3,h4]
theorem n63 {x:Int} (h0:0≤x)(h1:x<256):bits .andNot .u8 x 63=x/64*64:=n0v (fun x=>bits .andNot .u8 x 63=x/64*64) (by decide+kernel) h0 h1
theorem n0 {x:Int} (h0:0≤x)(h1:x<256):bits .andNot .u8 x 0=x:=n0v (fun x=>bits .andNot .u8 x 0=x) (by decide+kernel) h0 h1
theorem B0r {x:Int} (h0:0≤x)(h1:x<32):bits .andNot .u8 (192+x) 192=x:=n0v (fun x=>x<32→bits .andNot .u8 (192+x) 192=x) (by decide+kernel) h0 (by omega) h1
theorem B0q {x:Int} (h0:0≤x)(h1:x<16):bits .andNot .u8 (224+x) 224=x:=n0v (fun x=>x<16→bits .andNot .u8 (224+x) 224=x) (by decide+kernel) h0 (by omega) h1
theorem B0p {x:Int} (h0:0≤x)(h1:x<8):bits .andNot .u8 (240+x) 240=x:=n0v (fun x=>x<8→bits .andNot .u8 (240+x) 240=x) (by decide+kernel) h0 (by omega) h1
theorem o32 {r y:Int} (h0:0≤r)(h1:r<32768)(h2:0≤y)(h3:y<64):bits .or .i32 (IntKind.wrap .i32 (r*64)) (IntKind.wrap .i32 y)=r*64+y:=by
 rw[w32 (by omega) (by omega),w32 (by omega) (by omega)]
 exact i32_or6 _ _ (by omega) (by omega) (by omega) h2 h3
theorem is1 {x:Int} (h0: -2147483648≤x)(h1:x≤2147483647):b0D x=some (w0k x):=by
 unfold b0D w0k
 rw[w64 (by omega) (by omega)]
 by_cases h1:0≤x<;>by_cases h2:x≤1114111<;>by_cases h3:x<55296<;>by_cases h4:x>57343<;>first|omega|simp[h1,h2,h3,h4]
/-! Bytes that are runes are the document's. -/
theorem o0a {l:List Int} {a q:Int} (h0:0≤a)(h2:q≤(l.length:Int)) {m:Int} (hm0:0≤m)(hm:a+m<q):nth (cut l a q) m=nth l (a+m):=by
 obtain⟨k,rfl⟩:=bA hm0
 have hj:a.toNat+k<l.length:=by omega
 rw[show a+(k:Int)=((a.toNat+k:Nat):Int) by omega,g0o hj,g0o (by unfold cut;simp;omega)]
 unfold cut
 rw[List.getElem_drop,List.getElem_take]
theorem o0m {l:List Int} {j k:Int} (h0:0≤j)(h1:j≤k)(h2:k≤(l.length:Int)):(((cut l j k).length:Nat):Int)=k-j:=by
 unfold cut
 simp only[aV,aJ]
 omega
def byP(b:List Int):Prop:= ∀c∈b,0≤c∧c<256
def bnd(k:Int)(s:Int×Int):Prop:=0≤s.1∧((s.2=0∧(k=3→s.1<8)∧s.1<32)∨(s.2=1∧(k=3→s.1<512)∧s.1<2048)∨(s.2=2∧(k=3→s.1<32768)∧s.1<131072)∨(s.2=3∧s.1<2097152))
def tlP(l:List Int)(y0:Int)(s0:Int×Int):Option ((Int×Int)⊕(Int⊕(Int×Int))):=(bif(decide (s0.2<((cut l 1 y0).length:Int)))then(bif inR s0.2 (cut l 1 y0).length then(bif(decide (¬((bits .andNot .u8 (nth (cut l 1 y0) s0.2) 63))=128))then(some (.inr (.inr (0,0))))else(some (.inl ((bits .or .i32 (IntKind.wrap .i32 (s0.1*64)) ((IntKind.wrap .i32 ((bits .and .u8 (nth (cut l 1 y0) s0.2) 63))))),(IntKind.wrap .i64 (s0.2+1))))))else none)else(some (.inr (.inl s0.1))))
theorem n0H {b:List Int} {a k v r:Int} (hb:byP b)(hl:b.length≤100000)(h0:0≤a)(hk:1≤k∧k≤3)(hin:a+k<b.length)(hv:bnd k (v,0))(h:a0l (tlP (cut b a (b.length:Int)) (k+1)) big (v,0)=some (.inl r)):b0R b a k v=some r∧0≤r∧r<2097152:=by
 have l1:(((cut b a (b.length:Int)).length:Nat):Int)=b.length-a:=o0m h0 (by omega) (ag _)
 have l2:(((cut (cut b a (b.length:Int)) 1 (k+1)).length:Nat):Int)=k:=by rw[o0m (by omega) (by omega) (by omega)];omega
 obtain⟨o,e,r',h1,h2,h3,h4⟩:=j0m (f:=tlP (cut b a (b.length:Int)) (k+1)) (g:=(fun(s0:Int×Int)=>(bif(decide (s0.2≤k))then(Option.bind (bif inR (IntKind.wrap .i64 (a+s0.2)) b.length then(Option.bind (Option.bind (bif(decide (((IntKind.wrap .i64 ((nth b (IntKind.wrap .i64 (a+s0.2))))))<128))then(some true)else(some ((decide (((IntKind.wrap .i64 ((nth b (IntKind.wrap .i64 (a+s0.2))))))>191))))) fun(s1:Bool)=>(bif s1 then(some (.inr (.inr (.inr (.inr (-1))))))else(some (.inl ())))) (a0j fun(s3:Unit)=>(some (.inl ()))))else none) (a0j fun(s4:Unit)=>(some (.inl ((IntKind.wrap .i64 (((IntKind.wrap .i64 ((IntKind.wrap .i64 (s0.1*64))+((IntKind.wrap .i64 ((nth b (IntKind.wrap .i64 (a+s0.2)))))))))-128)),(IntKind.wrap .i64 (s0.2+1)))))))else(some (.inr (.inl s0.1))):Option ((Int×Int)⊕(Int⊕Int))))) (fun o=> ∃r,o= .inl r) (fun s s'=>s'=(s.1,s.2+1)∧0≤s.2∧s.2≤k∧bnd k s) (fun o o'=> ∃r,o= .inl r∧o'= .inl r∧0≤r∧r<2097152) (fun s s' t hR hf=>by
  obtain⟨rfl,g0,g1,g2⟩:=hR
  unfold tlP at hf
  by_cases hlt:s.2<k
  ·have hn:nth (cut (cut b a (b.length:Int)) 1 (k+1)) s.2=nth b (a+(s.2+1)):=by
    rw[o0a (by omega) (by omega) g0 (by omega),o0a h0 (ag _) (by omega) (by omega)]
    congr 1;omega
   have hm:=hb _ (d0A (l:=b) (i:=a+(s.2+1)) (by omega) (by omega))
   rw[dT (by omega),a0r g0 (by omega),hn,n63 hm.1 hm.2,A0R hm.1 hm.2]at hf
   simp only[cond_true]at hf
   by_cases hc:nth b (a+(s.2+1))/64*64=128
   ·rw[dF (not_not_intro hc)]at hf
    obtain rfl:=ba (oi hf)
    simp only
    unfold bnd at g2
    rw[o32 (by omega) (by omega) (by omega) (by omega),w64 (n:=s.2+1) (by omega) (by omega)]
    refine⟨_, ?_,rfl,by omega,by omega,by unfold bnd;simp only;omega⟩
    rw[dT (show s.2+1≤k by omega),w64 (n:=a+(s.2+1)) (by omega) (by omega),a0r (by omega) (by omega),w64 (n:=nth b (a+(s.2+1))) (by omega) (by omega),dF (show¬nth b (a+(s.2+1))<128 by omega),dF (show¬nth b (a+(s.2+1))>191 by omega)]
    simp only[cond_true,cond_false,aa,a0j]
    rw[w64 (n:=s.1*64) (by omega) (by omega),w64 (n:=s.1*64+nth b (a+(s.2+1))) (by omega) (by omega),w64 (n:=s.1*64+nth b (a+(s.2+1))-128) (by omega) (by omega),w64 (n:=s.2+1+1) (by omega) (by omega),show s.1*64+nth b (a+(s.2+1))-128=s.1*64+nth b (a+(s.2+1))%64 by omega]
   ·rw[dT hc]at hf;cases hf
  ·rw[dF (by omega)]at hf;cases hf) (fun s s' o hR hf hG=>by
  obtain⟨rfl,g0,g1,g2⟩:=hR
  obtain⟨r,rfl⟩:=hG
  unfold tlP at hf
  by_cases hlt:s.2<k
  ·rw[dT (by omega),a0r g0 (by omega)]at hf
   simp only[cond_true]at hf
   cases hc:decide (¬bits .andNot .u8 (nth (cut (cut b a (b.length:Int)) 1 (k+1)) s.2) 63=128)with
   |true=>rw[hc]at hf;cases hf
   |false=>rw[hc]at hf;cases hf
  ·rw[dF (by omega)]at hf
   obtain rfl:=ba (aA (oi hf))
   simp only
   unfold bnd at g2
   exact⟨.inl s.1,by rw[dF (by omega)];rfl,_,rfl,rfl,by omega,by omega⟩) big (v,0) (v,1) (.inl r) ⟨rfl,ag _,by simp only;omega,hv⟩ h ⟨r,rfl⟩
 obtain rfl:=ba h1
 refine⟨?_,h3,h4⟩
 unfold b0R
 rw[w64 (n:=a+k) (by omega) (by omega),dF (show¬a+k≥(b.length:Int) by omega)]
 simp only[cond_false]
 rw[h2]at e
 exact(congrArg (fun o=>Option.bind o _) e).trans rfl
theorem v0y {x:Int} (h:o0O x≠0):w0k x=true:=by
 cases hr:w0k x with
 |true=>rfl
 |false=>exact absurd (by unfold o0O;rw[hr];rfl) h
theorem z0q {b:List Int} {a r n:Int} (hb:byP b)(hl:b.length≤100000)(h0:0≤a)(h1:a<b.length)(h:f0p (cut b a (b.length:Int))=some (r,n))(hn:n≠0):c0F b a=some r∧w0k r=true∧o0O r=n∧a+n≤b.length:=by
 have l1:(((cut b a (b.length:Int)).length:Nat):Int)=b.length-a:=o0m h0 (by omega) (ag _)
 have hm:=hb _ (d0A (l:=b) (i:=a) h0 h1)
 have hc0:nth (cut b a (b.length:Int)) 0=nth b a:=by rw[o0a h0 (ag _) (ag _) (by omega),Int.add_zero]
 unfold f0p at h
 rw[hc0,a0r (by omega) (by omega),x0H]at h
 simp only[cond_true,aa]at h
 generalize hc:nth b a=c at*
 generalize hy:(if c<128 then(1:Int)else if c/32=6 then 2 else if c/16=14 then 3 else if c/8=30 then 4 else 0)=y at h
 obtain⟨u,e1,h⟩:=a0d h
 obtain⟨bd,e2,e3⟩:=a0d e1
 cases bd with
 |true=>obtain rfl:=oi e3;obtain⟨_,rfl⟩:=aX (oi h);exact absurd rfl hn
 |false=>
  obtain rfl:=oi e3
  have y0: ¬y=0:=fun e=>by rw[dT e]at e2;cases e2
  rw[dF y0]at e2
  have y1:=of_decide_eq_false (oi e2)
  obtain⟨m,e4,h⟩:=a0d (show(Option.bind (k0m y) _)=some (r,n)from h)
  obtain⟨q,e5,h⟩:=a0d h
  obtain⟨_,e5⟩:=a0Q e5
  have e5:a0l (tlP (cut b a (b.length:Int)) y) big (IntKind.wrap .i32 (bits .andNot .u8 c m),0)=some q:=e5
  cases q with
  |inr v=>
   exfalso
   obtain rfl:=oi h
   obtain⟨s,hs⟩:=d0m e5
   unfold tlP at hs
   cases d1:decide (s.2<((cut (cut b a (b.length:Int)) 1 y).length:Int))with
   |false=>rw[d1]at hs;cases hs
   |true=>
    rw[d1]at hs
    obtain⟨_,hs⟩:=a0Q (show(bif inR s.2 (cut (cut b a (b.length:Int)) 1 y).length then _ else none)=_ from hs)
    cases d2:decide (¬bits .andNot .u8 (nth (cut (cut b a (b.length:Int)) 1 y) s.2) 63=128)with
    |false=>rw[d2]at hs;cases hs
    |true=>
     rw[d2]at hs
     have:=(aX (aA (aA (oi hs)))).2
     exact hn this.symm
  |inl v=>
   obtain⟨z,e6,h⟩:=a0d (show(Option.bind (f0H v) _)=some (r,n)from h)
   rw[t0h]at e6
   obtain rfl:=oi e6
   by_cases hz:o0O v=y
   ·rw[dF (not_not_intro hz)]at h
    obtain⟨rfl,rfl⟩:=aX (oi h)
    have hr:=v0y (x:=v) (by omega)
    refine⟨?_,hr,hz,by omega⟩
    have hr':=of_decide_eq_true hr
    have hsz:(y=1→v<128)∧(y=2→128≤v)∧(y=3→2048≤v)∧(y=4→65536≤v):=by
     unfold o0O at hz
     rw[hr]at hz
     simp only[if_true]at hz
     split at hz<;>(try split at hz)<;>(try split at hz)<;>omega
    unfold c0F
    rw[hc,w64 (n:=c) (by omega) (by omega),a0r h0 h1]
    simp only[cond_true]
    have fin: ∀least:Int,¬v<least→(Option.bind (b0D (IntKind.wrap .i32 v)) fun y3=>Option.bind (Option.bind (bif decide (v<least)then some true else some (!y3)) fun s7=>bif s7 then some (.inr (-1))else some (.inl ())) (a0j fun(_:Unit)=>some v))=some v:=fun least hlst=>by
     rw[w32 (n:=v) (by omega) (by omega),is1 (by omega) (by omega),hr,dF hlst];rfl
    rcases(show(y=1∧c<128)∨(y=2∧192≤c∧c<224)∨(y=3∧224≤c∧c<240)∨(y=4∧240≤c∧c<248) by
     rw[←hy]at y0⊢
     split at y0<;>(try split at y0)<;>(try split at y0)<;>(try split at y0)<;>simp_all<;>omega)with⟨rfl,c1⟩|⟨rfl,c1⟩|⟨rfl,c1⟩|⟨rfl,c1⟩
    ·obtain rfl:=oi (show some (0:Int)=some m from e4)
     rw[n0 hm.1 hm.2,w32 (n:=c) (by omega) (by omega)]at e5
     have hv:v=c:=by
      have:tlP (cut b a (b.length:Int)) 1 (c,0)=some (.inr (.inl c)):=by
       unfold tlP
       rw[dF (by have:=o0m (l:=cut b a (b.length:Int)) (show(0:Int)≤1 by omega) (ag 1) (by omega);simp only;omega)];rfl
      exact(ba (oi ((e0T this).symm.trans e5))).symm
     subst hv
     rw[dT c1,dF (show¬v≥192 by omega),dF (show¬v≥224 by omega),dF (show¬v≥240 by omega)]
     simp only[cond_true,cond_false,aa]
     exact fin 0 (by omega)
    ·obtain rfl:=oi (show some (192:Int)=some m from e4)
     have hx:=B0r (x:=c-192) (by omega) (by omega)
     rw[show 192+(c-192)=c by omega]at hx
     rw[hx,w32 (n:=c-192) (by omega) (by omega)]at e5
     obtain⟨t1,t2,t3⟩:=n0H (k:=1) hb hl h0 (by omega) (by omega) ⟨by simp only;omega, .inl ⟨rfl,by simp only;omega,by simp only;omega⟩⟩ e5
     rw[dF (show¬c<128 by omega),dT (show c≥192 by omega),dT (show c<224 by omega),dF (show¬c≥224 by omega),dF (show¬c≥240 by omega)]
     simp only[cond_true,cond_false,aa]
     rw[w64 (n:=c-192) (by omega) (by omega),t1]
     exact fin 128 (by omega)
    ·obtain rfl:=oi (show some (224:Int)=some m from e4)
     have hx:=B0q (x:=c-224) (by omega) (by omega)
     rw[show 224+(c-224)=c by omega]at hx
     rw[hx,w32 (n:=c-224) (by omega) (by omega)]at e5
     obtain⟨t1,t2,t3⟩:=n0H (k:=2) hb hl h0 (by omega) (by omega) ⟨by simp only;omega, .inl ⟨rfl,by simp only;omega,by simp only;omega⟩⟩ e5
     rw[dF (show¬c<128 by omega),dT (show c≥192 by omega),dF (show¬c<224 by omega),dT (show c≥224 by omega),dT (show c<240 by omega),dF (show¬c≥240 by omega)]
     simp only[cond_true,cond_false,aa]
     rw[w64 (n:=c-224) (by omega) (by omega),t1]
     exact fin 2048 (by omega)
    ·obtain rfl:=oi (show some (240:Int)=some m from e4)
     have hx:=B0p (x:=c-240) (by omega) (by omega)
     rw[show 240+(c-240)=c by omega]at hx
     rw[hx,w32 (n:=c-240) (by omega) (by omega)]at e5
     obtain⟨t1,t2,t3⟩:=n0H (k:=3) hb hl h0 (by omega) (by omega) ⟨by simp only;omega, .inl ⟨rfl,by simp only;omega,by simp only;omega⟩⟩ e5
     rw[dF (show¬c<128 by omega),dT (show c≥192 by omega),dF (show¬c<224 by omega),dT (show c≥224 by omega),dF (show¬c<240 by omega),dT (show c≥240 by omega),dT (show c<248 by omega)]
     simp only[cond_true,cond_false,aa]
     rw[w64 (n:=c-240) (by omega) (by omega),t1]
     exact fin 65536 (by omega)
   ·rw[dT hz]at h
    obtain⟨_,rfl⟩:=aX (oi h)
    exact absurd rfl hn
def dcP(b:List Int)(s0:Int×List Int):Option ((Int×List Int)⊕(List Int⊕(List Int×Int×Int))):=(bif(decide (s0.1<(b.length:Int)))then(bif inS s0.1 (b.length:Int) b.length then(Option.bind (f0p (cut b s0.1 (b.length:Int))) fun y0=>(bif(decide (y0.2=0))then(some (.inr (.inr (([]:List Int),s0.1,3))))else(bif room (s0.2.length+([y0.1]:List Int).length)then(some (.inl ((IntKind.wrap .i64 (s0.1+y0.2)),(s0.2++([y0.1]:List Int)))))else none)))else none)else(some (.inr (.inl s0.2))))
def dcR(b:List Int)(s0:Int×List Int):Option ((Int×List Int)⊕(List Int⊕(List Int×Int×Int))):=(bif(decide (s0.1<(b.length:Int)))then(Option.bind (c0F b s0.1) fun y0=>(bif(decide (y0<0))then(some (.inr (.inr (([]:List Int),s0.1,3))))else(bif room (s0.2.length+([(IntKind.wrap .i32 y0)]:List Int).length)then(Option.bind (c0x (IntKind.wrap .i32 y0)) fun y1=>(some (.inl ((IntKind.wrap .i64 (s0.1+y1)),(s0.2++([(IntKind.wrap .i32 y0)]:List Int))))))else none)))else(some (.inr (.inl s0.2))))
theorem u0Q {b:List Int} (hb:byP b)(hl:b.length≤100000) {s:Int×List Int} (h0:0≤s.1) {z:(Int×List Int)⊕(List Int⊕(List Int×Int×Int))} (h:dcP b s=some z):(z= .inr (.inr ([],s.1,3)))∨(dcR b s=some z∧ ∀t,z= .inl t→0≤t.1):=by
 unfold dcP at h
 by_cases hlt:s.1<(b.length:Int)
 ·rw[dT hlt]at h
  obtain⟨_,h⟩:=a0Q (show(bif inS s.1 (b.length:Int) b.length then _ else none)=some z from h)
  obtain⟨⟨r,n⟩,e,h⟩:=a0d h
  by_cases hn:n=0
  ·rw[dT hn]at h
   exact .inl (oi h).symm
  ·rw[dF hn]at h
   obtain⟨e2,h⟩:=a0Q (show(bif room (s.2.length+([r]:List Int).length)then _ else none)=some z from h)
   obtain⟨k1,k2,k3,k4⟩:=z0q hb hl h0 hlt e hn
   have hr:=of_decide_eq_true k2
   obtain rfl:=oi h
   have hn0:0<n:=by
    rw[←k3]
    unfold o0O;rw[k2];simp only[if_true];split;omega;split;omega;split<;>omega
   right
   refine⟨?_,fun t ht=>by obtain rfl:=ba ht;simp only;rw[w64 (by omega) (by omega)];omega⟩
   unfold dcR
   rw[dT hlt,k1]
   simp only[cond_true,aa]
   have hs:c0x r=some n:=by
    have:=t0h r
    unfold f0H at this
    unfold c0x
    rw[is1 (by omega) (by omega)]
    rw[w0G,k3]at this
    exact this
   rw[dF (show¬r<0 by omega),w32 (n:=r) (by omega) (by omega),e2,hs]
   rfl
 ·rw[dF hlt]at h
  right
  unfold dcR
  rw[dF hlt]
  exact⟨h,fun t ht=>by subst ht;cases h⟩
theorem u0O {b:List Int} (hb:byP b)(hl:b.length≤100000) {L:List Int} {e:Int} (h:d0y b=some (L,e,0)):c0z b=some (L,0,0):=by
 unfold d0y at h
 obtain⟨o,e1,e2⟩:=a0d h
 have hG:o= .inl L:=by
  cases o with
  |inl r=>obtain⟨rfl,_⟩:=aX (oi e2);rfl
  |inr v=>
   exfalso
   obtain rfl:=oi e2
   obtain⟨s,hs⟩:=d0m e1
   have hs:dcP b s=some (.inr (.inr (L,e,0))):=hs
   unfold dcP at hs
   cases d1:decide (s.1<(b.length:Int))with
   |false=>rw[d1]at hs;cases hs
   |true=>
    rw[d1]at hs
    obtain⟨_,hs⟩:=a0Q (show(bif inS s.1 (b.length:Int) b.length then _ else none)=_ from hs)
    obtain⟨y,_,hs⟩:=a0d hs
    cases d2:decide (y.2=0)with
    |true=>rw[d2]at hs;cases(aX (aX (aA (aA (oi hs)))).2).2
    |false=>rw[d2]at hs;obtain⟨_,hs⟩:=a0Q (show(bif room (s.2.length+([y.1]:List Int).length)then _ else none)=_ from hs);cases hs
 subst hG
 obtain⟨o',e3,rfl⟩:=j0m (f:=dcP b) (g:=dcR b) (fun o=> ∃L,o= .inl L) (fun s s':Int×List Int=>s'=s∧0≤s.1) (fun o o'=>o'=o) (fun s s' t hR hf=>by
  obtain⟨rfl,g0⟩:=hR
  rcases u0Q hb hl g0 hf with e|⟨e,h⟩
  ·cases e
  ·exact⟨t,e,rfl,h t rfl⟩) (fun s s' o hR hf hG=>by
  obtain⟨rfl,g0⟩:=hR
  obtain⟨L,rfl⟩:=hG
  rcases u0Q hb hl g0 hf with e|⟨e,h⟩
  ·cases e
  ·exact⟨_,e,rfl⟩) big (0,[]) (0,[]) (.inl L) ⟨rfl,ag _⟩ e1 ⟨L,rfl⟩
 unfold c0z
 exact(congrArg (fun o=>Option.bind o _) e3).trans rfl
def nol:List Int:=[48,1632,1776,1984,2406,2534,2662,2790,2918,3046,3174,3302,3430,3664,3792,3872,6112,6160,65296,120782]
def i0S(r z:Int):Bool:=decide (z≤r)&&decide (r≤z+9)
def dig(r:Int):Int×Bool:=match nol.find? (i0S r)with
 |some z=>(r-z,true)
 |none=>(0,false)
theorem p0i {z:Int} (h:z∈nol):48≤z∧z≤120782:=by
 have:nol.all (fun z=>decide (48≤z)&&decide (z≤120782))=true:=by decide+kernel
 have h2:=List.all_eq_true.1 this z h
 simpa using h2
theorem i0U {p:Int→Bool} {l:List Int} (h:l.all (fun z=> !p z)=true):l.find? p=none:=by
 rw[List.find?_eq_none]
 intro x hx
 have:=List.all_eq_true.1 h x hx
 simpa using this
theorem r0w {p:Int→Bool} {pre suf:List Int} {x:Int} (h:pre.all (fun z=> !p z)=true)(hx:p x=true):(pre++x::suf).find? p=some x:=by
 rw[List.find?_append,i0U h]
 simp[hx]
theorem r0a {r:Int} (h1: -2147483648≤r)(h2:r<2147483648):d0a r=some (dig r):=by
 unfold d0a
 refine f0C (fun o=>o=(match nol.find? (i0S r)with|some z=> .inr (r-z,true)|none=> .inl ())) (e0o nol (fun pre=>(pre.length:Int)) (fun pre=>pre.all (fun z=> !i0S r z)=true) _ rfl rfl (fun pre x suf h hi=> ?_) (fun hi=> ?_) (by decide)) ?_
 ·have hx:=p0i (show x∈nol by rw[h];simp)
  have hlen:pre.length<20:=by have:=congrArg List.length h;simp[nol]at this;omega
  rw[show k0_=pre++x::suf from h,dT (show(pre.length:Int)<20 by omega),e0v (by omega),e0S,w32 (n:=x+9) (by omega) (by omega),w64 (n:=(pre.length:Int)+1) (by omega) (by omega)]
  cases hd:i0S r x with
  |true=>
   right
   unfold i0S at hd
   simp only[ae,decide_eq_true_eq]at hd
   rw[dT hd.1,dT hd.2,w32 (n:=r-x) (by omega) (by omega),w64 (n:=r-x) (by omega) (by omega)]
   refine⟨_,rfl, ?_⟩
   rw[h,r0w hi (by unfold i0S;rw[dT hd.1,dT hd.2];rfl)]
  |false=>
   left
   refine⟨?_,by rw[bq,hi];simp[hd]⟩
   have hl:((pre++ [x]).length:Int)=(pre.length:Int)+1:=by simp
   unfold i0S at hd
   by_cases hxr:x≤r
   ·rw[dT hxr]at hd⊢
    simp only[bI]at hd
    simp only[cond_true,hd,aa,cond_false,a0j,hl]
   ·rw[dF hxr]
    simp only[cond_false,cond_true,aa,a0j,hl]
 ·refine⟨.inl (), ?_,by rw[i0U hi]⟩
  rw[dF (show¬((nol.length:Int)<20) by decide)];rfl
 ·rintro o rfl
  unfold dig
  cases nol.find? (i0S r)<;>rfl
theorem w0t {r:Int} (h:(dig r).2=true): ∃z∈nol,0≤(dig r).1∧(dig r).1≤9∧r=z+(dig r).1:=by
 unfold dig at h⊢
 cases hf:nol.find? (i0S r)with
 |none=>rw[hf]at h;cases h
 |some z=>
  have hz:=List.find?_some hf
  unfold i0S at hz
  simp only[ae,decide_eq_true_eq]at hz
  exact⟨z,List.mem_of_find?_eq_some hf,by show 0≤r-z;omega,by show r-z≤9;omega,by show r=z+(r-z);omega⟩
theorem z0R {z:Int} (hz:z∈nol) {k:Nat} (hk:k<10):dig (z+(k:Int))=((k:Int),true):=by
 have:nol.all (fun z=>(List.range 10).all fun k=>decide (dig (z+(k:Int))=((k:Int),true)))=true:=by decide+kernel
 have h2:=List.all_eq_true.1 (List.all_eq_true.1 this z hz) k (bl.2 hk)
 simpa using h2
theorem s0w {r:Int} (h:(dig r).2=true)(h0:(dig r).1=0):r∈nol:=by
 obtain⟨z,hz,_,_,he⟩:=w0t h
 rw[h0]at he
 rw[he];simpa using hz
def isZ(r:Int):Bool:=(dig r).2&&decide ((dig r).1=0)
theorem u0n {r:Int} :isZ r=true↔r∈nol:=by
 unfold isZ
 simp only[ae,decide_eq_true_eq]
 constructor
 ·rintro⟨h1,h2⟩;exact s0w h1 h2
 ·intro h
  have:=z0R h (k:=0) (by omega)
  simp at this
  rw[this];exact⟨rfl,rfl⟩
theorem t0p {r:Int} (h1: -2147483648≤r)(h2:r<2147483648):c0P r=some (dig r):=by
 unfold c0P b0X
 rw[w64 (n:=r) (by omega) (by omega)]
 simp only[aa]
 refine f0C (fun o=>o=(match nol.find? (i0S r)with|some z=> .inr (r-z,true)|none=> .inl ())) (e0o nol (fun pre=>(pre.length:Int)) (fun pre=>pre.all (fun z=> !i0S r z)=true) _ rfl rfl (fun pre x suf h hi=> ?_) (fun hi=> ?_) (by decide)) ?_
 ·have hx:=p0i (show x∈nol by rw[h];simp)
  have hlen:pre.length<20:=by have:=congrArg List.length h;simp[nol]at this;omega
  have hn:([48,1632,1776,1984,2406,2534,2662,2790,2918,3046,3174,3302,3430,3664,3792,3872,6112,6160,65296,120782]:List Int)=pre++x::suf:=h
  have hcount: ∃o,a0l (fun(s601:Int)=>(bif(decide (s601<10))then(bif inR (pre.length:Int) (pre++x::suf).length then(bif(decide (((IntKind.wrap .i64 ((IntKind.wrap .i64 (nth (pre++x::suf) (pre.length:Int)))+s601)))=r))then(some (.inr (.inr (.inr (.inr (s601,true))))))else(some (.inl (IntKind.wrap .i64 (s601+1)))))else none)else(some (.inr (.inl ()))))) big 0=some o∧
    o=(if i0S r x=true then(.inr (.inr (.inr (r-x,true))):Unit⊕(Int⊕(Unit⊕(Int×Bool))))else .inl ()):=by
   refine j0n 10 (fun i=>(i:Int)) (fun i=> ∀j:Nat,j<i→ ¬x+(j:Int)=r) _ rfl (fun j hj=>by omega) (fun i hi hno=> ?_) (fun hno=> ?_) (by omega)
   ·rw[dT (show(i:Int)<10 by omega),e0v (by simp),e0S,w64 (n:=x) (by omega) (by omega),w64 (n:=x+(i:Int)) (by omega) (by omega),w64 (n:=(i:Int)+1) (by omega) (by omega)]
    by_cases he:x+(i:Int)=r
    ·right
     rw[dT he]
     refine⟨_,rfl, ?_⟩
     rw[if_pos (by unfold i0S;rw[dT (by omega),dT (by omega)];rfl)]
     have:(i:Int)=r-x:=by omega
     rw[this]
    ·left
     rw[dF he]
     refine⟨by simp,fun j hj=> ?_⟩
     by_cases hji:j=i
     ·subst hji;exact he
     ·exact hno j (by omega)
   ·refine⟨.inl (),by rw[dF (show¬((10:Nat):Int)<10 by decide)];rfl, ?_⟩
    rw[if_neg]
    intro hd
    unfold i0S at hd
    simp only[ae,decide_eq_true_eq]at hd
    exact hno (r-x).toNat (by omega) (by omega)
  obtain⟨o,ho1,ho2⟩:=hcount
  rw[hn,h0m]
  simp only[cond_true]
  rw[ho1]
  simp only[aa]
  cases hd:i0S r x with
  |true=>
   right
   rw[hd,if_pos rfl]at ho2
   subst ho2
   refine⟨_,rfl, ?_⟩
   rw[h,r0w hi hd]
  |false=>
   left
   rw[hd,if_neg (by simp)]at ho2
   subst ho2
   refine⟨?_,by rw[bq,hi];simp[hd]⟩
   simp only[a0j]
   rw[w64 (n:=(pre.length:Int)+1) (by omega) (by omega)]
   simp
 ·refine⟨.inl (), ?_,by rw[i0U hi]⟩
  rw[show([48,1632,1776,1984,2406,2534,2662,2790,2918,3046,3174,3302,3430,3664,3792,3872,6112,6160,65296,120782]:List Int)=nol from rfl,f0E];rfl
 ·rintro o rfl
  unfold dig
  cases nol.find? (i0S r)<;>rfl
theorem v0C {r:Int} :c0w r=some (isZ r):=by
 unfold c0w b0X
 simp only[aa]
 refine f0C (fun o=>o=(if r∈nol then .inr true else .inl ())) (e0o nol (fun pre=>(pre.length:Int)) (fun pre=> ¬r∈pre) _ rfl (by simp) (fun pre x suf h hi=> ?_) (fun hi=> ?_) (by decide)) ?_
 ·have hlen:pre.length<20:=by have:=congrArg List.length h;simp[nol]at this;omega
  rw[show([48,1632,1776,1984,2406,2534,2662,2790,2918,3046,3174,3302,3430,3664,3792,3872,6112,6160,65296,120782]:List Int)=pre++x::suf from h,h0m,f0B,e0S,w64 (n:=(pre.length:Int)+1) (by omega) (by omega)]
  by_cases he:x=r
  ·right
   rw[dT he]
   refine⟨_,rfl, ?_⟩
   rw[if_pos (by rw[h];simp[he])]
  ·left
   rw[dF he]
   exact⟨by simp,by simp[hi,Ne.symm he]⟩
 ·refine⟨.inl (), ?_,by rw[if_neg hi]⟩
  rw[show([48,1632,1776,1984,2406,2534,2662,2790,2918,3046,3174,3302,3430,3664,3792,3872,6112,6160,65296,120782]:List Int)=nol from rfl,f0E];rfl
 ·rintro o rfl
  by_cases hm:r∈nol
  ·rw[if_pos hm,u0n.2 hm];rfl
  ·rw[if_neg hm]
   have:isZ r=false:=by cases hz:isZ r with
    |false=>rfl
    |true=>exact absurd (u0n.1 hz) hm
   rw[this];rfl
def isR(r:Int):Bool:=decide (0≤r)&&(decide (r≤1114111)&&(decide (r<55296)||decide (57343<r)))
theorem z0X {r:Int} :h0X r=some (isR r):=by
 unfold h0X isR
 by_cases h1:0≤r
 ·rw[dT (show r≥0 from h1)]
  by_cases h2:r≤1114111
  ·rw[dT h2]
   by_cases h3:r<55296
   ·rw[dT h3];rfl
   ·rw[dF h3]
    by_cases h4:r>57343
    ·rw[dT h4];rfl
    ·rw[dF h4];rfl
  ·rw[dF h2];rfl
 ·rw[dF (show¬r≥0 from h1)];rfl
def cls(r:Int):Int:=if isR r=true then(if bits .and .i32 r 65534=65534 then 3 else if k0l.any (q0E r)=true then tab r else if(dig r).2=true then 5 else 0)else 6
theorem v0s {r:Int} (h1: -2147483648≤r)(h2:r<2147483648) {ms:List (a0n×Int)} (hp:List.Perm ms k0l):a0u r ms=some (cls r,ms):=by
 rw[k0o hp,z0X,aa,r0a h1 h2]
 unfold cls
 cases isR r with
 |false=>rfl
 |true=>
  simp only[bk,cond_false,if_true]
  by_cases c:bits .and .i32 r 65534=65534
  ·rw[dT c,if_pos c];rfl
  ·rw[dF c,if_neg c]
   cases k0l.any (q0E r)with
   |true=>rfl
   |false=>cases h:(dig r).2<;>simp[h]
theorem v0a(n:Nat):(n&&&65534=65534)↔65534≤n%65536:=by
 have h1:n&&&65534=(n%65536)&&&65534:=by
  apply Nat.eq_of_testBit_eq
  intro i
  rw[Nat.testBit_and,Nat.testBit_and,show(65536:Nat)=2^16 by decide,Nat.testBit_mod_two_pow]
  by_cases hi:i<16
  ·simp[hi]
  ·have:(65534:Nat).testBit i=false:=Nat.testBit_lt_two_pow (aS (show(65534:Nat)<2^16 by decide) (Nat.pow_le_pow_right (by omega) (by omega)))
   simp[this]
 rw[h1]
 have h2:n%65536<65536:=Nat.mod_lt _ (by omega)
 generalize n%65536=m at h2
 constructor
 ·intro h
  rcases bv m 65534 with hm|hm
  ·have:=Nat.and_le_left (n:=m) (m:=65534)
   omega
  ·exact hm
 ·intro h
  obtain rfl|rfl:m=65534∨m=65535:=by omega
  ·decide
  ·decide
theorem y0N {r:Int} (h1:0≤r)(h2:r<2147483648):bits .and .i32 r 65534=((r.toNat&&&65534:Nat):Int):=by
 obtain⟨n,rfl⟩:=bA h1
 have hn:n<2147483648:=by omega
 have hle:n&&&65534≤65534:=Nat.and_le_right
 have ho: ∀a:Nat,a<4294967296→(BitVec.ofInt 32 (a:Int)).toNat=a:=fun a ha=>by
  rw[BitVec.ofInt_natCast,BitVec.toNat_ofNat];exact bU (by omega)
 show IntKind.i32.wrap ((BitVec.ofInt 32 (n:Int)&&&BitVec.ofInt 32 ((65534:Nat):Int)).toNat:Int)=_
 rw[BitVec.toNat_and,ho n (by omega),ho 65534 (by omega),w32 (by omega) (by omega)]
 simp
def v0g(r:Int):Bool:=decide (r<32)||decide (127≤r)&&decide (r≤159)
def g0M(r:Int):Bool:=decide (r=1564)||(decide (r=8206)||(decide (r=8207)||(decide (8234≤r)&&decide (r≤8238)||decide (8294≤r)&&decide (r≤8297))))
def s0j(r:Int):Bool:=decide (64976≤r)&&decide (r≤65007)||decide (65534≤r%65536)
def p0Q(r:Int):Bool:=decide (r=32)||(decide (r=160)||(decide (r=5760)||(decide (8192≤r)&&decide (r≤8202)||(decide (r=8232)||(decide (r=8233)||(decide (r=8239)||(decide (r=8287)||decide (r=12288))))))))
def v0f(r:Int):Int:=bif isR r then(bif v0g r then 1 else bif g0M r then 2 else bif s0j r then 3 else bif p0Q r then 4 else bif(dig r).2 then 5 else 0)else 6
theorem z0W {r:Int} (h1: -2147483648≤r)(h2:r<2147483648):cls r=v0f r:=by
 unfold cls v0f
 cases hr:isR r with
 |false=>rfl
 |true=>
  simp only[if_true,cond_true]
  unfold isR at hr
  simp only[ae,bD,decide_eq_true_eq]at hr
  obtain⟨r0,r1,r2⟩:=hr
  have hb:(bits .and .i32 r 65534=65534)↔65534≤r%65536:=by
   rw[y0N r0 h2]
   have:=v0a r.toNat
   omega
  by_cases hp:65534≤r%65536
  ·rw[if_pos (hb.2 hp)]
   have c1:v0g r=false:=by unfold v0g;rw[dF (by omega),dF (show¬r≤159 by omega)];simp
   have c2:g0M r=false:=by
    unfold g0M
    rw[dF (show¬r=1564 by omega),dF (show¬r=8206 by omega),dF (show¬r=8207 by omega),dF (show¬r≤8238 by omega),dF (show¬r≤8297 by omega)];simp
   have c3:s0j r=true:=by unfold s0j;rw[dT hp];simp
   rw[c1,c2,c3];rfl
  ·rw[if_neg (fun h=>hp (hb.1 h))]
   have hn:s0j r=(decide (64976≤r)&&decide (r≤65007)):=by unfold s0j;rw[dF hp];simp
   rw[hn]
   generalize(dig r).2=dg
   simp only[tab,k0l,List.any_cons,List.any_nil,List.find?_cons,List.find?_nil,q0E,Bool.or_false]
   by_cases a1:r≤31
   ·rw[dT (show(0:Int)≤r from r0),dT a1,show v0g r=true by unfold v0g;rw[dT (show r<32 by omega)];rfl];rfl
   rw[dF a1]
   by_cases a2:127≤r∧r≤159
   ·rw[dT a2.1,dT a2.2,show v0g r=true by unfold v0g;rw[dT a2.1,dT a2.2];simp];simp
   rw[show v0g r=false by unfold v0g;rw[dF (show¬r<32 by omega)];simp;omega,show(decide (127≤r)&&decide (r≤159))=false by simp;omega]
   by_cases t1:g0M r=true
   ·rw[t1]
    unfold g0M at t1
    simp only[bD,ae,decide_eq_true_eq]at t1
    rcases t1 with h|h|h|⟨h,h'⟩|⟨h,h'⟩
    ·subst h;simp
    ·subst h;simp
    ·subst h;simp
    ·rw[dF (show¬r≤1564 by omega),dF (show¬r≤8207 by omega),dT h,dT h'];simp
    ·rw[dF (show¬r≤1564 by omega),dF (show¬r≤8207 by omega),dF (show¬r≤8238 by omega),dT h,dT h'];simp
   have t1':g0M r=false:=by simpa using t1
   rw[t1']
   have u1:(decide (1564≤r)&&decide (r≤1564))=false∧(decide (8206≤r)&&decide (r≤8207))=false∧(decide (8234≤r)&&decide (r≤8238))=false∧(decide (8294≤r)&&decide (r≤8297))=false:=by
    unfold g0M at t1'
    simp only[Bool.or_eq_false_iff,Bool.and_eq_false_iff,decide_eq_false_iff_not]at t1'⊢
    omega
   rw[u1.1,u1.2.1,u1.2.2.1,u1.2.2.2]
   by_cases n1:64976≤r∧r≤65007
   ·rw[dT n1.1,dT n1.2];simp
   rw[show(decide (64976≤r)&&decide (r≤65007))=false by simp;omega]
   by_cases b1:p0Q r=true
   ·rw[b1]
    unfold p0Q at b1
    simp only[bD,ae,decide_eq_true_eq]at b1
    rcases b1 with h|h|h|⟨h,h'⟩|h|h|h|h|h
    ·subst h;simp
    ·subst h;simp
    ·subst h;simp
    ·rw[dF (show¬r≤32 by omega),dF (show¬r≤160 by omega),dF (show¬r≤5760 by omega),dT h,dT h'];simp
    ·subst h;simp
    ·subst h;simp
    ·subst h;simp
    ·subst h;simp
    ·subst h;simp
   have b1':p0Q r=false:=by simpa using b1
   rw[b1']
   have u2:(decide (32≤r)&&decide (r≤32))=false∧(decide (160≤r)&&decide (r≤160))=false∧(decide (5760≤r)&&decide (r≤5760))=false∧(decide (8192≤r)&&decide (r≤8202))=false∧(decide (8232≤r)&&decide (r≤8233))=false∧(decide (8239≤r)&&decide (r≤8239))=false∧(decide (8287≤r)&&decide (r≤8287))=false∧(decide (12288≤r)&&decide (r≤12288))=false:=by
    unfold p0Q at b1'
    simp only[Bool.or_eq_false_iff,Bool.and_eq_false_iff,decide_eq_false_iff_not]at b1'⊢
    omega
   rw[u2.1,u2.2.1,u2.2.2.1,u2.2.2.2.1,u2.2.2.2.2.1,u2.2.2.2.2.2.1,u2.2.2.2.2.2.2.1,u2.2.2.2.2.2.2.2]
   cases dg<;>simp
theorem z0h {r:Int} (h1: -2147483648≤r)(h2:r<2147483648):b0D r=some (isR r):=by
 unfold b0D isR
 rw[w64 (n:=r) (by omega) (by omega)]
 by_cases a:0≤r
 ·rw[dT (show r≥0 from a)]
  by_cases b:r<55296
  ·rw[dT b,dT (show r≤1114111 by omega)];rfl
  ·rw[dF b]
   by_cases c:r>57343
   ·rw[dT c]
    cases decide (r≤1114111)<;>rfl
   ·rw[dF c]
    cases decide (r≤1114111)<;>rfl
 ·rw[dF (show¬r≥0 from a),dF (show¬r>57343 by omega)];rfl
theorem r0O {r:Int} :c0p r=some (g0M r):=by
 unfold c0p g0M
 simp only[ge_iff_le]
 cases decide (r=1564)<;>cases decide (r=8206)<;>cases decide (r=8207)<;>cases decide (8234≤r)<;>cases decide (r≤8238)<;>cases decide (8294≤r)<;>rfl
theorem w0A {r:Int} :c0O r=some (p0Q r):=by
 unfold c0O p0Q
 simp only[ge_iff_le]
 cases decide (r=32)<;>cases decide (r=160)<;>cases decide (r=5760)<;>cases decide (8192≤r)<;>cases decide (r≤8202)<;>cases decide (r=8232)<;>cases decide (r=8233)<;>cases decide (r=8239)<;>cases decide (r=8287)<;>rfl
theorem z0g {r:Int} (h1: -2147483648≤r)(h2:r<2147483648):d0i r=some (v0f r):=by
 unfold d0i v0f
 rw[w64 (n:=r) (by omega) (by omega),z0h h1 h2,r0O,w0A,t0p h1 h2]
 simp only[aa]
 cases hr:isR r with
 |false=>rfl
 |true=>
  have r0:0≤r:=by unfold isR at hr;simp only[ae,decide_eq_true_eq]at hr;exact hr.1
  have hm:Int.tmod r 65536=r%65536:=bG r0
  rw[hm]
  unfold v0g s0j
  simp only[ge_iff_le]
  cases decide (r<32)<;>cases decide (127≤r)<;>cases decide (r≤159)<;>cases g0M r<;>cases decide (64976≤r)<;>cases decide (r≤65007)<;>cases decide (65534≤r%65536)<;>cases p0Q r<;>cases(dig r).2<;>rfl
theorem s0l {S O:Type} {step:S→Option (S⊕O)} {o:O} : ∀(n:Nat) (s:S),a0l step n s=some o→ ∀m,n≤m→a0l step m s=some o:=by
 intro n
 induction n with
 |zero=>intro s h;cases h
 |succ n ih=>
  intro s h m hm
  obtain⟨k,rfl⟩: ∃k,m=k+1:=⟨m-1,by omega⟩
  simp only[a0l]at h⊢
  split at h
  ·cases h
  ·exact h
  ·exact ih _ h k (by omega)
theorem w0a {S O:Type} {step:S→Option (S⊕O)} {o:O} {s:S} (n:Nat)(h:a0l step n s=some o)(hn:n≤1000):a0l step big s=some o:=s0l n s h _ (by unfold big;omega)
/-! Signs that the program finds good the document does, too. -/
theorem p0l {V:Type} (y:V)(x z:Int): ∀m:List (Int×V),c0C (fun a b:Int=>a==b) (m0P y x m) z=if z=x then some y else c0C (fun a b:Int=>a==b) m z
 | []=>by
  by_cases h:z=x
  ·subst h;simp[m0P,c0C]
  ·simp[m0P,c0C,h,show(z==x)=false by simpa using h]
 |p::r=>by
  have ih:=p0l y x z r
  unfold m0P
  by_cases hx:x=p.1
  ·rw[show(x==p.1)=true by simpa using hx]
   by_cases h:z=x
   ·subst h;simp[c0C,hx]
   ·have: ¬z=p.1:=fun e=>h (e.trans hx.symm)
    simp[c0C,h,show(z==p.1)=false by simpa using this]
  ·rw[show(x==p.1)=false by simpa using hx]
   simp only[cond_false,c0C]
   rw[ih]
   by_cases h:z=p.1
   ·have: ¬p.1=x:=fun e=>hx e.symm
    simp[h,this]
   ·have:(z==p.1)=false:=by simpa using h
    rw[this];rfl
theorem r0n {V:Type} {z:Int} {v:V} : ∀ {m:List (Int×V)},c0C (fun a b:Int=>a==b) m z=some v→(z,v)∈m
 | [],h=>by cases h
 |p::r,h=>by
  simp only[c0C]at h
  by_cases e:z=p.1
  ·rw[show(z==p.1)=true by simpa using e]at h
   obtain rfl:=oi h
   rw[e];exact ap ..
  ·rw[show(z==p.1)=false by simpa using e]at h
   exact aj _ (r0n h)
def x0F(m:List (Int×Int))(x:Int):List (Int×Int):=m0P (IntKind.wrap .i64 ((c0C (fun a b:Int=>a==b) m x).getD 0+1)) x m
theorem n0m {L:List Int} (x:Int)(hl:L.length≤1000): ∀n:Nat,n≤L.length→c0C (fun a b:Int=>a==b) ((L.take n).foldl x0F []) x=if 0<(L.take n).count x then some ((L.take n).count x:Int)else none
 |0,_=>rfl
 |n+1,h=>by
  have h2:=n0m x hl n (by omega)
  have hc:(L.take n).count x≤1000:=by have:=List.count_le_length (a:=x) (l:=L.take n);simp at this;omega
  rw[List.take_succ_eq_append_getElem h,List.foldl_append,List.count_append]
  generalize L[n]=y
  generalize L.take n=pre at*
  show c0C _ (x0F (pre.foldl x0F []) y) x=_
  unfold x0F
  rw[p0l]
  by_cases e:x=y
  ·subst e
   have e1:List.count x [x]=1:=by simp
   rw[if_pos rfl,e1,if_pos (by omega)]
   have h2:c0C (fun a b:Int=>a==b) (pre.foldl (fun m x=>m0P (IntKind.wrap .i64 ((c0C (fun a b:Int=>a==b) m x).getD 0+1)) x m) []) x=_:=h2
   rw[h2]
   by_cases hp:0<pre.count x
   ·rw[if_pos hp]
    simp only[br]
    rw[w64 (by omega) (by omega)];congr 1
   ·rw[if_neg hp]
    simp only[Option.getD_none]
    rw[w64 (by omega) (by omega)];congr 1;omega
  ·have e1:List.count x [y]=0:=by rw[List.count_singleton];simp[Ne.symm e]
   rw[if_neg e,e1,bS]
   exact h2
def sgs(s:e0h):List Int:=[s.m_,s.o_,s.l_,s.k_,s.j_,s.i_]
theorem w0C(s:e0h):d0J s=some ((sgs s).foldl x0F []):=by
 unfold d0J
 rw[w0a (o:=(sgs s).foldl x0F []) 7 rfl (by omega)]
 rfl
theorem x0Q {r:Int} (h1: -2147483648≤r)(h2:r<2147483648):f0V r=some (v0f r):=by
 unfold f0V
 show Option.bind (a0u r k0l) _=_
 rw[v0s h1 h2 (List.Perm.refl _),z0W h1 h2];rfl
def A0g(s:e0h):Prop:= ∀x∈sgs s,-2147483648≤x∧x<2147483648
theorem s0q {s:e0h} (hs:A0g s)(hz: -2147483648≤s.u_∧s.u_<2147483648)(h:g0D s=some true):isZ s.u_=true∧(sgs s).Nodup∧ ∀x∈sgs s,v0f x=0∨v0f x=4:=by
 unfold g0D at h
 obtain⟨y,e1,h⟩:=a0d h
 have hZ:y=isZ s.u_:=by
  unfold h0x at e1
  rw[r0a hz.1 hz.2]at e1
  unfold isZ
  simp only[aa]at e1
  cases hd:(dig s.u_).2 with
  |true=>rw[hd]at e1;exact(oi e1).symm
  |false=>rw[hd]at e1;exact(oi e1).symm
 subst hZ
 cases hz2:isZ s.u_ with
 |false=>rw[hz2]at h;cases h
 |true=>
  rw[hz2]at h
  obtain⟨u,e2,h⟩:=a0d (show(Option.bind (Option.bind (d0J s) _) _)=some true from h)
  rw[w0C,aa]at e2
  obtain⟨v,e3,e4⟩:=a0d e2
  obtain⟨k1,k2⟩:=m0p _ _ e3
  have hv:v= .inl ():=by
   cases v with
   |inl _=>rfl
   |inr w=>
    exfalso
    by_cases hall: ∀e∈(sgs s).foldl x0F [],(Option.bind (f0V e.1) fun y1=>(Option.bind (bif(decide (e.2>1))then(some true)else(bif(decide (¬y1=0))then(some (decide (¬y1=4)))else(some false))) fun(s0:Bool)=>(bif s0 then(some (.inr (.inr false)):Option (Unit⊕(Unit⊕Bool)))else(some (.inl ())))))=some (.inl ())
    ·cases k2 hall
    ·obtain⟨e,he⟩:=Classical.not_forall.1 hall
     obtain⟨hm,hne⟩:=Classical.not_imp.1 he
     obtain⟨x,hx,hx2⟩:=k1 e hm
     cases x with
     |inl _=>exact hne hx
     |inr o=>
      obtain⟨c,_,hx⟩:=a0d hx
      obtain⟨b,_,hx⟩:=a0d hx
      cases b with
      |false=>cases hx
      |true=>
       obtain rfl:=aA (oi hx)
       obtain rfl:=aA (hx2 _ rfl)
       obtain rfl:=oi e4
       cases h
  subst hv
  have key: ∀x∈sgs s,(sgs s).count x≤1∧(v0f x=0∨v0f x=4):=fun x hx=>by
   have hc:=n0m (L:=sgs s) x (by simp[sgs]) 6 (by simp[sgs])
   rw[show(sgs s).take 6=sgs s from rfl]at hc
   rw[if_pos (List.count_pos_iff.2 hx)]at hc
   obtain⟨z,hz,hz2⟩:=k1 _ (r0n hc)
   have hr:=hs x hx
   simp only at hz
   rw[x0Q hr.1 hr.2,aa]at hz
   obtain⟨b,hb,hz⟩:=a0d hz
   cases b with
   |true=>obtain rfl:=oi hz;cases hz2 _ rfl
   |false=>
    by_cases c1:((sgs s).count x:Int)>1
    ·rw[dT c1]at hb;cases hb
    ·rw[dF c1]at hb
     refine⟨by omega, ?_⟩
     by_cases c2:v0f x=0
     ·exact .inl c2
     ·rw[dT c2]at hb
      exact .inr (Classical.not_not.1 (of_decide_eq_false (oi hb)))
  exact⟨rfl,List.nodup_iff_count.2 (fun x=>by
   by_cases hx:x∈sgs s
   ·exact(key x hx).1
   ·rw[List.count_eq_zero_of_not_mem hx];omega),fun x hx=>(key x hx).2⟩
theorem y0j {s:e0h} (hs:A0g s)(hz: -2147483648≤s.u_∧s.u_<2147483648)(h:g0D s=some true):c0u s=some true:=by
 obtain⟨h1,h2,h3⟩:=s0q hs hz h
 have key:Tot (c0u s) (fun b=>b=true):=by
  unfold c0u
  unfold A0g at hs
  have hlen:(sgs s).length=6:=rfl
  show Tot (Option.bind (a0l (fun(s0:Int)=>(bif(decide (s0<((sgs s).length:Int)))then(Option.bind (bif inR s0 (sgs s).length then(bif inR s0 (sgs s).length then(Option.bind (d0i (nth (sgs s) s0)) fun y0=>(Option.bind (Option.bind (bif(decide (¬y0=0))then(some (decide (¬y0=4)))else(some false)) fun(s2:Bool)=>(bif s2 then(some (.inr (.inr (.inr (.inr false)))))else(some (.inl ())))) (a0j fun(s3:Unit)=>(a0l (fun(s1:Int)=>(bif(decide (s1<s0))then(bif inR s1 (sgs s).length then(bif inR s1 (sgs s).length then(bif inR s0 (sgs s).length then(bif inR s0 (sgs s).length then(bif(decide ((nth (sgs s) s1)=(nth (sgs s) s0)))then(some (.inr (.inr (.inr (.inr false)))))else(some (.inl (IntKind.wrap .i64 (s1+1)))))else none)else none)else none)else none)else(some (.inr (.inl ()))))) big 0))))else none)else none) (a0j fun(s4:Unit)=>(some (.inl (IntKind.wrap .i64 (s0+1))))))else(some (.inr (.inl ()))))) big 0) (a0j fun(s5:Unit)=>(Option.bind (c0w s.u_) fun y1=>(some y1)))) _
  generalize sgs s=L at*
  refine tJ (tW (fun s:Int=>s) L.length (fun _=>True) (by omega) ⟨trivial,ag _,by omega⟩ (fun i _ g0 g1=> ?_) (fun i _ e=>tN (dF (by omega)) (tR (show Tot _ _ from ?_))))
  ·have hin:=a0r g0 g1
   have hm:=d0A g0 g1
   have hr:=hs _ hm
   have hc:=h3 _ hm
   have ei:IntKind.wrap .i64 (i+1)=i+1:=w64 (by omega) (by omega)
   rw[ei,z0g hr.1 hr.2]
   simp only[aa]
   refine tY (dT g1) (tJ (tY hin (tY hin (tJ (tB (p:=fun b=>b=false) ?_ (fun b hb=> ?_))))))
   ·refine tI (fun h=>tR (dF (not_not_intro ?_))) (fun _=>tR rfl)
    rcases hc with e|e
    ·exact absurd e (dTT h)
    ·exact e
   ·subst hb
    refine tR (show Tot _ _ from ?_)
    refine tW (fun s:Int=>s) i.toNat (fun _=>True) (by omega) ⟨trivial,ag _,show(0:Int)≤(i.toNat:Int) by omega⟩ (fun k _ k0 k1=> ?_) (fun k _ e=>tN (dF (by omega)) (tR (show Tot _ _ from tR ⟨trivial,rfl⟩)))
    have hk:=a0r (n:=L.length) k0 (show k<(L.length:Int) by omega)
    refine tY (dT (by omega)) (tY hk (tY hk (tY hin (tY hin (tN (dF (fun e=> ?_)) (tR ⟨trivial,w64 (by omega) (by omega)⟩))))))
    obtain⟨a,rfl⟩:=bA k0
    obtain⟨c,rfl⟩:=bA g0
    rw[g0o (by omega),g0o (by omega)]at e
    have:=(List.getElem_inj h2).1 e
    omega
  ·rw[v0C,h1]
   exact tR rfl
 obtain⟨b,e,rfl⟩:=key
 exact e
/-! What a checked locale's parts are. -/
theorem v0S {x:j0P} {w:Int} (h:b0a x=some (w,true)):(∃p,a0G x.a_.S_ 0 x.a_.g_.e_=some (p,true))∧(∃p,a0G x.a_.S_ 1 x.a_.g_.f_=some (p,true))∧(∃p,a0G x.a_.S_ 2 x.a_.g_.n_=some (p,true))∧ ∃p,a0G x.a_.S_ 3 x.a_.g_.s_=some (p,true):=by
 unfold b0a at h
 generalize a0G x.a_.S_ 0 x.a_.g_.e_=p0 at*
 generalize a0G x.a_.S_ 1 x.a_.g_.f_=p1 at*
 generalize a0G x.a_.S_ 2 x.a_.g_.n_=p2 at*
 generalize a0G x.a_.S_ 3 x.a_.g_.s_=p3 at*
 obtain⟨o,h1,h2⟩:=a0d h
 have ok: ∀ {p:Option (d0b×Bool)} {k t:Int} {z:Int⊕(Unit⊕(Int×Bool))},(Option.bind p fun y=>bif !y.2 then some (.inr (.inr (k,false)))else some (.inl t))=some z→(∃q,p=some (q,true)∧z= .inl t)∨z= .inr (.inr (k,false)):=fun h=>by
  obtain⟨⟨q,b⟩,e,h⟩:=a0d h
  cases b with
  |true=>exact .inl ⟨q,e,(oi h).symm⟩
  |false=>exact .inr (oi h).symm
 have hp:=k0C (fun s:Int=>(s=0∨s=1∨s=2∨s=3∨s=4)∧(1≤s→ ∃p,p0=some (p,true))∧(2≤s→ ∃p,p1=some (p,true))∧(3≤s→ ∃p,p2=some (p,true))∧(4≤s→ ∃p,p3=some (p,true))) (post:=fun o=>(∃k,o= .inr (k,false))∨((∃p,p0=some (p,true))∧(∃p,p1=some (p,true))∧(∃p,p2=some (p,true))∧ ∃p,p3=some (p,true))) (fun s s' hi hf=> ?_) (fun s o hi hf=> ?_) big 0 o ⟨.inl rfl,by omega,by omega,by omega,by omega⟩ h1
 ·rcases hp with⟨k,rfl⟩|h
  ·cases(aX (oi h2)).2
  ·exact h
 ·obtain⟨hi,i1,i2,i3,i4⟩:=hi
  rcases hi with rfl|rfl|rfl|rfl|rfl
  ·rcases ok (p:=p0) hf with⟨q,e,h⟩|h
   ·obtain rfl:=ba h;exact⟨.inr (.inl (by decide)),fun _=>⟨q,e⟩,fun h=>absurd h (by decide),fun h=>absurd h (by decide),fun h=>absurd h (by decide)⟩
   ·cases h
  ·rcases ok (p:=p1) hf with⟨q,e,h⟩|h
   ·obtain rfl:=ba h;exact⟨.inr (.inr (.inl (by decide))),fun _=>i1 (by omega),fun _=>⟨q,e⟩,fun h=>absurd h (by decide),fun h=>absurd h (by decide)⟩
   ·cases h
  ·rcases ok (p:=p2) hf with⟨q,e,h⟩|h
   ·obtain rfl:=ba h;exact⟨.inr (.inr (.inr (.inl (by decide)))),fun _=>i1 (by omega),fun _=>i2 (by omega),fun _=>⟨q,e⟩,fun h=>absurd h (by decide)⟩
   ·cases h
  ·rcases ok (p:=p3) hf with⟨q,e,h⟩|h
   ·obtain rfl:=ba h;exact⟨.inr (.inr (.inr (.inr (by decide)))),fun _=>i1 (by omega),fun _=>i2 (by omega),fun _=>i3 (by omega),fun _=>⟨q,e⟩⟩
   ·cases h
  ·cases hf
 ·obtain⟨hi,i1,i2,i3,i4⟩:=hi
  rcases hi with rfl|rfl|rfl|rfl|rfl
  ·rcases ok (p:=p0) hf with⟨q,e,h⟩|h
   ·cases h
   ·exact .inl ⟨_,aA h⟩
  ·rcases ok (p:=p1) hf with⟨q,e,h⟩|h
   ·cases h
   ·exact .inl ⟨_,aA h⟩
  ·rcases ok (p:=p2) hf with⟨q,e,h⟩|h
   ·cases h
   ·exact .inl ⟨_,aA h⟩
  ·rcases ok (p:=p3) hf with⟨q,e,h⟩|h
   ·cases h
   ·exact .inl ⟨_,aA h⟩
  ·exact .inr ⟨i1 (by omega),i2 (by omega),i3 (by omega),i4 (by omega)⟩
def A0N(S:e0h)(p:d0b)(xs:List l0S)(k:Int):Prop:=(∃g e,d0y (a0k (nth xs k).A_)=some (g,e,0)∧e0m S p g=some true)∧(0<k→(Op.bytesLess (nth xs k).z_ (nth xs (k-1)).z_||(nth xs k).z_==(nth xs (k-1)).z_)=false)
theorem w0v {x:j0P} {w:Int} (hn:x.a_.d_.length≤1000)(h:a0R x=some (w,true)):x.a_.d_.length≤100∧ ∃y,a0G x.a_.S_ 3 x.a_.g_.s_=some y∧ ∀k:Int,0≤k→k<x.a_.d_.length→A0N x.a_.S_ y.1 x.a_.d_ k:=by
 rw[y0y]at h
 obtain⟨y,hy,h⟩:=a0d h
 obtain⟨o,h1,h2⟩:=a0d h
 have hp:=k0C (fun s:List UInt8×Int=>0≤s.2∧s.2≤x.a_.d_.length∧(0<s.2→s.1=(nth x.a_.d_ (s.2-1)).z_)∧ ∀k:Int,0≤k→k<s.2→A0N x.a_.S_ y.1 x.a_.d_ k) (post:=fun o=>o= .inl ()→ ∀k:Int,0≤k→k<x.a_.d_.length→A0N x.a_.S_ y.1 x.a_.d_ k) (fun s s' hi hf=> ?_) (fun s o hi hf=> ?_) big (([]:List UInt8),0) o ⟨ag _,by simp,fun h=>absurd h (by simp),fun k a b=>by simp only at b;omega⟩ h1
 ·cases o with
  |inl _=>
   have e:=(aX (oi h2)).2
   exact⟨by have:=of_decide_eq_true e;omega,y,hy,hp rfl⟩
  |inr v=>
   exfalso
   obtain⟨s',hs⟩:=d0m h1
   obtain rfl:=oi h2
   rcases m0E hs with⟨_,e⟩|⟨_,⟨a,e⟩|e⟩
   ·cases e
   ·cases e
   ·have:=congrArg Prod.snd (aA (aA e));cases this
 ·obtain⟨i0,i1,i2,i3⟩:=hi
  unfold w0w at hf
  by_cases hl:s.2<(x.a_.d_.length:Int)
  ·rw[dT hl]at hf
   simp only[cond_true]at hf
   obtain⟨q1,a1,hf⟩:=a0d hf
   obtain⟨_,a1⟩:=a0Q a1
   obtain⟨q2,a2,a3⟩:=a0d a1
   obtain⟨b2,a4,a2⟩:=a0d a2
   cases b2 with
   |true=>obtain rfl:=oi a2;obtain rfl:=oi a3;cases hf
   |false=>
    obtain rfl:=oi a2
    obtain⟨g,a5,a6⟩:=a0d a3
    obtain⟨q3,a7,a8⟩:=a0d a6
    obtain⟨b3,a9,a7⟩:=a0d a7
    cases b3 with
    |true=>obtain rfl:=oi a7;obtain rfl:=oi a8;cases hf
    |false=>
     obtain rfl:=oi a7
     obtain rfl:=oi a8
     obtain rfl:=ba (oi hf)
     have e1:IntKind.wrap .i64 (s.2+1)=s.2+1:=w64 (by omega) (by omega)
     rw[e1]
     refine⟨by simp only;omega,by simp only;omega,fun _=>by simp only;rw[show s.2+1-1=s.2 by omega],fun k k0 k1=> ?_⟩
     simp only at k1
     by_cases hk:k<s.2
     ·exact i3 k k0 hk
     ·obtain rfl:k=s.2:=by omega
      obtain⟨c,_,a4⟩:=a0d a4
      cases c with
      |false=>cases a4
      |true=>
       simp only[bk,cond_false]at a4
       refine⟨?_,fun hk0=> ?_⟩
       ·obtain⟨g1,g2,g3⟩:=g
        by_cases c3:g3=0
        ·subst c3
         rw[dF (not_not_intro rfl)]at a9
         obtain⟨m,hm,a9⟩:=a0d (show(Option.bind (e0m x.a_.S_ y.1 g1) fun y3=>some (!y3))=some false from a9)
         cases m with
         |true=>exact⟨g1,g2,a5,hm⟩
         |false=>cases a9
        ·rw[dT c3]at a9;cases a9
       ·rw[←i2 hk0]
        cases hb:(Op.bytesLess (nth x.a_.d_ s.2).z_ s.1||(nth x.a_.d_ s.2).z_==s.1)with
        |false=>rfl
        |true=>rw[hb]at a4;cases a4
  ·rw[dF hl]at hf;cases hf
 ·rcases m0E hf with⟨hl,e⟩|⟨_,⟨a,e⟩|e⟩
  ·intro _ k k0 k1
   exact hi.2.2.2 k k0 (by have:=hi.2.1;omega)
  ·cases e
  ·obtain rfl:=aA e;intro h;cases h
theorem r0o {V:Type} {p:Int×V} {z:Int} (h:z=p.1)(l:List (Int×V)):c0C (fun a b:Int=>a==b) (p::l) z=some p.2:=by simp only[c0C];rw[show(z==p.1)=true by simpa using h];rfl
theorem p0m {V:Type} {p:Int×V} {z:Int} (h: ¬z=p.1)(l:List (Int×V)):c0C (fun a b:Int=>a==b) (p::l) z=c0C (fun a b:Int=>a==b) l z:=by simp only[c0C];rw[show(z==p.1)=false by simpa using h];rfl
theorem o0b {V:Type} {a z:Int} {b:V} : ∀ {m:List (Int×V)},c0C (fun a b:Int=>a==b) (m++ [(a,b)]) z=if(c0C (fun a b:Int=>a==b) m z).isSome=true then c0C (fun a b:Int=>a==b) m z else if z=a then some b else none
 | []=>by
  by_cases h:z=a
  ·simp[c0C,h]
  ·simp[c0C,h,show(z==a)=false by simpa using h]
 |p::r=>by
  rw[aY]
  by_cases hz:z=p.1
  ·rw[r0o hz,r0o hz];rfl
  ·rw[p0m hz,p0m hz];exact o0b
def n0r(xs:List i0s)(n z:Int):Prop:= ∃f:Int,0≤f∧f<n∧(nth xs f).G_=z∧(nth xs f).F_=0∧ ∀j:Int,0≤j→j<f→(nth xs j).G_≠z
theorem s0z {x:j0P} {w:Int} (hn:x.a_.b_.length≤1000)(h:b0b x=some (w,true)):x.a_.b_.length≤90∧ ∀k:Int,0≤k→k<x.a_.b_.length→(∃p,d0w x.a_.S_ (nth x.a_.b_ k)=some (p,true))∧n0r x.a_.b_ x.a_.b_.length (nth x.a_.b_ k).G_:=by
 rw[w0y]at h
 obtain⟨o,h1,h2⟩:=a0d h
 have hp:=k0C (fun s:Int×List (Int×Int)=>0≤s.1∧s.1≤x.a_.b_.length∧(∀k:Int,0≤k→k<s.1→(∃p,d0w x.a_.S_ (nth x.a_.b_ k)=some (p,true))∧(c0C (fun a b:Int=>a==b) s.2 (nth x.a_.b_ k).G_).isSome=true)∧ ∀z,(c0C (fun a b:Int=>a==b) s.2 z).isSome=true→n0r x.a_.b_ s.1 z) (post:=fun o=>o= .inl ()→ ∀k:Int,0≤k→k<x.a_.b_.length→(∃p,d0w x.a_.S_ (nth x.a_.b_ k)=some (p,true))∧n0r x.a_.b_ x.a_.b_.length (nth x.a_.b_ k).G_) (fun s s' hi hf=> ?_) (fun s o hi hf=> ?_) big (0,[]) o ⟨ag _,by simp,fun k a b=>by simp only at b;omega,fun z h=>by cases h⟩ h1
 ·cases o with
  |inl _=>
   have e:=(aX (oi h2)).2
   exact⟨by have:=of_decide_eq_true e;omega,hp rfl⟩
  |inr v=>
   exfalso
   obtain⟨s',hs⟩:=d0m h1
   obtain rfl:=oi h2
   rcases k0c hs with⟨_,e⟩|⟨_,⟨a,e⟩|e⟩
   ·cases e
   ·cases e
   ·have:=congrArg Prod.snd (aA (aA e));cases this
 ·obtain⟨i0,i1,i2,i3⟩:=hi
  rcases k0c hf with⟨_,e⟩|⟨hl,⟨a,e⟩|e⟩
  ·cases e
  ·obtain rfl:=ba e
   have e1:IntKind.wrap .i64 (s.1+1)=s.1+1:=w64 (by omega) (by omega)
   rw[e1]
   unfold w0i at hf
   rw[dT hl]at hf
   simp only[cond_true]at hf
   obtain⟨q1,a1,hf⟩:=a0d hf
   obtain⟨_,a1⟩:=a0Q a1
   obtain⟨y,a0,a1⟩:=a0d a1
   obtain⟨q2,a2,a3⟩:=a0d a1
   obtain⟨b2,a4,a2⟩:=a0d a2
   cases b2 with
   |true=>obtain rfl:=oi a2;obtain rfl:=oi a3;cases hf
   |false=>
    obtain rfl:=oi a2
    obtain⟨y1,y2⟩:=y
    cases y2 with
    |false=>cases a4
    |true=>
     obtain⟨u,a5,a6⟩:=a0d a3
     obtain⟨b3,a7,a6⟩:=a0d a6
     cases b3 with
     |true=>obtain rfl:=oi a6;cases hf
     |false=>
      obtain rfl:=oi a6
      obtain⟨_,rfl⟩:=aX (ba (oi hf))
      simp only
      have grow: ∀z,n0r x.a_.b_ s.1 z→n0r x.a_.b_ (s.1+1) z:=fun z ⟨f,f0,f1,f2⟩=>⟨f,f0,by omega,f2⟩
      cases hm:(c0C (fun a b:Int=>a==b) s.2 (nth x.a_.b_ s.1).G_).isSome with
      |true=>
       rw[hm]at a5
       obtain rfl:=oi a5
       refine⟨by omega,by omega,fun k k0 k1=> ?_,fun z hz=>grow z (i3 z hz)⟩
       by_cases hk:k<s.1
       ·exact i2 k k0 hk
       ·obtain rfl:k=s.1:=by omega
        exact⟨⟨y1,a0⟩,hm⟩
      |false=>
       rw[hm]at a5 a7
       simp only[Bool.not_false,cond_true]at a5
       obtain⟨v,_,a5⟩:=a0d a5
       obtain⟨_,a5⟩:=a0Q a5
       obtain rfl:=oi a5
       have hcat:(nth x.a_.b_ s.1).F_=0:=by
        by_cases c:(nth x.a_.b_ s.1).F_=0
        ·exact c
        ·rw[dT c]at a7;cases a7
       refine⟨by omega,by omega,fun k k0 k1=> ?_,fun z hz=> ?_⟩
       ·simp only
        rw[o0b]
        by_cases hk:k<s.1
        ·obtain⟨g1,g2⟩:=i2 k k0 hk
         exact⟨g1,by rw[if_pos g2];exact g2⟩
        ·obtain rfl:k=s.1:=by omega
         exact⟨⟨y1,a0⟩,by rw[if_neg (by rw[hm];simp),if_pos rfl];rfl⟩
       ·simp only at hz
        rw[o0b]at hz
        by_cases hs:(c0C (fun a b:Int=>a==b) s.2 z).isSome=true
        ·exact grow z (i3 z hs)
        ·rw[if_neg hs]at hz
         by_cases hzz:z=(nth x.a_.b_ s.1).G_
         ·subst hzz
          refine⟨s.1,i0,by omega,rfl,hcat,fun j j0 j1 e=> ?_⟩
          have:=(i2 j j0 j1).2
          rw[e,hm]at this;cases this
         ·rw[if_neg hzz]at hz;cases hz
  ·cases e
 ·rcases k0c hf with⟨hl,e⟩|⟨_,⟨a,e⟩|e⟩
  ·intro _ k k0 k1
   have hs:s.1=x.a_.b_.length:=by have:=hi.2.1;omega
   obtain⟨g1,g2⟩:=hi.2.2.1 k k0 (by omega)
   rw[←hs]
   exact⟨g1,hi.2.2.2 _ g2⟩
  ·cases e
  ·obtain rfl:=aA e;intro h;cases h
theorem u0A {xs:List i0s} {z:Int} (hn:xs.length≤1000)(h:n0r xs xs.length z):Tot (c0N xs z) (fun r=>0≤r∧r<xs.length∧(nth xs r).F_=0):=by
 obtain⟨f,f0,f1,f2,f3,f4⟩:=h
 unfold c0N
 refine tJ (tW (fun s:Int=>s) xs.length (fun i=>i≤f) (by omega) ⟨f0,ag _,by simp⟩ (fun i hi g0 g1=>tY (dT g1) (tY (a0r g0 g1) (tI (fun e=>tR ?_) (fun e=>tR ?_)))) (fun i hi e=>by omega))
 ·have e:=dTT e
  have:i=f:=by
   by_cases h:i<f
   ·exact absurd e (f4 i g0 h)
   ·omega
  subst this
  exact⟨g0,g1,f3⟩
 ·have e:=dFF e
  rw[w64 (n:=i+1) (by omega) (by omega)]
  refine⟨?_,rfl⟩
  by_cases h:i=f
  ·subst h;exact absurd f2 e
  ·omega
theorem y0D(p0 p1 p2 p3 p4 p5 p6:Option (Int×Bool)) {r:Int×Int×Int} (h:Option.bind (a0l (m0Z p0 p1 p2 p3 p4 p5 p6) big 0) (a0j fun(_:Unit)=>some ((0,0,0):Int×Int×Int))=some r):r.2.2=0∨r.2.2=8:=by
 obtain⟨o,h1,h2⟩:=a0d h
 have ok: ∀ {p:Option (Int×Bool)} {k t:Int} {o:Unit⊕(Int×Int×Int)},(Option.bind p fun y=>bif !y.2 then some (.inr (.inr (k,y.1,8)))else some (.inl t):Option (Int⊕(Unit⊕(Int×Int×Int))))=some (.inr o)→ ∃a c,o= .inr (a,c,8):=fun h=>by
  obtain⟨⟨q,b⟩,e,h⟩:=a0d h
  cases b with
  |true=>cases h
  |false=>exact⟨_,_,(aA (oi h)).symm⟩
 obtain⟨s,hs⟩:=d0m h1
 have key:o= .inl ()∨ ∃a c,o= .inr (a,c,8):=by
  unfold m0Z at hs
  cases c7:decide (s<7)with
  |false=>rw[c7]at hs;exact .inl (aA (oi hs)).symm
  |true=>
   rw[c7]at hs
   right
   revert hs
   simp only[cond_true]
   cases decide (s=0)with
   |true=>exact ok
   |false=>
    cases decide (s=1)with
    |true=>exact ok
    |false=>
     cases decide (s=2)with
     |true=>exact ok
     |false=>
      cases decide (s=3)with
      |true=>exact ok
      |false=>
       cases decide (s=4)with
       |true=>exact ok
       |false=>
        cases decide (s=5)with
        |true=>exact ok
        |false=>
         cases decide (s=6)with
         |true=>exact ok
         |false=>intro h;cases h
 rcases key with rfl|⟨a,c,rfl⟩
 ·obtain rfl:=oi h2;exact .inl rfl
 ·obtain rfl:=oi h2;exact .inr rfl
end Go.Proofs.YtcapcgbamehojaaGreatDoor
