/-
 The second shadow machine, part 9: all operations but calls, together; what they look at.
-/
import Derived.Test.YtcapcgbamehojaaGreatDoorSyX
import Derived.Test.YtcapcgbamehojaaGreatDoorSyY
namespace Go.Sy
open Go Go.RowKit
set_option linter.unusedSimpArgs false
set_option linter.unusedVariables false
set_option linter.unusedSectionVars false
variable [Inhabited GT]
section
variable {P : Program} {n : Nat} {w : World} {K : Nat → Nat} {D : DM} {H : a0o} {ρ : Env} {a : Act} {o : Oper} {idx : Nat}
theorem n0K {i:Nat} {en en':Ent} (h:H[i]?=some en'):g0w H i en=H.set i en:=by
 unfold g0w;rw[if_pos (ab.1 h).1]
theorem u0x(h:HInv w K D H)(hs:Slots n w K D ρ a.tmps)(hb:Op.inB n o.op=true)(hidx:CanNew H idx) {ef:Eff} (he:a0w P o ρ H idx=some ef):n0w P w K D H o a ef.v (b0M H ef.wr):=by
 unfold Op.inB at hb
 rw[bp]at hb
 cases ho:o.op
 case box e x=>
  simp only[a0w,ho]at he
  split at he
  ·rename_i cs hc;cases he;exact A0X h hs ho (hb x (by simp[ho,Op.operands])) hidx hc
  ·cases he
 case alloc t=>
  simp only[a0w,ho]at he
  split at he
  ·rename_i cs hc;cases he;exact y0g h ho hidx hc
  ·cases he
 case load t x=>
  simp only[a0w,ho]at he
  split at he
  ·rename_i i off hxe
   split at he
   ·rename_i cs hc
    cases hv:b0T P t (cs.drop off)with
    |none=>rw[hv]at he;cases he
    |some v=>rw[hv]at he;cases he;exact x0M h hs ho (hb x (by simp[ho,Op.operands])) hxe hc hv
   ·cases he
  ·cases he
 case store t x y=>
  simp only[a0w,ho]at he
  split at he
  ·rename_i i off ps hxe hye
   split at he
   ·rename_i en hH
    split at he
    ·rename_i cs hc
     split at he<;>cases he
     rename_i hcond
     obtain⟨c1,c2,c3,c4⟩:=hcond
     simp only[b0M,n0K hH]
     exact v0c h hs ho (hb x (by simp[ho,Op.operands])) (hb y (by simp[ho,Op.operands])) hxe hye hH hc c1 c2 c3 c4
    ·cases he
   ·cases he
  ·cases he
 case indexAddr t x y=>
  simp only[a0w,ho]at he
  split at he
  ·rename_i e i kk j hu hxe hye
   split at he
   ·rename_i nn k e' cs hH
    split at he<;>cases he
    rename_i hc
    obtain⟨c1,c2,c3,c4⟩:=hc
    exact s0w h hs ho (hb x (by simp[ho,Op.operands])) (hb y (by simp[ho,Op.operands])) hu hxe hye hH c1 c2 c3 c4
   ·cases he
  ·cases he
 case slice t x lo hi mx=>
  simp only[a0w,ho]at he
  split at he
  ·rename_i len e i off hu hxe
   split at he
   ·rename_i hh hbd
    split at he<;>cases he
    rename_i hc
    obtain⟨c1,c2,c3⟩:=hc
    exact r0R h hs ho (hb x (by simp[ho,Op.operands])) (fun y hy=>hb y (by subst hy;simp[ho,Op.operands])) hu hxe hbd c1 c2 c3
   ·cases he
  ·cases he
 case buildSlice t len parts=>
  have hpb: ∀p∈parts.toList,Operand.inB n p.2=true:=fun p hp=>hb p.2 (by simp only[ho,Op.operands,cy,aK];exact⟨p,hp,rfl⟩)
  simp only[a0w,ho]at he
  split at he
  ·rename_i e hu
   split at he
   ·rename_i zs hz
    split at he
    ·rename_i hc
     obtain⟨hok,hmax⟩:=hc
     split at he
     ·rename_i cs hf
      obtain⟨cells',hrun,hcr,hcl⟩:=q0g (P:=P) h hs ho hpb hu hz hok hmax hf
      obtain⟨i',z',hi',hz',hzs,hk,hk0,hby⟩:=e0U hok
      split at he
      ·rename_i h0
       cases he
       subst h0
       obtain⟨g,hiv⟩:=HInv.push (w':=w.alloc (.cells cells' e)) (K':=K) h rfl rfl rfl rfl (fun _ _=>rfl)
       exact⟨_,_, .inl hrun,⟨K,D,g,hiv, .nl _⟩⟩
      ·split at he<;>cases he
       rename_i hpl
       have hg:=s0k (w':=w.alloc (.cells cells' e)) (L:=cells') (vs:=cells'.toList) (rest:=[]) (cap:=len) (len:=len) (k:=P.cellsOf e) (e:=e) h hidx none (by simp) hcr hpl (by simp) rfl rfl rfl rfl hk0 (by simpa using hcl) (ak _) (by simpa using hcl) (by
        have:len*1≤len*P.cellsOf e:=Nat.mul_le_mul_left _ hk0
        unfold maxLen;omega)
       rw[f0a]at hg
       exact⟨_,_, .inl hrun,hg⟩
     ·cases he
    ·cases he
   ·cases he
  ·cases he
 case binOp op t x y ty=>
  simp only[a0w,ho]at he
  exact A0P h hs ho (hb x (by simp[ho,Op.operands])) (hb y (by simp[ho,Op.operands])) he
 case makeMap t r=>
  cases r with
  |none=>
   simp only[a0w,ho]at he
   split at he
   ·cases he;exact p0c h ho hidx
   ·cases he
  |some r=>simp only[a0w,ho]at he;cases he
 case insert t m k v=>
  simp only[a0w,ho]at he
  exact r0n h hs (.inl ho) (hb m (by simp[ho,Op.operands])) (hb k (by simp[ho,Op.operands])) (hb v (by simp[ho,Op.operands])) he
 case mapUpdate t m k v=>
  simp only[a0w,ho]at he
  exact r0n h hs (.inr ho) (hb m (by simp[ho,Op.operands])) (hb k (by simp[ho,Op.operands])) (hb v (by simp[ho,Op.operands])) he
 case lookup t m k ok=>
  simp only[a0w,ho]at he
  exact v0L h hs ho (hb m (by simp[ho,Op.operands])) (hb k (by simp[ho,Op.operands])) he
 case makeSlice t x y=>
  simp only[a0w,ho]at he
  split at he
  ·rename_i e kl l kc c hu hxe hye
   split at he
   ·rename_i zs hz
    split at he<;>cases he
    rename_i hc
    exact r0c h hs ho (hb x (by simp[ho,Op.operands])) (hb y (by simp[ho,Op.operands])) hu hidx hxe hye hz hc.1 hc.2.1 hc.2.2.1 hc.2.2.2.1 hc.2.2.2.2
   ·cases he
  ·cases he
 case convert src dst x=>
  simp only[a0w,ho]at he
  split at he
  ·rename_i e s hu1 hu2 hxe
   split at he
   ·rename_i he8;cases he;exact t0X h hs ho (hb x (by simp[ho,Op.operands])) hu1 hu2 he8 hxe
   ·cases he
  ·rename_i s hu1 hu2 hxe
   cases he;exact x0l h hs ho (hb x (by simp[ho,Op.operands])) hu1 hu2 hxe
  ·rename_i e e' i hu1 hu2 hxe
   split at he
   ·rename_i nn k e2 cs he8 hH
    split at he<;>cases he
    rename_i hc
    simp only[b0M,n0K hH]
    exact s0M h hs ho (hb x (by simp[ho,Op.operands])) hc.1 hu1 he8 hxe hH hc.2
   ·cases he
  ·rename_i e s hu1 hu2 hxe
   split at he
   ·rename_i m cs rd he8 hsc
    split at he<;>cases he
    rename_i hc
    exact x0i h hs ho (hb x (by simp[ho,Op.operands])) hu1 hu2 he8 hxe hsc hc.1 hc.2
   ·rename_i m cs rd he8 hsc
    split at he<;>cases he
    rename_i hc
    exact u0T h hs ho (hb x (by simp[ho,Op.operands])) hu1 hu2 he8 hxe hsc hc.1 hc.2
   ·cases he
  ·cases he
 case call c=>
  have hbc: ∀x∈c.args,Operand.inB n x=true:=fun x hx=>hb x (by simp only[ho,Op.operands,Call.operands];exact bS.2 (.inr hx))
  simp only[a0w,ho]at he
  split at he
  ·rename_i hcal;exact w0Q h hs ho hcal hbc hidx he
  ·rename_i hcal;exact z0R h hs ho hcal hbc he
  ·rename_i hcal
   split at he
   ·rename_i x t ha ht
    split at he
    ·rename_i e i hu hxe
     split at he
     ·rename_i nn k e' cs hH
      cases he
      exact v0X h hs ho hcal ha ht (hbc x (by rw[←aS,ha];simp)) hu hxe hH
     ·cases he
    ·cases he
   ·cases he
  ·rename_i hcal
   split at he
   ·rename_i x r ha
    split at he
    ·rename_i k ax hxe
     cases hv:v0I false k ax ρ r with
     |none=>rw[hv]at he;cases he
     |some v=>rw[hv]at he;cases he;exact q0Y (big:=false) h hs ho hcal ha hbc hxe hv
    ·cases he
   ·cases he
  ·rename_i hcal
   split at he
   ·rename_i x r ha
    split at he
    ·rename_i k ax hxe
     cases hv:v0I true k ax ρ r with
     |none=>rw[hv]at he;cases he
     |some v=>rw[hv]at he;cases he;exact q0Y (big:=true) h hs ho hcal ha hbc hxe hv
    ·cases he
   ·cases he
  ·cases he
 all_goals(simp only[a0w,ho]at he;cases he)
theorem t0p(h:HInv w K D H)(hs:Slots n w K D ρ a.tmps)(hb:Op.inB n o.op=true)(hidx:CanNew H idx) {ef:Eff} (he:a0Z P o ρ H idx=some ef):n0w P w K D H o a ef.v (b0M H ef.wr):=by
 unfold a0Z at he
 split at he
 ·rename_i v hv
  cases he
  obtain⟨r,hr,hrep⟩:=u0p hs hb hv
  exact f0m h hr hrep
 ·exact u0x h hs hb hidx he
/-! What an operation looks at. -/
theorem o0o {ρ ρ':Env} {place:Nat→Option (Nat×Nat)} : ∀(parts:List (Nat×Operand)) (cs:List SV),(∀p∈parts,a0Y ρ p.2=a0Y ρ' p.2)→l0Z ρ place cs parts=l0Z ρ' place cs parts:=by
 intro parts
 induction parts with
 |nil=>intro cs _;rfl
 |cons p rest ih=>
  intro cs h
  obtain⟨i,x⟩:=p
  have hx:=h (i,x) (ar ..)
  simp only at hx
  simp only[l0Z,hx]
  split
  ·split
   ·exact ih _ fun p hp=>h p (ao _ hp)
   ·rfl
  ·rfl
theorem m0w {ρ ρ':Env} : ∀(l:List Operand),(∀x∈l,a0Y ρ x=a0Y ρ' x)→l.mapM (a0Y ρ)=l.mapM (a0Y ρ'):=by
 intro l
 induction l with
 |nil=>intro _;rfl
 |cons x l ih=>
  intro h
  simp only[cv,h x (ar ..),ih fun y hy=>h y (ao _ hy)]
theorem p0b {ρ ρ':Env} {big:Bool} {k:IntKind} : ∀(l:List Operand) (acc:Int),(∀x∈l,a0Y ρ x=a0Y ρ' x)→v0I big k acc ρ l=v0I big k acc ρ' l:=by
 intro l
 induction l with
 |nil=>intro acc _;rfl
 |cons x l ih=>
  intro acc h
  simp only[v0I,h x (ar ..)]
  split
  ·split
   ·exact ih _ fun y hy=>h y (ao _ hy)
   ·rfl
  ·rfl
theorem k0o {ρ ρ':Env} {l:Option Operand} {d:Int} (hl: ∀y,l=some y→a0Y ρ y=a0Y ρ' y):g0t ρ l d=g0t ρ' l d:=by
 cases l with
 |none=>rfl
 |some y=>simp only[g0t,hl y rfl]
theorem m0T {c:Call} {x:Operand} (h:x∈c.args.toList):x∈c.operands:=by
 unfold Call.operands;exact bS.2 (.inr (aS.1 h))
theorem k0V {ρ ρ':Env} (h: ∀x∈o.op.operands,a0Y ρ x=a0Y ρ' x):a0k P o ρ=a0k P o ρ':=by
 cases ho:o.op
 case build t parts=>
  have hp: ∀p∈parts.toList,a0Y ρ p.2=a0Y ρ' p.2:=fun p hp=>h p.2 (by simp only[ho,Op.operands,cy,aK];exact⟨p,hp,rfl⟩)
  simp only[a0k,ho,o0o parts.toList _ hp]
 case slice t x lo hi mx=>
  simp only[a0k,ho,h x (by simp[ho,Op.operands])]
  simp only[k0o (l:=lo) (fun y hy=>h y (by subst hy;simp[ho,Op.operands])),k0o (l:=hi) (fun y hy=>h y (by subst hy;simp[ho,Op.operands]))]
 case makeFunc f p q=>
  simp only[a0k,ho,m0w p.toList (fun x hx=>h x (by simp only[ho,Op.operands];exact bS.2 (.inl (aS.1 hx)))),
   m0w q.toList (fun x hx=>h x (by simp only[ho,Op.operands];exact bS.2 (.inr (aS.1 hx))))]
 case call c=>
  have hc: ∀x∈c.args.toList,a0Y ρ x=a0Y ρ' x:=fun x hx=>h x (by simp only[ho,Op.operands];exact m0T hx)
  simp only[a0k,ho,w0I]
  split
  ·split
   ·rename_i x t hargs htys
    rw[hc x (by rw[hargs];simp)]
   ·rfl
  ·rfl
 case pick c x y=>simp only[a0k,ho,h c (by simp[ho,Op.operands]),h x (by simp[ho,Op.operands]),h y (by simp[ho,Op.operands])]
 case binOp op t x y u=>simp only[a0k,ho,h x (by simp[ho,Op.operands]),h y (by simp[ho,Op.operands])]
 case indexAddr t x i=>simp only[a0k,ho,h x (by simp[ho,Op.operands]),h i (by simp[ho,Op.operands])]
 case index t x i=>simp only[a0k,ho,h x (by simp[ho,Op.operands]),h i (by simp[ho,Op.operands])]
 case move x=>simp only[a0k,ho,h x (by simp[ho,Op.operands])]
 case assign x=>simp only[a0k,ho,h x (by simp[ho,Op.operands])]
 case unOp op t x=>simp only[a0k,ho,h x (by simp[ho,Op.operands])]
 case convert s d x=>simp only[a0k,ho,h x (by simp[ho,Op.operands])]
 case extract x i=>simp only[a0k,ho,h x (by simp[ho,Op.operands])]
 case nilCheck x=>simp only[a0k,ho,h x (by simp[ho,Op.operands])]
 case fieldAddr t x f=>simp only[a0k,ho,h x (by simp[ho,Op.operands])]
 case field t x f=>simp only[a0k,ho,h x (by simp[ho,Op.operands])]
 case load t x=>simp only[a0k,ho,h x (by simp[ho,Op.operands])]
 all_goals simp only[a0k,ho]
theorem h0W {H H':a0o} {k m:Nat} {s:SV} {cs:List SV} {rd:List Nat} (hs:t0e k s H=some (m,cs,rd))(hr: ∀i∈rd,H'[i]?=H[i]?):t0e k s H'=some (m,cs,rd):=by
 unfold t0e at hs⊢
 split
 ·exact hs
 ·exact hs
 ·exact hs
 ·rename_i j
  simp only at hs
  split at hs
  ·rename_i n k' e cs' hj
   split at hs<;>cases hs
   rename_i hc
   rw[hr j (by simp),hj]
   simp only
   rw[if_pos hc]
  ·cases hs
 ·rename_i j off n k'
  simp only at hs
  split at hs
  ·rename_i cs' hj
   split at hs<;>cases hs
   rename_i hc
   rw[hr j (by simp),hj]
   simp only
   rw[if_pos hc]
  ·cases hs
 ·rename_i h1 h2 h3 h4 h5
  cases s<;>first|exact(h1 _ _ _ rfl).elim|exact(h2 rfl).elim|exact(h3 _ rfl).elim|exact(h4 _ rfl).elim|exact(h5 _ _ _ _ rfl).elim|cases hs
theorem o0S {P:Program} {H H':a0o} {e k m tx:Nat} {s:SV} {cs:List SV} {rd:List Nat} (hs:x0m P e k tx s H=some (m,cs,rd))(hr: ∀i∈rd,H'[i]?=H[i]?):x0m P e k tx s H'=some (m,cs,rd):=by
 unfold x0m at hs⊢
 split at hs
 ·exact hs
 ·split at hs
  ·rename_i hst
   rw[if_pos hst]
   exact h0W hs hr
  ·cases hs
theorem j0N {ρ ρ':Env} {H H':a0o} {ef:Eff} (h: ∀x∈o.op.operands,a0Y ρ x=a0Y ρ' x)(he:a0Z P o ρ H idx=some ef)(hr: ∀i∈ef.rd,H'[i]?=H[i]?):a0Z P o ρ' H' idx=some ef:=by
 unfold a0Z at he⊢
 rw[←k0V h]
 split
 ·rename_i v hv
  rw[hv]at he
  exact he
 ·rename_i hn
  rw[hn]at he
  simp only at he
  cases ho:o.op
  case box e x=>
   simp only[a0w,ho]at he⊢
   rw[←h x (by simp[ho,Op.operands])];exact he
  case alloc t=>simp only[a0w,ho]at he⊢;exact he
  case load t x=>
   simp only[a0w,ho]at he⊢
   rw[←h x (by simp[ho,Op.operands])]
   split at he
   ·rename_i i off hxe
    split at he
    ·rename_i cs hc
     cases hv:b0T P t (cs.drop off)with
     |none=>rw[hv]at he;cases he
     |some v=>
      rw[hv]at he;cases he
      rw[hr i (by simp),hc]
      simp[hv]
    ·cases he
   ·cases he
  case store t x y=>
   simp only[a0w,ho]at he⊢
   rw[←h x (by simp[ho,Op.operands]),←h y (by simp[ho,Op.operands])]
   split at he
   ·rename_i i off ps hxe hye
    split at he
    ·rename_i en hH
     split at he
     ·rename_i cs hc
      split at he<;>cases he
      rename_i hcond
      rw[hr i (by simp),hH]
      simp only[hc]
      rw[if_pos hcond]
     ·cases he
    ·cases he
   ·cases he
  case indexAddr t x y=>
   simp only[a0w,ho]at he⊢
   rw[←h x (by simp[ho,Op.operands]),←h y (by simp[ho,Op.operands])]
   split at he
   ·rename_i e i kk j hu hxe hye
    split at he
    ·rename_i nn k e' cs hH
     split at he<;>cases he
     rename_i hc
     rw[hr i (by simp),hH]
     simp only
     rw[if_pos hc]
    ·cases he
   ·cases he
  case slice t x lo hi mx=>
   simp only[a0w,ho]at he⊢
   rw[←h x (by simp[ho,Op.operands])]
   simp only[←k0o (l:=hi) (fun y hy=>h y (by subst hy;simp[ho,Op.operands]))]
   exact he
  case buildSlice t len parts=>
   have hp: ∀p∈parts.toList,a0Y ρ p.2=a0Y ρ' p.2:=fun p hp=>h p.2 (by simp only[ho,Op.operands,cy,aK];exact⟨p,hp,rfl⟩)
   simp only[a0w,ho]at he⊢
   simp only[←o0o parts.toList _ hp]
   exact he
  case binOp op t x y ty=>
   simp only[a0w,ho]at he⊢
   rw[←h x (by simp[ho,Op.operands]),←h y (by simp[ho,Op.operands])]
   exact he
  case makeMap t r=>cases r<;>(simp only[a0w,ho]at he⊢;exact he)
  case insert t m k v=>
   simp only[a0w,ho]at he⊢
   rw[←h m (by simp[ho,Op.operands]),←h k (by simp[ho,Op.operands]),←h v (by simp[ho,Op.operands])]
   exact l0V he hr
  case mapUpdate t m k v=>
   simp only[a0w,ho]at he⊢
   rw[←h m (by simp[ho,Op.operands]),←h k (by simp[ho,Op.operands]),←h v (by simp[ho,Op.operands])]
   exact l0V he hr
  case lookup t m k ok=>
   simp only[a0w,ho]at he⊢
   rw[←h m (by simp[ho,Op.operands]),←h k (by simp[ho,Op.operands])]
   exact p0Q he hr
  case makeSlice t x y=>
   simp only[a0w,ho]at he⊢
   rw[←h x (by simp[ho,Op.operands]),←h y (by simp[ho,Op.operands])]
   exact he
  case convert src dst x=>
   simp only[a0w,ho]at he⊢
   rw[←h x (by simp[ho,Op.operands])]
   split at he
   ·exact he
   ·exact he
   ·rename_i e e' i hu1 hu2 hxe
    split at he
    ·rename_i nn k e2 cs he8 hH
     split at he<;>cases he
     rename_i hc
     rw[hr i (by simp),hH]
     simp only[he8]
     rw[if_pos hc]
    ·cases he
   ·rename_i e s hu1 hu2 hxe
    split at he
    ·rename_i m cs rd he8 hsc
     split at he<;>cases he
     rename_i hc
     rw[h0W hsc hr]
     simp only[he8]
     rw[if_pos hc]
    ·rename_i m cs rd he8 hsc
     split at he<;>cases he
     rename_i hc
     rw[h0W hsc hr]
     simp only[he8]
     rw[if_pos hc]
    ·cases he
   ·cases he
  case call c=>
   have hc: ∀x∈c.args.toList,a0Y ρ x=a0Y ρ' x:=fun x hx=>h x (by simp only[ho,Op.operands];exact m0T hx)
   simp only[a0w,ho]at he⊢
   split at he
   ·rename_i hcal
    unfold m0F at he⊢
    split at he
    ·rename_i x y t tx hargs htys
     rw[←hc x (by rw[hargs];simp),←hc y (by rw[hargs];simp)]
     split at he
     ·rename_i e sy hu hxe hye
      split at he
      ·rename_i m cs2 rd hsc
       split at he<;>cases he
       rename_i hcd
       rw[o0S hsc hr]
       simp only
       rw[if_pos hcd]
      ·cases he
     ·rename_i e i0 sy hu hxe hye
      split at he
      ·rename_i nn k e' cs hH
       split at he
       ·rename_i m cs2 rd hsc
        split at he<;>cases he
        rename_i hcd
        rw[hr i0 (by simp),hH]
        simp only
        rw[o0S hsc (fun i hi=>hr i (by simp[hi]))]
        simp only
        rw[if_pos hcd]
       ·cases he
      ·cases he
     ·cases he
    ·cases he
   ·rename_i hcal
    unfold w0E at he⊢
    split at he
    ·rename_i x y t tx hargs htys
     rw[←hc x (by rw[hargs];simp),←hc y (by rw[hargs];simp)]
     split at he
     ·rename_i e i0 sy hu hxe hye
      split at he
      ·rename_i nn k e' cs hH
       split at he
       ·rename_i m cs2 rd hsc
        split at he<;>cases he
        rename_i hcd
        rw[hr i0 (by simp),hH]
        simp only
        rw[h0W hsc (fun i hi=>hr i (by simp[hi]))]
        simp only
        rw[if_pos hcd]
       ·cases he
      ·cases he
     ·rename_i e i0 off nn k sy hu hxe hye
      split at he
      ·rename_i cs hH
       split at he
       ·rename_i m cs2 rd hsc
        split at he<;>cases he
        rename_i hcd
        rw[hr i0 (by simp),hH]
        simp only
        rw[h0W hsc (fun i hi=>hr i (by simp[hi]))]
        simp only
        rw[if_pos hcd]
       ·cases he
      ·cases he
     ·cases he
    ·cases he
   ·rename_i hcal
    split at he
    ·rename_i x t ha ht
     rw[←hc x (by rw[ha];simp)]
     split at he
     ·rename_i e i hu hxe
      split at he
      ·rename_i nn k e' cs hH
       cases he
       rw[hr i (by simp),hH]
      ·cases he
     ·cases he
    ·cases he
   ·rename_i hcal
    split at he
    ·rename_i x r ha
     rw[←hc x (by rw[ha];simp)]
     split at he
     ·rename_i k ax hxe
      rw[←p0b r ax (fun y hy=>hc y (by rw[ha];simp[hy]))]
      exact he
     ·cases he
    ·cases he
   ·rename_i hcal
    split at he
    ·rename_i x r ha
     rw[←hc x (by rw[ha];simp)]
     split at he
     ·rename_i k ax hxe
      rw[←p0b r ax (fun y hy=>hc y (by rw[ha];simp[hy]))]
      exact he
     ·cases he
    ·cases he
   ·cases he
  all_goals(simp only[a0w,ho]at he;cases he)
end
end Go.Sy
