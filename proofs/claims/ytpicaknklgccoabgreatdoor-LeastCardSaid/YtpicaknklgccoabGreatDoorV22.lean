import Derived.Test.YtpicaknklgccoabGreatDoorV21
set_option maxHeartbeats 1000000
namespace Go.Proofs.YtpicaknklgccoabGreatDoor
structure Grow (n:Nat) (m m':MM):Prop where
 st:m.steps<=m'.steps
 fl:m.fault≠0->m'.fault≠0/\m'.steps=m.steps
 op:m'.opened+20000*m.steps+(if m'.fault=0 then 20000 else 0)<=m.opened+20000*m'.steps+n
 rg:m'.regs.length=m.regs.length
 nm:m'.named.length=m.named.length
 cl:m'.cells.length+m.steps<=m.cells.length+m'.steps
structure eV (n s:Nat) (m m':MM):Prop where
 st:m.steps<=m'.steps
 op:m'.opened+20000*m.steps<=m.opened+20000*m'.steps+n
 rg:m'.regs.length=m.regs.length
 nm:m'.named.length=m.named.length
 cl:m'.cells.length+m.steps<=m.cells.length+m'.steps+s
theorem eV.refl (m:MM):eV 0 0 m m:=⟨Nat.le_refl _,by omega,rfl,rfl,by omega⟩
theorem Grow.inner {n:Nat} {m m':MM} (h:Grow n m m'):eV n 0 m m':=⟨h.st,by have:=h.op;split at this <;> omega,h.rg,h.nm,by have:=h.cl;omega⟩
theorem eV.trans {n n' s s':Nat} {m m1 m2:MM} (h:eV n s m m1) (h':eV n' s' m1 m2):eV (n+n') (s+s') m m2:=by
 have:=h.st;have:=h'.st;have:=h.op;have:=h'.op;have:=h.cl;have:=h'.cl;exact⟨by omega,by omega,h'.rg.trans h.rg,h'.nm.trans h.nm,by omega⟩
theorem eV.le {n n' s s':Nat} {m m1:MM} (h:eV n s m m1) (hn:n<=n') (hs:s<=s'):eV n' s' m m1:=by
 have:=h.op;have:=h.cl;exact⟨h.st,by omega,h.rg,h.nm,by omega⟩
theorem yI (m:MM) (f:Nat):eV 0 0 m (m.stop f):=by
 unfold MM.stop;split
 ·exact⟨Nat.le_refl _,by simp only;omega,rfl,rfl,by simp only;omega⟩
 ·exact eV.refl m
theorem Lc (m:MM) (v:MV):eV 0 0 m (m.use v).2:=by
 unfold MM.use;split
 ·exact eV.refl m
 ·simp only;split
  ·exact eV.refl m
  ·exact yI m 13
theorem ow (m:MM) (i:Int) (v:MV):eV 0 0 m (m.name i v):=by
 unfold MM.name;split
 ·exact⟨Nat.le_refl _,by simp only;omega,rfl,by simp,by simp only;omega⟩
 ·exact eV.refl m
theorem iN (m:MM) (i:Int) (v:MV):(m.name i v).fault=m.fault/\(m.name i v).steps=m.steps:=by unfold MM.name;split <;> exact⟨rfl,rfl⟩
theorem Hw (m:MM) (k:Int) (a b:MV):eV 0 1 m (m.bb k a b).2:=by
 cases hr:m.regs[m.home k]? with
 | none=>unfold MM.bb;rw[hr];exact (eV.refl m).le (Nat.le_refl _) (by omega)
 | some r =>
  have ef:m.bb k a b=(⟨true,m.cells.length⟩,{ m with regs:=m.regs.set (m.home k) { r with cells:=r.cells+1 },cells:=m.cells++[⟨a,b,m.home k,r.gO⟩],live:=m.live+1,most:=if m.most<m.live+1 then m.live+1 else m.most }):=by unfold MM.bb;rw[hr]
  rw[ef];exact⟨Nat.le_refl _,by simp only;omega,by simp,rfl,by simp;omega⟩
def yJ (fuel n:Nat) (m:MM) (x:MV × MM):Prop:=oO fuel x.2/\x.1.bd/\Grow n m x.2
def qU (fuel n s:Nat) (m:MM) (x:MV × MM):Prop:=oO fuel x.2/\x.1.bd/\eV n s m x.2
theorem qi {fuel n:Nat} {m:MM} {f:MM->MV × MM} (h:oO fuel m) (hf:m.fault=0->m.steps<fuel->oO fuel { m with steps:=m.steps+1 }->qU fuel n 1 { m with steps:=m.steps+1 } (f { m with steps:=m.steps+1 })):yJ fuel (1+n) m (bn fuel m f):=by
 unfold bn
 by_cases nH:fuel<=m.steps
 ·simp only[if_pos nH]
  have hne:(m.stop 12).fault≠0:=by unfold MM.stop;split <;> simp_all
  simp only[if_pos hne];have hi:=yI m 12
  have hs:(m.stop 12).steps=m.steps:=by unfold MM.stop;split <;> rfl
  refine⟨MM.JH h 12,ue,⟨hi.st,λ_=>⟨hne,hs⟩,?_,hi.rg,hi.nm,?_⟩⟩
  ·have:=hi.op;rw[if_neg hne];simp only at this ⊢;omega
  ·have:=hi.cl;simp only at this ⊢;omega
 ·simp only[if_neg nH]
  by_cases hz:m.fault=0
  ·rw[if_neg (λhn=>hn hz)]
   have hst:=h.steps;have hb:oO fuel { m with steps:=m.steps+1 }:=⟨by simp only;omega,Nat.le_succ_of_le h.cells,h.live,h.sum,h.most,h.named,h.cell,h.regs,h.gO⟩;obtain⟨h1,h2,h3⟩:=hf hz (by omega) hb;generalize f { m with steps:=m.steps+1 }=y at h1 h2 h3;have q1:=h3.st;have q2:=h3.op;have q3:=h3.cl;simp only at q1 q2 q3
   have q4:(if y.2.fault=0 then 20000 else 0)<=20000:=by split <;> decide
   exact⟨h1,h2,⟨by omega,λhn=>absurd hz hn,by omega,h3.rg,h3.nm,by omega⟩⟩
  ·simp only[if_pos hz]
   exact⟨h,ue,⟨Nat.le_refl _,λ_=>⟨hz,rfl⟩,by simp only[if_neg hz];omega,rfl,rfl,by simp only;omega⟩⟩
theorem wj {fuel n:Nat} (hn:n<=20000) {i:Int} {f:MM->MV × MM} {R:Nat} (hf:∀ m,oO fuel m->m.regs.length=R->yJ fuel n m (f m)):∀ (k:Nat) (x:MV) (m:MM),oO fuel m->x.bd->m.regs.length=R->qU fuel n 0 m (cU i f k x m)
 | 0,x,m,hm,hx,_=>⟨hm,hx,(eV.refl m).le (Nat.zero_le _) (Nat.le_refl _)⟩
 | k+1,x,m,hm,hx,hR=>by
  simp only[cU]
  split
  ·exact⟨hm,hx,(eV.refl m).le (Nat.zero_le _) (Nat.le_refl _)⟩
  ·rename_i hz
   have hz:m.fault=0:=by simpa using hz
   have hni:=ow m i x;obtain⟨h1,h2,h3⟩:=hf (m.name i x) (MM.xh hm i x hx) (hni.rg.trans hR);have hnf:=iN m i x;have ih:=wj (i:=i) hn hf k (f (m.name i x)).1 (f (m.name i x)).2 h1 h2 (h3.rg.trans (hni.rg.trans hR))
   by_cases hf1:(f (m.name i x)).2.fault=0
   ·refine⟨ih.1,ih.2.1,?_⟩
    have a:=ih.2.2;have q1:=h3.op;rw[if_pos hf1] at q1;have q2:=hni.op;have q3:=hni.cl;have q4:=h3.cl;have q5:=h3.st;have q6:=a.op;have q7:=a.cl;have q8:=a.st;exact⟨by omega,by omega,a.rg.trans (h3.rg.trans hni.rg),a.nm.trans (h3.nm.trans hni.nm),by omega⟩
   ·have e:cU i f k (f (m.name i x)).1 (f (m.name i x)).2=((f (m.name i x)).1,(f (m.name i x)).2):=by
     cases k with
     | zero=>rfl
     | succ k=>simp only[cU];rw[if_pos hf1]
    rw[e];have:=hni.trans h3.inner;exact⟨h1,h2,this.le (by omega) (by omega)⟩
mutual
def PT.iE:PT->Prop
 | .num _ s=>0<=ak s/\ak s<=9999
 | .name _ _=>True
 | .node _ _ _ rg kids=>(0<=ak rg/\ak rg<=9999)/\cJ kids
def cJ:List PT->Prop
 | []=>True
 | t::r=>t.iE/\cJ r
end
mutual
theorem dP (fuel:Nat) (nH:fuel<=20000):∀ (t:PT) (sc:Sc) (base:Nat) (m:MM),t.wf->t.iE->oO fuel m->m.regs.length+t.cnt<=20000->yJ fuel t.cnt m (mW fuel t sc base m)
 | .num p s,sc,base,m,_,hr,hb,_=>by
  simp only[PT.iE] at hr;simp only[mW,PT.cnt];exact qi (n:=0) hb (λ_ _ hb=>⟨hb,by simp only[MV.bd];omega,(eV.refl _).le (Nat.le_refl _) (by omega)⟩)
 | .name p s,sc,base,m,_,_,hb,_=>by
  simp only[mW,PT.cnt];exact qi (n:=0) hb (λ_ _ hb=>⟨hb,MM.Ro hb _,(eV.refl _).le (Nat.le_refl _) (by omega)⟩)
 | .node p k nm rg kids,sc,base,m,hw,hr,hb,hl=>by
  simp only[PT.wf] at hw;simp only[PT.iE] at hr;simp only[PT.cnt] at hl;simp only[mW,PT.cnt]
  by_cases hk:k=.new
  ·subst hk
   simp only[if_pos];exact Hx fuel nH (ak rg) (by omega) kids sc base m hw.1 hw.2 hr.2 hb hl
  ·simp only[if_neg hk]
   refine qi hb (λhz hlt hb1=>?_)
   by_cases hk1:k=.aP
   ·subst hk1
    simp only[if_pos];exact Hy fuel nH nm kids sc base _ hw.1 hw.2 hr.2 hb1 (by simp only;omega)
   ·simp only[if_neg hk1]
    by_cases hk2:k=.di
    ·subst hk2
     simp only[if_pos];exact Ld fuel nH kids sc base _ hw.1 hw.2 hr.2 hb1 (by simp only;omega)
    ·simp only[if_neg hk2]
     by_cases qQ:k=.loop
     ·subst qQ
      simp only[if_pos];exact Es fuel nH nm kids sc base _ hw.1 hw.2 hr.2 hb1 (by simp only;omega)
     ·simp only[if_neg qQ]
      have:=hb.cells;exact Hz fuel nH k (ak rg) kids sc base _ hw.2 hr.2 hb1 (by simp only;omega) (by simp only;omega)
theorem Hx (fuel:Nat) (nH:fuel<=20000) (rg:Int) (hrg:-1<=rg/\rg<=9999):∀ (ts:List PT) (sc:Sc) (base:Nat) (m:MM),ts.length=arity .new->qO ts->cJ ts->oO fuel m->m.regs.length+(1+ax ts)<=20000->yJ fuel (1+ax ts) m (rL fuel rg ts sc base m)
 | [a],sc,base,m,_,hw,hr,hb,hl=>by
  simp only[qO] at hw;simp only[cJ] at hr;simp only[ax] at hl;simp only[rL,ax];have h0:=MM.Ht hb rg hrg (by omega)
  have ho:(m.opn rg).regs.length=m.regs.length+1:=by simp[MM.opn]
  obtain⟨h1,h2,h3⟩:=dP fuel nH a sc base (m.opn rg) hw.1 hr.1 h0 (by omega);have e1:(m.opn rg).steps=m.steps:=rfl;have e2:(m.opn rg).fault=m.fault:=rfl;have e3:(m.opn rg).opened=m.opened+1:=rfl;have e4:(m.opn rg).named=m.named:=rfl;have e5:(m.opn rg).cells=m.cells:=rfl;generalize mW fuel a sc base (m.opn rg)=x at h1 h2 h3;have hrl:=h3.rg
  have hfin:x.2.fin.steps=x.2.steps/\x.2.fin.fault=x.2.fault/\x.2.fin.opened=x.2.opened/\x.2.fin.named=x.2.named/\x.2.fin.cells=x.2.cells/\x.2.fin.regs.length=x.2.regs.length-1:=by
   unfold MM.fin
   cases hg:x.2.regs.getLast? with
   | none => have:x.2.regs=[]:=by simpa using hg
             rw[this] at hrl;simp at hrl;omega
   | some r=>exact⟨rfl,rfl,rfl,rfl,rfl,by simp⟩
  obtain⟨f1,f2,f3,f4,f5,f6⟩:=hfin;have g1:=h3.st;have g2:=h3.fl;have g3:=h3.op;have g4:=h3.nm;have g5:=h3.cl;rw[e1] at g1 g2 g3 g5;rw[e2] at g2;rw[e3] at g3;rw[e4] at g4;rw[e5] at g5;refine⟨MM.VN h1,h2,⟨by rw[f1];exact g1,by rw[f1,f2];exact g2,?_,by rw[f6];omega,by rw[f4];exact g4,by rw[f5,f1];exact g5⟩⟩;rw[f3,f2,f1];omega
 | [],_,_,_,hl,_,_,_,_=>by simp[arity] at hl
 | _::_::_,_,_,_,hl,_,_,_,_=>by simp[arity] at hl
theorem Hy (fuel:Nat) (nH:fuel<=20000) (nm:List UInt8):∀ (ts:List PT) (sc:Sc) (base:Nat) (m:MM),ts.length=arity .aP->qO ts->cJ ts->oO fuel m->m.regs.length+(1+ax ts)<=20000->qU fuel (ax ts) 1 m (ud fuel nm ts sc base m)
 | [a,b],sc,base,m,_,hw,hr,hb,hl=>by
  simp only[qO] at hw;simp only[cJ] at hr;simp only[ax] at hl;simp only[ud,ax];obtain⟨h1,h2,h3⟩:=dP fuel nH a sc base m hw.1 hr.1 hb (by omega);generalize mW fuel a sc base m=x at h1 h2 h3;have hrl:=h3.rg;have hn:=ow x.2 (((base+a.cnt:Nat):Int)-1) x.1;have hnr:=hn.rg;obtain⟨k1,k2,k3⟩:=dP fuel nH b (sc++[(nm,((base+a.cnt:Nat):Int)-1)]) (base+a.cnt) _ hw.2.1 hr.2.1 (MM.xh h1 (((base+a.cnt:Nat):Int)-1) x.1 h2) (by omega);exact⟨k1,k2,(h3.inner.trans (hn.trans k3.inner)).le (by omega) (by omega)⟩
 | [],_,_,_,hl,_,_,_,_=>by simp[arity] at hl
 | [_],_,_,_,hl,_,_,_,_=>by simp[arity] at hl
 | _::_::_::_,_,_,_,hl,_,_,_,_=>by simp[arity] at hl
theorem Ld (fuel:Nat) (nH:fuel<=20000):∀ (ts:List PT) (sc:Sc) (base:Nat) (m:MM),ts.length=arity .di->qO ts->cJ ts->oO fuel m->m.regs.length+(1+ax ts)<=20000->qU fuel (ax ts) 1 m (Hs fuel ts sc base m)
 | [a,b,c],sc,base,m,_,hw,hr,hb,hl=>by
  simp only[qO] at hw;simp only[cJ] at hr;simp only[ax] at hl;simp only[Hs,ax];obtain⟨h1,h2,h3⟩:=dP fuel nH a sc base m hw.1 hr.1 hb (by omega);generalize mW fuel a sc base m=x at h1 h2 h3;have hrl:=h3.rg
  split
  ·obtain⟨k1,k2,k3⟩:=dP fuel nH b sc (base+a.cnt) x.2 hw.2.1 hr.2.1 h1 (by omega)
   exact⟨k1,k2,(h3.inner.trans k3.inner).le (by omega) (by omega)⟩
  ·obtain⟨k1,k2,k3⟩:=dP fuel nH c sc (base+a.cnt+b.cnt) x.2 hw.2.2.1 hr.2.2.1 h1 (by omega)
   exact⟨k1,k2,(h3.inner.trans k3.inner).le (by omega) (by omega)⟩
 | [],_,_,_,hl,_,_,_,_=>by simp[arity] at hl
 | [_],_,_,_,hl,_,_,_,_=>by simp[arity] at hl
 | [_,_],_,_,_,hl,_,_,_,_=>by simp[arity] at hl
 | _::_::_::_::_,_,_,_,hl,_,_,_,_=>by simp[arity] at hl
theorem Es (fuel:Nat) (nH:fuel<=20000) (nm:List UInt8):∀ (ts:List PT) (sc:Sc) (base:Nat) (m:MM),ts.length=arity .loop->qO ts->cJ ts->oO fuel m->m.regs.length+(1+ax ts)<=20000->qU fuel (ax ts) 1 m (lT fuel nm ts sc base m)
 | [a,b,c],sc,base,m,_,hw,hr,hb,hl=>by
  simp only[qO] at hw;simp only[cJ] at hr;simp only[ax] at hl;simp only[lT,ax];obtain⟨h1,h2,h3⟩:=dP fuel nH a sc base m hw.1 hr.1 hb (by omega);generalize mW fuel a sc base m=x at h1 h2 h3;have hrl:=h3.rg;obtain⟨k1,k2,k3⟩:=dP fuel nH b sc (base+a.cnt) x.2 hw.2.1 hr.2.1 h1 (by omega);generalize mW fuel b sc (base+a.cnt) x.2=y at k1 k2 k3;have acS:=k3.rg
  obtain⟨l1,l2,l3⟩:=wj (n:=c.cnt) (by omega) (i:=((base+a.cnt+b.cnt:Nat):Int)-1) (R:=y.2.regs.length) (f:=λm=>mW fuel c (sc++[(nm,((base+a.cnt+b.cnt:Nat):Int)-1)]) (base+a.cnt+b.cnt) m)
   (λm hm hR=>dP fuel nH c _ (base+a.cnt+b.cnt) m hw.2.2.1 hr.2.2.1 hm (by omega)) x.1.n.toNat y.1 y.2 k1 k2 rfl
  exact⟨l1,l2,(h3.inner.trans (k3.inner.trans l3)).le (by omega) (by omega)⟩
 | [],_,_,_,hl,_,_,_,_=>by simp[arity] at hl
 | [_],_,_,_,hl,_,_,_,_=>by simp[arity] at hl
 | [_,_],_,_,_,hl,_,_,_,_=>by simp[arity] at hl
 | _::_::_::_::_,_,_,_,hl,_,_,_,_=>by simp[arity] at hl
theorem Hz (fuel:Nat) (nH:fuel<=20000) (k:Kw) (rg:Int):∀ (ts:List PT) (sc:Sc) (base:Nat) (m:MM),qO ts->cJ ts->oO fuel m->m.regs.length+(1+ax ts)<=20000->m.cells.length<m.steps->qU fuel (ax ts) 1 m (gu fuel k rg ts sc base m)
 | [a],sc,base,m,hw,hr,hb,hl,_=>by
  simp only[qO] at hw;simp only[cJ] at hr;simp only[ax] at hl;simp only[gu,ax];obtain⟨h1,h2,h3⟩:=dP fuel nH a sc base m hw.1 hr.1 hb (by omega);generalize mW fuel a sc base m=x at h1 h2 h3;have hu:=MM.Hv h1 x.1;refine⟨hu.1,?_,(h3.inner.trans (Lc x.2 x.1)).le (by omega) (by omega)⟩;simp only
  split
  ·exact hu.2.1
  ·exact hu.2.2
 | [a,b],sc,base,m,hw,hr,hb,hl,hlt=>by
  simp only[qO] at hw;simp only[cJ] at hr;simp only[ax] at hl;simp only[gu,ax];obtain⟨h1,h2,h3⟩:=dP fuel nH a sc base m hw.1 hr.1 hb (by omega);generalize mW fuel a sc base m=x at h1 h2 h3;have hrl:=h3.rg;obtain⟨k1,k2,k3⟩:=dP fuel nH b sc (base+a.cnt) x.2 hw.2.1 hr.2.1 h1 (by omega);generalize mW fuel b sc (base+a.cnt) x.2=y at k1 k2 k3;have q1:=h3.cl;have q2:=k3.cl
  split
  ·have hc:=MM.Hu k1 rg x.1 y.1 h2 k2 (by omega) nH
   exact⟨hc.1,hc.2,(h3.inner.trans (k3.inner.trans (Hw y.2 rg x.1 y.1))).le (by omega) (by omega)⟩
  ·exact⟨k1,NX _ _ _,(h3.inner.trans k3.inner).le (by omega) (by omega)⟩
 | [],_,_,m,_,_,hb,_,_=>by simp only[gu];exact⟨hb,ue,(eV.refl m).le (Nat.zero_le _) (by omega)⟩
 | _::_::_::_,_,_,m,_,_,hb,_,_=>by simp only[gu];exact⟨hb,ue,(eV.refl m).le (Nat.zero_le _) (by omega)⟩
end
def Fits (cells:List MC):Ty->MV->Prop
 | .n,v=>v.c=false/\0<=v.n/\v.n<=9999
 | .p _ A B,v=>(v.c=false/\0<=v.n/\v.n<=9999)\/(v.c=true/\∃ (i:Nat) (c:MC),v.n=i/\cells[i]?=some c/\Fits cells A c.a/\Fits cells B c.b)
theorem uf (cells:List MC) (T:Ty):Fits cells T v0:=by cases T <;> simp[Fits,v0]
theorem Fits.mono {cells l:List MC}:∀ {T:Ty} {v:MV},Fits cells T v->Fits (cells++l) T v
 | .n,_,h=>h
 | .p _ A B,_,h=>by
  simp only[Fits] at h ⊢
  rcases h with h | ⟨hc,i,c,hv,hi,ha,hb⟩
  ·exact Or.inl h
  ·refine Or.inr ⟨hc,i,c,hv,?_,Fits.mono ha,Fits.mono hb⟩
   rw[List.getElem?_append_left (List.getElem?_eq_some_iff.1 hi).1];exact hi
structure Ext (m m':MM) (base c:Nat):Prop where
 cells:∃ l,m'.cells=m.cells++l
 len:m'.named.length=m.named.length
 named:∀ i,(i<base\/base+c<=i)->m'.named[i]?=m.named[i]?
theorem Ext.refl (m:MM) (base c:Nat):Ext m m base c:=⟨⟨[],by simp⟩,rfl,λ_ _=>rfl⟩
theorem Ext.trans {m m1 m2:MM} {b c b1 c1 b2 c2:Nat} (h:Ext m m1 b1 c1) (h':Ext m1 m2 b2 c2) (hb1:b<=b1/\b1+c1<=b+c) (hb2:b<=b2/\b2+c2<=b+c):Ext m m2 b c:=by
 obtain⟨l,hl⟩:=h.cells;obtain⟨l',hl'⟩:=h'.cells;exact⟨⟨l++l',by rw[hl',hl,List.append_assoc]⟩,h'.len.trans h.len,λi hi=>(h'.named i (by omega)).trans (h.named i (by omega))⟩
theorem Ext.same {m m':MM} (h1:m'.cells=m.cells) (h2:m'.named=m.named) (base c:Nat):Ext m m' base c:=⟨⟨[],by simp[h1]⟩,by rw[h2],λ_ _=>by rw[h2]⟩
theorem Fits.on {m m':MM} {b c:Nat} {T:Ty} {v:MV} (h:Fits m.cells T v) (he:Ext m m' b c):Fits m'.cells T v:=by
 obtain⟨l,hl⟩:=he.cells;rw[hl];exact h.mono
theorem Et (m:MM) (f base c:Nat):Ext m (m.stop f) base c:=by unfold MM.stop;split <;> (refine Ext.same ?_ ?_ _ _ <;> rfl)
theorem JI (m:MM) (v:MV) (base c:Nat):Ext m (m.use v).2 base c:=by
 unfold MM.use;split
 ·exact Ext.refl _ _ _
 ·simp only;split
  ·exact Ext.refl _ _ _
  ·exact Et _ _ _ _
theorem ug (m:MM) (k:Int) (a b:MV) (base c:Nat):Ext m (m.bb k a b).2 base c:=by
 unfold MM.bb;split
 ·exact Ext.refl _ _ _
 ·exact⟨⟨_,rfl⟩,rfl,λ_ _=>rfl⟩
theorem dQ (m:MM) (j:Nat) (v:MV) (base c:Nat) (hj:base<=j/\j<base+c):Ext m (m.name (j:Int) v) base c:=by
 unfold MM.name;split
 ·refine⟨⟨[],by simp⟩,by simp,λi hi=>?_⟩
  simp only[Int.toNat_natCast];rw[List.getElem?_set_ne (by omega)]
 ·exact Ext.refl _ _ _
theorem CG (m:MM) (j:Nat) (v:MV) (hj:j<m.named.length):(m.name (j:Int) v).named[j]?=some v:=by
 unfold MM.name;rw[if_pos (by omega)];simp only[Int.toNat_natCast];rw[List.getElem?_set_self hj]
theorem CH (m:MM) (base c:Nat):Ext m m.fin base c:=by unfold MM.fin;split <;> (refine Ext.same ?_ ?_ _ _ <;> rfl)
def EF (named:List MV) (cells:List MC) (sc:Sc) (G:aV) (base:Nat):Prop:=∀ s T,look G s=some T->∃ (i:Nat) (v:MV),cE sc s=(i:Int)/\i<base/\named[i]?=some v/\Fits cells T v
theorem sU (G:aV) (nm:List UInt8) (T:Ty) (s:List UInt8):look (G++[(nm,T)]) s=if nm=s then some T else look G s:=by
 unfold look;rw[List.reverse_append];simp only[List.reverse_cons,List.reverse_nil,List.nil_append,List.singleton_append,List.find?_cons]
 by_cases h:nm=s
 ·simp[h]
 ·have:(nm==s)=false:=by rw[beq_eq_false_iff_ne];exact h
  simp[h,this]
theorem yK (sc:Sc) (nm:List UInt8) (j:Int) (s:List UInt8):cE (sc++[(nm,j)]) s=if nm=s then j else cE sc s:=by
 unfold cE;rw[List.reverse_append];simp only[List.reverse_cons,List.reverse_nil,List.nil_append,List.singleton_append,List.find?_cons]
 by_cases h:nm=s
 ·simp[h]
 ·have:(nm==s)=false:=by rw[beq_eq_false_iff_ne];exact h
  simp[h,this]
theorem EF.on {m m':MM} {sc:Sc} {G:aV} {base b c:Nat} (h:EF m.named m.cells sc G base) (he:Ext m m' b c) (hb:base<=b):EF m'.named m'.cells sc G base:=by
 intro s T hl;obtain⟨i,v,h1,h2,h3,h4⟩:=h s T hl;exact⟨i,v,h1,h2,(he.named i (Or.inl (by omega))).trans h3,h4.on he⟩
theorem EF.up {named:List MV} {cells:List MC} {sc:Sc} {G:aV} {base b:Nat} (h:EF named cells sc G base) (hb:base<=b):EF named cells sc G b:=by
 intro s T hl;obtain⟨i,v,h1,h2,h3,h4⟩:=h s T hl;exact⟨i,v,h1,by omega,h3,h4⟩
theorem EF.snoc {m:MM} {sc:Sc} {G:aV} {base j:Nat} {nm:List UInt8} {T:Ty} {v:MV} (h:EF m.named m.cells sc G base) (hj:base<=j) (hl:j<m.named.length) (hv:Fits m.cells T v):EF (m.name (j:Int) v).named (m.name (j:Int) v).cells (sc++[(nm,(j:Int))]) (G++[(nm,T)]) (j+1):=by
 have he:=dQ m j v j 1 (by omega);intro s T' hlk;rw[sU] at hlk;rw[yK]
 by_cases hs:nm=s
 ·rw[if_pos hs] at hlk ⊢
  cases hlk
  exact⟨j,v,rfl,by omega,CG m j v hl,hv.on he⟩
 ·rw[if_neg hs] at hlk ⊢
  obtain⟨i,u,h1,h2,h3,h4⟩:=h s T' hlk;exact⟨i,u,h1,by omega,(he.named i (Or.inl (by omega))).trans h3,h4.on he⟩
def yL (m:MM) (x:MV × MM) (base c:Nat) (T:Ty):Prop:=Ext m x.2 base c/\Fits x.2.cells T x.1
theorem gD {fuel:Nat} {m:MM} {f:MM->MV × MM} {base c:Nat} {T:Ty} (h:yL { m with steps:=m.steps+1 } (f { m with steps:=m.steps+1 }) base c T):yL m (bn fuel m f) base c T:=by
 unfold bn
 by_cases nH:fuel<=m.steps
 ·simp only[if_pos nH]
  have hne:(m.stop 12).fault≠0:=by unfold MM.stop;split <;> simp_all
  simp only[if_pos hne];exact⟨Et _ _ _ _,uf _ _⟩
 ·simp only[if_neg nH]
  by_cases hz:m.fault=0
  ·rw[if_neg (λhn=>hn hz)]
   exact⟨(show Ext m { m with steps:=m.steps+1 } base c from Ext.same (by rfl) (by rfl) base c).trans h.1 (by omega) (by omega),h.2⟩
  ·rw[if_pos hz]
   exact⟨Ext.refl _ _ _,uf _ _⟩
theorem Br {base c j:Nat} {T:Ty} {f:MM->MV × MM} {L:Nat} {P:MM->Prop} (hj:base<=j/\j<base+c) (hP:∀ m v,P m->Fits m.cells T v->m.named.length=L->yL (m.name (j:Int) v) (f (m.name (j:Int) v)) base c T) (hPe:∀ m m',P m->Ext m m' base c->P m'):∀ (k:Nat) (v:MV) (m:MM),P m->Fits m.cells T v->m.named.length=L->yL m (cU (j:Int) f k v m) base c T
 | 0,v,m,_,hv,_=>⟨Ext.refl _ _ _,hv⟩
 | k+1,v,m,hm,hv,hL=>by
  simp only[cU]
  split
  ·exact⟨Ext.refl _ _ _,hv⟩
  ·have h1:=hP m v hm hv hL
   have he:Ext m (f (m.name (j:Int) v)).2 base c:=(dQ m j v base c hj).trans h1.1 (by omega) (by omega);have h2:=Br hj hP hPe k (f (m.name (j:Int) v)).1 (f (m.name (j:Int) v)).2 (hPe m _ hm he) h1.2 (he.len.trans hL);exact⟨he.trans h2.1 (by omega) (by omega),h2.2⟩
theorem Le (cells:List MC) (k:Kw) (a b:Int) (ha:0<=a/\a<=9999) (hb:0<=b/\b<=9999):Fits cells .n ⟨false,iM k a b⟩:=by
 simp only[Fits,iM,true_and]
 split
 ·rw[Int.tmod_eq_emod_of_nonneg (by omega)];omega
 ·split
  ·rw[Int.tmod_eq_emod_of_nonneg (by omega)];omega
  ·split <;> omega
theorem JJ {m:MM} {A B:Ty} {r:Nat} {v:MV} (h:Fits m.cells (.p r A B) v):Fits m.cells A (m.use v).1.a/\Fits m.cells B (m.use v).1.b:=by
 simp only[Fits] at h
 rcases h with h | ⟨hc,i,c,hv,hi,ha,hb⟩
 ·have e:(m.use v).1=c0:=by unfold MM.use;rw[if_pos (Or.inl h.1)]
  rw[e];exact⟨uf _ _,uf _ _⟩
 ·have mG:=(List.getElem?_eq_some_iff.1 hi).1
  have e:(m.use v).1=c:=by
   unfold MM.use;rw[if_neg (by rw[hc,hv];simp;omega)];simp only;rw[hv,Int.toNat_natCast,List.getD_eq_getElem?_getD,hi];rfl
  rw[e];exact⟨ha,hb⟩
theorem NY {m:MM} {A B:Ty} {k:Int} {a b:MV} (ha:Fits m.cells A a) (hb:Fits m.cells B b):Fits (m.bb k a b).2.cells (.p 0 A B) (m.bb k a b).1:=by
 have he:=ug m k a b 0 0;unfold MM.bb at he ⊢
 split
 ·exact uf _ _
 ·rename_i r hr
  simp only[Fits];refine Or.inr ⟨trivial,m.cells.length,⟨a,b,m.home k,r.gO⟩,rfl,by simp,ha.mono,hb.mono⟩
theorem kq (fuel:Nat) {G:aV} {t:PT} {T:Ty} (h:WT G t T):∀ (sc:Sc) (base:Nat) (m:MM),t.iE->EF m.named m.cells sc G base->base+t.cnt<=m.named.length->yL m (mW fuel t sc base m) base t.cnt T:=by
 induction h with
 | num =>
  intro sc base m hr he hl;simp only[PT.iE] at hr;simp only[mW];exact gD ⟨Ext.refl _ _ _,by simp only[Fits,true_and];exact hr⟩
 | name hlk =>
  intro sc base m hr he hl;simp only[mW];refine gD ⟨Ext.refl _ _ _,?_⟩;obtain⟨i,v,h1,h2,h3,h4⟩:=he _ _ hlk;have mG:=(List.getElem?_eq_some_iff.1 h3).1;unfold MM.look;simp only[h1];rw[if_neg (by omega),Int.toNat_natCast,List.getD_eq_getElem?_getD,h3];exact h4
 | @aP G p nm rg a b A B ha hb aF bu =>
  intro sc base m hr he hl;simp only[PT.iE,cJ] at hr;simp only[PT.cnt,ax,Nat.add_zero] at hl ⊢;simp only[mW,ud,if_true,reduceCtorEq,if_false];refine gD ?_;have h1:=aF sc base { m with steps:=m.steps+1 } hr.2.1 he (by simp only;omega);generalize mW fuel a sc base { m with steps:=m.steps+1 }=x at h1 ⊢;have XO:=cV a;have hxl:x.2.named.length=m.named.length:=h1.1.len;have hx:=EF.on (m:={ m with steps:=m.steps+1 }) he h1.1 (Nat.le_refl _);rw[show (((base+a.cnt:Nat):Int)-1)=((base+a.cnt-1:Nat):Int) from by omega];have iV:=hx.snoc (nm:=nm) (j:=base+a.cnt-1) (by omega) (by omega) h1.2;rw[show base+a.cnt-1+1=base+a.cnt from by omega] at iV;have hne:=dQ x.2 (base+a.cnt-1) x.1 base a.cnt (by omega);have h2:=bu _ (base+a.cnt) _ hr.2.2.1 iV (by rw[hne.len,hxl];omega);exact⟨(h1.1.trans hne (b:=base) (c:=a.cnt) (by omega) (by omega)).trans h2.1 (by omega) (by omega),h2.2⟩
 | @pair G p nm rg a b A B ha hb hs aF bu =>
  intro sc base m hr he hl;simp only[PT.iE,cJ] at hr;simp only[PT.cnt,ax,Nat.add_zero] at hl ⊢;simp only[mW,gu,if_true,reduceCtorEq,if_false];refine gD ?_;have h1:=aF sc base { m with steps:=m.steps+1 } hr.2.1 he (by simp only;omega);generalize mW fuel a sc base { m with steps:=m.steps+1 }=x at h1 ⊢;have hxl:x.2.named.length=m.named.length:=h1.1.len;have h2:=bu sc (base+a.cnt) x.2 hr.2.2.1 ((EF.on (m:={ m with steps:=m.steps+1 }) he h1.1 (Nat.le_refl _)).up (by omega)) (by omega);generalize mW fuel b sc (base+a.cnt) x.2=y at h2 ⊢;have h3:=ug y.2 (ak rg) x.1 y.1 base (1+(a.cnt+b.cnt));exact⟨(h1.1.trans h2.1 (b:=base) (c:=a.cnt+b.cnt) (by omega) (by omega)).trans h3 (by omega) (by omega),NY (h1.2.on h2.1) h2.2⟩
 | @fst G p nm rg a A B ha aF =>
  intro sc base m hr he hl;simp only[PT.iE,cJ] at hr;simp only[PT.cnt,ax,Nat.add_zero] at hl ⊢;simp only[mW,gu,if_true,reduceCtorEq,if_false];refine gD ?_;have h1:=aF sc base { m with steps:=m.steps+1 } hr.2.1 he (by simp only;omega);generalize mW fuel a sc base { m with steps:=m.steps+1 }=x at h1 ⊢;have h3:=JI x.2 x.1 base a.cnt;exact⟨h1.1.trans h3 (by omega) (by omega),(JJ h1.2).1.on h3⟩
 | @snd G p nm rg a A B ha aF =>
  intro sc base m hr he hl;simp only[PT.iE,cJ] at hr;simp only[PT.cnt,ax,Nat.add_zero] at hl ⊢;simp only[mW,gu,reduceCtorEq,if_false];refine gD ?_;have h1:=aF sc base { m with steps:=m.steps+1 } hr.2.1 he (by simp only;omega);generalize mW fuel a sc base { m with steps:=m.steps+1 }=x at h1 ⊢;have h3:=JI x.2 x.1 base a.cnt;exact⟨h1.1.trans h3 (by omega) (by omega),(JJ h1.2).2.on h3⟩
 | @di G p nm rg a b c T ha hb hc aF bu fe =>
  intro sc base m hr he hl;simp only[PT.iE,cJ] at hr;simp only[PT.cnt,ax,Nat.add_zero] at hl ⊢;simp only[mW,Hs,if_true,reduceCtorEq,if_false];refine gD ?_;have h1:=aF sc base { m with steps:=m.steps+1 } hr.2.1 he (by simp only;omega);generalize mW fuel a sc base { m with steps:=m.steps+1 }=x at h1 ⊢;have hxl:x.2.named.length=m.named.length:=h1.1.len;have hx:=EF.on (m:={ m with steps:=m.steps+1 }) he h1.1 (Nat.le_refl _)
  split
  ·have h2:=bu sc (base+a.cnt) x.2 hr.2.2.1 (hx.up (by omega)) (by omega)
   exact⟨h1.1.trans h2.1 (by omega) (by omega),h2.2⟩
  ·have h2:=fe sc (base+a.cnt+b.cnt) x.2 hr.2.2.2.1 (hx.up (by omega)) (by omega)
   exact⟨h1.1.trans h2.1 (by omega) (by omega),h2.2⟩
 | @two G p k nm rg a b hk ha hb aF bu =>
  intro sc base m hr he hl;simp only[PT.iE,cJ] at hr;simp only[PT.cnt,ax,Nat.add_zero] at hl ⊢
  have e:mW fuel (.node p k nm rg [a,b]) sc base m=bn fuel m (λm=>(⟨false,iM k (mW fuel a sc base m).1.n (mW fuel b sc (base+a.cnt) (mW fuel a sc base m).2).1.n⟩,(mW fuel b sc (base+a.cnt) (mW fuel a sc base m).2).2)):=by
   rcases hk with rfl | rfl | rfl <;> simp only[mW,gu,reduceCtorEq,if_false]
  rw[e];refine gD ?_;have h1:=aF sc base { m with steps:=m.steps+1 } hr.2.1 he (by simp only;omega);generalize mW fuel a sc base { m with steps:=m.steps+1 }=x at h1 ⊢;have hxl:x.2.named.length=m.named.length:=h1.1.len;have h2:=bu sc (base+a.cnt) x.2 hr.2.2.1 ((EF.on (m:={ m with steps:=m.steps+1 }) he h1.1 (Nat.le_refl _)).up (by omega)) (by omega);generalize mW fuel b sc (base+a.cnt) x.2=y at h2 ⊢;have f1:=h1.2;have f2:=h2.2;simp only[Fits] at f1 f2;exact⟨h1.1.trans h2.1 (by omega) (by omega),Le _ _ _ _ f1.2 f2.2⟩
 | @loop G p nm rg a b c T ha hb hc aF bu fe =>
  intro sc base m hr he hl;simp only[PT.iE,cJ] at hr;simp only[PT.cnt,ax,Nat.add_zero] at hl ⊢;simp only[mW,lT,if_true,reduceCtorEq,if_false];refine gD ?_;have h1:=aF sc base { m with steps:=m.steps+1 } hr.2.1 he (by simp only;omega);generalize mW fuel a sc base { m with steps:=m.steps+1 }=x at h1 ⊢;have hxl:x.2.named.length=m.named.length:=h1.1.len;have hx:=EF.on (m:={ m with steps:=m.steps+1 }) he h1.1 (Nat.le_refl _);have h2:=bu sc (base+a.cnt) x.2 hr.2.2.1 (hx.up (by omega)) (by omega);generalize mW fuel b sc (base+a.cnt) x.2=y at h2 ⊢;have nV:y.2.named.length=m.named.length:=h2.1.len.trans hxl;have Al:=cV b;have hy:=hx.on h2.1 (by omega);rw[show (((base+a.cnt+b.cnt:Nat):Int)-1)=((base+a.cnt+b.cnt-1:Nat):Int) from by omega]
  have ht:=Br (base:=base+a.cnt) (c:=b.cnt+c.cnt) (j:=base+a.cnt+b.cnt-1) (T:=T) (L:=m.named.length) (P:=λm=>EF m.named m.cells sc G base) (f:=λm=>mW fuel c (sc++[(nm,((base+a.cnt+b.cnt-1:Nat):Int))]) (base+a.cnt+b.cnt) m) (by omega)
   (λm' v hP hv hL=>by
    have iV:=EF.snoc (nm:=nm) (j:=base+a.cnt+b.cnt-1) (EF.up hP (show base<=base+a.cnt+b.cnt-1 by omega)) (Nat.le_refl _) (by omega) hv;rw[show base+a.cnt+b.cnt-1+1=base+a.cnt+b.cnt from by omega] at iV;have h3:=fe _ (base+a.cnt+b.cnt) _ hr.2.2.2.1 iV (by rw[(dQ m' (base+a.cnt+b.cnt-1) v (base+a.cnt+b.cnt-1) 1 (by omega)).len];omega)
    exact⟨(Ext.refl _ (base+a.cnt) 0).trans h3.1 (by omega) (by omega),h3.2⟩)
   (λm1 m2 hP hE=>EF.on hP hE (by omega)) x.1.n.toNat y.1 y.2 hy h2.2 nV
  exact⟨(h1.1.trans h2.1 (b:=base) (c:=a.cnt+b.cnt) (by omega) (by omega)).trans ht.1 (by omega) (by omega),ht.2⟩
 | @new G p nm rg a T ha aF =>
  intro sc base m hr he hl;simp only[PT.iE,cJ] at hr;simp only[PT.cnt,ax,Nat.add_zero] at hl ⊢;simp only[mW,rL,if_true];have h1:=aF sc base (m.opn (ak rg)) hr.2.1 he (by show _<=m.named.length;omega);generalize mW fuel a sc base (m.opn (ak rg))=x at h1 ⊢;have h0:Ext m (m.opn (ak rg)) base a.cnt:=Ext.same (by rfl) (by rfl) _ _;have h3:=CH x.2 base a.cnt;exact⟨(h0.trans h1.1 (b:=base) (c:=a.cnt) (by omega) (by omega)).trans h3 (by omega) (by omega),h1.2.on h3⟩
def gP (cells:List MC):Vl->MV->Prop
 | .n k,v=>v.c=false/\v.n=k/\k<=9999
 | .p a b,v=>v.c=true/\∃ (i:Nat) (c:MC),v.n=i/\cells[i]?=some c/\gP cells a c.a/\gP cells b c.b
theorem gP.mono {cells l:List MC}:∀ {x:Vl} {v:MV},gP cells x v->gP (cells++l) x v
 | .n _,_,h=>h
 | .p a b,_,h=>by
  simp only[gP] at h ⊢;obtain⟨hc,i,c,hv,hi,ha,hb⟩:=h;refine⟨hc,i,c,hv,?_,gP.mono ha,gP.mono hb⟩;rw[List.getElem?_append_left (List.getElem?_eq_some_iff.1 hi).1];exact hi
theorem gP.on {m m':MM} {b c:Nat} {x:Vl} {v:MV} (h:gP m.cells x v) (he:Ext m m' b c):gP m'.cells x v:=by
 obtain⟨l,hl⟩:=he.cells;rw[hl];exact h.mono
theorem gP.fits {cells:List MC}:∀ {x:Vl} {T:Ty} {v:MV},gP cells x v->x.has T->Fits cells T v
 | .n k,.n,v,h,_=>by simp only[gP] at h;simp only[Fits];exact⟨h.1,by omega,by omega⟩
 | .p a b,.p _ A B,v,h,ht=>by
  simp only[gP] at h;simp only[Vl.has] at ht;obtain⟨hc,i,c,hv,hi,ha,hb⟩:=h;simp only[Fits];exact Or.inr ⟨hc,i,c,hv,hi,ha.fits ht.1,hb.fits ht.2⟩
 | .n _,.p _ _ _,_,_,ht=>by simp[Vl.has] at ht
 | .p _ _,.n,_,_,ht=>by simp[Vl.has] at ht
theorem xj {cells:List MC}:∀ {T:Ty} {v:MV},Fits cells T v->∃ x,gP cells x v/\x.size<=T.size
 | .n,v,h=>by simp only[Fits] at h;exact⟨.n v.n.toNat,by simp only[gP];exact⟨h.1,by omega,by omega⟩,by simp[Vl.size]⟩
 | .p r A B,v,h=>by
  simp only[Fits] at h
  rcases h with h | ⟨hc,i,c,hv,hi,ha,hb⟩
  ·exact⟨.n v.n.toNat,by simp only[gP];exact⟨h.1,by omega,by omega⟩,by simp[Vl.size]⟩
  ·obtain⟨x,hx,hxs⟩:=xj ha
   obtain⟨y,hy,hys⟩:=xj hb;exact⟨.p x y,by simp only[gP];exact⟨hc,i,c,hv,hi,hx,hy⟩,by simp only[Vl.size,Ty.size];omega⟩
structure Sm (fuel:Nat) (st:cu) (m:MM):Prop where
 e:st.e=0
 f:m.fault=0
 s:m.steps=st.steps
 le:st.steps<=fuel
 c:m.cells.length=st.cells
 r:m.regs=[⟨-1,0,st.cells⟩]
 l:m.live=st.cells
 o:m.most=st.cells
 h:∀ c∈m.cells,c.home=0/\c.gO=0
def Lg (st:cu) (m:MM):Prop:=st.e=12/\m.fault=12
def ER (named:List MV) (cells:List MC) (sc:Sc) (env:ep) (G:aV) (base:Nat):Prop:=∀ s T,look G s=some T->∃ (i:Nat) (v:MV),cE sc s=(i:Int)/\i<base/\named[i]?=some v/\gP cells (oK env s) v/\(oK env s).has T
theorem ER.ef {named:List MV} {cells:List MC} {sc:Sc} {env:ep} {G:aV} {base:Nat} (h:ER named cells sc env G base):EF named cells sc G base:=by
 intro s T hl;obtain⟨i,v,h1,h2,h3,h4,h5⟩:=h s T hl;exact⟨i,v,h1,h2,h3,h4.fits h5⟩
theorem ER.on {m m':MM} {sc:Sc} {env:ep} {G:aV} {base b c:Nat} (h:ER m.named m.cells sc env G base) (he:Ext m m' b c) (hb:base<=b):ER m'.named m'.cells sc env G base:=by
 intro s T hl;obtain⟨i,v,h1,h2,h3,h4,h5⟩:=h s T hl;exact⟨i,v,h1,h2,(he.named i (Or.inl (by omega))).trans h3,h4.on he,h5⟩
theorem ER.up {named:List MV} {cells:List MC} {sc:Sc} {env:ep} {G:aV} {base b:Nat} (h:ER named cells sc env G base) (hb:base<=b):ER named cells sc env G b:=by
 intro s T hl;obtain⟨i,v,h1,h2,h3,h4,h5⟩:=h s T hl;exact⟨i,v,h1,by omega,h3,h4,h5⟩
theorem yM (env:ep) (nm:List UInt8) (x:Vl) (s:List UInt8):oK (env++[(nm,x)]) s=if nm=s then x else oK env s:=by
 unfold oK;rw[List.reverse_append];simp only[List.reverse_cons,List.reverse_nil,List.nil_append,List.singleton_append,List.find?_cons]
 by_cases h:nm=s
 ·simp[h]
 ·have:(nm==s)=false:=by rw[beq_eq_false_iff_ne];exact h
  simp[h,this]
theorem ER.snoc {m:MM} {sc:Sc} {env:ep} {G:aV} {base j:Nat} {nm:List UInt8} {T:Ty} {x:Vl} {v:MV} (h:ER m.named m.cells sc env G base) (hj:base<=j) (hl:j<m.named.length) (hv:gP m.cells x v) (hx:x.has T):ER (m.name (j:Int) v).named (m.name (j:Int) v).cells (sc++[(nm,(j:Int))]) (env++[(nm,x)]) (G++[(nm,T)]) (j+1):=by
 have he:=dQ m j v j 1 (by omega);intro s T' hlk;rw[sU] at hlk;rw[yK,yM]
 by_cases hs:nm=s
 ·rw[if_pos hs] at hlk ⊢
  rw[if_pos hs]
  cases hlk
  exact⟨j,v,rfl,by omega,CG m j v hl,hv.on he,hx⟩
 ·rw[if_neg hs] at hlk ⊢
  rw[if_neg hs];obtain⟨i,u,h1,h2,h3,h4,h5⟩:=h s T' hlk;exact⟨i,u,h1,by omega,(he.named i (Or.inl (by omega))).trans h3,h4.on he,h5⟩
theorem Sm.name {fuel:Nat} {st:cu} {m:MM} (h:Sm fuel st m) (i:Int) (v:MV):Sm fuel st (m.name i v):=by
 unfold MM.name;split
 ·exact⟨h.e,h.f,h.s,h.le,h.c,h.r,h.l,h.o,h.h⟩
 ·exact h
theorem vD (m:MM) (f:Nat) (h:m.fault≠0):m.stop f=m:=by unfold MM.stop;rw[if_neg h]
theorem j3 (fuel:Nat) (m:MM) (f:MM->MV × MM) (h:m.fault≠0):bn fuel m f=(v0,m):=by
 unfold bn
 have:(if fuel<=m.steps then m.stop 12 else m)=m:=by split <;> simp[vD m 12 h]
 simp only[this];rw[if_pos h]
theorem Rp (fuel:Nat) (t:PT) (env:ep) (st:cu) (h:st.e≠0):ev fuel t env st=(.n 0,st):=by
 cases t <;> (simp only[ev,begun];rw[if_pos h])
inductive dC:PT->Prop
 | num {p:Nat} {s:List UInt8}:dC (.num p s)
 | name {p:Nat} {s:List UInt8}:dC (.name p s)
 | node {p:Nat} {k:Kw} {nm rg:List UInt8} {kids:List PT} (hk:k≠.new) (h:∀ x∈kids,dC x):dC (.node p k nm rg kids)
open Go.Lib (decDigits)
def qj (env:ep) (G:aV):Prop:=∀ s T,look G s=some T->(oK env s).has T
theorem qj.snoc {env:ep} {G:aV} {nm:List UInt8} {v:Vl} {T:Ty} (h:qj env G) (hv:v.has T):qj (env++[(nm,v)]) (G++[(nm,T)]):=by
 intro s U hs;rw[Lh] at hs;rw[yM]
 by_cases e:nm=s
 ·rw[if_pos (by simpa using e)] at hs;rw[if_pos e];cases hs;exact hv
 ·rw[if_neg (by simpa using e)] at hs;rw[if_neg e];exact h s U hs
def VO (T:Ty) (st:cu) (r:Vl × cu):Prop:=(r.2.e=0->st.e=0/\r.1.has T)/\(r.2.e≠0->r.1=.n 0)
theorem gE {fuel:Nat} {st:cu} {T:Ty} {f:cu->Vl × cu} (h:∀ st':cu,st'.e=0->st.e=0->VO T st' (f st')):VO T st (begun fuel st f):=by
 unfold begun
 split
 ·rename_i he;exact⟨λe=>absurd e he,λ_=>rfl⟩
 ·rename_i he
  have h0:st.e=0:=by simpa using he
  split
  ·exact⟨λe=>by simp at e,λ_=>rfl⟩
  ·have:=h { st with steps:=st.steps+1 } h0 h0
   exact⟨λe=>⟨h0,(this.1 e).2⟩,this.2⟩
theorem Bs {T:Ty} {f:Vl->cu->Vl × cu} (hf:∀ v st,(st.e=0->v.has T)->VO T st (f v st)):∀ (k:Nat) (v:Vl) (st:cu),(st.e=0->v.has T)->(st.e≠0->v=.n 0)->VO T st (turns f k v st)
 | 0,v,st,h1,h2=>⟨λe=>⟨e,h1 e⟩,h2⟩
 | k+1,v,st,h1,h2=>by
  unfold turns
  split
  ·rename_i he;exact⟨λe=>absurd e he,h2⟩
  ·rename_i he
   have h0:st.e=0:=by simpa using he
   have hx:=hf v st h1;have:=Bs hf k (f v st).1 (f v st).2 (λe=>(hx.1 e).2) hx.2;exact⟨λe=>⟨h0,(this.1 e).2⟩,this.2⟩
theorem oz {v:Vl} (h:v.has .n):∃ k,v=.n k/\k<=9999:=by
 cases v with
 | n k=>exact⟨k,rfl,h⟩
 | p a b=>simp[Vl.has] at h
theorem dC.NZ {p:Nat} {k:Kw} {nm rg:List UInt8} {kids:List PT} (h:dC (.node p k nm rg kids)):∀ x∈kids,dC x:=by cases h with | node _ h=>exact h
theorem dC.kw {p:Nat} {k:Kw} {nm rg:List UInt8} {kids:List PT} (h:dC (.node p k nm rg kids)):k≠.new:=by cases h with | node h _=>exact h
def sV (fuel:Nat) (k:Kw) (kids:List PT) (env:ep) (st:cu):Vl × cu :=
 if (bM fuel kids env st).2.e≠0 then (.n 0,(bM fuel kids env st).2) else cT k (bM fuel kids env st).1 (bM fuel kids env st).2
theorem CI (fuel:Nat) (k:Kw) (x:PT) (env:ep) (st:cu):sV fuel k [x] env st=if (ev fuel x env st).2.e≠0 then (.n 0,(ev fuel x env st).2) else cT k [(ev fuel x env st).1] (ev fuel x env st).2:=by
 unfold sV;simp only[bM];rfl
theorem CJ (fuel:Nat) (k:Kw) (x y:PT) (env:ep) (st:cu):sV fuel k [x,y] env st=if (ev fuel y env (ev fuel x env st).2).2.e≠0 then (.n 0,(ev fuel y env (ev fuel x env st).2).2) else cT k [(ev fuel x env st).1,(ev fuel y env (ev fuel x env st).2).1] (ev fuel y env (ev fuel x env st).2).2:=by
 unfold sV;simp only[bM];rfl
theorem nI (fuel p:Nat) (k:Kw) (nm rg:List UInt8) (kids:List PT) (env:ep) (st:cu) (h1:k≠.aP) (h2:k≠.di) (h3:k≠.loop):ev fuel (.node p k nm rg kids) env st=begun fuel st (λst=>sV fuel k kids env st):=by
 conv=>lhs;unfold ev
 simp only[if_neg h1,if_neg h2,if_neg h3];rfl
theorem VP (fuel:Nat) {G:aV} {t:PT} {T:Ty} (h:WT G t T):∀ (env:ep) (st:cu),t.bQ->dC t->(st.e=0->qj env G)->VO T st (ev fuel t env st):=by
 induction h with
 | num =>
  intro env st ht hn he;simp only[PT.bQ] at ht;unfold ev;exact gE (λst' h0 _=>⟨λ_=>⟨h0,by simp only[Vl.has];omega⟩,λe=>absurd h0 e⟩)
 | name hl =>
  intro env st ht hn he;unfold ev;exact gE (λst' h0 hs=>⟨λ_=>⟨h0,he hs _ _ hl⟩,λe=>absurd h0 e⟩)
 | @aP G p nm rg a b A B ha hb aF bu =>
  intro env st ht hn he;simp only[PT.bQ,bH] at ht;unfold ev;refine gE (λst' h0 hs=>?_);simp only[if_pos,gM];have x:=aF env st' ht.2.1 (hn.NZ _ (by simp)) (λ_=>he hs);have y:=bu (env++[(nm,(ev fuel a env st').1)]) (ev fuel a env st').2 ht.2.2.1 (hn.NZ _ (by simp)) (λe=>(he (by have:=(x.1 e).1;exact hs)).snoc (x.1 e).2);exact⟨λe=>⟨h0,(y.1 e).2⟩,y.2⟩
 | @pair G p nm rg a b A B ha hb hsz aF bu =>
  intro env st ht hn he;simp only[PT.bQ,bH] at ht;rw[nI _ _ _ _ _ _ _ _ (by decide) (by decide) (by decide)];refine gE (λst' h0 hs=>?_);have x:=aF env st' ht.2.1 (hn.NZ _ (by simp)) (λ_=>he hs);have y:=bu env (ev fuel a env st').2 ht.2.2.1 (hn.NZ _ (by simp)) (λ_=>he hs);rw[CJ]
  split
  ·rename_i e1;exact⟨λe=>absurd e e1,λ_=>rfl⟩
  ·rename_i e1
   have e0:(ev fuel b env (ev fuel a env st').2).2.e=0:=by simpa using e1
   have y0:=y.1 e0;refine⟨λ_=>⟨h0,?_⟩,λe=>absurd e0 e⟩;simp only[cT,Vl.has];exact⟨(x.1 y0.1).2,y0.2⟩
 | @fst G p nm rg a A B ha aF =>
  intro env st ht hn he;simp only[PT.bQ,bH] at ht;rw[nI _ _ _ _ _ _ _ _ (by decide) (by decide) (by decide)];refine gE (λst' h0 hs=>?_);have x:=aF env st' ht.2.1 (hn.NZ _ (by simp)) (λ_=>he hs);rw[CI]
  split
  ·rename_i e1;exact⟨λe=>absurd e e1,λ_=>rfl⟩
  ·rename_i e1
   have e0:(ev fuel a env st').2.e=0:=by simpa using e1
   have x0:=(x.1 e0).2;refine⟨λ_=>⟨h0,?_⟩,λe=>absurd e0 e⟩;simp only[cT]
   revert x0
   generalize (ev fuel a env st').1=v;intro x0
   cases v with
   | n k=>simp[Vl.has] at x0
   | p u v=>simp only[Vl.has] at x0;exact x0.1
 | @snd G p nm rg a A B ha aF =>
  intro env st ht hn he;simp only[PT.bQ,bH] at ht;rw[nI _ _ _ _ _ _ _ _ (by decide) (by decide) (by decide)];refine gE (λst' h0 hs=>?_);have x:=aF env st' ht.2.1 (hn.NZ _ (by simp)) (λ_=>he hs);rw[CI]
  split
  ·rename_i e1;exact⟨λe=>absurd e e1,λ_=>rfl⟩
  ·rename_i e1
   have e0:(ev fuel a env st').2.e=0:=by simpa using e1
   have x0:=(x.1 e0).2;refine⟨λ_=>⟨h0,?_⟩,λe=>absurd e0 e⟩;simp only[cT]
   revert x0
   generalize (ev fuel a env st').1=v;intro x0
   cases v with
   | n k=>simp[Vl.has] at x0
   | p u v=>simp only[Vl.has] at x0;exact x0.2
 | @di G p nm rg a b c T ha hb hc aF bu fe =>
  intro env st ht hn he;simp only[PT.bQ,bH] at ht;unfold ev;refine gE (λst' h0 hs=>?_);simp only[reduceCtorEq,if_false,if_true,mw];have x:=aF env st' ht.2.1 (hn.NZ _ (by simp)) (λ_=>he hs)
  split
  ·have y:=bu env (ev fuel a env st').2 ht.2.2.1 (hn.NZ _ (by simp)) (λ_=>he hs)
   exact⟨λe=>⟨h0,(y.1 e).2⟩,y.2⟩
  ·have y:=fe env (ev fuel a env st').2 ht.2.2.2.1 (hn.NZ _ (by simp)) (λ_=>he hs)
   exact⟨λe=>⟨h0,(y.1 e).2⟩,y.2⟩
 | @two G p k nm rg a b hk ha hb aF bu =>
  intro env st ht hn he;simp only[PT.bQ,bH] at ht
  have k1:k≠.aP:=by rcases hk with rfl | rfl | rfl <;> decide
  have k2:k≠.di:=by rcases hk with rfl | rfl | rfl <;> decide
  have k3:k≠.loop:=by rcases hk with rfl | rfl | rfl <;> decide
  rw[nI _ _ _ _ _ _ _ _ k1 k2 k3];refine gE (λst' h0 hs=>?_);rw[CJ]
  split
  ·rename_i e1;exact⟨λe=>absurd e e1,λ_=>rfl⟩
  ·rename_i e1
   have e0:(ev fuel b env (ev fuel a env st').2).2.e=0:=by simpa using e1
   rcases hk with rfl | rfl | rfl
   all_goals
    refine⟨λ_=>⟨h0,?_⟩,λe=>absurd e0 e⟩;simp only[cT,Vl.has]
    first | omega | (split <;> omega)
 | @loop G p nm rg a b c T ha hb hc aF bu fe =>
  intro env st ht hn he;simp only[PT.bQ,bH] at ht;unfold ev;refine gE (λst' h0 hs=>?_);simp only[reduceCtorEq,if_false,if_true,eu];have y:=bu env (ev fuel a env st').2 ht.2.2.1 (hn.NZ _ (by simp)) (λ_=>he hs);have z:=Bs (f:=λv st=>ev fuel c (env++[(nm,v)]) st) (λv st hv=>fe (env++[(nm,v)]) st ht.2.2.2.1 (hn.NZ _ (by simp)) (λe=>(he hs).snoc (hv e))) (ev fuel a env st').1.num (ev fuel b env (ev fuel a env st').2).1 (ev fuel b env (ev fuel a env st').2).2 (λe=>(y.1 e).2) y.2;exact⟨λe=>⟨h0,(z.1 e).2⟩,z.2⟩
 | new ha aF =>
  intro env st ht hn he;exact absurd rfl hn.kw
def jr (fuel:Nat) (st st':cu):Prop:=st.steps<=fuel->st'.steps<=fuel/\st'.cells+st.steps<=st.cells+st'.steps/\st.steps<=st'.steps
theorem jr.refl (fuel:Nat) (st:cu):jr fuel st st:=λh=>⟨h,by omega,by omega⟩
theorem jr.trans {fuel:Nat} {a b c:cu} (h:jr fuel a b) (h':jr fuel b c):jr fuel a c:=λh0=>by
 have h1:=h h0;have h2:=h' h1.1;exact⟨h2.1,by omega,by omega⟩
theorem sW {fuel:Nat} {st:cu} {f:cu->Vl × cu} (h:∀ st':cu,st'.steps=st.steps+1->st'.cells=st.cells->st'.steps<=fuel->(f st').2.steps<=fuel/\(f st').2.cells+st'.steps<=st'.cells+(f st').2.steps+1/\st'.steps<=(f st').2.steps):jr fuel st (begun fuel st f).2:=by
 unfold begun
 split
 ·exact jr.refl _ _
 ·split
  ·exact λh=>⟨h,by simp,by simp⟩
  ·rename_i hne
   intro h0;have:=h { st with steps:=st.steps+1 } rfl rfl (by simp only;omega);simp only at this ⊢;omega
theorem yN {fuel:Nat} {f:Vl->cu->Vl × cu} (hf:∀ v st,jr fuel st (f v st).2):∀ (k:Nat) (v:Vl) (st:cu),jr fuel st (turns f k v st).2
 | 0,_,st=>jr.refl _ _
 | k+1,v,st=>by
  unfold turns
  split
  ·exact jr.refl _ _
  ·exact (hf v st).trans (yN hf k _ _)
theorem Li (k:Kw) (vs:List Vl) (st:cu):(cT k vs st).2.steps=st.steps/\(cT k vs st).2.cells<=st.cells+1:=by
 unfold cT
 split <;> simp
mutual
theorem js (fuel:Nat):∀ (t:PT) (env:ep) (st:cu),jr fuel st (ev fuel t env st).2
 | .num _ s,env,st=>by
  unfold ev;exact sW (λst' _ _ h=>⟨h,by simp,Nat.le_refl _⟩)
 | .name _ s,env,st=>by
  unfold ev;exact sW (λst' _ _ h=>⟨h,by simp,Nat.le_refl _⟩)
 | .node _ k nm _ kids,env,st=>by
  unfold ev;refine sW (λst' _ _ h=>?_)
  split
  ·have:=H0 fuel nm kids env st' h;omega
  ·split
   ·have:=Lj fuel kids env st' h;omega
   ·split
    ·have:=Eu fuel nm kids env st' h;omega
    ·have:=wk fuel kids env st' h
     simp only
     split
     ·simp only;omega
     ·have:=Li k (bM fuel kids env st').1 (bM fuel kids env st').2
      omega
theorem wk (fuel:Nat):∀ (ts:List PT) (env:ep) (st:cu),jr fuel st (bM fuel ts env st).2
 | [],_,st=>by simp only[bM];exact jr.refl _ _
 | a::r,env,st=>by simp only[bM];exact (js fuel a env st).trans (wk fuel r env _)
theorem H0 (fuel:Nat) (nm:List UInt8):∀ (ts:List PT) (env:ep) (st:cu),jr fuel st (gM fuel nm ts env st).2
 | [a,b],env,st=>by simp only[gM];exact (js fuel a env st).trans (js fuel b _ _)
 | [],_,st=>by simp only[gM];exact jr.refl _ _
 | [_],_,st=>by simp only[gM];exact jr.refl _ _
 | _::_::_::_,_,st=>by simp only[gM];exact jr.refl _ _
theorem Lj (fuel:Nat):∀ (ts:List PT) (env:ep) (st:cu),jr fuel st (mw fuel ts env st).2
 | [a,b,c],env,st=>by
  simp only[mw]
  split
  ·exact (js fuel a env st).trans (js fuel b _ _)
  ·exact (js fuel a env st).trans (js fuel c _ _)
 | [],_,st=>by simp only[mw];exact jr.refl _ _
 | [_],_,st=>by simp only[mw];exact jr.refl _ _
 | [_,_],_,st=>by simp only[mw];exact jr.refl _ _
 | _::_::_::_::_,_,st=>by simp only[mw];exact jr.refl _ _
theorem Eu (fuel:Nat) (nm:List UInt8):∀ (ts:List PT) (env:ep) (st:cu),jr fuel st (eu fuel nm ts env st).2
 | [a,b,c],env,st=>by
  simp only[eu];exact ((js fuel a env st).trans (js fuel b _ _)).trans (yN (λv st=>js fuel c _ st) _ _ _)
 | [],_,st=>by simp only[eu];exact jr.refl _ _
 | [_],_,st=>by simp only[eu];exact jr.refl _ _
 | [_,_],_,st=>by simp only[eu];exact jr.refl _ _
 | _::_::_::_::_,_,st=>by simp only[eu];exact jr.refl _ _
end
end Go.Proofs.YtpicaknklgccoabGreatDoor
