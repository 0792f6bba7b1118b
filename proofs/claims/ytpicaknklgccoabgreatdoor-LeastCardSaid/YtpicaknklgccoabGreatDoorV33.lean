import Derived.Test.YtpicaknklgccoabGreatDoorV32
set_option maxHeartbeats 2000000
namespace Go.Proofs.YtpicaknklgccoabGreatDoor
theorem cG.step {m:MM} {n:Nat} {T:Ty} {v:MV} (h:cG m T v):cG { m with steps:=n } T v :=
 cG.on (m:=m) (m':={ m with steps:=n }) ⟨[],by simp⟩ (cg.of rfl) h
theorem gR.step {m:MM} {sc:Sc} {G:aV} {base n:Nat} (h:gR m sc G base):gR { m with steps:=n } sc G base:=λs U hl=>by
 obtain⟨i,v,h1,h2,h3,h4⟩:=h s U hl;exact⟨i,v,h1,h2,h3,h4.step⟩
theorem J3 (fuel:Nat) {G:aV} {t:PT} {T:Ty} (h:jE G t T):∀ (sc:Sc) (base:Nat) (m:MM),gR m sc G base->base+t.cnt<=m.named.length->m.fault=0->0<m.regs.length->BH m (mW fuel t sc base m) base t.cnt T:=by
 induction h with
 | num h =>
  intro sc base m he hl hf hr;simp only[mW];exact jv hf ⟨Ext.refl _ _ _,cg.refl _,Or.inr ⟨hf,by simp only[cG];exact⟨trivial,h.1,h.2⟩⟩⟩
 | name hlk =>
  intro sc base m he hl hf hr;simp only[mW];refine jv hf ⟨Ext.refl _ _ _,cg.refl _,Or.inr ⟨hf,?_⟩⟩;obtain⟨i,v,h1,h2,h3,h4⟩:=he _ _ hlk;have mG:=(List.getElem?_eq_some_iff.1 h3).1;unfold MM.look;simp only[h1];rw[if_neg (by omega),Int.toNat_natCast,List.getD_eq_getElem?_getD,h3];exact h4.step
 | @aP G p nm rg a b A B ha hb aF bu =>
  intro sc base m he hl hf hr;simp only[PT.cnt,ax,Nat.add_zero] at hl ⊢;simp only[mW,ud,if_true,reduceCtorEq,if_false];refine jv hf ?_;have h1:=aF sc base { m with steps:=m.steps+1 } he.step (by simp only;omega) hf hr;generalize mW fuel a sc base { m with steps:=m.steps+1 }=x at h1 ⊢;have XO:=cV a;have hxl:x.2.named.length=m.named.length:=h1.ext.len;rw[show (((base+a.cnt:Nat):Int)-1)=((base+a.cnt-1:Nat):Int) from by omega];have hne:=dQ x.2 (base+a.cnt-1) x.1 base (1+(a.cnt+b.cnt)) (by omega);have hE1:=Ext.trans (b:=base) (c:=1+(a.cnt+b.cnt)) h1.ext hne (by omega) (by omega);have Fg:=h1.same.trans (cg.of (lj x.2 (base+a.cnt-1:Nat) x.1))
  have h2:BH (x.2.name ((base+a.cnt-1:Nat):Int) x.1) (mW fuel b (sc++[(nm,((base+a.cnt-1:Nat):Int))]) (base+a.cnt) (x.2.name ((base+a.cnt-1:Nat):Int) x.1)) (base+a.cnt) b.cnt B:=by
   rcases h1.ok with h12 | ⟨h0,hv⟩
   ·exact BH.bad b _ _ (by rw[(iN _ _ _).1];exact h12) B
   ·have hx:=he.step.on h1.ext h1.same (Nat.le_refl _)
    have iV:=hx.snoc (nm:=nm) (j:=base+a.cnt-1) (by omega) (by omega) hv;rw[show base+a.cnt-1+1=base+a.cnt from by omega] at iV;exact bu _ _ _ iV (by rw[hne.len,hxl];omega) (by rw[(iN _ _ _).1];exact h0) (by rw[lj,h1.same.len];exact hr)
  exact⟨Ext.trans (b:=base) (c:=1+(a.cnt+b.cnt)) hE1 h2.ext (by omega) (by omega),Fg.trans h2.same,h2.ok⟩
 | @pair G p nm rg a b A B r hrg ha hb aF bu =>
  intro sc base m he hl hf hr;simp only[PT.cnt,ax,Nat.add_zero] at hl ⊢;simp only[mW,gu,if_true,reduceCtorEq,if_false];refine jv hf ?_;have Fh:gR { m with steps:=m.steps+1 } sc G base:=he.step;have h1:=aF sc base { m with steps:=m.steps+1 } Fh (by simp only;omega) hf hr;generalize mW fuel a sc base { m with steps:=m.steps+1 }=x at h1 ⊢;have hxl:x.2.named.length=m.named.length:=h1.ext.len
  have h2:BH x.2 (mW fuel b sc (base+a.cnt) x.2) (base+a.cnt) b.cnt B:=by
   rcases h1.ok with h12 | ⟨h0,_⟩
   ·exact BH.bad b _ _ h12 B
   ·exact bu sc (base+a.cnt) x.2 ((Fh.on h1.ext h1.same (Nat.le_refl _)).up (by omega)) (by omega) h0 (by rw[h1.same.len];exact hr)
  have Z3:x.2.fault≠0->(mW fuel b sc (base+a.cnt) x.2).2.fault=x.2.fault:=BD fuel b sc (base+a.cnt) x.2;generalize mW fuel b sc (base+a.cnt) x.2=y at h2 Z3 ⊢;have hE:=Ext.trans (b:=base) (c:=1+(a.cnt+b.cnt)) h1.ext h2.ext (by omega) (by omega);have hS:=h1.same.trans h2.same;have hce:=ug y.2 (ak rg) x.1 y.1 base (1+(a.cnt+b.cnt))
  have hcs:cg y.2 (y.2.bb (ak rg) x.1 y.1).2:=by
   unfold cg MM.bb
   cases hg:y.2.regs[y.2.home (ak rg)]? with
   | none=>rfl
   | some g =>
    simp only[List.map_set];have hlt:=(List.getElem?_eq_some_iff.1 hg).1;have hge:=(List.getElem?_eq_some_iff.1 hg).2;rw[show CU { g with cells:=g.cells+1 }=(y.2.regs.map CU)[y.2.home (ak rg)]'(by simpa using hlt) by simp[CU,hge]];exact List.set_getElem_self _
  refine⟨Ext.trans (b:=base) (c:=1+(a.cnt+b.cnt)) hE hce (by omega) (by omega),hS.trans hcs,?_⟩;rw[fU]
  rcases h2.ok with h12 | ⟨h0,hv⟩
  ·exact Or.inl h12
  ·rcases h1.ok with g12 | ⟨g0,gv⟩
   ·rw[Z3 (by rw[g12];decide),g12] at h0;cases h0
   ·refine Or.inr ⟨h0,?_⟩
    rw[hrg];exact (Sd (by rw[hS.len];exact hr) (gv.on h2.ext.cells h2.same) hv).2
 | @fst G p nm rg a r A B ha aF =>
  intro sc base m he hl hf hr;simp only[PT.cnt,ax,Nat.add_zero] at hl ⊢;simp only[mW,gu,if_true,reduceCtorEq,if_false];refine jv hf ?_;have Fh:gR { m with steps:=m.steps+1 } sc G base:=he.step;have h1:=aF sc base { m with steps:=m.steps+1 } Fh (by simp only;omega) hf hr;generalize mW fuel a sc base { m with steps:=m.steps+1 }=x at h1 ⊢
  rcases h1.ok with h12 | ⟨h0,hv⟩
  ·rw[s9 _ _ (by rw[h12];decide)]
   exact⟨h1.ext.widen (by omega),h1.same,Or.inl h12⟩
  ·obtain⟨u1,u2,_⟩:=Iz hv
   rw[u1];exact⟨h1.ext.widen (by omega),h1.same,Or.inr ⟨h0,u2⟩⟩
 | @snd G p nm rg a r A B ha aF =>
  intro sc base m he hl hf hr;simp only[PT.cnt,ax,Nat.add_zero] at hl ⊢;simp only[mW,gu,reduceCtorEq,if_false];refine jv hf ?_;have Fh:gR { m with steps:=m.steps+1 } sc G base:=he.step;have h1:=aF sc base { m with steps:=m.steps+1 } Fh (by simp only;omega) hf hr;generalize mW fuel a sc base { m with steps:=m.steps+1 }=x at h1 ⊢
  rcases h1.ok with h12 | ⟨h0,hv⟩
  ·rw[s9 _ _ (by rw[h12];decide)]
   exact⟨h1.ext.widen (by omega),h1.same,Or.inl h12⟩
  ·obtain⟨u1,_,u3⟩:=Iz hv
   rw[u1];exact⟨h1.ext.widen (by omega),h1.same,Or.inr ⟨h0,u3⟩⟩
 | @di G p nm rg a b c T ha hb hc aF bu fe =>
  intro sc base m he hl hf hr;simp only[PT.cnt,ax,Nat.add_zero] at hl ⊢;simp only[mW,Hs,if_true,reduceCtorEq,if_false];refine jv hf ?_;have Fh:gR { m with steps:=m.steps+1 } sc G base:=he.step;have h1:=aF sc base { m with steps:=m.steps+1 } Fh (by simp only;omega) hf hr;generalize mW fuel a sc base { m with steps:=m.steps+1 }=x at h1 ⊢;have hxl:x.2.named.length=m.named.length:=h1.ext.len;have hx:=Fh.on h1.ext h1.same (Nat.le_refl _)
  split
  ·have h2:BH x.2 (mW fuel b sc (base+a.cnt) x.2) (base+a.cnt) b.cnt T:=by
    rcases h1.ok with h12 | ⟨h0,_⟩
    ·exact BH.bad b _ _ h12 T
    ·exact bu sc (base+a.cnt) x.2 (hx.up (by omega)) (by omega) h0 (by rw[h1.same.len];exact hr)
   exact⟨Ext.trans (b:=base) (c:=1+(a.cnt+(b.cnt+c.cnt))) h1.ext h2.ext (by omega) (by omega),h1.same.trans h2.same,h2.ok⟩
  ·have h2:BH x.2 (mW fuel c sc (base+a.cnt+b.cnt) x.2) (base+a.cnt+b.cnt) c.cnt T:=by
    rcases h1.ok with h12 | ⟨h0,_⟩
    ·exact BH.bad c _ _ h12 T
    ·exact fe sc (base+a.cnt+b.cnt) x.2 (hx.up (by omega)) (by omega) h0 (by rw[h1.same.len];exact hr)
   exact⟨Ext.trans (b:=base) (c:=1+(a.cnt+(b.cnt+c.cnt))) h1.ext h2.ext (by omega) (by omega),h1.same.trans h2.same,h2.ok⟩
 | @two G p k nm rg a b hkk ha hb aF bu =>
  intro sc base m he hl hf hr;simp only[PT.cnt,ax,Nat.add_zero] at hl ⊢
  have e:mW fuel (.node p k nm rg [a,b]) sc base m=bn fuel m (λm=>(⟨false,iM k (mW fuel a sc base m).1.n (mW fuel b sc (base+a.cnt) (mW fuel a sc base m).2).1.n⟩,(mW fuel b sc (base+a.cnt) (mW fuel a sc base m).2).2)):=by
   rcases hkk with rfl | rfl | rfl <;> simp only[mW,gu,reduceCtorEq,if_false]
  rw[e];refine jv hf ?_;have Fh:gR { m with steps:=m.steps+1 } sc G base:=he.step;have h1:=aF sc base { m with steps:=m.steps+1 } Fh (by simp only;omega) hf hr;generalize mW fuel a sc base { m with steps:=m.steps+1 }=x at h1 ⊢;have hxl:x.2.named.length=m.named.length:=h1.ext.len
  have h2:BH x.2 (mW fuel b sc (base+a.cnt) x.2) (base+a.cnt) b.cnt .n:=by
   rcases h1.ok with h12 | ⟨h0,_⟩
   ·exact BH.bad b _ _ h12 .n
   ·exact bu sc (base+a.cnt) x.2 ((Fh.on h1.ext h1.same (Nat.le_refl _)).up (by omega)) (by omega) h0 (by rw[h1.same.len];exact hr)
  have Z3:x.2.fault≠0->(mW fuel b sc (base+a.cnt) x.2).2.fault=x.2.fault:=BD fuel b sc (base+a.cnt) x.2;generalize mW fuel b sc (base+a.cnt) x.2=y at h2 Z3 ⊢;refine⟨Ext.trans (b:=base) (c:=1+(a.cnt+b.cnt)) h1.ext h2.ext (by omega) (by omega),h1.same.trans h2.same,?_⟩
  rcases h2.ok with h12 | ⟨h0,hv⟩
  ·exact Or.inl h12
  ·rcases h1.ok with g12 | ⟨g0,gv⟩
   ·rw[Z3 (by rw[g12];decide),g12] at h0;cases h0
   ·refine Or.inr ⟨h0,?_⟩
    simp only[cG] at gv hv ⊢;refine⟨trivial,?_⟩
    rcases hkk with rfl | rfl | rfl
    ·simp only[iM,if_true]
     rw[Int.tmod_eq_emod_of_nonneg (by omega)];omega
    ·simp only[iM,if_true,reduceCtorEq,if_false]
     rw[Int.tmod_eq_emod_of_nonneg (by omega)];omega
    ·simp only[iM,reduceCtorEq,if_false]
     split <;> omega
 | @loop G p nm rg a b c T ha hb hc aF bu fe =>
  intro sc base m he hl hf hr;simp only[PT.cnt,ax,Nat.add_zero] at hl ⊢;simp only[mW,lT,if_true,reduceCtorEq,if_false];refine jv hf ?_;have Fh:gR { m with steps:=m.steps+1 } sc G base:=he.step;have h1:=aF sc base { m with steps:=m.steps+1 } Fh (by simp only;omega) hf hr;generalize mW fuel a sc base { m with steps:=m.steps+1 }=x at h1 ⊢;have hxl:x.2.named.length=m.named.length:=h1.ext.len;have hx:=Fh.on h1.ext h1.same (Nat.le_refl _)
  have h2:BH x.2 (mW fuel b sc (base+a.cnt) x.2) (base+a.cnt) b.cnt T:=by
   rcases h1.ok with h12 | ⟨h0,_⟩
   ·exact BH.bad b _ _ h12 T
   ·exact bu sc (base+a.cnt) x.2 (hx.up (by omega)) (by omega) h0 (by rw[h1.same.len];exact hr)
  generalize mW fuel b sc (base+a.cnt) x.2=y at h2 ⊢;have nV:y.2.named.length=m.named.length:=h2.ext.len.trans hxl;have hy:=(hx.up (show base<=base+a.cnt by omega)).on h2.ext h2.same (Nat.le_refl _);have hy0:=hx.on h2.ext h2.same (show base<=base+a.cnt by omega);have Al:=cV b;have hS:=h1.same.trans h2.same;have hE:=Ext.trans (b:=base) (c:=1+(a.cnt+(b.cnt+c.cnt))) h1.ext h2.ext (by omega) (by omega);rw[show (((base+a.cnt+b.cnt:Nat):Int)-1)=((base+a.cnt+b.cnt-1:Nat):Int) from by omega]
  rcases h2.ok with h12 | ⟨h0,hv⟩
  ·rw[BI _ _ _ _ _ (by rw[h12];decide)]
   exact⟨hE,hS,Or.inl h12⟩
  ·have h3:=Ff (T:=T) (j:=base+a.cnt+b.cnt-1) (B:=base) (C:=1+(a.cnt+(b.cnt+c.cnt))) (g:=λm=>mW fuel c (sc++[(nm,((base+a.cnt+b.cnt-1:Nat):Int))]) (base+a.cnt+b.cnt) m) (P:=λm'=>gR m' sc G base/\m'.named.length=m.named.length/\0<m'.regs.length) (by omega) (λm' v hP hf' hv'=>by
    have iV:=gR.snoc (nm:=nm) (j:=base+a.cnt+b.cnt-1) (hP.1.up (show base<=base+a.cnt+b.cnt-1 by omega)) (Nat.le_refl _) (by omega) hv';rw[show base+a.cnt+b.cnt-1+1=base+a.cnt+b.cnt from by omega] at iV;have hne:=dQ m' (base+a.cnt+b.cnt-1) v (base+a.cnt+b.cnt-1) 1 (by omega);have hns:cg m' (m'.name ((base+a.cnt+b.cnt-1:Nat):Int) v):=cg.of (lj m' _ v);have h4:=fe _ (base+a.cnt+b.cnt) _ iV (by rw[hne.len];omega) (by rw[(iN _ _ _).1];exact hf') (by rw[lj];exact hP.2.2);refine⟨⟨h4.ext.widen (by omega),h4.same,h4.ok⟩,(hP.1.on hne hns (by omega)).on h4.ext h4.same (by omega),h4.ext.len.trans (hne.len.trans hP.2.1),?_⟩
    rw[h4.same.len,lj];exact hP.2.2) x.1.n.toNat y.2 y.1 ⟨hy0,nV,by rw[hS.len];exact hr⟩ h0 hv
   exact⟨Ext.trans (b:=base) (c:=1+(a.cnt+(b.cnt+c.cnt))) hE h3.ext (by omega) (by omega),hS.trans h3.same,h3.ok⟩
 | @new G p nm rg a T ha hm aF =>
  intro sc base m he hl hf hr;simp only[PT.cnt,ax,Nat.add_zero] at hl ⊢;simp only[mW,rL,if_true];have hoe:Ext m (m.opn (ak rg)) base (1+a.cnt):=Ext.same (m:=m) (m':=m.opn (ak rg)) rfl rfl _ _
  have heo:gR (m.opn (ak rg)) sc G base:=by
   intro s U hlk;obtain⟨i,v,h1,h2,h3,h4⟩:=he s U hlk;exact⟨i,v,h1,h2,h3,h4.opn _⟩
  have h1:=aF sc base (m.opn (ak rg)) heo (by simp only[MM.opn];omega) hf (by simp[MM.opn]);generalize mW fuel a sc base (m.opn (ak rg))=x at h1 ⊢;have hE:=Ext.trans (b:=base) (c:=1+a.cnt) hoe h1.ext (by omega) (by omega);refine⟨Ext.trans (b:=base) (c:=1+a.cnt) hE (CH _ base (1+a.cnt)) (by omega) (by omega),h1.same.new,?_⟩;rw[(lE x.2).1]
  rcases h1.ok with h12 | ⟨h0,hv⟩
  ·exact Or.inl h12
  ·exact Or.inr ⟨h0,hv.fin hr h1.same hm⟩
theorem Fj:∀ (ns:List NR) (T:List Ty),(oV T ns).1=0->oV T ns=(0,0)
 | [],_,_=>rfl
 | n::r,T,h=>by
  simp only[oV] at h ⊢
  split at h
  ·rename_i h1;exact absurd h h1
  ·rename_i h1;rw[if_neg h1];exact Fj r _ h
theorem dq {a b:List NR} {T:List Ty} (h:oV T (a++b)=(0,0)):oV T a=(0,0)/\oV (aU T a) b=(0,0):=by
 rw[tO] at h
 split at h
 ·rename_i h1;rw[h] at h1;exact absurd rfl h1
 ·rename_i h1
  exact⟨Fj a T (by simpa using h1),h⟩
theorem zJ {T:List Ty} {n:NR} (h:oV T [n]=(0,0)):uP (T++[cH T n]) n=0:=by
 simp only[oV] at h
 split at h
 ·rename_i h1
  have:=congrArg Prod.fst h;exact this
 ·rename_i h1;simpa using h1
def IA (G GR:aV) (sc:Sc) (T:List Ty):Prop:=∀ s U,look G s=some U->∃ (UR:Ty) (i:Nat),look GR s=some UR/\UR.bare=U/\cE sc s=(i:Int)/\T[i]?=some UR
theorem IA.more {G GR:aV} {sc:Sc} {T:List Ty} (h:IA G GR sc T) (X:List Ty):IA G GR sc (T++X):=λs U hs=>by
 obtain⟨UR,i,h1,h2,h3,h4⟩:=h s U hs;exact⟨UR,i,h1,h2,h3,by rw[List.getElem?_append_left (List.getElem?_eq_some_iff.1 h4).1];exact h4⟩
theorem IA.snoc {G GR:aV} {sc:Sc} {T A:List Ty} {nm:List UInt8} {U UR:Ty} {c:Nat} (h:IA G GR sc T) (hc:c=A.length+1) (hu:UR.bare=U):IA (G++[(nm,U)]) (GR++[(nm,UR)]) (sc++[(nm,((T.length+c:Nat):Int)-1)]) (T++(A++[UR])):=λs V hs=>by
 rw[fw] at hs;rw[iT,fw]
 by_cases e:nm=s
 ·rw[if_pos e] at hs
  rw[if_pos e,if_pos e];simp only[Option.some.injEq] at hs;subst hs;refine⟨UR,T.length+A.length,rfl,hu,by omega,?_⟩;rw[List.getElem?_append_right (by omega),Nat.add_sub_cancel_left,List.getElem?_append_right (by omega),Nat.sub_self];rfl
 ·rw[if_neg e] at hs
  rw[if_neg e,if_neg e];exact h.more _ s V hs
theorem O5 {T:List Ty} {ks:List NR} {A:List Ty} (n:NR) (hr:aU T ks=T++A):aU T (ks++[n])=T++(A++[cH (T++A) n]):=by
 rw[eA,hr];simp only[aU,List.append_assoc]
def Z4 (GR:aV) (e:PT) (U:Ty) (T:List Ty) (ns:List NR):Prop:=∃ A U',A.length+1=e.cnt/\aU T ns=T++(A++[U'])/\U'.bare=U/\jE GR e U'
theorem iU {GR:aV} {e:PT} {U:Ty} {T:List Ty} {ks:List NR} {A:List Ty} (n:NR) (U':Ty) (hr:aU T ks=T++A) (hc:A.length+1=e.cnt) (hU:cH (T++A) n=U') (hb:U'.bare=U) (hw:jE GR e U'):Z4 GR e U T (ks++[n]) :=
 ⟨A,U',hc,by rw[O5 _ hr,hU],hb,hw⟩
theorem WT.wtr {G:aV} {e:PT} {U:Ty} (h:WT G e U):∀ (GR:aV) (sc:Sc) (T:List Ty) (ns:List NR),NA sc e T.length ns->IA G GR sc T->e.iE->e.rK->oV T ns=(0,0)->Z4 GR e U T ns:=by
 induction h with
 | num =>
  intro GR sc T ns aO _ hd _ hp;simp only[NA] at aO;subst aO;simp only[PT.iE] at hd;refine⟨[],.n,rfl,?_,rfl,.num hd⟩;simp[aU,cH]
 | name hs =>
  intro GR sc T ns aO hE _ _ hp;simp only[NA] at aO;subst aO;obtain⟨UR,i,h1,h2,h3,h4⟩:=hE _ _ hs;refine⟨[],UR,rfl,?_,h2,.name h1⟩;have hk:=sP [] h4;rw[List.append_nil] at hk;simp only[aU,cH,if_true,h3,hk,List.nil_append]
 | @aP G p nm rg a b UA UB ha hb aF bu =>
  intro GR sc T ns aO hE hd h3 hp;simp only[PT.iE,cJ] at hd;simp only[PT.rK,n9] at h3;simp only[NA,bU,cK,Bool.false_eq_true,if_false,if_true] at aO;obtain⟨ks,aL,⟨a1,c1,ct,⟨a2,c2,eZ,⟨_,rfl⟩,rfl⟩,rfl⟩,rfl⟩:=aO;rw[List.append_nil] at hp ⊢;obtain⟨fk,oU⟩:=dq hp;obtain⟨DJ,mQ⟩:=dq fk;obtain⟨A,U1,hA,hr1,hb1,hw1⟩:=aF GR sc T a1 ct hE hd.2.1 h3.2.1 DJ;rw[hr1] at mQ
  have hl1:(T++(A++[U1])).length=T.length+a.cnt:=by rw[List.length_append,List.length_append,List.length_singleton,hA]
  obtain⟨B,U2,hB,dV,hb2,hw2⟩:=bu _ _ (T++(A++[U1])) a2 (by rw[hl1];exact eZ) (hE.snoc hA.symm hb1) hd.2.2.1 h3.2.2.1 mQ
  have E6:aU T (a1++a2)=T++((A++[U1])++(B++[U2])):=by rw[eA,hr1,dV,List.append_assoc]
  have hk:=XW T A B [] U1 U2 _ _ hA hB;rw[List.append_nil] at hk
  have hcn:((A++[U1])++(B++[U2])).length+1=1+(a.cnt+(b.cnt+0)):=by simp only[List.length_append,List.length_singleton];omega
  refine iU _ U2 E6 hcn ?_ hb2 (.aP hw1 hw2);simp only[cH,mX,az,List.getD_cons_succ,List.getD_cons_zero];simp only[Nat.reduceEqDiff,if_false,if_true];exact hk.2
 | @pair G p nm rg a b UA UB ha hb hsz aF bu =>
  intro GR sc T ns aO hE hd h3 hp;simp only[PT.iE,cJ] at hd;simp only[PT.rK,n9] at h3;simp only[NA,bU,cK,Bool.false_eq_true,if_false] at aO;obtain⟨ks,aL,⟨a1,c1,ct,⟨a2,c2,eZ,⟨_,rfl⟩,rfl⟩,rfl⟩,rfl⟩:=aO;rw[List.append_nil] at hp ⊢;obtain⟨fk,oU⟩:=dq hp;obtain⟨DJ,mQ⟩:=dq fk;obtain⟨A,U1,hA,hr1,hb1,hw1⟩:=aF GR sc T a1 ct hE hd.2.1 h3.2.1 DJ;rw[hr1] at mQ
  have hl1:(T++(A++[U1])).length=T.length+a.cnt:=by rw[List.length_append,List.length_append,List.length_singleton,hA]
  obtain⟨B,U2,hB,dV,hb2,hw2⟩:=bu GR sc (T++(A++[U1])) a2 (by rw[hl1];exact eZ) (hE.more _) hd.2.2.1 h3.2.2.1 mQ
  have E6:aU T (a1++a2)=T++((A++[U1])++(B++[U2])):=by rw[eA,hr1,dV,List.append_assoc]
  have hk:=XW T A B [] U1 U2 _ _ hA hB;rw[List.append_nil] at hk
  have hcn:((A++[U1])++(B++[U2])).length+1=1+(a.cnt+(b.cnt+0)):=by simp only[List.length_append,List.length_singleton];omega
  have pz:ak rg=((ak rg).toNat:Int):=by have:=h3.1;omega
  refine iU _ (.p (ak rg).toNat U1 U2) E6 hcn ?_ ?_ (.pair pz hw1 hw2)
  ·simp only[cH,mI,az,List.getD_cons_succ,List.getD_cons_zero]
   simp only[Nat.reduceEqDiff,if_false,if_true];rw[hk.1,hk.2]
  ·simp only[Ty.bare,hb1,hb2]
 | @fst G p nm rg a UA UB ha aF =>
  intro GR sc T ns aO hE hd h3 hp;simp only[PT.iE,cJ] at hd;simp only[PT.rK,n9] at h3;simp only[NA,bU,cK,Bool.false_eq_true,if_false] at aO;obtain⟨ks,aL,⟨a1,c1,ct,⟨_,rfl⟩,rfl⟩,rfl⟩:=aO;rw[List.append_nil] at hp ⊢;obtain⟨fk,oU⟩:=dq hp;obtain⟨A,U1,hA,hr1,hb1,hw1⟩:=aF GR sc T a1 ct hE hd.2.1 h3.2.1 fk
  have hk:=λX=>gy T A X U1 _ hA.symm
  have ko:=hk [];rw[List.append_nil] at ko
  have hcn:(A++[U1]).length+1=1+(a.cnt+0):=by simp only[List.length_append,List.length_singleton];omega
  obtain⟨r,u,v,rfl,hu,hv⟩:=iR hb1;refine iU _ u hr1 hcn ?_ hu (.fst hw1);simp only[cH,mY,az,List.getD_cons_zero];simp only[Nat.reduceEqDiff,if_false,if_true];rw[ko];rfl
 | @snd G p nm rg a UA UB ha aF =>
  intro GR sc T ns aO hE hd h3 hp;simp only[PT.iE,cJ] at hd;simp only[PT.rK,n9] at h3;simp only[NA,bU,cK,Bool.false_eq_true,if_false] at aO;obtain⟨ks,aL,⟨a1,c1,ct,⟨_,rfl⟩,rfl⟩,rfl⟩:=aO;rw[List.append_nil] at hp ⊢;obtain⟨fk,oU⟩:=dq hp;obtain⟨A,U1,hA,hr1,hb1,hw1⟩:=aF GR sc T a1 ct hE hd.2.1 h3.2.1 fk
  have hk:=λX=>gy T A X U1 _ hA.symm
  have ko:=hk [];rw[List.append_nil] at ko
  have hcn:(A++[U1]).length+1=1+(a.cnt+0):=by simp only[List.length_append,List.length_singleton];omega
  obtain⟨r,u,v,rfl,hu,hv⟩:=iR hb1;refine iU _ v hr1 hcn ?_ hv (.snd hw1);simp only[cH,mZ,az,List.getD_cons_zero];simp only[Nat.reduceEqDiff,if_false,if_true];rw[ko];rfl
 | @di G p nm rg a b c U ha hb hc aF bu fe =>
  intro GR sc T ns aO hE hd h3 hp;simp only[PT.iE,cJ] at hd;simp only[PT.rK,n9] at h3;simp only[NA,bU,cK,Bool.false_eq_true,if_false] at aO;obtain⟨ks,aL,⟨a1,c1,ct,⟨a2,c2,eZ,⟨a3,c3,uy,⟨_,rfl⟩,rfl⟩,rfl⟩,rfl⟩,rfl⟩:=aO;rw[List.append_nil] at hp ⊢;obtain⟨fk,oU⟩:=dq hp;obtain⟨DJ,O6⟩:=dq fk;obtain⟨A,U1,hA,hr1,hb1,hw1⟩:=aF GR sc T a1 ct hE hd.2.1 h3.2.1 DJ;rw[hr1] at O6;obtain⟨mQ,Um⟩:=dq O6
  have hl1:(T++(A++[U1])).length=T.length+a.cnt:=by rw[List.length_append,List.length_append,List.length_singleton,hA]
  obtain⟨B,U2,hB,dV,hb2,hw2⟩:=bu GR sc (T++(A++[U1])) a2 (by rw[hl1];exact eZ) (hE.more _) hd.2.2.1 h3.2.2.1 mQ;rw[dV] at Um
  have hl2:(T++(A++[U1])++(B++[U2])).length=T.length+a.cnt+b.cnt:=by rw[List.length_append,hl1,List.length_append,List.length_singleton,hB]
  obtain⟨C,U3,hC,rH,hb3,hw3⟩:=fe GR sc (T++(A++[U1])++(B++[U2])) a3 (by rw[hl2];exact uy) ((hE.more _).more _) hd.2.2.2.1 h3.2.2.2.1 Um
  have E6:aU T (a1++(a2++a3))=T++((A++[U1])++((B++[U2])++(C++[U3]))):=by rw[eA,hr1,eA,dV,rH];simp only[List.append_assoc]
  have hk:=λX=>kn3 T A B C X U1 U2 U3 _ _ _ hA hB hC
  have ko:=hk [];rw[List.append_nil] at ko
  have hcn:((A++[U1])++((B++[U2])++(C++[U3]))).length+1=1+(a.cnt+(b.cnt+(c.cnt+0))):=by simp only[List.length_append,List.length_singleton];omega
  rw[E6] at oU;have hv:=zJ oU;simp only[uP,tT,true_or,if_true,az,List.getD_cons_succ,List.getD_cons_zero] at hv;rw[(hk _).2.1,(hk _).2.2] at hv
  have Y4:U2=U3:=by
   by_cases e:U2=U3
   ·exact e
   ·rw[if_neg e] at hv;cases hv
  subst Y4;have Z5:=fK hb1;subst Z5;refine iU _ U2 E6 hcn ?_ hb2 (.di hw1 hw2 hw3);simp only[cH,tT,az,List.getD_cons_succ,List.getD_cons_zero];simp only[Nat.reduceEqDiff,if_false,if_true];exact ko.2.1
 | @two G p k nm rg a b hkk ha hb aF bu =>
  have hkb:bU k=[false,false]:=by rcases hkk with rfl | rfl | rfl <;> rfl
  have A9:aZ k=8\/aZ k=9\/aZ k=10:=by rcases hkk with rfl | rfl | rfl <;> decide
  intro GR sc T ns aO hE hd h3 hp;simp only[PT.iE,cJ] at hd;simp only[PT.rK,n9] at h3;simp only[NA,hkb,cK,Bool.false_eq_true,if_false] at aO;obtain⟨ks,aL,⟨a1,c1,ct,⟨a2,c2,eZ,⟨_,rfl⟩,rfl⟩,rfl⟩,rfl⟩:=aO;rw[List.append_nil] at hp ⊢;obtain⟨fk,oU⟩:=dq hp;obtain⟨DJ,mQ⟩:=dq fk;obtain⟨A,U1,hA,hr1,hb1,hw1⟩:=aF GR sc T a1 ct hE hd.2.1 h3.2.1 DJ;rw[hr1] at mQ
  have hl1:(T++(A++[U1])).length=T.length+a.cnt:=by rw[List.length_append,List.length_append,List.length_singleton,hA]
  obtain⟨B,U2,hB,dV,hb2,hw2⟩:=bu GR sc (T++(A++[U1])) a2 (by rw[hl1];exact eZ) (hE.more _) hd.2.2.1 h3.2.2.1 mQ
  have E6:aU T (a1++a2)=T++((A++[U1])++(B++[U2])):=by rw[eA,hr1,dV,List.append_assoc]
  have hk:=XW T A B [] U1 U2 _ _ hA hB;rw[List.append_nil] at hk
  have hcn:((A++[U1])++(B++[U2])).length+1=1+(a.cnt+(b.cnt+0)):=by simp only[List.length_append,List.length_singleton];omega
  have Z5:=fK hb1;have h2n:=fK hb2;subst Z5;subst h2n;refine iU _ .n E6 hcn ?_ rfl (.two hkk hw1 hw2);simp only[cH]
  rcases A9 with h | h | h <;> simp[h]
 | @loop G p nm rg a b c U ha hb hc aF bu fe =>
  intro GR sc T ns aO hE hd h3 hp;simp only[PT.iE,cJ] at hd;simp only[PT.rK,n9] at h3;simp only[NA,bU,cK,Bool.false_eq_true,if_false,if_true] at aO;obtain⟨ks,aL,⟨a1,c1,ct,⟨a2,c2,eZ,⟨a3,c3,uy,⟨_,rfl⟩,rfl⟩,rfl⟩,rfl⟩,rfl⟩:=aO;rw[List.append_nil] at hp ⊢;obtain⟨fk,oU⟩:=dq hp;obtain⟨DJ,O6⟩:=dq fk;obtain⟨A,U1,hA,hr1,hb1,hw1⟩:=aF GR sc T a1 ct hE hd.2.1 h3.2.1 DJ;rw[hr1] at O6;obtain⟨mQ,Um⟩:=dq O6
  have hl1:(T++(A++[U1])).length=T.length+a.cnt:=by rw[List.length_append,List.length_append,List.length_singleton,hA]
  obtain⟨B,U2,hB,dV,hb2,hw2⟩:=bu GR sc (T++(A++[U1])) a2 (by rw[hl1];exact eZ) (hE.more _) hd.2.2.1 h3.2.2.1 mQ;rw[dV] at Um
  have hl2:(T++(A++[U1])++(B++[U2])).length=T.length+a.cnt+b.cnt:=by rw[List.length_append,hl1,List.length_append,List.length_singleton,hB]
  have uq:=(hE.more (A++[U1])).snoc (nm:=nm) hB.symm hb2;rw[hl1] at uq;obtain⟨C,U3,hC,rH,hb3,hw3⟩:=fe (GR++[(nm,U2)]) _ (T++(A++[U1])++(B++[U2])) a3 (by rw[hl2];exact uy) (uq) hd.2.2.2.1 h3.2.2.2.1 Um
  have E6:aU T (a1++(a2++a3))=T++((A++[U1])++((B++[U2])++(C++[U3]))):=by rw[eA,hr1,eA,dV,rH];simp only[List.append_assoc]
  have hk:=λX=>kn3 T A B C X U1 U2 U3 _ _ _ hA hB hC
  have ko:=hk [];rw[List.append_nil] at ko
  have hcn:((A++[U1])++((B++[U2])++(C++[U3]))).length+1=1+(a.cnt+(b.cnt+(c.cnt+0))):=by simp only[List.length_append,List.length_singleton];omega
  rw[E6] at oU;have hv:=zJ oU;simp only[uP,kY,or_true,if_true,az,List.getD_cons_succ,List.getD_cons_zero] at hv;rw[(hk _).2.1,(hk _).2.2] at hv
  have Y4:U2=U3:=by
   by_cases e:U2=U3
   ·exact e
   ·rw[if_neg e] at hv;cases hv
  subst Y4;have Z5:=fK hb1;subst Z5;refine iU _ U2 E6 hcn ?_ hb2 (.loop hw1 hw2 hw3);simp only[cH,kY,az,List.getD_cons_succ,List.getD_cons_zero];simp only[Nat.reduceEqDiff,if_false,if_true];exact ko.2.1
 | @new G p nm rg a U ha aF =>
  intro GR sc T ns aO hE hd h3 hp;simp only[PT.iE,cJ] at hd;simp only[PT.rK,n9] at h3;simp only[NA,bU,cK,Bool.false_eq_true,if_false] at aO;obtain⟨ks,aL,⟨a1,c1,ct,⟨_,rfl⟩,rfl⟩,rfl⟩:=aO;rw[List.append_nil] at hp ⊢;obtain⟨fk,oU⟩:=dq hp;obtain⟨A,U1,hA,hr1,hb1,hw1⟩:=aF GR sc T a1 ct hE hd.2.1 h3.2.1 fk
  have hk:=λX=>gy T A X U1 _ hA.symm
  have ko:=hk [];rw[List.append_nil] at ko
  have hcn:(A++[U1]).length+1=1+(a.cnt+0):=by simp only[List.length_append,List.length_singleton];omega
  rw[hr1] at oU;have hv:=zJ oU;simp only[uP,Nu,az,List.getD_cons_zero] at hv;simp only[Nat.reduceEqDiff,or_self,if_false,if_true] at hv;rw[hk _] at hv
  have hm:U1.has (ak rg)=false:=by
   cases hh:U1.has (ak rg) with
   | false=>rfl
   | true=>rw[if_pos hh] at hv;cases hv
  refine iU _ U1 hr1 hcn ?_ hb1 (.new hw1 hm);simp only[cH,Nu,az,List.getD_cons_zero];simp only[Nat.reduceEqDiff,if_false,if_true];exact ko
open Go.Lib (decDigits)
structure CV (regs news:List Int) (ns:List NR) (T2:List Ty):Prop where
 ty:∀ i n,ns[i]?=some n->ai T2 (i:Nat)=cH T2 (fo n (jW regs i))
 pr:QI regs ns
 one:∀ (i:Nat) n,ns[i]?=some n->n.form=7\/n.form=11->ai T2 n.p1=ai T2 n.p2
 nw:∀ r i:Nat,news[r]?=some (i:Int)->(ai T2 i).has r=false
def Sg (T2:List Ty) (G GR:aV) (sc:Sc):Prop:=∀ s U,look G s=some U->∃ i:Nat,cE sc s=(i:Int)/\look GR s=some (ai T2 i)/\(ai T2 i).bare=U
theorem Sg.snoc {T2:List Ty} {G GR:aV} {sc:Sc} {nm:List UInt8} {U:Ty} {i:Nat} (h:Sg T2 G GR sc) (hu:(ai T2 i).bare=U) (z:Int) (hz:z=(i:Int)):Sg T2 (G++[(nm,U)]) (GR++[(nm,ai T2 i)]) (sc++[(nm,z)]):=λs V hs=>by
 subst hz;rw[fw] at hs;rw[iT,fw]
 by_cases e:nm=s
 ·rw[if_pos e] at hs
  rw[if_pos e,if_pos e];simp only[Option.some.injEq] at hs;subst hs;exact⟨i,rfl,rfl,hu⟩
 ·rw[if_neg e] at hs
  rw[if_neg e,if_neg e];exact h s V hs
theorem qB (r:Nat):ak (35::decDigits r)=(r:Int):=by
 have:ak (35::decDigits r)=ak (decDigits r):=by unfold ak;rw[List.foldl_cons];rfl
 rw[this,iP]
theorem iA {GR:aV} {t:PT} {V:Ty} (i:Int) (h:jE GR t V):∀ (l:List Int) (r:Nat),(∀ j,l[j]?=some i->V.has ((r+j:Nat):Int)=false)->jE GR (fL l r i t) V
 | [],_,_=>h
 | a::l,r,hh=>by
  have ih:=iA i h l (r+1) (λj hj=>by rw[show r+1+j=r+(j+1) by omega];exact hh (j+1) (by simpa using hj));simp only[fL]
  split
  ·rename_i e
   refine .new ih ?_;rw[qB];exact hh 0 (by simp[e])
  ·exact ih
theorem at_root {ns pre ks post:List NR} {n:NR} (h:ns=pre++((ks++[n])++post)):ns[pre.length+ks.length]?=some n:=by
 rw[h];exact Cr pre _ post ks.length n (by rw[List.getElem?_append_right (Nat.le_refl _),Nat.sub_self];rfl)
theorem CV.Sh {regs news:List Int} {ns:List NR} {T2:List Ty} (H:CV regs news ns T2) (i:Nat):∀ j,news[j]?=some (i:Int)->(ai T2 i).has ((0+j:Nat):Int)=false:=λj hj=>by rw[Nat.zero_add];exact H.nw j i hj
theorem cW (b c:Nat):(((b+(1+c):Nat):Int)-1)=((b+c:Nat):Int):=by omega
theorem J4 (b:Nat) (t:PT):∃ i:Nat,(((b+t.cnt:Nat):Int)-1)=(i:Int)/\i=b+t.cnt-1:=⟨b+t.cnt-1,by have:=cV t;omega,rfl⟩
theorem Si {regs news:List Int} {ns:List NR} {T2:List Ty} (H:CV regs news ns T2) {G:aV} {e:PT} {U:Ty} (h:WT G e U):dC e->e.bQ->∀ (GR:aV) (sc:Sc) (b:Nat) (pre ms post:List NR),NA sc e b ms->ns=pre++(ms++post)->pre.length=b->Sg T2 G GR sc ->
  jE GR (e.lay regs news b) (ai T2 (((b+e.cnt:Nat):Int)-1))/\(ai T2 (((b+e.cnt:Nat):Int)-1)).bare=U:=by
 induction h with
 | @num G p s =>
  intro _ ht GR sc b pre ms post aO hns hb hE;simp only[NA] at aO;subst aO;simp only[PT.bQ] at ht;have hn:=at_root (ks:=[]) hns;rw[hb] at hn;have hty:=H.ty _ _ hn
  have hV:ai T2 (((b+(PT.num p s).cnt:Nat):Int)-1)=.n:=by
   rw[show (((b+(PT.num p s).cnt:Nat):Int)-1)=((b+([]:List NR).length:Nat):Int) from by simp only[PT.cnt,List.length_nil];omega,hty];simp[cH,fo]
  rw[hV];refine⟨?_,rfl⟩;have mA:=H.Sh b
  have hb2:(((b+(PT.num p s).cnt:Nat):Int)-1)=(b:Int):=by simp only[PT.cnt];omega
  rw[hb2] at hV;rw[hV] at mA;unfold PT.lay;rw[hb2];refine iA _ (.num ?_) news 0 mA;rw[iP];omega
 | @name G p s T hs =>
  intro _ ht GR sc b pre ms post aO hns hb hE;simp only[NA] at aO;subst aO;have hn:=at_root (ks:=[]) hns;rw[hb] at hn;have hty:=H.ty _ _ hn;obtain⟨i,h1,h2,h3⟩:=hE _ _ hs
  have hb2:(((b+(PT.name p s).cnt:Nat):Int)-1)=(b:Int):=by simp only[PT.cnt];omega
  have hV:ai T2 (b:Int)=ai T2 (i:Int):=by
   rw[show (b:Int)=((b+([]:List NR).length:Nat):Int) by simp,hty];simp[cH,fo,h1]
  have mA:=H.Sh b;rw[hb2,hV];rw[hV] at mA;refine⟨?_,h3⟩;unfold PT.lay;rw[hb2];exact iA _ (.name h2) news 0 mA
 | @aP G p nm rg a b UA UB ha hb aF bu =>
  intro hn ht GR sc bs pre ms post aO hns hbs hE
  cases hn with
  | node _ hn =>
  simp only[PT.bQ,bH] at ht;simp only[NA,bU,cK,Bool.false_eq_true,if_false,if_true] at aO;obtain⟨ks,aL,⟨a1,c1,ct,⟨a2,c2,eZ,⟨_,rfl⟩,rfl⟩,rfl⟩,rfl⟩:=aO;rw[List.append_nil] at hns;have la:=NA.len ct;have lb:=NA.len eZ;have hroot:=at_root hns;rw[hbs,List.length_append,la,lb] at hroot;have hty:=H.ty _ _ hroot;obtain⟨CW,uS⟩:=aF (hn _ (by simp)) ht.2.1 GR sc bs pre a1 (a2++([_]++post)) ct (by rw[hns];simp only[List.append_assoc];rfl) hbs hE;obtain⟨ia,hia,acZ⟩:=J4 bs a;rw[hia] at CW uS;obtain⟨Gp,tD⟩:=bu (hn _ (by simp)) ht.2.2.1 (GR++[(nm,ai T2 ia)]) _ (bs+a.cnt) (pre++a1) a2 ([_]++post) eZ (by rw[hns];simp only[List.append_assoc];rfl) (by rw[List.length_append,hbs,la]) (hE.snoc uS _ (by omega))
  have hV:ai T2 ((bs+(a.cnt+b.cnt):Nat):Int)=ai T2 (((bs+a.cnt+b.cnt:Nat):Int)-1):=by
   rw[hty];simp only[cH,fo,mX,az,List.getD_cons_succ,List.getD_cons_zero];simp
  have mA:=H.Sh (bs+(a.cnt+b.cnt));simp only[PT.lay,PT.cnt,ax,Nat.add_zero,cW,PT.gi];rw[hV] at mA ⊢;exact⟨iA _ (.aP CW Gp) news 0 mA,tD⟩
 | @pair G p nm rg a b UA UB ha hb hsz aF bu =>
  intro hn ht GR sc bs pre ms post aO hns hbs hE
  cases hn with
  | node _ hn =>
  simp only[PT.bQ,bH] at ht;simp only[NA,bU,cK,Bool.false_eq_true,if_false] at aO;obtain⟨ks,aL,⟨a1,c1,ct,⟨a2,c2,eZ,⟨_,rfl⟩,rfl⟩,rfl⟩,rfl⟩:=aO;rw[List.append_nil] at hns;have la:=NA.len ct;have lb:=NA.len eZ;have hroot:=at_root hns;rw[hbs,List.length_append,la,lb] at hroot;have hty:=H.ty _ _ hroot;have jN:=(H.pr _ _ hroot).1 rfl;obtain⟨CW,uS⟩:=aF (hn _ (by simp)) ht.2.1 GR sc bs pre a1 (a2++([_]++post)) ct (by rw[hns];simp only[List.append_assoc];rfl) hbs hE;obtain⟨Gp,tD⟩:=bu (hn _ (by simp)) ht.2.2.1 GR sc (bs+a.cnt) (pre++a1) a2 ([_]++post) eZ (by rw[hns];simp only[List.append_assoc];rfl) (by rw[List.length_append,hbs,la]) hE
  have hV:ai T2 ((bs+(a.cnt+b.cnt):Nat):Int)=.p (jW regs (bs+(a.cnt+b.cnt))).toNat (ai T2 (((bs+a.cnt:Nat):Int)-1)) (ai T2 (((bs+a.cnt+b.cnt:Nat):Int)-1)):=by
   rw[hty];simp only[cH,fo,mI,az,List.getD_cons_succ,List.getD_cons_zero];simp
  have mA:=H.Sh (bs+(a.cnt+b.cnt));simp only[PT.lay,PT.cnt,ax,Nat.add_zero,cW,PT.gi];rw[hV] at mA ⊢;refine⟨iA _ (.pair ?_ CW Gp) news 0 mA,by simp only[Ty.bare,uS,tD]⟩;unfold QH;rw[if_neg (by omega),qB]
 | @fst G p nm rg a UA UB ha aF =>
  intro hn ht GR sc bs pre ms post aO hns hbs hE
  cases hn with
  | node _ hn =>
  simp only[PT.bQ,bH] at ht;simp only[NA,bU,cK,Bool.false_eq_true,if_false] at aO;obtain⟨ks,aL,⟨a1,c1,ct,⟨_,rfl⟩,rfl⟩,rfl⟩:=aO;rw[List.append_nil] at hns;have la:=NA.len ct;have hroot:=at_root hns;rw[hbs,la] at hroot;have hty:=H.ty _ _ hroot;obtain⟨CW,uS⟩:=aF (hn _ (by simp)) ht.2.1 GR sc bs pre a1 ([_]++post) ct (by rw[hns];simp only[List.append_assoc];rfl) hbs hE
  have hV:ai T2 ((bs+a.cnt:Nat):Int)=GX (ai T2 (((bs+a.cnt:Nat):Int)-1)):=by
   rw[hty];simp only[cH,fo,mY,az,List.getD_cons_succ,List.getD_cons_zero];simp
  obtain⟨r,u,v,hp,hu,hv⟩:=iR uS;rw[hp] at CW hV;have mA:=H.Sh (bs+a.cnt);simp only[PT.lay,PT.cnt,ax,Nat.add_zero,cW,PT.gi];rw[hV] at mA ⊢;exact⟨iA _ (.fst CW) news 0 mA,hu⟩
 | @snd G p nm rg a UA UB ha aF =>
  intro hn ht GR sc bs pre ms post aO hns hbs hE
  cases hn with
  | node _ hn =>
  simp only[PT.bQ,bH] at ht;simp only[NA,bU,cK,Bool.false_eq_true,if_false] at aO;obtain⟨ks,aL,⟨a1,c1,ct,⟨_,rfl⟩,rfl⟩,rfl⟩:=aO;rw[List.append_nil] at hns;have la:=NA.len ct;have hroot:=at_root hns;rw[hbs,la] at hroot;have hty:=H.ty _ _ hroot;obtain⟨CW,uS⟩:=aF (hn _ (by simp)) ht.2.1 GR sc bs pre a1 ([_]++post) ct (by rw[hns];simp only[List.append_assoc];rfl) hbs hE
  have hV:ai T2 ((bs+a.cnt:Nat):Int)=GY (ai T2 (((bs+a.cnt:Nat):Int)-1)):=by
   rw[hty];simp only[cH,fo,mZ,az,List.getD_cons_succ,List.getD_cons_zero];simp
  obtain⟨r,u,v,hp,hu,hv⟩:=iR uS;rw[hp] at CW hV;have mA:=H.Sh (bs+a.cnt);simp only[PT.lay,PT.cnt,ax,Nat.add_zero,cW,PT.gi];rw[hV] at mA ⊢;exact⟨iA _ (.snd CW) news 0 mA,hv⟩
 | @di G p nm rg a b c U ha hb hc aF bu fe =>
  intro hn ht GR sc bs pre ms post aO hns hbs hE
  cases hn with
  | node _ hn =>
  simp only[PT.bQ,bH] at ht;simp only[NA,bU,cK,Bool.false_eq_true,if_false] at aO;obtain⟨ks,aL,⟨a1,c1,ct,⟨a2,c2,eZ,⟨a3,c3,uy,⟨_,rfl⟩,rfl⟩,rfl⟩,rfl⟩,rfl⟩:=aO;rw[List.append_nil] at hns;have la:=NA.len ct;have lb:=NA.len eZ;have lc:=NA.len uy;have hroot:=at_root hns;rw[hbs,List.length_append,List.length_append,la,lb,lc] at hroot;have hty:=H.ty _ _ hroot;have hone:=H.one _ _ hroot (Or.inl rfl);simp only[az,List.getD_cons_succ,List.getD_cons_zero] at hone;obtain⟨CW,uS⟩:=aF (hn _ (by simp)) ht.2.1 GR sc bs pre a1 (a2++(a3++([_]++post))) ct (by rw[hns];simp only[List.append_assoc];rfl) hbs hE;obtain⟨Gp,tD⟩:=bu (hn _ (by simp)) ht.2.2.1 GR sc (bs+a.cnt) (pre++a1) a2 (a3++([_]++post)) eZ (by rw[hns];simp only[List.append_assoc];rfl) (by rw[List.length_append,hbs,la]) hE;obtain⟨hwc,hbc⟩:=fe (hn _ (by simp)) ht.2.2.2.1 GR sc (bs+a.cnt+b.cnt) (pre++a1++a2) a3 ([_]++post) uy (by rw[hns];simp only[List.append_assoc];rfl) (by rw[List.length_append,List.length_append,hbs,la,lb]) hE
  have hV:ai T2 ((bs+(a.cnt+(b.cnt+c.cnt)):Nat):Int)=ai T2 (((bs+a.cnt+b.cnt:Nat):Int)-1):=by
   rw[hty];simp only[cH,fo,tT,az,List.getD_cons_succ,List.getD_cons_zero];simp
  rw[fK uS] at CW;rw[<- hone] at hwc;have mA:=H.Sh (bs+(a.cnt+(b.cnt+c.cnt)));simp only[PT.lay,PT.cnt,ax,Nat.add_zero,cW,PT.gi];rw[hV] at mA ⊢;exact⟨iA _ (.di CW Gp hwc) news 0 mA,tD⟩
 | @two G p k nm rg a b hkk ha hb aF bu =>
  intro hn ht GR sc bs pre ms post aO hns hbs hE
  have hkb:bU k=[false,false]:=by rcases hkk with rfl | rfl | rfl <;> rfl
  have A9:aZ k=8\/aZ k=9\/aZ k=10:=by rcases hkk with rfl | rfl | rfl <;> decide
  cases hn with
  | node _ hn =>
  simp only[PT.bQ,bH] at ht;simp only[NA,hkb,cK,Bool.false_eq_true,if_false] at aO;obtain⟨ks,aL,⟨a1,c1,ct,⟨a2,c2,eZ,⟨_,rfl⟩,rfl⟩,rfl⟩,rfl⟩:=aO;rw[List.append_nil] at hns;have la:=NA.len ct;have lb:=NA.len eZ;have hroot:=at_root hns;rw[hbs,List.length_append,la,lb] at hroot;have hty:=H.ty _ _ hroot;obtain⟨CW,uS⟩:=aF (hn _ (by simp)) ht.2.1 GR sc bs pre a1 (a2++([_]++post)) ct (by rw[hns];simp only[List.append_assoc];rfl) hbs hE;obtain⟨Gp,tD⟩:=bu (hn _ (by simp)) ht.2.2.1 GR sc (bs+a.cnt) (pre++a1) a2 ([_]++post) eZ (by rw[hns];simp only[List.append_assoc];rfl) (by rw[List.length_append,hbs,la]) hE
  have hV:ai T2 ((bs+(a.cnt+b.cnt):Nat):Int)=.n:=by
   rw[hty];simp only[cH,fo]
   rcases A9 with h | h | h <;> simp[h]
  rw[fK uS] at CW;rw[fK tD] at Gp;have mA:=H.Sh (bs+(a.cnt+b.cnt));simp only[PT.lay,PT.cnt,ax,Nat.add_zero,cW,PT.gi];rw[hV] at mA ⊢;exact⟨iA _ (.two hkk CW Gp) news 0 mA,rfl⟩
 | @loop G p nm rg a b c U ha hb hc aF bu fe =>
  intro hn ht GR sc bs pre ms post aO hns hbs hE
  cases hn with
  | node _ hn =>
  simp only[PT.bQ,bH] at ht;simp only[NA,bU,cK,Bool.false_eq_true,if_false,if_true] at aO;obtain⟨ks,aL,⟨a1,c1,ct,⟨a2,c2,eZ,⟨a3,c3,uy,⟨_,rfl⟩,rfl⟩,rfl⟩,rfl⟩,rfl⟩:=aO;rw[List.append_nil] at hns;have la:=NA.len ct;have lb:=NA.len eZ;have lc:=NA.len uy;have hroot:=at_root hns;rw[hbs,List.length_append,List.length_append,la,lb,lc] at hroot;have hty:=H.ty _ _ hroot;have hone:=H.one _ _ hroot (Or.inr rfl);simp only[az,List.getD_cons_succ,List.getD_cons_zero] at hone;obtain⟨CW,uS⟩:=aF (hn _ (by simp)) ht.2.1 GR sc bs pre a1 (a2++(a3++([_]++post))) ct (by rw[hns];simp only[List.append_assoc];rfl) hbs hE;obtain⟨Gp,tD⟩:=bu (hn _ (by simp)) ht.2.2.1 GR sc (bs+a.cnt) (pre++a1) a2 (a3++([_]++post)) eZ (by rw[hns];simp only[List.append_assoc];rfl) (by rw[List.length_append,hbs,la]) hE;obtain⟨ib,hib,ac0⟩:=J4 (bs+a.cnt) b;rw[hib] at Gp tD hone;obtain⟨hwc,hbc⟩:=fe (hn _ (by simp)) ht.2.2.2.1 (GR++[(nm,ai T2 ib)]) _ (bs+a.cnt+b.cnt) (pre++a1++a2) a3 ([_]++post) uy (by rw[hns];simp only[List.append_assoc];rfl) (by rw[List.length_append,List.length_append,hbs,la,lb]) (hE.snoc tD _ (by omega))
  have hV:ai T2 ((bs+(a.cnt+(b.cnt+c.cnt)):Nat):Int)=ai T2 (ib:Int):=by
   rw[hty,<- hib];simp only[cH,fo,kY,az,List.getD_cons_succ,List.getD_cons_zero];simp
  rw[fK uS] at CW;rw[<- hone] at hwc;have mA:=H.Sh (bs+(a.cnt+(b.cnt+c.cnt)));simp only[PT.lay,PT.cnt,ax,Nat.add_zero,cW,PT.gi];rw[hV] at mA ⊢;exact⟨iA _ (.loop CW Gp hwc) news 0 mA,tD⟩
 | new _ _ =>
  intro hn
  cases hn with
  | node hk _=>exact absurd rfl hk
end Go.Proofs.YtpicaknklgccoabGreatDoor
