import Derived.Test.YtpicaknklgccoaaGreatDoorK39
set_option maxHeartbeats 8000000
set_option maxRecDepth 100000
namespace Go.Proofs.YtpicaknklgccoaaGreatDoor
open Tryz
variable {w K:List (Nat × Nat)}{a u:Nat}{b:dc}{c:Ty}{d:MM}{x:PT}{y:kz}{z:Sc}{v:List MC}{L:List MV}{P:RS}
def abm(a:RS)(m:MM):Prop:=a.e≠0/\m.fault=a.e
def qt(b:Nat)(c:List (Nat×Nat))(y:RV×RS)(x:MV×MM)(T:Ty):Prop:=(∃a,c <+: a/\Be b a y.2 x.2/\nn x.2.cells a y.1 x.1/\y.1.has T)\/abm y.2 x.2
def CQ(a:List MV)(b:List MC)(e:List (Nat×Nat))(f:Sc)(c:kz)(G:dc)(d:Nat):Prop:=∀s T,look G s=some T->∃(i:Nat)(v:MV),gb f s=(i:Int)/\i<d/\a[i]?=some v/\nn b e (qG c s) v/\(qG c s).has T
theorem CQ.ef(h:CQ L v w z y b a):EF L v z b a:=by
 intro s T d;obtain⟨i,c,h1,h2,h3,e,f⟩:=h s T d;exact⟨i,c,h1,h2,h3,e.fits f⟩
theorem CQ.on{e}{c:Nat}(h:CQ d.named d.cells w z y b a)(f:Ext d e u c)(n:a<=u)(g:w <+: K):CQ e.named e.cells K z y b a:=by
 intro s T j;obtain⟨i,v,h1,h2,h3,k,l⟩:=h s T j;exact⟨i,v,h1,h2,(f.named i (aD (by omega))).trans h3,k.mono f.pre g,l⟩
theorem CQ.up(h:CQ L v w z y b a)(g:a<=u):CQ L v w z y b u:=by
 intro s T d;obtain⟨i,c,h1,h2,h3,e,f⟩:=h s T d;exact⟨i,c,h1,by omega,h3,e,f⟩
theorem CQ.snoc{j:Nat}{nm}{x}{v}(h:CQ d.named d.cells w z y b a)(r:a<=j)(k:j<d.named.length)(l:nn d.cells w x v)(n:x.has c):CQ (d.name (j:Int) v).named (d.name (j:Int) v).cells w (z++[(nm,(j:Int))]) ((nm,x)::y) (b++[(nm,c)]) (j+1):=by
 have g:=mQ d j v j 1 (by omega);intro s o e;rw[wW]at e;rw[qJ];simp only[qG];by_cases f:nm=s
 ·rw[ah f]at e⊢;rw[ah f];cases e;exact⟨j,v,rfl,by omega,FD d j v k,l.mono g.pre uf,n⟩
 ·rw[ag f]at e⊢;rw[ag f];obtain⟨i,u,h1,h2,h3,p,q⟩:=h s o e;exact⟨i,u,h1,by omega,(g.named i (aD (by omega))).trans h3,p.mono g.pre uf,q⟩
mutual
theorem tK(c:Nat):∀(t:PT)(d:Sc)(b:Nat)(m:MM),m.fault≠0->(mW c t d b m).2.fault=m.fault
 |.num _ _,d,b,m,h=>by simp only[mW];rw[oQ c m _ h]
 |.name _ _,d,b,m,h=>by simp only[mW];rw[oQ c m _ h]
 |.node _ k i f e,d,b,m,h=>by
  simp only[mW];split
  ·exact P5 c _ e d b m h
  ·rw[oQ c m _ h]
theorem P5(c:Nat)(f:Int):∀(g:List PT)(d:Sc)(b:Nat)(m:MM),m.fault≠0->(DN c f g d b m).2.fault=m.fault
 |[a],d,b,m,h=>by
  simp only[DN];have h1:=tK c a d b (m.opn f) h;have h2:∀x:MM,x.fin.fault=x.fault:=λx=>by unfold MM.fin;split<;>rfl
  rw[h2];exact h1
 |[],_,_,_,_=>by simp only[DN]
 |_::_::_,_,_,_,_=>by simp only[DN]
end
theorem uT(f)(k:Nat)(v)(a)(h:a.e≠0):(eZ f k v a).2=a:=by
 cases k with
 |zero=>rfl
 |succ k=>simp only[eZ];rw[ah h]
theorem Je(a:RS)(v)(h:a.e≠0):a.used v=a:=by
 unfold RS.used;split
 ·rfl
 ·rw[ag (λb=>h b.1)]
theorem Wc(e)(b:Nat)(c:kz)(h:abm P d)(T):qt a w (rW a x c P) (mW a x e b d) T:=by
 rw[pT a x c P h.1];have f:d.fault≠0:=by rw[h.2];exact h.1
 exact aE ⟨h.1,by rw[tK a x e b d f];exact h.2⟩
theorem qt.le{y}{x}(b:w <+: K)(h:qt a K y x c):qt a w y x c:=by
 rcases h with⟨s,h1,h2⟩|h
 ·exact aD ⟨s,b.trans h1,h2⟩
 ·exact aE h
theorem kM{i}{f}{g}{T}(h:Be a i P d)(o:Be a i {P with steps:=P.steps+1} {d with steps:=d.steps+1}->qt a i (f {P with steps:=P.steps+1}) (g {d with steps:=d.steps+1}) T):qt a i (jg a P f) (jj a d g) T:=by
 unfold jg jj;have q:=h.s;have p:=h.le;rw[ag (λj=>j h.e)];by_cases k:P.steps=a
 ·rw[ah k];have b:a<=d.steps:=by omega
  simp[ah b];have e:d.stop 12={d with fault:=12}:=by unfold MM.stop;rw[ah h.f]
  rw[e];exact aE ⟨by simp,rfl⟩
 ·rw[ag k];have b:¬a<=d.steps:=by omega
  simp only[ag b];rw[ag (λj=>j h.f)];exact o ⟨h.e,h.f,by simp only;omega,by simp only;omega,h.c,h.n,h.r0,h.rl,h.r,h.w,h.al,h.dd,h.rd,h.ro,h.so,h.l,h.mo⟩
theorem CR{d:Nat}{T}{j:Nat}{f}{g}{P:List (Nat×Nat)->MM->Prop}(i:∀h n m x v,P h m->Be d h n m->nn m.cells h x v->x.has T->qt d h (f x n) (g (m.name (j:Int) v)) T/\∀l,h <+: l->P l (g (m.name (j:Int) v)).2):∀(k:Nat)(h:List (Nat×Nat))(n:RS)(m:MM)(x:RV)(v:MV),P h m->Be d h n m->nn m.cells h x v->x.has T->qt d h (eZ f k x n) (j7 (j:Int) g k v m) T
 |0,h,n,m,x,v,_,o,q,r=>aD ⟨h,uf,o,q,r⟩
 |k+1,h,n,m,x,v,u,o,q,r=>by
  simp only[eZ,j7];rw[ag (λs=>s o.e),ag (λs=>s o.f)];obtain⟨h1,h2⟩:=i h n m x v u o q r;rcases h1 with⟨l,t,a,b,c⟩|p
  ·exact (CR i k l _ _ _ _ (h2 l t) a b c).le t
  ·refine aE ?_;rw[uT _ _ _ _ p.1,pH _ _ _ _ _ (by rw[p.2];exact p.1)];exact p
theorem abn(q:Nat)(h:WT b x c):∀(z:Sc)(o:Nat)(m:MM)(r:kz)(C:RS)(J:List (Nat×Nat)),x.DP->CQ m.named m.cells J z r b o->o+x.cnt<=m.named.length->Be q J C m->qt q J (rW q x r C) (mW q x z o m) c:=by
 induction h with
 |num=>
  intro z o m r C J E I O D;exact kM D (λD=>aD ⟨J,uf,D,by simp only[nn,fC],by simp[RV.has];exact E⟩)
 |name hlk=>
  intro z o m r C J E I O D;simp[rW,mW];refine kM D (λD=>aD ⟨J,uf,D,?_⟩);obtain⟨i,v,h1,h2,h3,h4,h5⟩:=I _ _ hlk;unfold MM.look;simp only[h1];rw[ag (by omega),bL,aZ,h3];exact⟨h4,h5⟩
 |@dV b p Y Q a d A B X hb H M=>
  intro z o m r C J E I O D;simp[PT.cnt,aU]at O;simp only[rW,xU,mW,KG,bT,reduceCtorEq,aT];refine kM D (λD=>?_);have N:=jr q X z o {m with steps:=m.steps+1} E.2.1 I.ef (by simp only;omega);have h1:=H z o {m with steps:=m.steps+1} r {C with steps:=C.steps+1} J E.2.1 I (by simp only;omega) D;generalize mW q a z o {m with steps:=m.steps+1}=f at N h1⊢;have hca:=fj a;have U:f.2.named.length=m.named.length:=N.1.len;rw[show (((o+a.cnt:Nat):Int)-1)=((o+a.cnt-1:Nat):Int) from by omega];rcases h1 with⟨F,K,h1,h2,h3⟩|s
  ·have L:=CQ.on (d:={m with steps:=m.steps+1}) I N.1 bS K;have V:=L.snoc (nm:=Y) (j:=o+a.cnt-1) (by omega) (by omega) h2 h3;rw[show o+a.cnt-1+1=o+a.cnt from by omega]at V;have W:=mQ f.2 (o+a.cnt-1) f.1 o a.cnt (by omega);exact (M _ (o+a.cnt) _ _ _ F E.2.2.1 V (by rw[W.len,U];omega) (h1.name _ _)).le K
  ·exact Wc _ _ _ ⟨s.1,by rw[(wV _ _ _).1];exact s.2⟩ _
 |@pair b p Y Q a d A B X hb hsz H M=>
  intro z o m r C J E I O D;simp[PT.cnt,aU]at O;simp only[rW,mI,mW,qh,bT,reduceCtorEq,aT];refine kM D (λD=>?_);have N:=jr q X z o {m with steps:=m.steps+1} E.2.1 I.ef (by simp only;omega);have h1:=H z o {m with steps:=m.steps+1} r {C with steps:=C.steps+1} J E.2.1 I (by simp only;omega) D;generalize mW q a z o {m with steps:=m.steps+1}=f at N h1⊢;generalize rW q a r {C with steps:=C.steps+1}=y at h1⊢;have U:f.2.named.length=m.named.length:=N.1.len;have nf:∀(m:MM) k v u,(m.ep k v u).2.fault=m.fault:=λm k v u=>by unfold MM.ep;split<;>rfl
  rcases h1 with⟨F,K,h1,h2,h3⟩|s
  ·have L:=(CQ.on (d:={m with steps:=m.steps+1}) I N.1 bS K).up (show o<=o+a.cnt by omega);have hg:=jr q hb z (o+a.cnt) f.2 E.2.2.1 L.ef (by omega);have S:=M z (o+a.cnt) f.2 r y.2 F E.2.2.1 L (by omega) h1;rcases S with⟨sp2,k0,S,k2,k3⟩|s
   ·rw[ag (λZ=>Z S.e)];obtain⟨sp3,c0,c1,c2⟩:=Ir S (aQ Q) (h2.mono hg.1.pre k0) k2;exact aD ⟨sp3,K.trans (k0.trans c0),c1,c2,by simp[tS,RV.has];exact⟨h3,k3⟩⟩
   ·rw[ah s.1];exact aE ⟨s.1,by rw[nf];exact s.2⟩
  ·rw[pT q d r y.2 s.1];rw[ah s.1];exact aE ⟨s.1,by rw[nf,tK _ _ _ _ _ (by rw[s.2];exact s.1)];exact s.2⟩
 |@fst b p Y Q a A B X H=>
  intro z o m r C J E I O D;simp[PT.cnt,aU]at O;simp only[rW,mI,mW,qh,bT,reduceCtorEq,aT];refine kM D (λD=>?_);have h1:=H z o {m with steps:=m.steps+1} r {C with steps:=C.steps+1} J E.2.1 I (by simp only;omega) D;generalize mW q a z o {m with steps:=m.steps+1}=f at h1⊢;rcases h1 with⟨F,K,h1,h2,h3⟩|s
  ·obtain⟨u,w,hh,hy,hu,hw⟩:=sr h3;rw[hy]at h2;obtain⟨u1,u2,R⟩:=xe h1 h2;rw[hy];rcases R with⟨R,u4⟩|⟨R,u4⟩
   ·rw[R,u4,ag (λZ=>Z h1.e)];exact aD ⟨F,K,h1,u1,hu⟩
   ·rw[ah (by rw[R];decide)];exact aE ⟨by simp only[R];decide,by simp[R];exact u4⟩
  ·have L:f.2.fault≠0:=by rw[s.2];exact s.1
   rw[Je _ _ s.1,ah s.1];refine aE ⟨s.1,?_⟩;have:(f.2.use f.1).2.fault=f.2.fault:=by
    unfold MM.use;split
    ·rfl
    ·simp only;split
     ·rfl
     ·rw[qz _ _ L]
   rw[this];exact s.2
 |@snd b p Y Q a A B X H=>
  intro z o m r C J E I O D;simp[PT.cnt,aU]at O;simp only[rW,mI,mW,qh,reduceCtorEq,aT];refine kM D (λD=>?_);have h1:=H z o {m with steps:=m.steps+1} r {C with steps:=C.steps+1} J E.2.1 I (by simp only;omega) D;generalize mW q a z o {m with steps:=m.steps+1}=f at h1⊢;rcases h1 with⟨F,K,h1,h2,h3⟩|s
  ·obtain⟨u,w,hh,hy,hu,hw⟩:=sr h3;rw[hy]at h2;obtain⟨u1,u2,R⟩:=xe h1 h2;rw[hy];rcases R with⟨R,u4⟩|⟨R,u4⟩
   ·rw[R,u4,ag (λZ=>Z h1.e)];exact aD ⟨F,K,h1,u2,hw⟩
   ·rw[ah (by rw[R];decide)];exact aE ⟨by simp only[R];decide,by simp[R];exact u4⟩
  ·have L:f.2.fault≠0:=by rw[s.2];exact s.1
   rw[Je _ _ s.1,ah s.1];refine aE ⟨s.1,?_⟩;have:(f.2.use f.1).2.fault=f.2.fault:=by
    unfold MM.use;split
    ·rfl
    ·simp only;split
     ·rfl
     ·rw[qz _ _ L]
   rw[this];exact s.2
 |@lv b p Y Q a d g c X hb hc H M Zo=>
  intro z o m r C J E I O D;simp[PT.cnt,aU]at O;simp only[rW,Hd,mW,Yu,bT,reduceCtorEq,aT];refine kM D (λD=>?_);have N:=jr q X z o {m with steps:=m.steps+1} E.2.1 I.ef (by simp only;omega);have h1:=H z o {m with steps:=m.steps+1} r {C with steps:=C.steps+1} J E.2.1 I (by simp only;omega) D;generalize mW q a z o {m with steps:=m.steps+1}=f at N h1⊢;generalize rW q a r {C with steps:=C.steps+1}=y at h1⊢;have U:f.2.named.length=m.named.length:=N.1.len;rcases h1 with⟨F,K,h1,h2,h3⟩|s
  ·have L:=CQ.on (d:={m with steps:=m.steps+1}) I N.1 bS K;obtain⟨k,hk,_⟩:=uu h3;rw[hk]at h2⊢;have Z:f.1.n=(RV.n k).num:=h2.2;rw[Z];by_cases hz:(RV.n k).num≠0
   ·rw[ah hz,ah hz];exact (M z (o+a.cnt) f.2 r _ F E.2.2.1 (L.up (by omega)) (by omega) h1).le K
   ·rw[ag hz,ag hz];exact (Zo z (o+a.cnt+d.cnt) f.2 r _ F E.2.2.2.1 (L.up (by omega)) (by omega) h1).le K
  ·have e1:(if y.1.num≠0 then rW q d r y.2 else rW q g r y.2)=(.n 0,y.2):=by split<;>exact pT q _ r y.2 s.1
   have e2:(if f.1.n≠0 then mW q d z (o+a.cnt) f.2 else mW q g z (o+a.cnt+d.cnt) f.2).2.fault=f.2.fault:=by
    split
    ·exact tK q d _ _ _ (by rw[s.2];exact s.1)
    ·exact tK q g _ _ _ (by rw[s.2];exact s.1)
   rw[e1];exact aE ⟨s.1,by rw[e2];exact s.2⟩
 |@two b p k Y Q a d hkk X hb H M=>
  intro z o m r C J E I O D;simp[PT.cnt,aU]at O;have e:mW q (.node p k Y Q [a,d]) z o m=jj q m (λm=>(⟨false,qI k (mW q a z o m).1.n (mW q d z (o+a.cnt) (mW q a z o m).2).1.n⟩,(mW q d z (o+a.cnt) (mW q a z o m).2).2)):=by
   rcases hkk with rfl|rfl|rfl<;>simp only[mW,qh,reduceCtorEq,aT]
  have e':rW q (.node p k Y Q [a,d]) r C=jg q C (λC=>if (rW q d r (rW q a r C).2).2.e≠0 then (.n 0,(rW q d r (rW q a r C).2).2) else (.n (oH k (rW q a r C).1.num (rW q d r (rW q a r C).2).1.num),(rW q d r (rW q a r C).2).2)):=by
   rcases hkk with rfl|rfl|rfl<;>simp only[rW,mI,reduceCtorEq,aT]
  rw[e,e'];refine kM D (λD=>?_);have N:=jr q X z o {m with steps:=m.steps+1} E.2.1 I.ef (by simp only;omega);have h1:=H z o {m with steps:=m.steps+1} r {C with steps:=C.steps+1} J E.2.1 I (by simp only;omega) D;generalize mW q a z o {m with steps:=m.steps+1}=f at N h1⊢;generalize rW q a r {C with steps:=C.steps+1}=y at h1⊢;have U:f.2.named.length=m.named.length:=N.1.len;rcases h1 with⟨F,K,h1,h2,h3⟩|s
  ·have L:=(CQ.on (d:={m with steps:=m.steps+1}) I N.1 bS K).up (show o<=o+a.cnt by omega);have S:=M z (o+a.cnt) f.2 r y.2 F E.2.2.1 L (by omega) h1;rcases S with⟨sp2,k0,S,k2,k3⟩|s
   ·rw[ag (λZ=>Z S.e)];obtain⟨i,hi,rR⟩:=uu h3;obtain⟨j,hj,hj2⟩:=uu k3;rw[hi]at h2⊢;rw[hj]at k2⊢;refine aD ⟨sp2,K.trans k0,S,?_,by simp[RV.has,RV.num];exact BR k i j rR hj2⟩;simp[nn,RV.num];rw[h2.2,k2.2];rfl
   ·rw[ah s.1];exact aE s
  ·rw[pT q d r y.2 s.1];rw[ah s.1];exact aE ⟨s.1,by rw[tK _ _ _ _ _ (by rw[s.2];exact s.1)];exact s.2⟩
 |@loop b p Y Q a d g c X hb hc H M Zo=>
  intro z o m r C J E I O D;simp[PT.cnt,aU]at O;simp only[rW,pZ,mW,B6,bT,reduceCtorEq,aT];refine kM D (λD=>?_);have N:=jr q X z o {m with steps:=m.steps+1} E.2.1 I.ef (by simp only;omega);have h1:=H z o {m with steps:=m.steps+1} r {C with steps:=C.steps+1} J E.2.1 I (by simp only;omega) D;generalize mW q a z o {m with steps:=m.steps+1}=f at N h1⊢;generalize rW q a r {C with steps:=C.steps+1}=y at h1⊢;have U:f.2.named.length=m.named.length:=N.1.len;rcases h1 with⟨F,K,h1,h2,h3⟩|s
  ·have L:=CQ.on (d:={m with steps:=m.steps+1}) I N.1 bS K;have hg:=jr q hb z (o+a.cnt) f.2 E.2.2.1 (L.up (by omega)).ef (by omega);have S:=M z (o+a.cnt) f.2 r y.2 F E.2.2.1 (L.up (by omega)) (by omega) h1;generalize mW q d z (o+a.cnt) f.2=x' at hg S⊢;have YN:=hg.1.len.trans U;have DQ:=fj d;rw[show (((o+a.cnt+d.cnt:Nat):Int)-1)=((o+a.cnt+d.cnt-1:Nat):Int) from by omega];rcases S with⟨sp2,k0,S,k2,k3⟩|s
   ·have RN:f.1.n.toNat=y.1.num.toNat:=by
     obtain⟨k,hk,_⟩:=uu h3;rw[hk]at h2⊢;simp[RV.num];rw[h2.2]
    rw[RN];refine (CR (P:=λJ m'=>CQ m'.named m'.cells J z r b o/\m'.named.length=m.named.length) (λsp3 st' m' v u hP hs' hr' ht'=>?_) _ sp2 _ _ _ _ ⟨L.on hg.1 (by omega) k0,YN⟩ S k2 k3).le (K.trans k0);have V:=CQ.snoc (nm:=Y) (j:=o+a.cnt+d.cnt-1) (CQ.up hP.1 (show o<=o+a.cnt+d.cnt-1 by omega)) bS (by omega) hr' ht';rw[show o+a.cnt+d.cnt-1+1=o+a.cnt+d.cnt from by omega]at V;have W:=mQ m' (o+a.cnt+d.cnt-1) u (o+a.cnt+d.cnt-1) 1 (by omega);have hg':=jr q hc _ (o+a.cnt+d.cnt) _ E.2.2.2.1 V.ef (by rw[W.len];omega);refine⟨Zo _ (o+a.cnt+d.cnt) _ _ _ sp3 E.2.2.2.1 V (by rw[W.len];omega) (hs'.name _ _),λsp4 h4=>⟨CQ.on (hP.1.on W (by omega) uf) hg'.1 (by omega) h4,hg'.1.len.trans (W.len.trans hP.2)⟩⟩
   ·refine aE ?_;rw[uT _ _ _ _ s.1,pH _ _ _ _ _ (by rw[s.2];exact s.1)];exact s
  ·have L:f.2.fault≠0:=by rw[s.2];exact s.1
   have hst:=tK q d z (o+a.cnt) f.2 L;rw[pT q d r y.2 s.1];refine aE ?_;rw[uT _ _ _ _ s.1,pH _ _ _ _ _ (by rw[hst];exact L)];exact⟨s.1,by rw[hst];exact s.2⟩
 |@new b p Y Q a c X H=>
  intro z o m r C J E I O D;simp[PT.cnt,aU]at O;simp only[rW,tX,mW,DN,bT];rw[ag (λZ=>Z D.e)];have hpre:J <+: J++[(C.opn.length+1,m.opened)]:=dm _ _;have he1:=CQ.on (d:=m) (e:=m.opn (aQ Q)) I (Ext.same (a:=m) (c:=m.opn (aQ Q)) rfl rfl o 0) bS hpre;have h1:=H z o (m.opn (aQ Q)) r (C.opened (aQ Q)) _ E.2.1 he1 (by show o+a.cnt<=m.named.length;omega) (DR D (aQ Q));have hk:=iM q a r (C.opened (aQ Q));generalize mW q a z o (m.opn (aQ Q))=f at h1⊢;rcases h1 with⟨F,K,h1,h2,h3⟩|s
  ·have hsh:=Iu (l:=C.opn) (x:=C.ops.length) h1 (by rw[hk.opn];rfl);refine aD ⟨F,hpre.trans K,hsh,?_,h3⟩;have:f.2.fin.cells=f.2.cells:=by unfold MM.fin;split<;>rfl
   rw[this];exact h2
  ·refine aE ⟨s.1,?_⟩;have:f.2.fin.fault=f.2.fault:=by unfold MM.fin;split<;>rfl
   rw[this];exact s.2
open Go.RowKit
theorem Jf(k):Wt.region∉fY k false:=by cases k<;>decide
mutual
theorem PE.plain:∀{l:List Tk}{e:PT}{r:List Tk},PE false l e r->(∀t∈l,rT t)->(e.DP/\gL e)/\∀t∈r,rT t
 |_,_,_,.num (t:=t) h,c=>⟨⟨by simp only[PT.DP];exact (c t (by simp)).1 h,.num⟩,λx d=>c x (by simp[d])⟩
 |_,_,_,.name (t:=t) h,c=>⟨⟨by simp[PT.DP],.name⟩,λx d=>c x (by simp[d])⟩
 |_,_,_,.node (k:=k) _ _ h3 m,c=>by
  have h:=PW.plain m (Jf k) (λx d=>c x (by simp[d]));refine⟨⟨by simp only[PT.DP];exact⟨by rw[h.1];decide,h.2.1⟩,.node (λe=>by subst e;exact h3 rfl) h.2.2.1⟩,h.2.2.2⟩
theorem PW.plain:∀{i:List Wt}{l:List Tk}{n j:List UInt8}{f:List PT}{r:List Tk},PW false i l n j f r->Wt.region∉i->(∀t∈l,rT t)->j=[]/\oP f/\(∀x∈f,gL x)/\∀t∈r,rT t
 |_,_,_,_,_,_,.nil,_,c=>⟨rfl,by simp[oP],by simp,c⟩
 |_,_,_,_,_,_,.close _ h1,g,c=>PW.plain h1 (λh=>g (by simp[h])) (λx d=>c x (by simp[d]))
 |_,_,_,_,_,_,.name _ h1,g,c=>PW.plain h1 (λh=>g (by simp[h])) (λx d=>c x (by simp[d]))
 |_,_,_,_,_,_,.region _ h1,g,c=>absurd (by simp) g
 |_,_,_,_,_,_,.e o h1,g,c=>by
  have a:=PE.plain o c;have b:=PW.plain h1 (λh=>g (by simp[h])) a.2;refine⟨b.1,by simp only[oP];exact⟨a.1.1,b.2.1⟩,?_,b.2.2.2⟩;intro x d;rcases bf.1 d with rfl|d
  ·exact a.1.2
  ·exact b.2.2.1 x d
end
theorem EK(y):∃S a b c d,uO y=.agg #[.string S,.int .i64 a,.int .i64 b,.int .i64 c,.int .i64 d]:=by
 unfold uO;split
 ·exact⟨_,_,_,_,_,rfl⟩
 ·exact⟨_,_,_,_,_,rfl⟩
theorem zN{e}(a:e.wf)(h:(cK e).1=0):∃T,WT [] e T/\T.size<=63:=by
 unfold cK at h;split at h
 ·simp at h
 ·have:=oN (List.range e.dn) e 0 0 [] (qo e) a h;exact⟨_,this.2.2,by rw[gq];exact this.2.1⟩
theorem CS (s) (w) (J:s.size<=3000) (i:Lib.TabIs prog w "internal/strconv.uint64pow10" .u64 Lib.pow10Tab) (e) (m:PE false (tokens s.data.toList) e []) (x:(cK e).1=0) (f:Nat) (y:f<=20000):
  Calls prog 12 #[.string s,.int .i64 f] w λv n=>v=.returned (.tuple #[uO (ev f e [] ⟨0,0,0⟩),.int .i64 (ev f e [] ⟨0,0,0⟩).2.e])/\bg w n:=by
 have j:=m.wf;have h:=(m.plain (iy _)).1;have z:=gP m;obtain⟨T,o,K⟩:=zN j x;obtain⟨S,a,b,c,d,A⟩:=EK (ev f e [] ⟨0,0,0⟩);rw[A];refine qq (.inl ⟨rfl,rfl⟩) s f w e (cK e).2 S a b c d _ (λw=>?_) (λn B C D E F G H I p k=>?_)
 ·have:=uP s w J e m;rw[x]at this;exact this
 ·have q:=k.len;refine SJ n B C D E F G f y S a b c d _ (λl g=>?_);obtain⟨X,L,r,t,u⟩:=PY f H.length o K h.2 h.1 (by omega);have:=Np B C D E F G f H (opn e 0) y (by omega) l (p.below g) (cC i l (I.trans (g.mono I.size))) e k.Nn j h.1 q.symm _ rfl X L r;rw[t,u,A]at this;exact this
theorem DY(s)(w)(c:s.size<=3000)(e)(d:PE false (tokens s.data.toList) e [])(f:(cK e).1=0)(a:Int)(g:a<0\/20000<a):Calls prog 12 #[.string s,.int .i64 a] w λv b=>v=.returned (.tuple #[.agg #[.string ⟨#[]⟩,.int .i64 0,.int .i64 0,.int .i64 0,.int .i64 0],.int .i64 11])/\bg w b:=by
 refine qq (.inl ⟨rfl,rfl⟩) s a w e (cK e).2 ⟨#[]⟩ 0 0 0 0 11 (λw=>?_) (λb h i j k l m n _ _ _=>Nr b h i j k l m a g);have:=uP s w c e d;rw[f]at this;exact this
theorem nn.rep:∀{d:RV}{T:Ty}{f:MV},nn v w d f->d.has T->oC v d.vl f/\d.vl.size=T.size
 |.n k,.n,f,h,e=>by simp[nn]at h;simp[RV.has]at e;simp[oC,RV.vl,Vl.size,Ty.size];exact⟨h.1,by omega,by omega⟩
 |.p a b q,.p _ A B,f,h,e=>by
  obtain⟨g,i,c,j,l,_,m,o⟩:=h;have h1:=m.rep e.1;have h2:=o.rep e.2;simp only[oC,RV.vl,Vl.size,Ty.size];exact⟨⟨g,i,c,j,l,h1.1,h2.1⟩,by rw[h1.2,h2.2]⟩
 |.n _,.p _ _ _,_,_,e=>by simp[RV.has]at e
 |.p _ _ _,.n,_,_,e=>by simp[RV.has]at e
theorem uU{g:Nat}{t}{i}{m}(j:Be g t i m):∀(v:RV)(d:MV),nn m.cells t v d->(iY v.vl d m=m/\iF v i=(v.vl.txt,i))\/((iY v.vl d m).fault=13/\(iF v i).2.e=13)
 |.n k,d,h=>aD ⟨rfl,by simp[iF,RV.vl,Vl.txt]⟩
 |.p a b y,d,h=>by
  obtain⟨u,w,f⟩:=xe j h;simp[RV.vl,iY];unfold iF;rcases f with⟨f,l⟩|⟨f,l⟩
  ·rw[f,l,ag (λx=>x j.e)];rcases uU j a _ u with⟨o,q⟩|⟨o,q⟩
   ·rw[o,q];rcases uU j b _ w with⟨r,s⟩|⟨r,s⟩
    ·rw[r,s];exact aD ⟨rfl,by simp[Vl.txt]⟩
    ·exact aE ⟨r,s⟩
   ·have c:(iY a.vl (m.use d).1.a m).fault≠0:=by rw[o];decide
    rw[l8 b.vl _ _ c];refine aE ⟨o,?_⟩;rcases uQ b (iF a i).2 with h1|h1
    ·rw[h1];exact q
    ·rw[h1]
  ·rw[ah (by rw[f];decide)];have c:(m.use d).2.fault≠0:=by rw[l];decide
   rw[l8 a.vl _ _ c,l8 b.vl _ _ c];exact aE ⟨l,f⟩
theorem Ls(b k:Nat){T}(u:WT [] x T)(G:T.size<=63)(E:x.DP)(P:x.cnt<=k):∃X,oC (mW b x [] 0 ((m0 k).opn (-1))).2.cells X (mW b x [] 0 ((m0 k).opn (-1))).1/\X.size<=63/\CJ (iY X (mW b x [] 0 ((m0 k).opn (-1))).1 (mW b x [] 0 ((m0 k).opn (-1))).2) X=sK (qW (rW b x [] xx))/\(iY X (mW b x [] 0 ((m0 k).opn (-1))).1 (mW b x [] 0 ((m0 k).opn (-1))).2).fault=(qW (rW b x [] xx)).2.e:=by
 have m:((m0 k).opn (-1)).named.length=k:=by simp[m0,MM.opn]
 have v:CQ ((m0 k).opn (-1)).named ((m0 k).opn (-1)).cells [] [] [] [] 0:=λs T h=>by simp[look]at h
 have C:Be b [] xx ((m0 k).opn (-1)):=by
  have g:∀(q:Nat)(r:MR),((m0 k).opn (-1)).regs[q]?=some r->q=0/\r=⟨-1,0,0⟩:=by
   intro q r h;have z:([⟨-1,0,0⟩]:List MR)[q]?=some r:=h;rw[lh]at z;split at z
   ·rename_i H;cases z;exact⟨H,rfl⟩
   ·cases z
  refine⟨rfl,rfl,rfl,ld,rfl,rfl,⟨0,rfl⟩,rfl,λj h I=>by simp[xx]at I,λh J=>by simp[xx]at J,λh o D=>by simp[xx]at D,λh o a D=>by simp[xx]at D,?_,?_,λh a K=>by simp at K,rfl,rfl⟩
  ·intro q L r M h1 h2 _;rw[(g q r h1).1,(g L M h2).1]
  ·intro q r h1;rw[(g q r h1).2];exact Nat.zero_lt_one
 have F:=jr b u [] 0 ((m0 k).opn (-1)) E v.ef (by rw[m];omega);have i:=abn b u [] 0 ((m0 k).opn (-1)) [] xx [] E v (by rw[m];omega) C;generalize mW b x [] 0 ((m0 k).opn (-1))=a at F i⊢;generalize rW b x [] xx=y at i⊢;rcases i with⟨Q,_,h1,h2,h3⟩|w
 ·have n:=h2.rep h3;have d:qW y=iF y.1 y.2:=by unfold qW;rw[ah h1.e]
  refine⟨y.1.vl,n.1,by rw[n.2];exact G,?_⟩;rw[d];rcases uU h1 y.1 a.1 h2 with⟨A,B⟩|⟨A,B⟩
  ·rw[A,B];refine⟨?_,by rw[h1.f,h1.e]⟩;unfold CJ sK;rw[ag (λh=>h h1.f),ag (λh=>h h1.e),h1.s,h1.c,h1.l,h1.mo]
  ·refine⟨?_,by rw[A,B]⟩;unfold CJ sK;rw[ah (by rw[A];decide),ah (by rw[B];decide)]
 ·obtain⟨X,N,O⟩:=A9 F.2;have p:a.2.fault≠0:=by rw[w.2];exact w.1
  have d:qW y=([],y.2):=by unfold qW;rw[ag w.1]
  refine⟨X,N,by omega,?_,?_⟩
  ·rw[l8 X a.1 a.2 p,d];unfold CJ sK;rw[ah p,ah w.1]
  ·rw[l8 X a.1 a.2 p,d,w.2]
theorem EL(x):∃S a b c d,sK x=.agg #[.string S,.int .i64 a,.int .i64 b,.int .i64 c,.int .i64 d]:=by
 unfold sK;split
 ·exact⟨_,_,_,_,_,rfl⟩
 ·exact⟨_,_,_,_,_,rfl⟩
mutual
theorem SS:∀t:PT,t.eO->t.Bf->t.DP
 |.num _ _,h,_=>by simp only[PT.eO]at h;simp only[PT.DP];exact h
 |.name _ _,_,_=>by simp[PT.DP]
 |.node _ _ _ _ a,h,h3=>by
  simp only[PT.eO]at h;simp only[PT.Bf]at h3;simp only[PT.DP];exact⟨by omega,Nt a h.2 h3.2⟩
theorem Nt:∀b:List PT,gJ b->CP b->oP b
 |[],_,_=>by simp[oP]
 |t::r,h,h3=>by
  simp only[gJ]at h;simp only[CP]at h3;simp only[oP];exact⟨SS t h.1 h3.1,Nt r h.2 h3.2⟩
end
theorem DZ (s) (w) (J:s.size<=9000) (h:Lib.TabIs prog w "internal/strconv.uint64pow10" .u64 Lib.pow10Tab) (e) (i:PE true (tokens s.data.toList) e []) (x:(cK e).1=0) (f:Nat) (y:f<=20000):
  Calls prog 18 #[.string s,.int .i64 f] w λv n=>v=.returned (.tuple #[sK (qW (rW f e [] xx)),.int .i64 (qW (rW f e [] xx)).2.e])/\bg w n:=by
 have j:=i.wf;have k:=SS e (i.eO (iy _)).1 (i.Bf (zL _)).1;have z:=gP i;obtain⟨T,o,K⟩:=zN j x;obtain⟨S,a,b,c,d,A⟩:=EL (qW (rW f e [] xx));rw[A];refine qq (.inr ⟨rfl,rfl⟩) s f w e (cK e).2 S a b c d _ (λw=>?_) (λn B C D E F G H I p l=>?_)
 ·have:=pU s w J e i;rw[x]at this;exact this
 ·have q:=l.len;refine SJ n B C D E F G f y S a b c d _ (λm g=>?_);obtain⟨X,L,r,t,u⟩:=Ls f H.length o K k (by omega);have:=Np B C D E F G f H (opn e 0) y (by omega) m (p.below g) (cC h m (I.trans (g.mono I.size))) e l.Nn j k q.symm _ rfl X L r;rw[t,u,A]at this;exact this
theorem Gc(s)(w)(c:s.size<=9000)(e)(d:PE true (tokens s.data.toList) e [])(f:(cK e).1=0)(a:Int)(g:a<0\/20000<a):Calls prog 18 #[.string s,.int .i64 a] w λv b=>v=.returned (.tuple #[.agg #[.string ⟨#[]⟩,.int .i64 0,.int .i64 0,.int .i64 0,.int .i64 0],.int .i64 11])/\bg w b:=by
 refine qq (.inr ⟨rfl,rfl⟩) s a w e (cK e).2 ⟨#[]⟩ 0 0 0 0 11 (λw=>?_) (λb h i j k l m n _ _ _=>Nr b h i j k l m a g);have:=pU s w c e d;rw[f]at this;exact this
theorem yF(e)(a:e.dn<=100):(aV (mR e) e 0 0 [] (qo e)).2.e=(cK e).1/\(aV (mR e) e 0 0 [] (qo e)).2.at_=(cK e).2:=by
 have h:=(nA (mR e) (List.range e.dn) e 0 0 0 0 [] [] (qo e) (qo e) rfl ⟨rfl,rfl⟩).2;unfold cK;rw[ag (by omega)];exact h
theorem o7{F R Q}(y:F=5/\R=18/\Q=19\/F=3/\R=12/\Q=13)(s)(e:Int)(w)(S)(a b c d x:Int)(h1:Calls prog R #[.string s,.int .i64 e] w λv f=>v=.returned (.tuple #[.agg #[.string S,.int .i64 a,.int .i64 b,.int .i64 c,.int .i64 d],.int .i64 x])/\bg w f)(h2:∀f,bg w f->Calls prog Q #[.string s,.int .i64 e] f λv p=>v=.returned (.tuple #[.agg #[.string S,.int .i64 a,.int .i64 b,.int .i64 c,.int .i64 d],.int .i64 x])/\bg f p):Calls prog F #[.string s,.int .i64 e] w λv f=>v=.returned (.bool true)/\bg w f:=by
 rcases y with⟨rfl,rfl,rfl⟩|⟨rfl,rfl,rfl⟩
 all_goals
  have t:Hid _:=h2;clear h2;have k:∀w,Calls prog 15 #[.agg #[.string S,.int .i64 a,.int .i64 b,.int .i64 c,.int .i64 d],.agg #[.string S,.int .i64 a,.int .i64 b,.int .i64 c,.int .i64 d]] w λv f=>v=.returned (.bool true)/\bg w f:=by
   intro w;have C:(S.toList==S.toList)=true:=by simp
   have D:(a==a)=true:=by simp
   have E:(b==b)=true:=by simp
   have G:(c==c)=true:=by simp
   have H:(d==d)=true:=by simp
   go_in;go_wp2;go_ret;exact⟨rfl,((aM _ w).alloc bS _).alloc (by simp) _⟩
  have n:∀w,Calls prog 14 #[.int .i64 x] w λv f=>v=.returned (.int .i64 x)/\f=w:=by
   intro w;go_in;go_wp2;go_ret;exact⟨rfl,rfl⟩
  have I:(x==x)=true:=by simp
  go_in;go_wp2_with fail;refine h1.mono ?_;rintro _ z ⟨rfl,l⟩;have g:=l.alloc l.size (.cells #[.string S,.int .i64 a,.int .i64 b,.int .i64 c,.int .i64 d] 23);have h:Hid _:=g;have u:=t.out _ g;clear l h1 g t;go_wp2_with fail;refine ay u ?_;rintro _ A ⟨rfl,i⟩;have q:A.heap[z.heap.size]?=some (.cells #[.string S,.int .i64 a,.int .i64 b,.int .i64 c,.int .i64 d] 23):=by rw[i.block _ (by simp)];exact bD _ _
  obtain⟨J,K,L,M,N⟩:=gQ q;have B:=aG q;have j:=(h.out.trans (i.mono h.out.size)).alloc (h.out.trans (i.mono h.out.size)).size (.cells #[.string S,.int .i64 a,.int .i64 b,.int .i64 c,.int .i64 d] 23);have m:Hid _:=j;clear i h u q j;go_wp2_with fail;refine (n _).mono ?_;rintro _ _ ⟨rfl,rfl⟩;go_wp2_with fail;refine (k _).mono ?_;rintro _ O ⟨rfl,o⟩;have r:Hid _:=m.out.trans (o.mono m.out.size);clear o m;go_wp2;go_ret;exact⟨rfl,r.out⟩
theorem SU (s) (f:Int) (w) (A:s.size<=maxLen) (r:Lib.TabIs prog w "internal/strconv.uint64pow10" .u64 Lib.pow10Tab):Calls prog 5 #[.string s,.int .i64 f] w λv l=>v=.returned (.bool true)/\bg w l:=by
 by_cases I:9000<s.size
 ·exact o7 (.inl ⟨rfl,rfl,rfl⟩) s f w ⟨#[]⟩ 0 0 0 0 1 (kY (.inr ⟨rfl,rfl⟩) s f w 1 0 (by omega) (λw=>(oh s w 1 0 (by omega) (λw=>ko (.inr ⟨rfl,rfl⟩) s w I A)).mono λ_ _ ⟨h,g⟩=>⟨_,_,_,_,_,_,h,g⟩)) (λw _=>xy s f w 1 (by omega) (λw _=>(AP s w I A).mono λ_ _ ⟨h,g⟩=>⟨_,_,_,h,g⟩))
 ·cases z:jt true s.data.toList with
  |some q=>exact o7 (.inl ⟨rfl,rfl,rfl⟩) s f w ⟨#[]⟩ 0 0 0 0 2 (kY (.inr ⟨rfl,rfl⟩) s f w 2 q (by omega) (λw=>(oh s w 2 q (by omega) (λw=>kr (.inr ⟨rfl,rfl,rfl,rfl⟩) s w (by omega) q z)).mono λ_ _ ⟨h,g⟩=>⟨_,_,_,_,_,_,h,g⟩)) (λw _=>xy s f w 2 (by omega) (λw _=>(AQ s w (by omega) q z).mono λ_ _ ⟨h,g⟩=>⟨_,_,_,h,g⟩))
  |none=>
   obtain⟨e,o⟩:=qv z;have hit:=λl g=>rI l (cC r l g);by_cases t:(cK e).1=0
   ·have u:e.dn<=100:=by
     unfold cK at t;split at t
     ·simp at t
     ·omega
    have B:∀p,bg w p->∀m,bg p m->Calls prog 33 #[.string s,.bool true] m λv l=>∃b q y,v=.returned (.tuple #[ptr b,.pointer q,.int .i64 0,.int .i64 y])/\bg m l/\gS l (λk=>k<l.heap.size) e 0 0 b:=by
     intro p i m j;have F:=(yF e u).1.trans t;refine (vS s m (by omega) e o z u (λl g=>hit l ((i.trans (j.mono i.size)).trans (g.mono (bw i.size j.size))))).mono λ_ _ ⟨b,G,h,g,H,_⟩=>⟨b,some ⟨G,0,none⟩,((aV (mR e) e 0 0 [] (qo e)).2.at_:Int),?_,g,H⟩;rw[h,F];rfl
    by_cases C:f<0\/20000<f
    ·exact o7 (.inl ⟨rfl,rfl,rfl⟩) s f w ⟨#[]⟩ 0 0 0 0 11 (Gc s w (by omega) e o t f C) (λp i=>Lp s f p C (λm j=>(B p i m j).mono λ_ _ ⟨b,q,y,h,g,_⟩=>⟨_,q,y,h,g⟩))
    ·obtain⟨n,rfl⟩:∃n:Nat,f=n:=⟨f.toNat,by omega⟩;have J:n<=20000:=by omega
     obtain⟨T,D,H⟩:=zN o.wf t;have E:=(o.eO (iy _)).1;have K:=gP o;obtain⟨S,a,b,c,d,L⟩:=EL (qW (rW n e [] xx));have M:=DZ s w (by omega) r e o t n J;rw[L]at M;refine o7 (.inl ⟨rfl,rfl,rfl⟩) s n w S a b c d _ M (λl x=>?_);have N:=P0 s n l J e (λm j=>B l x m j) (λp P=>Pn P n D E o.wf) (λp i=>hit p (x.trans (i.mono x.size))) o.wf (by omega) T H _ rfl (λF=>((th n D [] xx E (λ_ s U h=>by simp[look]at h)).1 F).2);rw[L]at N;exact N
   ·have O:=t;refine o7 (.inl ⟨rfl,rfl,rfl⟩) s f w ⟨#[]⟩ 0 0 0 0 (cK e).1 (kY (.inr ⟨rfl,rfl⟩) s f w (cK e).1 (cK e).2 O (λw=>(pU s w (by omega) e o).mono λ_ _ ⟨Q,R,V,W,X,Y,_,h,g,_⟩=>⟨Q,R,V,W,X,Y,h,g⟩)) (λp i=>xy s f p (cK e).1 O (λm j=>?_));by_cases A:100<e.dn
    ·have h3:(cK e).1=3:=by unfold cK;rw[ah A]
     rw[h3];exact (AR s m (by omega) e o z A).mono λ_ _ ⟨q,h,_,g⟩=>⟨_,_,_,h,g⟩
    ·rw[<-(yF e (by omega)).1];exact (vS s m (by omega) e o z (by omega) (λl g=>hit l ((i.trans (j.mono i.size)).trans (g.mono (bw i.size j.size))))).mono λ_ _ ⟨b,G,h,g,_⟩=>⟨some ⟨b,0,none⟩,some ⟨G,0,none⟩,_,h,g⟩
open Go.Lib (decDigits)
theorem Lt(f)(v)(a):turns f 0 v a=(v,a):=rfl
theorem P6(f)(k:Nat)(v)(a)(h:a.e≠0):turns f k v a=(v,a):=by
 cases k with
 |zero=>rfl
 |succ k=>simp only[turns];rw[ah h]
theorem Lu(f)(k:Nat)(v)(a)(h:a.e=0):turns f (k+1) v a=turns f k (f v a).1 (f v a).2:=by
 simp only[turns];rw[ag (by simpa using h)]
theorem P7{Q}(u a:Nat)(p:Nat)(O rg)(x y z)(G:dc)(T)(hwx:WT G x .n)(Xi:WT G y T)(VD:WT (G++[(O,T)]) z T)(GW:x.eO)(hty:y.eO)(htz:z.eO)(J5:gL x)(hny:gL y)(hnz:gL z)(Pc:rK Q u a x G)(KS:rK Q u a y G)(ihz:rK Q u a z (G++[(O,T)])):Yw Q u a (.node p .loop O rg [x,y,z]) G:=by
 intro id site b F c H nv tv w hT r o hlen hs he hq;obtain⟨gk,vc,bx,bb,bc,FH,Cp,KQ,Cq,Yz,RM,L,rA,s6,Vr⟩:=Vp hT;have hne:=by have:=r.hyb;have:=L.hb;omega
 have QF:=by have:=r.hyb;have:=L.hg;omega
 simp only[PT.cnt,aU]at hlen;obtain⟨f,R⟩:∃f:Vl->jF->Vl×jF,f=λv H=>ev a z (c++[(O,v)]) H:=⟨_,rfl⟩;have yT:ev a (.node p .loop O rg [x,y,z]) c H=turns f (ev a x c {H with steps:=H.steps+1}).1.num (ev a y c (ev a x c {H with steps:=H.steps+1}).2).1 (ev a y c (ev a x c {H with steps:=H.steps+1}).2).2:=by
  rw[R]
  conv=>lhs;unfold ev
  rw[sx he hq];simp only[reduceCtorEq,aT,bT,s8]
 rw[yT];have hs':=hs.step hq;have hr1:=uD a hwx c {H with steps:=H.steps+1} GW J5 (λ_=>o);have h1:=λm=>Pc FH Cp bx F c {H with steps:=H.steps+1} nv tv _ rA (r.step m) (λ_=>o) (by omega) hs';have hs2:=hs'.on x c;generalize ev a x c {H with steps:=H.steps+1}=r1 at*;have xO:=uD a Xi c r1.2 hty hny (λ_=>o);have h2:=λA B P (q:kL Q P u A B c a r1.2)=>KS KQ Cq bb F c r1.2 A B P s6 q (λ_=>o) (by omega) hs2;have hs3:=hs2.on y c;generalize ev a y c r1.2=r2 at*;obtain⟨k,hk,hk9⟩:=Ba hr1;rw[hk]at h1⊢;have hnu:=λw=>tj k w hk9
 have h3:∀(v:Vl)(h:jF)(A B:Value)(P:World),(h.e=0->v.has T)->Ia a h->kL Q P u A B c a h->
   Calls prog 62 #[ptr u,.string (bs O),.string (bs v.txt),ptr bc] P λe V=>e=.returned (.string (bs (f v h).1.txt))/\
   ∃C D,Fr P V u A B (.slice none 0 0) C D/\kL Q V u C D c a (f v h).2:=by
  intro v h A B P S E q;rw[R];exact Ez (L:=z) bc c h A B P O v (λC D V M=>ihz Yz RM bc F (c++[(O,v)]) h C D V Vr M (λe=>o.snoc (S e)) (by simp;omega) E) q (by omega)
 have h4:∀(v:Vl)(h:jF),(h.e=0->v.has T)->Ia a h->((f v h).2.e=0->(f v h).1.has T)/\Ia a (f v h).2:=by
  intro v h S E;rw[R];exact⟨λe=>((uD a VD (c++[(O,v)]) h htz hnz (λe=>o.snoc (S e))).1 e).2,E.on z _⟩
 simp only[Vl.txt]at h1;simp only[Vl.num];have d:=L.on r.b0;have x0:=d.c0;have x4:=d.c4;have ML:=d.ck 0 bx rfl;have Rp:=d.hb;have Rq:=d.hg;have q0:((bs Kw.loop.bytes).toList==[110,117,109,98,101,114])=false:=by rw[bo];decide
 have q1:((bs Kw.loop.bytes).toList==[110,97,109,101])=false:=by rw[bo];decide
 have q2:((bs Kw.loop.bytes).toList==[108,101,116])=false:=by rw[bo];decide
 have q3:((bs Kw.loop.bytes).toList==[105,102])=false:=by rw[bo];decide
 have q4:((bs Kw.loop.bytes).toList==[108,111,111,112])=true:=by rw[bo];decide
 have y2:cg w u 2 (.int .i64 a):=dR r.y rfl;have y3:cg w u 3 (.int .i64 H.steps):=dR r.y rfl;have y5:=r.e0 he;have f3:=aK r.y 3;have Kx:=aG r.y;have q9:((H.steps:Int)==(a:Int))=false:=by rw[aH];omega
 have Yx:=hs.s;have Xg:=hs.f;have OI:r2.2.e=0->r2.1.has T:=λe=>(xO.1 e).2;unfold ptr at h1 h2 h3;clear d hT r o hs he yT hq rA s6 Vr Pc KS ihz hs' hs2 hr1 xO hk R;show Calls _ _ #[Value.pointer (some ⟨u,0,none⟩),Value.pointer (some ⟨b,0,none⟩)] w _;go_in;go_wp2_with fail;go_quiet (fail);go_wp2_with fail;refine ay (h1 _) ?_;rintro _ P ⟨rfl,A,B,X,q⟩;have d:=L.on q.b0;have z4:=d.c4;have QG:=d.ck 1 bb rfl;have Rs:=d.hb;have Ut:=d.hg;have hc2:=h2 A B P q;clear q d h1 h2;go_wp2_with fail;refine hc2.mono ?_;rintro _ w3 ⟨rfl,nv3,DK,Y,Z⟩;refine bY (((Fr.setAt w u nv tv _ 3 _).trans X).trans Y) Z λF6 HI3=>?_;clear Y Z hc2 X;go_wp2_with fail;refine (hnu _).mono ?_;rintro _ w3 ⟨rfl,rfl⟩;go_wp2_with fail;go_loopw [10,11] (λvv i wr=>∃(j:Nat)(v:Vl)(g:jF)(J K:Value),j<=k/\i=.int .i64 j/\vv=.string (bs v.txt)/\turns f k r2.1 r2.2=turns f j v g/\(g.e=0->v.has T)/\Ia a g/\Fr w wr u nv tv (.slice none 0 0) J K/\kL Q wr u J K c a g) (λ_ i _=>(intOf i).toNat)
 case atStart=>exact⟨k,r2.1,r2.2,nv3,DK,bS,rfl,rfl,rfl,OI,hs3,F6.out,HI3.out⟩
 case round=>
  obtain⟨j,v,g,J,K,hj,rfl,rfl,U,S,E,I,l⟩:=hrel;have e5:cg wr u 5 (.int .i64 g.e):=dR l.y rfl;have Wd:=aG l.y;have d:=L.on l.b0;have u2:=d.c2;have u4:=d.c4;have uk2:=d.ck 2 bc rfl;have ul1:=d.hb;have ul2:=d.hg;refine fw U I l λHTU yA HI4=>?_;by_cases WZ:j=0
  ·subst WZ;have HE:Hid _:=Lt f v g;clear U I l d S E y2 y3 y5 f3;go_wp2;go_ret;rw[HTU.out,HE.out];exact⟨rfl,J,K,yA,HI4⟩
  ·by_cases N:g.e=0
   ·have qe:((g.e:Int)==0)=true:=by rw[N];rfl
    obtain⟨i,rfl⟩:∃i,j=i+1:=⟨j-1,by omega⟩;have h4:=h4 v g S E;refine bY (Lu f i v g N) h4 λHE H5=>?_
    have hun:∀W,bg wr W->Calls prog 62 #[.pointer (some ⟨u,0,none⟩),.string (bs O),.string (bs v.txt),.pointer (some ⟨bc,0,none⟩)] W λe V=>e=.returned (.string (bs (f v g).1.txt))/\
      ∃C D,Fr w V u nv tv (.slice none 0 0) C D/\kL Q V u C D c a (f v g).2:=by
     intro W hW;refine (h3 v g J K W S E (l.grow hW)).mono ?_;rintro e V ⟨rfl,C,D,Q7,M⟩;exact⟨rfl,C,D,I.trans ((Fr.below hW _ _ _ _).trans Q7),M⟩
    clear U I l d S E y2 y3 y5 f3 N HI4 yA;go_wp2;go_region_with (go_at_call 62;refine (hun _ ?_).mono ?_;exact⟨rfl,rfl,rfl,bS,λ_ _=>rfl⟩;rintro e w5 ⟨rfl,U5⟩)
    all_goals
     obtain⟨nv5,tv5,Su,abo⟩:=U5;refine bY Su abo λDV QK=>?_;clear Su abo;go_wp2;go_roundw
     case rel=>exact⟨i,(f v g).1,(f v g).2,nv5,tv5,by omega,by go_num,rfl,by rw[HTU.out,HE.out],H5.out.1,H5.out.2,DV.out,QK.out⟩
     case measure=>simp[intOf]
   ·have qe:((g.e:Int)==0)=false:=by rw[aH];omega
    have HE:Hid _:=P6 f j v g N;have hjp:0<j:=by omega
    clear U I l d S E y2 y3 y5 f3 N;go_wp2;go_ret;rw[HTU.out,HE.out];exact⟨rfl,J,K,yA,HI4⟩
