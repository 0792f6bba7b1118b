import Derived.Test.YtpicaknklgccoaaGreatDoorK57
set_option maxHeartbeats 4000000
set_option maxRecDepth 100000
namespace Go.Proofs.YtpicaknklgccoaaGreatDoor
variable {w c P R:Nat}{b:List NR}{d:NR}{x:List Nat}{y:Nat -> Nat}{z O:Ty}{v:PT × Nat × Nat}{u L:List (PT × Nat × Nat)}{K:List Ty}{T N:List (List UInt8)}{M Y:List (Nat × List UInt8)}{I:Rec}{G:dc}
theorem qu(id p:Nat)(V)(a)(_he:a.e=0)(b:V.size<=63):fin id p (V,a)=(V,{a with of:=a.of.set id V.txt}):=by
 unfold fin;simp only;rw[ag (by omega)]
def GM(cls:List Nat)(c:Nat->Nat)(l:List (Nat×List UInt8))(a:Nat):Prop:=∀(i:Nat)(x:Nat×List UInt8),l[i]?=some x->cls.getD (a+i) 0=c x.1
theorem GM.left{cls}(h:GM cls y (M++Y) w):GM cls y M w:=
 λi x d=>h i x (by rw[ak (ae.1 d).1];exact d)
theorem GM.right{cls}(h:GM cls y (M++Y) w):GM cls y Y (w+M.length):=λi x d=>by
 have:=h (M.length+i) x (by rw[aw (by omega),cJ];exact d);rw[<-aY]at this;exact this
structure FT(c:Nat->Nat)(T1:List Ty)(o o':List (List UInt8))(id n:Nat)(xs:List (PT×Nat×Nat))(b:Nat): Prop where
 out:∀k,k<id\/id+n<=k->o'[k]?=o[k]?
 len:o'.length=o.length
 ids:∀x∈xs,id<=x.2.1/\x.2.1<id+n
 at_:∀(j:Nat)(x:PT×Nat×Nat),xs[j]?=some x->o'[x.2.1]?=some (fH c (aP T1 ((b+j:Nat):Int))).txt
theorem FT.app{d}{id n:Nat}(h:FT y K T N id n u c)(g:FT y K N d (id+n) w L (c+u.length)):FT y K T d id (n+w) (u++L) c:=by
 refine⟨λk e=>?_,by rw[g.len,h.len],λx a=>?_,λj x a=>?_⟩
 ·rw[g.out k (by omega),h.out k (by omega)]
 ·rcases aA.1 a with a|a
  ·have:=h.ids x a;omega
  ·have:=g.ids x a;omega
 ·rcases iV a with⟨h1,h2⟩|⟨h1,h2⟩
  ·have:=h.ids x (aq h2);rw[g.out _ (by omega)];exact h.at_ j x h2
  ·have:=g.at_ _ x h2;rw[show c+u.length+(j-u.length)=c+j by omega]at this;exact this
theorem FT.root{id n:Nat}(h:FT y K T N (id+1) n u w)(hid:id<T.length)(x)(e:x.2.1=id){V}(f:V=fH y (aP K ((w+u.length:Nat):Int))):FT y K T (N.set id V.txt) id (1+n) (u++[x]) w:=by
 refine⟨λk i=>?_,by rw[cO,h.len],λa d=>?_,λj a d=>?_⟩
 ·rw[bI (by omega),h.out k (by omega)]
 ·rcases aA.1 d with d|d
  ·have:=h.ids a d;omega
  ·simp only[ax]at d;subst d;omega
 ·rcases iV d with⟨h1,h2⟩|⟨h1,h2⟩
  ·have:=h.ids a (aq h2);rw[bI (by omega)];exact h.at_ j a h2
  ·have g:j-u.length=0:=by
    have:=(ae.1 h2).1;simp only[bG]at this;omega
   rw[g]at h2;simp only[aL,ai]at h2;subst h2;rw[e,bh (by rw[h.len];exact hid),f,show w+u.length=w+j by omega]
theorem FT.nil(c)(d)(o)(id b:Nat):FT c d o o id 0 [] b:=⟨λ_ _=>rfl,rfl,λx a=>by simp at a,λj x a=>by simp at a⟩
def WH(c:Nat->Nat)(b:List Ty)(G a:dc)(d:Sc):Prop:=∀s U,look G s=some U->U.size<=63/\∃i:Nat,gb d s=(i:Int)/\look a s=some (fH c (aP b i))/\(aP b i).bare=U
theorem WH.snoc{d:dc}{f}{nm}{a:Int}(h:WH y K G d f)(g:0<=a)(i:z.size<=63){V}(j:V=fH y (aP K a))(k:(aP K a).bare=z):WH y K (G++[(nm,z)]) (d++[(nm,V)]) (f++[(nm,a)]):=λs W b=>by
 rw[Dp]at b⊢;rw[qJ];by_cases e:nm=s
 ·rw[ah e]at b⊢;rw[ah e];simp at b;subst b;exact⟨i,a.toNat,by omega,by rw[iR g,j],by rw[iR g];exact k⟩
 ·rw[ag e]at b⊢;rw[ag e];exact h s W b
structure FO(c:Nat->Nat)(T1:List Ty)(e:PT)(U:Ty)(id site b:Nat)(st:gH)(x:Ty×gH): Prop where
 ty:x.1=fH c (aP T1 (((b+e.cnt:Nat):Int)-1))
 e0:x.2.e=0
 ft:FT c T1 st.of x.2.of id e.cnt (e.subs id site) b
 ba:(aP T1 (((b+e.cnt:Nat):Int)-1)).bare=U
 sz:U.size<=63
theorem lR(h:z.bare=O):z.size=O.size:=by rw[<-h,gq]
theorem Mg{cls}(H:∀i n,b[i]?=some n->aP K (i:Nat)=iz K (atR n)){e}(h:WT G e z):gL e->∀(id l:Nat)(q:dc)(M:gH)(Q:Sc)(f:Nat)(D ms t:List NR),NA Q e f ms->b=D++(ms++t)->D.length=f->WH y K G q Q->GM cls y e.tE l->id+e.cnt<=M.of.length->M.e=0->FO y K e z id l f M (aV cls e id l q M):=by
 induction h with
 |@num G p s=>
  intro _ id l q M Q f D ms t F o hb R O hl W;subst F;have hn:=at_root (T:=[]) o;rw[hb]at hn;have I:=H _ _ hn;simp at hn I;have hk:aP K (f:Nat)=.n:=by rw[I];simp[iz,atR]
  simp[PT.cnt]at hl;have J:Ty.n=fH y (aP K ((f+0:Nat):Int)):=by rw[az,hk];rfl
  simp[aV];rw[qu id p _ M W (by simp[Ty.size])];refine⟨?_,W,?_,?_,by simp[Ty.size]⟩
  ·simp only[PT.cnt,show (((f+1:Nat):Int)-1)=((f+0:Nat):Int) by omega];exact J
  ·exact (FT.nil y K M.of (id+1) f).root (by omega) (.num p s,id,l) rfl J
  ·simp only[PT.cnt,show (((f+1:Nat):Int)-1)=(f:Int) by omega,hk];rfl
 |@name G p s z hs=>
  intro _ id l q M Q f D ms t F o hb R O hl W;subst F;have hn:=at_root (T:=[]) o;rw[hb]at hn;have I:=H _ _ hn;simp at hn I;obtain⟨X,i,h1,h2,h3⟩:=R _ _ hs;have hk:aP K (f:Nat)=aP K (i:Nat):=by rw[I];simp[iz,atR,h1]
  simp[PT.cnt]at hl;have J:fH y (aP K (i:Nat))=fH y (aP K ((f+0:Nat):Int)):=by rw[az,hk]
  simp[aV,h2];rw[qu id p _ M W (by rw[kx,lR h3];exact X)];refine⟨?_,W,?_,?_,X⟩
  ·simp only[PT.cnt,show (((f+1:Nat):Int)-1)=((f+0:Nat):Int) by omega];exact J
  ·exact (FT.nil y K M.of (id+1) f).root (by omega) (.name p s,id,l) rfl J
  ·simp only[PT.cnt,show (((f+1:Nat):Int)-1)=(f:Int) by omega,hk];exact h3
 |@dV G p nm rg a f UA UB ha hb P Y=>
  intro w id l q M Q bs D ms t F o C R O hl W;cases w with
  |node _ w=>
  obtain⟨ks,dH,⟨S,c1,E,⟨a2,c2,N,⟨_,rfl⟩,rfl⟩,rfl⟩,rfl⟩:=F;rw[aN]at o;have T:=NA.len E;have lb:=NA.len N;have m:=at_root o;rw[C,aj,T,lb]at m;have I:=H _ _ m;simp only[PT.tE,pJ,reduceCtorEq,aT,bC,aN]at O;simp[PT.cnt,aU]at hl;have B:=P (w _ (by simp)) (id+1) l q M Q bs D S (a2++([_]++t)) E (by rw[o];simp;rfl) C R O.left (by omega) W;have L:=O.right;rw[lj]at L;have A:=Y (w _ (by simp)) (id+1+a.cnt) (l+a.dn) _ _ _ (bs+a.cnt) (D++S) a2 ([_]++t) N (by rw[o];simp;rfl) (by rw[aj,C,T]) (R.snoc (GG bs a) B.sz B.ty B.ba) L (by rw[B.ft.len];omega) B.e0;have J:aP K ((bs+(a.cnt+f.cnt):Nat):Int)=aP K (((bs+a.cnt+f.cnt:Nat):Int)-1):=by
   rw[I];simp only[iz,atR,Dg,cz,bM,bB];simp
  simp only[aV,bT,gI];generalize aV cls a (id+1) l q M=x at B A⊢;generalize aV cls f (id+1+a.cnt) (l+a.dn) (q++[(nm,x.1)]) x.2=g at A⊢;obtain⟨y1,y2⟩:=g;have hy1:y1=fH y (aP K (((bs+a.cnt+f.cnt:Nat):Int)-1)):=A.ty;rw[qu id p _ _ A.e0 (by rw[hy1,kx,lR A.ba];exact A.sz)];have:=(B.ft.app (by rw[cU];exact A.ft)).root (by omega) (.node p .dV nm rg [a,f],id,l) rfl (V:=y1) (by rw[aj,cU,cU,J];exact hy1);refine⟨?_,A.e0,?_,?_,A.sz⟩
  ·simp only[PT.cnt,aU,az,gW,J];exact hy1
  ·simpa [PT.cnt,aU,PT.subs,fG] using this
  ·simp only[PT.cnt,aU,az,gW,J];exact A.ba
 |@pair G p nm rg a f UA UB ha hb X P Y=>
  intro w id l q M Q bs D ms t F o C R O hl W;cases w with
  |node _ w=>
  obtain⟨ks,dH,⟨S,c1,E,⟨a2,c2,N,⟨_,rfl⟩,rfl⟩,rfl⟩,rfl⟩:=F;rw[aN]at o;have T:=NA.len E;have lb:=NA.len N;have m:=at_root o;rw[C,aj,T,lb]at m;have I:=H _ _ m;simp only[PT.tE,pJ,bT,aN,cQ]at O;have hc0:=by have:=O 0 _ rfl;rwa [az]at this
  have hc1:GM cls y (a.tE++f.tE) (l+1):=λi x hx=>by
   have:=O (i+1) x (by simpa using hx)
   rwa [show l+(i+1)=l+1+i by omega]at this
  simp[PT.cnt,aU]at hl;have B:=P (w _ (by simp)) (id+1) (l+1) q M Q bs D S (a2++([_]++t)) E (by rw[o];simp;rfl) C R hc1.left (by omega) W;have L:=hc1.right;rw[lj]at L;have A:=Y (w _ (by simp)) (id+1+a.cnt) (l+1+a.dn) q _ Q (bs+a.cnt) (D++S) a2 ([_]++t) N (by rw[o];simp;rfl) (by rw[aj,C,T]) R L (by rw[B.ft.len];omega) B.e0;have J:aP K ((bs+(a.cnt+f.cnt):Nat):Int)=.p p (aP K (((bs+a.cnt:Nat):Int)-1)) (aP K (((bs+a.cnt+f.cnt:Nat):Int)-1)):=by
   rw[I];simp only[iz,atR,yN,cz,bM,bB];simp
  simp only[aV,reduceCtorEq,aT,bT,cP];generalize aV cls a (id+1) (l+1) q M=x at B A⊢;generalize aV cls f (id+1+a.cnt) (l+1+a.dn) q x.2=g at A⊢;rw[ag (λh=>h A.e0)];simp only[dz,hc0];have hW:Ty.p (y p) x.1 g.1=fH y (aP K ((bs+(a.cnt+f.cnt):Nat):Int)):=by rw[J,B.ty,A.ty];rfl
  have Yi:(Ty.p (y p) x.1 g.1).size<=63:=by
   have s1:=lR B.ba;have s2:=lR A.ba;simp[Ty.size]at X⊢;rw[B.ty,A.ty,kx,kx];omega
  rw[qu id p _ _ A.e0 Yi];have:=(B.ft.app (by rw[cU];exact A.ft)).root (by omega) (.node p .pair nm rg [a,f],id,l) rfl (V:=Ty.p (y p) x.1 g.1) (by rw[aj,cU,cU];exact hW);refine⟨?_,A.e0,?_,?_,X⟩
  ·simp only[PT.cnt,aU,az,gW];exact hW
  ·simpa [PT.cnt,aU,PT.subs,fG] using this
  ·simp only[PT.cnt,aU,az,gW,J,Ty.bare,B.ba,A.ba]
 |@fst G p nm rg a UA UB ha P=>
  intro w id l q M Q bs D ms t F o C R O hl W;cases w with
  |node _ w=>
  obtain⟨ks,dH,⟨S,c1,E,⟨_,rfl⟩,rfl⟩,rfl⟩:=F;rw[aN]at o;have T:=NA.len E;have m:=at_root o;rw[C,T]at m;have I:=H _ _ m;simp only[PT.tE,pJ,reduceCtorEq,aT,bC,aN]at O;simp[PT.cnt,aU]at hl;have B:=P (w _ (by simp)) (id+1) l q M Q bs D S ([_]++t) E (by rw[o];simp;rfl) C R O (by omega) W;have J:aP K ((bs+a.cnt:Nat):Int)=D3 (aP K (((bs+a.cnt:Nat):Int)-1)):=by
   rw[I];simp only[iz,atR,Dh,cz,bM,bB];simp
  obtain⟨r,u,v,hp,hu,hv⟩:=qE B.ba;simp only[aV,reduceCtorEq,aT,cP,az];generalize aV cls a (id+1) l q M=x at B⊢;rw[ag (λh=>h B.e0)];have Z:x.1=.p (y r) (fH y u) (fH y v):=by rw[B.ty,hp];rfl
  rw[Z];simp[dz];rw[hp]at J;have X:=B.sz;have Y9:=lR hu;have hU:UA.size<=63:=by simp[Ty.size]at X;omega
  rw[qu id p _ _ B.e0 (by rw[kx,Y9];exact hU)];have:=B.ft.root (by omega) (.node p .fst nm rg [a],id,l) rfl (V:=fH y u) (by rw[cU,J];rfl);refine⟨?_,B.e0,?_,?_,hU⟩
  ·simp only[PT.cnt,aU,az,gW,J];rfl
  ·simpa [PT.cnt,aU,PT.subs,fG] using this
  ·simp only[PT.cnt,aU,az,gW,J];exact hu
 |@snd G p nm rg a UA UB ha P=>
  intro w id l q M Q bs D ms t F o C R O hl W;cases w with
  |node _ w=>
  obtain⟨ks,dH,⟨S,c1,E,⟨_,rfl⟩,rfl⟩,rfl⟩:=F;rw[aN]at o;have T:=NA.len E;have m:=at_root o;rw[C,T]at m;have I:=H _ _ m;simp only[PT.tE,pJ,reduceCtorEq,aT,bC,aN]at O;simp[PT.cnt,aU]at hl;have B:=P (w _ (by simp)) (id+1) l q M Q bs D S ([_]++t) E (by rw[o];simp;rfl) C R O (by omega) W;have J:aP K ((bs+a.cnt:Nat):Int)=D4 (aP K (((bs+a.cnt:Nat):Int)-1)):=by
   rw[I];simp only[iz,atR,Di,cz,bM,bB];simp
  obtain⟨r,u,v,hp,hu,hv⟩:=qE B.ba;simp only[aV,reduceCtorEq,aT,cP,az];generalize aV cls a (id+1) l q M=x at B⊢;rw[ag (λh=>h B.e0)];have Z:x.1=.p (y r) (fH y u) (fH y v):=by rw[B.ty,hp];rfl
  rw[Z];simp[dz];rw[hp]at J;have X:=B.sz;have hU:UB.size<=63:=by simp[Ty.size]at X;omega
  rw[qu id p _ _ B.e0 (by rw[kx,lR hv];exact hU)];have:=B.ft.root (by omega) (.node p .snd nm rg [a],id,l) rfl (V:=fH y v) (by rw[cU,J];rfl);refine⟨?_,B.e0,?_,?_,hU⟩
  ·simp only[PT.cnt,aU,az,gW,J];rfl
  ·simpa [PT.cnt,aU,PT.subs,fG] using this
  ·simp only[PT.cnt,aU,az,gW,J];exact hv
 |@lv G p nm rg a f d z ha hb hd P Y ihd=>
  intro w id l q M Q bs D ms t F o C R O hl W;cases w with
  |node _ w=>
  obtain⟨ks,dH,⟨S,c1,E,⟨a2,c2,N,⟨a3,c3,Xc,⟨_,rfl⟩,rfl⟩,rfl⟩,rfl⟩,rfl⟩:=F;rw[aN]at o;have T:=NA.len E;have lb:=NA.len N;have lc:=NA.len Xc;have m:=at_root o;rw[C,aj,aj,T,lb,lc]at m;have I:=H _ _ m;simp only[PT.tE,pJ,reduceCtorEq,aT,bC,aN]at O;simp[PT.cnt,aU]at hl;have B:=P (w _ (by simp)) (id+1) l q M Q bs D S (a2++(a3++([_]++t))) E (by rw[o];simp;rfl) C R O.left (by omega) W;have L:=O.right;rw[lj]at L;have A:=Y (w _ (by simp)) (id+1+a.cnt) (l+a.dn) q _ Q (bs+a.cnt) (D++S) a2 (a3++([_]++t)) N (by rw[o];simp;rfl) (by rw[aj,C,T]) R L.left (by rw[B.ft.len];omega) B.e0;have TU:=L.right;rw[lj]at TU;have o3:=ihd (w _ (by simp)) (id+1+a.cnt+f.cnt) (l+a.dn+f.dn) q _ Q (bs+a.cnt+f.cnt) (D++S++a2) a3 ([_]++t) Xc (by rw[o];simp;rfl) (by rw[aj,aj,C,T,lb]) R TU (by rw[A.ft.len,B.ft.len];omega) A.e0;have J:aP K ((bs+(a.cnt+(f.cnt+d.cnt)):Nat):Int)=aP K (((bs+a.cnt+f.cnt:Nat):Int)-1):=by
   rw[I];simp only[iz,atR,EV,cz,bM,bB];simp
  simp only[aV,reduceCtorEq,aT,cP,az];generalize aV cls a (id+1) l q M=x at B A o3⊢;generalize aV cls f (id+1+a.cnt) (l+a.dn) q x.2=g at A o3⊢;generalize aV cls d (id+1+a.cnt+f.cnt) (l+a.dn+f.dn) q g.2=j at o3⊢;rw[ag (λh=>h o3.e0)];have Z:x.1=.n:=by rw[B.ty,pP B.ba];rfl
  have hyz:g.1.bare=j.1.bare:=by rw[A.ty,o3.ty,qD,qD,A.ba,o3.ba]
  simp only[dz,Z,hyz,and_self,bT];rw[qu id p _ _ o3.e0 (by rw[A.ty,kx,lR A.ba];exact A.sz)];have:=((B.ft.app (by rw[cU];exact A.ft)).app (by rw[aj,cU,cU,<-aY,<-aY];exact o3.ft)).root (by omega) (.node p .lv nm rg [a,f,d],id,l) rfl (V:=g.1) (by rw[aj,aj,cU,cU,cU,aY,J];exact A.ty);refine⟨?_,o3.e0,?_,?_,A.sz⟩
  ·simp only[PT.cnt,aU,az,gW,J];exact A.ty
  ·simpa [PT.cnt,aU,PT.subs,fG,aY] using this
  ·simp only[PT.cnt,aU,az,gW,J];exact A.ba
 |@two G p k nm rg a f hkk ha hb P Y=>
  intro w id l q M Q bs D ms t F o C R O hl W;have hkb:j5 k=[false,false]:=by rcases hkk with rfl|rfl|rfl<;>rfl
  have hkf:dX k=8\/dX k=9\/dX k=10:=by rcases hkk with rfl|rfl|rfl<;>decide
  have hkp:k≠.pair:=by rcases hkk with rfl|rfl|rfl<;>decide
  have hkl:k≠.dV:=by rcases hkk with rfl|rfl|rfl<;>decide
  have Y7:k≠.loop:=by rcases hkk with rfl|rfl|rfl<;>decide
  cases w with
  |node _ w=>
  simp only[NA,hkb,j6,cH,aT]at F;obtain⟨ks,dH,⟨S,c1,E,⟨a2,c2,N,⟨_,rfl⟩,rfl⟩,rfl⟩,rfl⟩:=F;rw[aN]at o;have T:=NA.len E;have lb:=NA.len N;have m:=at_root o;rw[C,aj,T,lb]at m;have I:=H _ _ m;simp[PT.tE,pJ,ag hkp]at O;simp[PT.cnt,aU]at hl;have B:=P (w _ (by simp)) (id+1) l q M Q bs D S (a2++([_]++t)) E (by rw[o];simp;rfl) C R O.left (by omega) W;have L:=O.right;rw[lj]at L;have A:=Y (w _ (by simp)) (id+1+a.cnt) (l+a.dn) q _ Q (bs+a.cnt) (D++S) a2 ([_]++t) N (by rw[o];simp;rfl) (by rw[aj,C,T]) R L (by rw[B.ft.len];omega) B.e0;have J:aP K ((bs+(a.cnt+f.cnt):Nat):Int)=.n:=by
   rw[I];simp[iz,atR];rcases hkf with h|h|h<;>simp[h]
  simp only[aV,ag hkl,ag Y7,ag hkp,cP,az];generalize aV cls a (id+1) l q M=x at B A⊢;generalize aV cls f (id+1+a.cnt) (l+a.dn) q x.2=g at A⊢;rw[ag (λh=>h A.e0)];have Z:x.1=.n:=by rw[B.ty,pP B.ba];rfl
  have hy1:g.1=.n:=by rw[A.ty,pP A.ba];rfl
  have hm:dz cls k p l [x.1,g.1] g.2=(.n,g.2):=by rcases hkk with rfl|rfl|rfl<;>simp[dz,Z,hy1]
  rw[hm,qu id p _ _ A.e0 (by simp[Ty.size])];have:=(B.ft.app (by rw[cU];exact A.ft)).root (by omega) (.node p k nm rg [a,f],id,l) rfl (V:=Ty.n) (by rw[aj,cU,cU,J];rfl);refine⟨?_,A.e0,?_,?_,by simp[Ty.size]⟩
  ·simp only[PT.cnt,aU,az,gW,J];rfl
  ·simpa [PT.cnt,aU,PT.subs,fG,hkp] using this
  ·simp only[PT.cnt,aU,az,gW,J];rfl
 |@loop G p nm rg a f d z ha hb hd P Y ihd=>
  intro w id l q M Q bs D ms t F o C R O hl W;cases w with
  |node _ w=>
  obtain⟨ks,dH,⟨S,c1,E,⟨a2,c2,N,⟨a3,c3,Xc,⟨_,rfl⟩,rfl⟩,rfl⟩,rfl⟩,rfl⟩:=F;rw[aN]at o;have T:=NA.len E;have lb:=NA.len N;have m:=at_root o;rw[C,aj,aj,T,lb,NA.len Xc]at m;simp only[PT.tE,pJ,reduceCtorEq,aT,bC,aN]at O;simp[PT.cnt,aU]at hl;have B:=P (w _ (by simp)) (id+1) l q M Q bs D S (a2++(a3++([_]++t))) E (by rw[o];simp;rfl) C R O.left (by omega) W;have L:=O.right;rw[lj]at L;have A:=Y (w _ (by simp)) (id+1+a.cnt) (l+a.dn) q _ Q (bs+a.cnt) (D++S) a2 (a3++([_]++t)) N (by rw[o];simp;rfl) (by rw[aj,C,T]) R L.left (by rw[B.ft.len];omega) B.e0;have TU:=L.right;rw[lj]at TU;have o3:=ihd (w _ (by simp)) (id+1+a.cnt+f.cnt) (l+a.dn+f.dn) _ _ _ (bs+a.cnt+f.cnt) (D++S++a2) a3 ([_]++t) Xc (by rw[o];simp;rfl) (by rw[aj,aj,C,T,lb]) (R.snoc (GG (bs+a.cnt) f) A.sz A.ty A.ba) TU (by rw[A.ft.len,B.ft.len];omega) A.e0;have J:aP K ((bs+(a.cnt+(f.cnt+d.cnt)):Nat):Int)=aP K (((bs+a.cnt+f.cnt:Nat):Int)-1):=by
   rw[H _ _ m];simp only[iz,atR,vV,cz,bM,bB];simp
  simp only[aV,reduceCtorEq,aT,bT,df];generalize aV cls a (id+1) l q M=x at B A o3⊢;generalize aV cls f (id+1+a.cnt) (l+a.dn) q x.2=g at A o3⊢;generalize aV cls d (id+1+a.cnt+f.cnt) (l+a.dn+f.dn) (q++[(nm,g.1)]) g.2=j at o3⊢;rw[ag (λh=>h o3.e0)];have Z:x.1=.n:=by rw[B.ty,pP B.ba];rfl
  have hyz:g.1.bare=j.1.bare:=by rw[A.ty,o3.ty,qD,qD,A.ba,o3.ba]
  simp only[dz,Z,hyz,and_self,bT];rw[qu id p _ _ o3.e0 (by rw[A.ty,kx,lR A.ba];exact A.sz)];have:=((B.ft.app (by rw[cU];exact A.ft)).app (by rw[aj,cU,cU,<-aY,<-aY];exact o3.ft)).root (by omega) (.node p .loop nm rg [a,f,d],id,l) rfl (V:=g.1) (by rw[aj,aj,cU,cU,cU,aY,J];exact A.ty);refine⟨?_,o3.e0,?_,?_,A.sz⟩
  ·simp only[PT.cnt,aU,az,gW,J];exact A.ty
  ·simpa [PT.cnt,aU,PT.subs,fG,aY] using this
  ·simp only[PT.cnt,aU,az,gW,J];exact A.ba
 |new _ _=>
  intro w;cases w with
  |node hk _=>exact absurd rfl hk
theorem JU{P}:∀(b:List NR)(T:List Ty),(∀t∈T,vh P t)->(∀n∈b,n.form=4->P n.region.toNat)->∀t∈eE T b,vh P t
 |[],_,h,_=>h
 |n::r,T,h,c=>by
  refine JU r _ (λt a=>?_) (λm d=>c m (by simp[d]));rcases aA.1 a with a|a
  ·exact h t a
  ·simp only[ax]at a;subst a;exact JO h n (c n (by simp))
theorem E6(t:PT)(id a:Nat):(t.subs id a)[t.cnt-1]?=some (t,id,a):=by
 cases t with
 |num p s=>rfl
 |name p s=>rfl
 |node p k c d b=>
  simp only[PT.subs,PT.cnt];rw[aw (by rw[j3];omega),j3,show 1+aU b-1-aU b=0 by omega];rfl
def yQ(L:List (PT×Nat×Nat))(b:Nat)(x:PT×Nat×Nat)(n:NR):Prop:=∀p k d e u v z,x.1=.node p k d e [u,v,z]->n.form=dX k/\∃a c f g,n.p1=((b+a:Nat):Int)/\n.p2=((b+c:Nat):Int)/\L[a]?=some (v,x.2.1+1+u.cnt,f)/\L[c]?=some (z,x.2.1+1+u.cnt+v.cnt,g)
theorem yQ.more{n}(h:yQ L w v n):yQ (L++u) w v n:=λp k f g a c z i=>by
 obtain⟨h1,j,l,m,o,q,r,d,e⟩:=h p k f g a c z i;exact⟨h1,j,l,m,o,q,r,by rw[ak (ae.1 d).1];exact d,by rw[ak (ae.1 e).1];exact e⟩
theorem yQ.off{n}(h:yQ L (w+u.length) v n):yQ (u++L) w v n:=λp k d e a c z f=>by
 obtain⟨h1,g,i,j,l,m,o,q,r⟩:=h p k d e a c z f;refine⟨h1,u.length+g,u.length+i,j,l,by rw[m,aY],by rw[o,aY],?_,?_⟩
 ·rw[aw (by omega),cJ];exact q
 ·rw[aw (by omega),cJ];exact r
mutual
theorem TV:∀{w:Sc}{t:PT}{b:Nat}{l:List NR},NA w t b l->∀(id d j:Nat)(x:PT×Nat×Nat)(n:NR),(t.subs id d)[j]?=some x->l[j]?=some n->yQ (t.subs id d) b x n
 |_,.num p s,b,l,h,id,d,j,x,n,g,f=>by
  have:=aq g;simp only[PT.subs,ax]at this;subst this;intro p k q D u v z e;cases e
 |_,.name p s,b,l,h,id,d,j,x,n,g,f=>by
  have:=aq g;simp only[PT.subs,ax]at this;subst this;intro p k q D u v z e;cases e
 |_,.node p k q D o,b,l,h,id,d,j,x,n,g,f=>by
  simp only[NA]at h;obtain⟨I,F,h1,rfl⟩:=h;have y:=j6.len h1;have m:=j3 o (id+1) (d+if k=.pair then 1 else 0);simp only[PT.subs]at g⊢;rcases iV g with⟨A,i⟩|⟨A,i⟩
  ·rw[ak (by omega)]at f;exact (N8 h1 _ _ j x n i f).more
  ·rw[aw (by omega)]at f;have E:j=aU o:=by
    have:=(ae.1 i).1;simp only[bG]at this;omega
   rw[E,m,cx]at i;rw[E,y,cx]at f;simp only[aL,ai]at i f;subst i f;intro J K G H u v z e;simp only[PT.node.injEq]at e;obtain⟨rfl,rfl,rfl,rfl,rfl⟩:=e;have L:=fj u;have M:=fj v;have N:=fj z;refine⟨rfl,u.cnt+v.cnt-1,u.cnt+v.cnt+z.cnt-1,d+(if k=.pair then 1 else 0)+u.dn,d+(if k=.pair then 1 else 0)+u.dn+v.dn,?_,?_,?_,?_⟩
   ·simp only[cz,List.getD,cE,aL,dF];omega
   ·simp only[cz,List.getD,cE,aL,dF];omega
   ·simp only[fG,aN];rw[ak (by simp only[aj,cU];omega),aw (by rw[cU];omega),cU,ak (by rw[cU];omega),show u.cnt+v.cnt-1-u.cnt=v.cnt-1 by omega,E6]
   ·simp only[fG,aN];rw[ak (by simp only[aj,cU];omega),aw (by rw[cU];omega),cU,aw (by rw[cU];omega),cU,show u.cnt+v.cnt+z.cnt-1-u.cnt-v.cnt=z.cnt-1 by omega,E6]
theorem N8:∀{w:Sc}{q:List UInt8}{B:List PT}{bs:List Bool}{b:Nat}{l:List NR},j6 w q B bs b l->∀(id d j:Nat)(x:PT×Nat×Nat)(n:NR),(fG B id d)[j]?=some x->l[j]?=some n->yQ (fG B id d) b x n
 |_,_,[],_,_,_,_,_,_,_,_,_,g,_=>by simp[fG]at g
 |_,_,_::_,[],_,_,h,_,_,_,_,_,_,_=>by simp[j6]at h
 |_,_,t::r,O::bs,b,l,h,id,d,j,x,n,g,f=>by
  simp only[j6]at h;obtain⟨a,c,h1,h2,rfl⟩:=h;have C:=NA.len h1;have m:=cU t id d;simp only[fG]at g⊢;rcases iV g with⟨A,i⟩|⟨A,i⟩
  ·rw[ak (by omega)]at f;exact (TV h1 _ _ j x n i f).more
  ·rw[aw (by omega),C,<-m]at f;have:=N8 h2 (id+t.cnt) (d+t.dn) _ x n i f;refine yQ.off ?_;rw[m];exact this
end
mutual
theorem JV:∀(t:PT)(id a:Nat)(i j:Nat)(x y:PT×Nat×Nat),(t.subs id a)[i]?=some x->(t.subs id a)[j]?=some y->i<j->x.2.1+x.1.cnt<=y.2.1\/(y.2.1<x.2.1/\x.2.1+x.1.cnt<=y.2.1+y.1.cnt)
 |.num p s,id,a,i,j,x,y,e,f,d=>by
  have:=(ae.1 f).1;simp only[PT.subs,bG]at this;omega
 |.name p s,id,a,i,j,x,y,e,f,d=>by
  have:=(ae.1 f).1;simp only[PT.subs,bG]at this;omega
 |.node p k q u b,id,a,i,j,x,y,e,f,d=>by
  simp only[PT.subs]at e f;have m:=j3 b (id+1) (a+if k=.pair then 1 else 0);rcases iV f with⟨h,c⟩|⟨h,c⟩
  ·rcases iV e with⟨l,g⟩|⟨l,g⟩
   ·exact E7 b _ _ i j x y g c d
   ·omega
  ·have o:j-aU b=0:=by
    have:=(ae.1 c).1;simp only[bG]at this;omega
   rw[m,o]at c;simp only[aL,ai]at c;subst c;rcases iV e with⟨l,g⟩|⟨l,g⟩
   ·have:=qC b _ _ x (aq g);right;simp only[PT.cnt];omega
   ·omega
theorem E7:∀(n:List PT)(id a:Nat)(i j:Nat)(x y:PT×Nat×Nat),(fG n id a)[i]?=some x->(fG n id a)[j]?=some y->i<j->x.2.1+x.1.cnt<=y.2.1\/(y.2.1<x.2.1/\x.2.1+x.1.cnt<=y.2.1+y.1.cnt)
 |[],_,_,_,_,_,_,e,_,_=>by simp[fG]at e
 |t::r,id,a,i,j,x,y,e,f,d=>by
  simp only[fG]at e f;rcases iV e with⟨l,g⟩|⟨l,g⟩
  ·rcases iV f with⟨h,c⟩|⟨h,c⟩
   ·exact JV t _ _ i j x y g c d
   ·have v:=mS t _ _ x (aq g);have w:=qC r _ _ y (aq c);left;omega
  ·rcases iV f with⟨h,c⟩|⟨h,c⟩
   ·omega
   ·exact E7 r _ _ _ _ x y g c (by omega)
end
mutual
theorem E8:∀(t:PT)(id a:Nat)(x:PT×Nat×Nat),(t.subs id a)[0]?=some x->x.1.cnt=1
 |.num _ _,_,_,x,h=>by simp only[PT.subs,aL,ai]at h;subst h;rfl
 |.name _ _,_,_,x,h=>by simp only[PT.subs,aL,ai]at h;subst h;rfl
 |.node p k f g b,id,a,x,h=>by
  simp only[PT.subs]at h;rcases iV h with⟨h1,h2⟩|⟨h1,h2⟩
  ·exact Mh b _ _ x h2
  ·have c:aU b=0:=by rw[j3]at h1;omega
   rw[j3,c,cx]at h2;simp only[aL,ai]at h2;subst h2;simp only[PT.cnt];omega
theorem Mh:∀(d:List PT)(id a:Nat)(x:PT×Nat×Nat),(fG d id a)[0]?=some x->x.1.cnt=1
 |[],_,_,_,h=>by simp[fG]at h
 |t::r,id,a,x,h=>by
  simp only[fG]at h;have e:=fj t;rw[ak (by rw[cU];exact e)]at h;exact E8 t _ _ x h
end
mutual
theorem Dz:∀{t:PT}{e:List NR}{k l:Nat},fo t e k l->∀(i j:Nat)(m n:NR),e[i]?=some m->e[j]?=some n->i<j->m.dH<=n.at_\/(n.at_<m.at_/\m.dH<=n.dH)
 |.num p _,e,k,l,h,i,j,m,n,o,g,b=>by
  simp only[fo]at h;obtain⟨x,rfl,_⟩:=h;have:=(ae.1 g).1;simp only[bG]at this;omega
 |.name p _,e,k,l,h,i,j,m,n,o,g,b=>by
  simp only[fo]at h;obtain⟨x,rfl,_⟩:=h;have:=(ae.1 g).1;simp only[bG]at this;omega
 |.node p _ _ _ u,e,k,l,h,i,j,m,n,o,g,b=>by
  simp only[fo]at h;obtain⟨v,x,rfl,h1,h2,h3,A,B⟩:=h;rcases iV g with⟨q,d⟩|⟨q,d⟩
  ·rcases iV o with⟨s,f⟩|⟨s,f⟩
   ·exact E9 h3 i j m n f d b
   ·omega
  ·have w:j-v.length=0:=by
    have:=(ae.1 d).1;simp only[bG]at this;omega
   rw[w]at d;simp only[aL,ai]at d;subst d;rcases iV o with⟨s,f⟩|⟨s,f⟩
   ·have:=eG.NV h3 m (aq f);right;omega
   ·omega
theorem E9:∀{y:List PT}{e:List NR}{k l:Nat},eG y e k l->∀(i j:Nat)(m n:NR),e[i]?=some m->e[j]?=some n->i<j->m.dH<=n.at_\/(n.at_<m.at_/\m.dH<=n.dH)
 |[],e,k,l,h,i,j,m,n,o,g,b=>by
  simp only[eG]at h;obtain⟨rfl,_⟩:=h;simp at o
 |t::r,e,k,l,h,i,j,m,n,o,g,b=>by
  simp only[eG]at h;obtain⟨a,c,z,rfl,h1,h2⟩:=h;rcases iV o with⟨s,f⟩|⟨s,f⟩
  ·rcases iV g with⟨q,d⟩|⟨q,d⟩
   ·exact Dz h1 i j m n f d b
   ·have C:=fo.NV h1 m (aq f);have D:=eG.NV h2 n (aq d);left;omega
  ·rcases iV g with⟨q,d⟩|⟨q,d⟩
   ·omega
   ·exact E9 h2 _ _ m n f d (by omega)
end
mutual
theorem vm:∀(t:PT)(g:List NR)(d e:Nat),fo t g d e->(t.tE.map (·.1)).Pairwise (·<·)/\∀x∈t.tE.map (·.1),d<=x/\x<e
 |.num _ _,_,_,_,_=>by simp[PT.tE]
 |.name _ _,_,_,_,_=>by simp[PT.tE]
 |.node p k C D i,g,d,e,h=>by
  simp only[fo]at h;obtain⟨u,n,rfl,h1,h2,h3,E,F⟩:=h;obtain⟨l,f⟩:=Fa i u _ _ h3;simp only[PT.tE,bz];by_cases q:k=.pair
  ·rw[ah q];simp only[bK,eH,cQ,jq,bf];refine⟨⟨λx b=>by have:=f x b;omega,l⟩,λx b=>?_⟩;rcases b with rfl|b
   ·omega
   ·have:=f x b;omega
  ·rw[ag q];simp only[eH,bC];exact⟨l,λx b=>by have:=f x b;omega⟩
theorem Fa:∀(m:List PT)(g:List NR)(d e:Nat),eG m g d e->((pJ m).map (·.1)).Pairwise (·<·)/\∀x∈(pJ m).map (·.1),d<=x/\x<e
 |[],_,_,_,_=>by simp[pJ]
 |t::r,g,d,e,h=>by
  simp only[eG]at h;obtain⟨a,c,j,rfl,h1,h2⟩:=h;obtain⟨l,f⟩:=vm t a _ _ h1;obtain⟨v,s⟩:=Fa r c _ _ h2;have w:j<=e:=Dy h2;have z:d<=j:=by
   obtain⟨A,o,_⟩:=sR h1;have:=fo.NV h1 A (aq o);omega
  simp only[pJ,bz];rw[jW];refine⟨⟨l,v,λx b y B=>?_⟩,λx b=>?_⟩
  ·have:=f x b;have:=s y B;omega
  ·rcases aA.1 b with b|b
   ·have:=f x b;omega
   ·have:=s x b;omega
end
def qd(e:PT):List Nat:=e.tE.map (·.1)
def Qv(a:List NR)(x:Nat):Prop:=∃n∈a,n.form=4/\n.at_=x
theorem tQ(e):(qd e).length=e.dn:=by unfold qd;rw[aO,lj]
theorem Ag{e}(c:NA [] e 0 b)(x:Nat):Qv b x↔x∈qd e:=by
 obtain⟨_,d,m⟩:=oT e 0 0;have y:=c.len;have s:=gA e 0 0;constructor
 ·rintro⟨n,l,t,rfl⟩;obtain⟨j,f⟩:=cB l;have o:=(ae.1 f).1;have g:(e.du 0 0)[j]?=some (e.du 0 0)[j]:=aa (by omega);have h:=c.XO 0 0 _ (l9 g f);have a:((e.du 0 0)[j]).iw=true:=by unfold Rec.iw;rw[h.pr.1 t];simp
  obtain⟨_,_,u,h3,_⟩:=d _ (aq g) a;rw[<-h.p];exact cM.2 ⟨_,aq h3,rfl⟩
 ·intro v;obtain⟨i,k⟩:=cB v;have q:=(ae.1 k).1;rw[tQ]at q;obtain⟨r,g,a,w⟩:=m i ld (by omega);obtain⟨_,_,u,h3,_⟩:=d r g a;obtain⟨j,f⟩:=cB g;have o:=(ae.1 f).1;have l:b[j]?=some b[j]:=aa (by omega);have h:=c.XO 0 0 _ (l9 f l);refine⟨b[j],aq l,h.pr.2 (by unfold Rec.iw at a;simpa using a),?_⟩;unfold qd at k;rw[aC,<-w,show r.site=r.site-0 by omega,h3]at k;simp at k;rw[<-h.p,k]
theorem TW:∀(g:List NR)(T:List Ty),(∀t∈T,t.size<=63)->oV T g->∀t∈eE T g,t.size<=63
 |[],_,h,_=>h
 |n::r,T,h,j=>by
  refine TW r _ (λt c=>?_) j.2;rcases aA.1 c with c|c
  ·exact h t c
  ·simp only[ax]at c;subst c;have f:∀i,(aP T i).size<=63:=λi=>by
    unfold aP;split
    ·cases e:T[i.toNat]? with
     |none=>simp[Ty.size]
     |some t=>exact h t (aq e)
    ·simp[Ty.size]
   have d:=f n.p0;have h1:=f n.p1;unfold iz;split
   ·exact f n.source
   split
   ·exact d
   split
   ·exact h1
   split
   ·exact h1
   split
   ·exact h1
   split
   ·rename_i k;have:=j.1 (by assumption);simp[Ty.size]at this⊢;exact this
   split
   ·cases e:aP T n.p0 with
    |n=>simp[D3,Ty.size]
    |p r a b=>rw[e]at d;simp[D3,Ty.size]at d⊢;omega
   split
   ·cases e:aP T n.p0 with
    |n=>simp[D4,Ty.size]
    |p r a b=>rw[e]at d;simp[D4,Ty.size]at d⊢;omega
   ·simp[Ty.size]
abbrev G6(a:List NR):List Ty:=eE [] (a.map atR)
structure TZ(e:PT)(ns:List NR)(n0:NR): Prop where
 fix:∀(i:Nat)(n:NR),ns[i]?=some n->aP (G6 ns) (i:Nat)=iz (G6 ns) (atR n)
 bare:∀(i:Nat)(n:NR),ns[i]?=some n->n.form=7\/n.form=11->(aP (G6 ns) n.p1).bare=(aP (G6 ns) n.p2).bare
 one:∀(i:Nat)(n:NR),ns[i]?=some n->n.form=7\/n.form=11->fH (cZ (lQ ns n0)) (aP (G6 ns) n.p1)=fH (cZ (lQ ns n0)) (aP (G6 ns) n.p2)
 min:∀q:Nat->Nat,(∀(i:Nat)(n:NR),ns[i]?=some n->n.form=7\/n.form=11->fH q (aP (G6 ns) n.p1)=fH q (aP (G6 ns) n.p2))->∀x,q (cZ (lQ ns n0) x)=q x
 all:∀i,vh (Qv ns) (aP (G6 ns) i)
 keep:∀x,Qv ns x->Qv ns (cZ (lQ ns n0) x)
 sz:∀i,(aP (G6 ns) i).size<=63
theorem Qw{e}(w:WT [] e z)(l:NA [] e 0 b)(o:∀n∈b,n.at_<d.dH):TZ e b d:=by
 have f:∀(i:Nat) n,(b.map atR)[i]?=some n->oG (([]:List Ty).length+i) n:=λi n a=>by
  rw[aC]at a;obtain⟨m,g,rfl⟩:=bU.1 a;simpa [oG,atR] using (λi n a=>NQ l i n a) i m g
 have j:∀i n,b[i]?=some n->aP (eE [] (b.map atR)) (i:Nat)=iz (eE [] (b.map atR)) (atR n):=λi n a=>by
  have:=Bq (b.map atR) [] f i (atR n) (by rw[aC,a];rfl);rw[bn,bJ]at this;exact this
 have p:∀i n,b[i]?=some n->aP (eE [] (b.map atR)) (i:Nat)=iz (eE [] (b.map atR)) (ox n (((b[i]?).map (λm=>(m.at_:Int))).getD 0)):=λi n a=>by
  rw[j i n a,a];rfl
 obtain⟨_,c⟩:=Dt (ρ:=λi=>((b[i]?).map (λm=>(m.at_:Int))).getD 0) p w [] 0 [] b [] l (by simp) rfl (λs z h=>by simp[look]at h);rw[bJ,<-l.len]at c;have r:Dm [] (b.map atR):=Ab _ _ f (λi n a k=>by
  rw[aC]at a;obtain⟨m,g,rfl⟩:=bU.1 a;exact (c i m ld (ae.1 g).1 g).1 k)
 have u:oV [] (b.map atR):=GF _ _ f (λi n a k=>by
  rw[aC]at a;obtain⟨m,g,rfl⟩:=bU.1 a;exact (c i m ld (ae.1 g).1 g).2 k)
 have v:=JU (P:=Qv b) (b.map atR) [] (λt h=>by simp at h) (λn a y=>by
  obtain⟨m,g,rfl⟩:=cM.1 a;exact⟨m,g,y,by simp[atR]⟩)
 refine⟨j,λi n a k=>(c i n ld (ae.1 a).1 a).1 k,λi n a k=>?_,λq A=>?_,λi=>oX v i,?_,λi=>?_⟩
 ·exact GD _ (b.map atR) [] f (Bn b [] (List.range d.dH) (λt h=>by simp at h) (by rw[di];exact o) r) i (atR n) (by rw[aC,a];rfl) k
 ·refine GL b [] (List.range d.dH) (λt h=>by simp at h) (by rw[di];exact o) (TT q (b.map atR) [] f (λi n a k=>?_)) (λx=>by rw[Ad]);rw[aC]at a;obtain⟨m,g,rfl⟩:=bU.1 a;exact A i m g k
 ·exact yP b [] (List.range d.dH) (λi ⟨n,a,_,B⟩=>by rw[di,<-B];exact o n a) (λi C=>by rw[Ad];exact C) (λt h=>by simp at h) (λn a y=>⟨n,a,y,rfl⟩)
 ·have D:=TW (b.map atR) [] (λt h=>by simp at h) u;unfold aP;split
  ·cases e:(G6 b)[i.toNat]? with
   |none=>simp[Ty.size]
   |some t=>exact D t (aq e)
  ·simp[Ty.size]
def PT.frm:PT->Nat
 |.num _ _=>1
 |.name _ _=>2
 |.node _ k _ _ _=>dX k
mutual
theorem GN:∀{o:Sc}{t:PT}{b:Nat}{g:List NR},NA o t b g->∀(id d j:Nat)(x:PT×Nat×Nat)(n:NR),(t.subs id d)[j]?=some x->g[j]?=some n->n.form=x.1.frm
 |_,.num p s,b,g,h,id,d,j,x,n,f,e=>by
  simp only[NA]at h;subst h;have h1:=aq f;have h2:=aq e;simp only[PT.subs,ax]at h1 h2;subst h1 h2;rfl
 |_,.name p s,b,g,h,id,d,j,x,n,f,e=>by
  simp only[NA]at h;subst h;have h1:=aq f;have h2:=aq e;simp only[PT.subs,ax]at h1 h2;subst h1 h2;rfl
 |_,.node p k v B l,b,g,h,id,d,j,x,n,f,e=>by
  simp only[NA]at h;obtain⟨C,z,h1,rfl⟩:=h;have A:=j6.len h1;have m:=j3 l (id+1) (d+if k=.pair then 1 else 0);simp only[PT.subs]at f;rcases iV f with⟨q,i⟩|⟨q,i⟩
  ·rw[ak (by omega)]at e;exact JW h1 _ _ j x n i e
  ·rw[aw (by omega)]at e;have h3:=aq i;have w:=aq e;simp only[ax]at h3 w;subst h3 w;rfl
theorem JW:∀{o:Sc}{v:List UInt8}{y:List PT}{bs:List Bool}{b:Nat}{g:List NR},j6 o v y bs b g->∀(id d j:Nat)(x:PT×Nat×Nat)(n:NR),(fG y id d)[j]?=some x->g[j]?=some n->n.form=x.1.frm
 |_,_,[],_,_,_,_,_,_,_,_,_,f,_=>by simp[fG]at f
 |_,_,_::_,[],_,_,h,_,_,_,_,_,_,_=>by simp[j6]at h
 |_,_,t::r,D::bs,b,g,h,id,d,j,x,n,f,e=>by
  simp only[j6]at h;obtain⟨a,c,h1,h2,rfl⟩:=h;have u:=NA.len h1;have m:=cU t id d;simp only[fG]at f;rcases iV f with⟨q,i⟩|⟨q,i⟩
  ·rw[ak (by omega)]at e;exact GN h1 _ _ j x n i e
  ·rw[aw (by omega),u,<-m]at e;exact JW h2 _ _ _ x n i e
end
theorem JX:∀{A B:List Nat}{x y:Nat},JA A B=some (x,y)->∃i:Nat,A[i]?=some x/\B[i]?=some y/\x≠y
 |[],_,_,_,h=>by simp[JA]at h
 |_::_,[],_,_,h=>by simp[JA]at h
 |a::l,b::m,x,y,h=>by
  simp[JA]at h;by_cases e:a=b
  ·rw[ah e]at h;obtain⟨i,h1,h2,h3⟩:=JX h;exact⟨i+1,by simpa using h1,by simpa using h2,h3⟩
  ·rw[ag e]at h;simp at h;exact⟨0,by simp[h.1],by simp[h.2],by rw[<-h.1,<-h.2];exact e⟩
theorem JY:∀{A B:List Nat},A.length=B.length->JA A B=none->A=B
 |[],[],_,_=>rfl
 |[],_::_,h,_=>by simp at h
 |_::_,[],h,_=>by simp at h
 |a::l,b::m,c,h=>by
  simp[JA]at h;by_cases e:a=b
  ·rw[ah e]at h;rw[e,JY (by simpa using c) h]
  ·rw[ag e]at h;simp at h
theorem wg(f):∀t:Ty,(fH f t).pM=t.pM.map f
 |.n=>rfl
 |.p r a b=>by simp[fH,Ty.pM,wg f a,wg f b]
theorem GP(f):∀(a b:Ty),a.bare=b.bare->a.pM.map f=b.pM.map f->fH f a=fH f b
 |.n,.n,_,_=>rfl
 |.n,.p _ _ _,h,_=>by simp[Ty.bare]at h
 |.p _ _ _,.n,h,_=>by simp[Ty.bare]at h
 |.p r a b,.p s c d,h,e=>by
  simp[Ty.bare,Ty.p.injEq]at h;have g:a.pM.length=c.pM.length:=by rw[vW,vW,<-gq a,<-gq c,h.1]
  simp[Ty.pM]at e;obtain⟨i,j⟩:=List.append_inj e.2 (by simpa using g);simp[fH,Ty.p.injEq];exact⟨e.1,GP f a c h.1 i,GP f b d h.2 j⟩
theorem Fb{a}{q}:∀{l:List (PT×Nat×Nat)},nB a l=some q->∃x∈l,zZ a x=some q
 |[],h=>by simp[nB]at h
 |x::r,h=>by
  simp[nB]at h;cases e:zZ a x with
  |some b=>rw[e]at h;simp at h;exact⟨x,by simp,by rw[e,h]⟩
  |none=>
   rw[e]at h;obtain⟨y,h1,h2⟩:=Fb h;exact⟨y,by simp[h1],h2⟩
theorem Fc{b}:∀{l:List (PT×Nat×Nat)},nB b l=none->∀x∈l,zZ b x=none
 |[],_,x,a=>by simp at a
 |y::r,h,x,a=>by
  simp[nB]at h;cases e:zZ b y with
  |some c=>rw[e]at h;simp at h
  |none=>
   rw[e]at h;rcases bf.1 a with rfl|a
   ·exact e
   ·exact Fc h x a
def cF(e:PT)(c:List Nat)(x:Nat):Nat:=c.getD ((qd e).idxOf x) 0
def Mi(e:PT)(a:List NR)(c:List Nat):List Ty:=(opn e 0).map λz=>fH (cF e c) (aP (G6 a) z)
theorem Mj(h:x.Pairwise (·<·))(d:x[w]?=some c):x.idxOf c=w:=by
 obtain⟨e,f⟩:=ae.1 d;have a:x.Nodup:=h.imp (λb=>jx b);rw[<-f];exact a.idxOf_getElem w e
theorem Fe{e}(d:fo e b w c)(a)(f:(qd e)[P]?=some R):cF e a R=a.getD P 0:=by
 unfold cF;rw[Mj (x:=qd e) (vm e b w c d).1 f]
theorem N9(e)(a)(c):(Mi e a c).length=e.cnt:=by unfold Mi;rw[aO,tr]
theorem T9(e)(b)(c)(d:(e.subs 0 0)[w]?=some v):(Mi e b c)[v.2.1]?=some (fH (cF e c) (aP (G6 b) (w:Nat))):=by
 have k:=mS e 0 0 v (aq d);have l:=fj v.1;obtain⟨m,r,f,g,h⟩:=vT e 0 0 0 v.2.1 (by omega);have i:(e.du 0 0)[w]?=some (dA v):=by rw[gO,aC,d];rfl
 have a:=Dd e 0 0 g i (by rw[h,sO];omega);subst a;unfold Mi;rw[aC,f,bJ];rfl
theorem Mk(e)(a)(c)(b:(e.subs 0 0)[w]?=some v):iP (Mi e a c) v.2.1=fH (cF e c) (aP (G6 a) (w:Nat)):=by
 unfold iP;rw[T9 e a c b];rfl
theorem Ua{e}(F:TZ e b d)(v:WT [] e z)(A:gL e)(B:NA [] e 0 b)(m:fo e b w c)(f)(I:f.length=e.dn)(G:∀x∈f,x<100):ShI e (Mi e b) e.dn f:=by
 have o:GM f (cF e f) e.tE 0:=λi x u=>by
  rw[bJ,Fe m f (P:=i) (by unfold qd;rw[aC,u];rfl)]
 have q:=Mg (y:=cF e f) (cls:=f) F.fix v A 0 0 [] (qo e) [] 0 [] b [] B (by simp) rfl (λs z h=>by simp[look]at h) o (by simp[qo]) rfl;have C:∀x,cF e f x<100:=λx=>by
  unfold cF;rw[List.getD];cases h:f[(qd e).idxOf x]? with
  |none=>simp
  |some y=>exact G y (aq h)
 refine⟨I,G,bS,N9 e b f,λT J=>?_,?_⟩
 ·obtain⟨g,_,rfl⟩:=cM.1 J;refine⟨by rw[kx];have:=F.sz g;omega,?_⟩;generalize aP (G6 b) g=t
  induction t with
  |n=>exact trivial
  |p r a l D E=>exact⟨by have:=C r;omega,D,E⟩
 ·apply fD;intro k;by_cases K:k<e.cnt
  ·obtain⟨j,r,M,H,L⟩:=vT e 0 0 0 k K;rw[gO,aC]at H;obtain⟨x,u,rfl⟩:=bU.1 H;rw[sO]at L;have h1:=q.ft.at_ j x u;have h2:=T9 e b f u;rw[show x.2.1=k by omega,bJ]at h1;rw[show x.2.1=k by omega]at h2;rw[h1,aC,h2];rfl
  ·rw[bH (by rw[q.ft.len];simp[qo];omega),bH (by rw[aO,N9];omega)]
theorem Ff{e}(f:NA [] e 0 b)(m:e.wf)(c){n}(o:(e.subs 0 0)[w]?=some v)(q:b[w]?=some n):((n.form=7\/n.form=11)/\zZ (Mi e b c) v=JA ((aP (G6 b) n.p1).pM.map (cF e c)) ((aP (G6 b) n.p2).pM.map (cF e c)))\/(¬(n.form=7\/n.form=11)/\zZ (Mi e b c) v=none):=by
 rcases XP (Mi e b c) v (Bi e 0 0 m v (aq o)) with⟨g,p,k,r,y,u,a,z,l,d⟩|⟨h1,h2,d⟩
 ·left;obtain⟨D,I,J,K,L,A,B,E,F⟩:=(TV f 0 0 w v n o q) p k r y u a z l;have G:=Mk e b c E;have H:=Mk e b c F;rw[bJ]at A B;refine⟨?_,?_⟩
  ·rw[D];obtain⟨t,i,s⟩:=v;subst l;simp[dA]at g;cases k<;>simp[Kw.bytes]at g<;>decide
  ·rw[d];rw[G,H,A,B,wg,wg]
 ·right;refine⟨?_,d⟩;intro h;rw[GN f 0 0 w v n o q]at h;obtain⟨t,i,s⟩:=v;cases t with
  |num p s=>simp[PT.frm]at h
  |name p s=>simp[PT.frm]at h
  |node p k r y C=>
   simp[PT.frm]at h;cases k<;>first|exact h1 rfl|exact h2 rfl|(revert h;decide)
open Tryz
structure WI(e:PT)(ns:List NR)(n0:NR)(c:List Nat): Prop where
 len:c.length=e.dn
 le:∀i,i<e.dn->c.getD i 0<=i
 snd:∀i,i<e.dn->cZ (lQ ns n0) ((qd e).getD (c.getD i 0) 0)=cZ (lQ ns n0) ((qd e).getD i 0)
theorem WI.sm{e}(h:WI e b d x):∀a∈x,a<e.dn:=λa j=>by
 obtain⟨i,f⟩:=cB j;have g:=(ae.1 f).1;have:=h.le i (by rw[<-h.len];exact g);rw[List.getD,f]at this;simp at this;rw[h.len]at g;omega
theorem Z8(e)(b)(c):WI e b c (List.range e.dn):=by
 have h:∀i,i<e.dn->(List.range e.dn).getD i 0=i:=λi a=>by simp[List.getD,iC a]
 exact⟨by simp,λi a=>by rw[h i a];exact bS,λi a=>by rw[h i a]⟩
theorem Ub(a b:Nat)(h:w<x.length):(D6 a b x).getD w 0=if x.getD w 0=b then a else x.getD w 0:=by
 unfold D6;simp[List.getD,aa h]
theorem DA{e}(h:w<e.dn):(qd e)[w]?=some ((qd e).getD w 0):=by
 have a:=tQ e;rw[List.getD,aa (by omega)];rfl
theorem Uc{e}(B:TZ e b d)(g:NA [] e 0 b)(C:e.wf)(m:fo e b w c)(a)(x y:Nat)(h:WI e b d a)(S:nB (Mi e b a) (e.subs 0 0)=some (x,y)):WI e b d (D6 (min x y) (max x y) a)/\max x y∈a/\x≠y:=by
 obtain⟨s,T,k⟩:=Fb S;obtain⟨j,J⟩:=cB T;have t:b[j]?=some (b[j]'(by rw[g.len,<-cU e 0 0];exact ((ae.1 J).1))):=aa _;rcases Ff g C a J t with⟨U,p⟩|⟨_,p⟩
 ·rw[p]at k;obtain⟨i,K,L,u⟩:=JX k;rw[aC]at K L;obtain⟨z,M,rfl⟩:=bU.1 K;obtain⟨A,N,rfl⟩:=bU.1 L;have n:=congrArg Ty.pM (B.one j _ t U);rw[wg,wg]at n;have D:cZ (lQ b d) z=cZ (lQ b d) A:=by
   have:=congrArg (λl=>l[i]?) n;simp[M,N]at this;exact this
  have V:=(Ag g z).1 (B.all _ z (aq M));have W:=(Ag g A).1 (B.all _ A (aq N));obtain⟨q,E⟩:=cB V;obtain⟨r,F⟩:=cB W;have O:q<e.dn:=by rw[<-tQ e];exact (ae.1 E).1
  have P:r<e.dn:=by rw[<-tQ e];exact (ae.1 F).1
  rw[Fe m a E,Fe m a F]at u⊢;have X:(qd e).getD q 0=z:=by rw[List.getD,E];rfl
  have Y:(qd e).getD r 0=A:=by rw[List.getD,F];rfl
  have Q:=h.snd q O;have R:=h.snd r P;rw[X]at Q;rw[Y]at R;have o:∀i,i<e.dn->a.getD i 0∈a:=λi c=>by
   rw[List.getD,aa (by rw[h.len];exact c)];exact bZ _
  have v:cZ (lQ b d) ((qd e).getD (a.getD q 0) 0)=cZ (lQ b d) ((qd e).getD (a.getD r 0) 0):=by rw[Q,R,D]
  have G:=o q O;have H:=o r P;generalize a.getD q 0=x at*;generalize a.getD r 0=y at*;have I:cZ (lQ b d) ((qd e).getD (min x y) 0)=cZ (lQ b d) ((qd e).getD (max x y) 0):=by
   by_cases f:x<=y
   ·rw[dL f,iK f];exact v
   ·rw[iL (by omega),je (by omega)];exact v.symm
  refine⟨⟨by rw[Gw];exact h.len,λi c=>?_,λi c=>?_⟩,?_,u⟩
  ·have:=h.le i c;rw[Ub _ _ (by rw[h.len];exact c)];split<;>omega
  ·rw[Ub _ _ (by rw[h.len];exact c)];split
   ·rename_i Z;rw[I,<-Z];exact h.snd i c
   ·exact h.snd i c
  ·by_cases f:x<=y
   ·rw[iK f];exact H
   ·rw[je (by omega)];exact G
 ·rw[p]at k;simp at k
theorem WJ{e}(m:TZ e b d)(g:NA [] e 0 b)(o:e.wf)(f:fo e b w c)(a)(h:WI e b d a)(A:nB (Mi e b a) (e.subs 0 0)=none):∀i,i<e.dn->(qd e)[a.getD i 0]?=some (cZ (lQ b d) ((qd e).getD i 0)):=by
 have k:=m.min (cF e a) (λj n p v=>by
  have x:(e.subs 0 0)[j]?=some ((e.subs 0 0)[j]'(by rw[cU,<-g.len];exact ((ae.1 p).1))):=aa _;rcases Ff g o a x p with⟨_,q⟩|⟨h1,_⟩
  ·have:=Fc A _ (aq x);rw[q]at this;have y:=m.bare j n p v;refine GP _ _ _ y (JY ?_ this);rw[aO,aO,vW,vW,<-gq,y,gq]
  ·exact absurd v h1)
 intro i r;have z:=DA r;have s:=(Ag g _).2 (aq z);obtain⟨j,l⟩:=cB ((Ag g _).1 (m.keep _ s));have B:j<e.dn:=by rw[<-tQ e];exact (ae.1 l).1
 have h1:=k ((qd e).getD i 0);rw[Fe f a l,Fe f a z]at h1;have h2:=h.snd i r;have t:a.getD i 0<e.dn:=by have:=h.le i r;omega
 have h3:=Dj (lQ b d) ((qd e).getD (a.getD i 0) 0);have G:=h.le j B;have C:(qd e).Pairwise (·<·):=(vm e b w c f).1;have D:j<=a.getD i 0:=by
  apply jQ;intro u;obtain⟨E,H⟩:=ae.1 (DA t);obtain⟨F,I⟩:=ae.1 l;have:=gh.1 C _ _ E F u;omega
 rw[show a.getD i 0=j by omega];exact l
theorem Oa:∀{l m:List Nat},l.Pairwise (·<·)->m.Pairwise (·<·)->(∀x,x∈l↔x∈m)->l=m
 |[],[],_,_,_=>rfl
 |[],y::m,_,_,h=>by have:=(h y).2 (by simp);simp at this
 |x::l,[],_,_,h=>by have:=(h x).1 (by simp);simp at this
 |x::l,y::m,c,d,h=>by
  simp at c d;have f:x=y:=by
   have h1:=(h x).1 (by simp);have h2:=(h y).2 (by simp);simp at h1 h2;rcases h1 with h1|h1
   ·exact h1
   ·rcases h2 with h2|h2
    ·exact h2.symm
    ·have:=c.1 y h2;have:=d.1 x h1;omega
  subst f;rw[Oa c.2 d.2 (λz=>?_)];have g:=h z;simp at g;constructor
  ·intro a;have:=c.1 z a;rcases g.1 (.inr a) with e|e
   ·omega
   ·exact e
  ·intro b;have:=d.1 z b;rcases g.2 (.inr b) with e|e
   ·omega
   ·exact e
theorem WK(h:x.Pairwise (·<·))(d:x[w]?=some c):ot x c=(w:Int):=by
 obtain⟨b,e⟩:=ae.1 d;refine JB x c w b (λj y f g=>?_) e;obtain⟨a,k⟩:=ae.1 g;have:=gh.1 h j w a b f;omega
theorem WL{e}(f:NA [] e 0 b)(a:fo e b w c):rE e b d=(qd e).filter (λp=>cZ (lQ b d) p==p):=by
 have l:WC b b 0:=λi n h=>by rw[bJ];exact h
 have s:=(JT b e b w c 0 a l).1;have u:=(vm e b w c a).1;refine Oa ?_ (u.filter _) (λx=>?_)
 ·unfold rE dY;rw[List.pairwise_map]at s⊢;exact s.filter _
 ·unfold rE dY;rw[cM,kF,<-Ag f x];constructor
  ·rintro⟨n,h,rfl⟩;rw[kF]at h;obtain⟨h1,h2⟩:=h;simp at h2;refine⟨⟨n,?_,h2.1,rfl⟩,by simpa using h2.2⟩;obtain⟨z,v,m⟩:=cM.1 h1;obtain⟨k,t⟩:=cB v;have o:=(ae.1 t).1;rw[tr]at o;obtain⟨j,r,q,y,B⟩:=vT e 0 0 0 k o;rw[t]at q;simp at q;have g:=(ae.1 y).1;rw[gA,<-f.len]at g;rw[q,bL,aa g]at m;rw[<-m];exact bZ g
  ·rintro⟨⟨n,h,A,rfl⟩,h2⟩;exact⟨n,kF.2 ⟨NT f n h,by simp;exact⟨A,by simpa using h2⟩⟩,rfl⟩
def JZ(c:List Nat)(k:Nat):Nat:=((List.range k).filter (λj=>c.getD j 0==j)).length
theorem Qx(c)(k:Nat):JZ c (k+1)=JZ c k+if c.getD k 0=k then 1 else 0:=by
 unfold JZ;rw[gZ,gX,aj,eF];by_cases h:c.getD k 0=k
 ·rw[ah h,ah (by simpa using h)];rfl
 ·rw[ag h,ag (by simpa using h)];rfl
theorem Ud(c)(n:Nat)(e:∀i,i<n->c.getD i 0<=i)(hid:∀i,i<n->c.getD (c.getD i 0) 0=c.getD i 0):∀m,m<=n->(mF c m).2=JZ c m/\∀i,i<m->(mF c m).1.getD i 0=JZ c (c.getD i 0)
 |0,_=>⟨by simp[mF,JZ],λi h=>by omega⟩
 |m+1,l=>by
  obtain⟨h1,h2⟩:=Ud c n e hid m (by omega);have j:=tP c m;have k:=e m (by omega);have d:∀(z:Nat)(i:Nat),i<m->((mF c m).1++[z]).getD i 0=(mF c m).1.getD i 0:=λz i g=>by
   simp[List.getD];rw[ak (by omega)]
  have a:∀z:Nat,((mF c m).1++[z]).getD m 0=z:=λz=>by
   simp[List.getD];rw[aw (by omega),j,cx];rfl
  rw[Qx];simp only[mF];by_cases f:c.getD m 0=m
  ·rw[ah f,ah f];refine⟨by simp only;omega,λi g=>?_⟩;by_cases b:i<m
   ·rw[d _ i b,h2 i b]
   ·have:i=m:=by omega
    subst this;rw[a,f,h1]
  ·rw[ag f,ag f];refine⟨by simp only;omega,λi g=>?_⟩;by_cases b:i<m
   ·rw[d _ i b,h2 i b]
   ·have:i=m:=by omega
    subst this;rw[a,h2 _ (by omega),hid i (by omega)]
theorem J0(e):∀k,k<=e.dn->(qd e).take k=(List.range k).map (λj=>(qd e).getD j 0)
 |0,_=>by simp
 |k+1,h=>by
  rw[cW,J0 e k (by omega),DA (by omega),gZ,bz];rfl
theorem WM{e}(v:NA [] e 0 b)(l:fo e b w c)(a)(h:WI e b d a)(f:∀i,i<e.dn->(qd e)[a.getD i 0]?=some (cZ (lQ b d) ((qd e).getD i 0))):(∀i,i<e.dn->ot (rE e b d) (cZ (lQ b d) ((qd e).getD i 0))=(((mF a e.dn).1.getD i 0:Nat):Int))/\(mF a e.dn).2=(rE e b d).length/\∀i,i<e.dn->(mF a e.dn).1.getD i 0<(rE e b d).length:=by
 have y:=(vm e b w c l).1;have r:∀i j:Nat,∀x,(qd e)[i]?=some x->(qd e)[j]?=some x->i=j:=λi j x h1 h2=>by
  rw[<-Mj y h1,<-Mj y h2]
 have m:∀i,i<e.dn->(a.getD i 0=i↔cZ (lQ b d) ((qd e).getD i 0)=(qd e).getD i 0):=λi c=>by
  have h1:=f i c;have h2:=DA c;constructor
  ·intro n;rw[n,h2]at h1;exact (dx h1).symm
  ·intro n;rw[n]at h1;exact r _ _ _ h1 h2
 have hid:∀i,i<e.dn->a.getD (a.getD i 0) 0=a.getD i 0:=λi c=>by
  have o:a.getD i 0<e.dn:=by have:=h.le i c;omega
  refine (m _ o).2 ?_;have h1:=f i c;rw[DA o]at h1;rw[dx h1,rf]
 obtain⟨z,s⟩:=Ud a e.dn h.le hid e.dn bS;have g:∀k,k<=e.dn->(((qd e).take k).filter (λp=>cZ (lQ b d) p==p)).length=JZ a k:=λk z=>by
  rw[J0 e k z,List.filter_map,aO]
  congr 1
  apply List.filter_congr;intro j E;have F:j<k:=by simpa using E
  have:=m j (by omega);simp only[Function.comp];by_cases n:a.getD j 0=j
  ·rw[show (cZ (lQ b d) ((qd e).getD j 0)==(qd e).getD j 0)=true from by simpa using this.1 n,show (a.getD j 0==j)=true from by simpa using n]
  ·rw[show (cZ (lQ b d) ((qd e).getD j 0)==(qd e).getD j 0)=false from by simpa using (λG=>n (this.2 G)),show (a.getD j 0==j)=false from by simpa using n]
 have A:=WL (d:=d) v l;have B:(rE e b d).Pairwise (·<·):=by rw[A];exact y.filter _
 have t:∀i,i<e.dn->(rE e b d)[JZ a (a.getD i 0)]?=some (cZ (lQ b d) ((qd e).getD i 0)):=λi c=>by
  have o:=by have:=h.le i c;omega
  obtain⟨H,D⟩:=ae.1 (f i c);have C:qd e=(qd e).take (a.getD i 0)++((qd e)[a.getD i 0]::(qd e).drop (a.getD i 0+1)):=by
   rw[<-aW H,fX]
  have u:=A;rw[C,gX]at u;rw[u,aw (by rw[g _ (by omega)];exact bS),g _ (by omega),cx,eF];have q:(cZ (lQ b d) ((qd e)[a.getD i 0])==(qd e)[a.getD i 0])=true:=by
   rw[D,rf];simp
  rw[ah q,aL,D]
 refine⟨λi c=>?_,?_,λi c=>?_⟩
 ·rw[s i c];exact WK B (t i c)
 ·rw[z,A,<-g e.dn bS,cw (by rw[tQ];exact bS)]
 ·rw[s i c];exact (ae.1 (t i c)).1
theorem DB(T)(d:Nat)(n:NR):∀(l:List NR)(k a b:Nat),(n.at_<=(jo T d l k a b).1/\(jo T d l k a b).2<=n.dH)↔(n.at_<=a/\b<=n.dH)/\∀(i:Nat)(m:NR),l[i]?=some m->(aP T ((k+i:Nat):Int)).has d=true->n.at_<=m.at_/\m.dH<=n.dH
 |[],k,a,b=>by simp[jo]
 |m::r,k,a,b=>by
  simp only[jo];have c:∀P:Prop,((aP T (k:Int)).has d=true->n.at_<=m.at_/\m.dH<=n.dH)->((∀(i:Nat)(x:NR),r[i]?=some x->(aP T ((k+1+i:Nat):Int)).has d=true->n.at_<=x.at_/\x.dH<=n.dH)↔(∀(i:Nat)(x:NR),(m::r)[i]?=some x->(aP T ((k+i:Nat):Int)).has d=true->n.at_<=x.at_/\x.dH<=n.dH)):=λ_ j=>by
   constructor
   ·intro h i x e f;cases i with
    |zero=>simp only[aL,ai]at e;subst e;exact j f
    |succ i=>exact h i x (by simpa using e) (by rw[show k+1+i=k+(i+1) by omega];exact f)
   ·intro h i x e f;exact h (i+1) x (by simpa using e) (by rw[show k+(i+1)=k+1+i by omega];exact f)
  by_cases g:(aP T (k:Int)).has d=true
  ·rw[ah g,DB T d n r (k+1)];constructor
   ·rintro⟨h1,h2⟩;have h3:n.at_<=m.at_/\m.dH<=n.dH/\n.at_<=a/\b<=n.dH:=by
     obtain⟨o,p⟩:=h1;split at o<;>split at p<;>omega
    exact⟨⟨h3.2.2.1,h3.2.2.2⟩,(c True (λ_=>⟨h3.1,h3.2.1⟩)).1 h2⟩
   ·rintro⟨h1,h2⟩;have h3:=h2 0 m rfl g;refine⟨?_,(c True (λ_=>h3)).2 h2⟩;constructor
    ·split<;>omega
    ·split<;>omega
  ·rw[ag g,DB T d n r (k+1),c True (λh=>absurd h g)]
def wA(a:List Rec)(S:List Bool)(i:Nat):Bool:=match a[i]? with
 |some r=>!(S.getD i false)&&tO a S r a.length
 |none=>false
theorem yR(b)(S)(r):∀k,k<=b.length->(tO b S r k=true↔∀j q,j<k->b[j]?=some q->S.getD j false=true->r.id<=q.id/\q.id<=r.last)
 |0,_=>by simp[tO]
 |k+1,h=>by
  have d:=aa (show k<b.length by omega);simp only[tO,cu,yR b S r k (by omega)];rw[d];constructor
  ·rintro⟨h1,h2⟩ j q f c a;by_cases e:j<k
   ·exact h1 j q e c a
   ·have:j=k:=by omega
    subst this;rw[d]at c;cases c;rw[a]at h2;simp only[Bool.true_and,fW,Bool.or_eq_false_iff,gT]at h2;omega
  ·intro h1;refine⟨λj q f c a=>h1 j q (by omega) c a,?_⟩;cases a:S.getD k false with
   |false=>rfl
   |true=>
    have:=h1 k _ (by omega) d a;simp only[Bool.true_and,fW,Bool.or_eq_false_iff,gT];omega
theorem Fg(b)(S)(f:Nat)(g)(i:b[f]?=some g)(e:wA b S f=true)(o:∀j,j<f->wA b S j=false)(p:∀j r,b[j]?=some r->wA b S j=true->g.last-g.id<=r.last-r.id):∀k,f<k->k<=b.length->Aa b S k=some f
 |0,h,_=>by omega
 |k+1,h,s=>by
  have d:∀m,m<=f->Aa b S m=none:=by
   intro m
   induction m with
   |zero=>intro _;rfl
   |succ m q=>
    intro t;simp only[Aa,hmS];rw[q (by omega)];have c:=o m (by omega);unfold wA at c;split
    ·rename_i r l;rw[l]at c;simp only at c;rw[c];simp
    ·rfl
  simp only[Aa,hmS];by_cases n:k=f
  ·subst n;rw[d k bS,i];unfold wA at e;rw[i]at e;simp only at e⊢;rw[e];simp[hmB]
  ·rw[Fg b S f g i e o p k (by omega) (by omega)];split
   ·rename_i r l;by_cases a:wA b S k=true
    ·have:=p k r l a;rw[ag];simp only[hmB,i];simp;omega
    ·unfold wA at a;rw[l]at a;simp only[Bool.not_eq_true]at a;rw[a];simp
   ·rfl
theorem J1(a)(S)(h:∀j,j<a.length->wA a S j=false):∀k,k<=a.length->Aa a S k=none
 |0,_=>rfl
 |k+1,d=>by
  simp only[Aa,hmS];rw[J1 a S h k (by omega)];have b:=h k (by omega);unfold wA at b;split
  ·rename_i r c;rw[c]at b;simp only at b;rw[b];simp
  ·rfl
theorem Ml{e:PT}{S}{q:Rec}(m:(e.du 0 0)[w]?=some I)(n:(e.du 0 0)[c]?=some q)(o:w<c)(d:wA (e.du 0 0) S w=true)(f:wA (e.du 0 0) S c=true)(h:∃k,k<(e.du 0 0).length/\S.getD k false=true):I.last-I.id<=q.last-q.id:=by
 obtain⟨k,g,l⟩:=h;unfold wA at d f;rw[m]at d;rw[n]at f;simp at d f;have h1:=(yR _ S I _ bS).1 d.2 k _ g (aa g) l;have h2:=(yR _ S q _ bS).1 f.2 k _ g (aa g) l;rw[gO,aC]at m n;obtain⟨x,s,rfl⟩:=bU.1 m;obtain⟨y,u,rfl⟩:=bU.1 n;have B:=JV e 0 0 w c x y s u o;have p:∀z:PT×Nat×Nat,(dA z).id=z.2.1/\(dA z).last=z.2.1+z.1.cnt-1:=λz=>by
  obtain⟨t,a,b⟩:=z;cases t<;>simp[dA,PT.cnt];omega
 have v:=p x;have A:=p y;omega
theorem Qy{e:PT}(h:(e.du 0 0)[0]?=some I):I.last-I.id=0:=by
 rw[gO,aC]at h;obtain⟨x,c,rfl⟩:=bU.1 h;have:=E8 e 0 0 x c;obtain⟨t,a,b⟩:=x;cases t<;>simp[dA,PT.cnt]at this⊢;omega
theorem AY(T)(c a b:Nat):∀(l:List NR)(k:Nat),(ju T c a b l k=-1/\∀(i:Nat) n,l[i]?=some n->¬(n.at_<=a/\b<=n.dH/\(aP T ((k+i:Nat):Int)).has c=false))\/∃(i:Nat)(n:NR),l[i]?=some n/\(n.at_<=a/\b<=n.dH/\(aP T ((k+i:Nat):Int)).has c=false)/\ju T c a b l k=((k+i:Nat):Int)/\∀(j:Nat) m,j<i->l[j]?=some m->¬(m.at_<=a/\b<=m.dH/\(aP T ((k+j:Nat):Int)).has c=false)
 |[],_=>.inl ⟨rfl,λi n h=>by simp at h⟩
 |m::r,k=>by
  by_cases d:m.at_<=a/\b<=m.dH/\(aP T (k:Int)).has c=false
  ·right;exact⟨0,m,rfl,d,by simp only[ju];rw[ah d];rfl,λj _ o=>by omega⟩
  ·have g:ju T c a b (m::r) k=ju T c a b r (k+1):=by simp only[ju];rw[ag d]
   rcases AY T c a b r (k+1) with⟨h1,h2⟩|⟨i,n,h1,h2,h3,p⟩
   ·left;refine⟨by rw[g,h1],λi n e=>?_⟩;cases i with
    |zero=>simp only[aL,ai]at e;subst e;exact d
    |succ i=>
     have:=h2 i n (by simpa using e);rw[show k+1+i=k+(i+1) by omega]at this;exact this
   ·right;refine⟨i+1,n,by simpa using h1,?_,?_,λj x o f=>?_⟩
    ·rw[show k+(i+1)=k+1+i by omega];exact h2
    ·rw[g,h3,show k+(i+1)=k+1+i by omega]
    ·cases j with
     |zero=>simp only[aL,ai]at f;subst f;exact d
     |succ j=>
      have:=p j x (by omega) (by simpa using f);rw[show k+1+j=k+(j+1) by omega]at this;exact this
theorem WN{e}{a}(G:NA [] e 0 a)(f:fo e a w c)(B:a[a.length-1]?=some d)(M:∀n∈a,n.at_<d.dH)(T)(t:Nat)(S)(N:∀j,j<e.cnt->S.getD j false=(aP T (j:Nat)).has t):ju T t (jo T t a 0 d.dH d.at_).1 (jo T t a 0 d.dH d.at_).2 a 0=match Aa (e.du 0 0) S (e.du 0 0).length with|none=>-1|some i=>(i:Int):=by
 have y:=Tr G f;have O:=G.len;have Y:=gA e 0 0;have C:∀n∈a,d.at_<=n.dH:=λn o=>by
  obtain⟨j,H⟩:=cB o;have Z:=(ae.1 H).1;have hin:=f.NV n o;obtain⟨_,_,h3⟩:=N7 e a w c 0 f 0 e.cnt (E4 e 0);obtain⟨m,n',U,V,g3,_⟩:=h3 j ld (by omega);rw[kO,H]at U;rw[bJ,kO,<-O,B]at V;cases U;cases V;omega
 have l:∀(i:Nat) n,a[i]?=some n->(wA (e.du 0 0) S i=true↔(n.at_<=(jo T t a 0 d.dH d.at_).1/\(jo T t a 0 d.dH d.at_).2<=n.dH/\(aP T ((0+i:Nat):Int)).has t=false)):=λi n o=>by
  have P:=(ae.1 o).1;have p:(e.du 0 0)[i]?=some ((e.du 0 0)[i]'(by omega)):=aa _;generalize (e.du 0 0)[i]=r at p;have I:=aq o;rw[<-and_assoc,DB T t n a 0 d.dH d.at_];unfold wA;rw[p];simp only[cu,fW,yR _ S r _ bS,bJ];rw[N i (by omega)];constructor
  ·rintro⟨h1,h2⟩;refine⟨⟨⟨gi (M n I),C n I⟩,λk m g hh=>?_⟩,h1⟩;have hkl:=(ae.1 g).1;have s:(e.du 0 0)[k]?=some ((e.du 0 0)[k]'(by omega)):=aa _;generalize (e.du 0 0)[k]=q at s;have h3:=h2 k q (by omega) s (by rw[N k (by omega)];exact hh);have J:=y.b (q,m) (l9 s g) (r,n) (l9 p o);have z:=y.b (r,n) (l9 p o) (q,m) (l9 s g);simp only at J z;have e1:n.at_<=m.at_:=by
    apply jQ;intro h;have:=J.1.2 h;omega
   refine⟨e1,?_⟩;rcases lD i k with u|u|u
   ·rcases Dz f i k n m o g u with h|h<;>omega
   ·subst u;rw[o]at g;cases g;exact bS
   ·rcases Dz f k i m n g o u with h|h<;>omega
  ·rintro⟨⟨_,h2⟩,h1⟩;refine⟨h1,λk q W s L=>?_⟩;have g:a[k]?=some (a[k]'(by omega)):=aa _;generalize a[k]=m at g;rw[N k (by omega)]at L;have h3:=h2 k m g L;have J:=y.b (q,m) (l9 s g) (r,n) (l9 p o);have z:=y.b (r,n) (l9 p o) (q,m) (l9 s g);simp only at J z;have X:=f.NV m (aq g);refine⟨?_,z.2.2 (by omega)⟩;apply jQ;intro h;have:=J.1.1 h;omega
 rcases AY T t (jo T t a 0 d.dH d.at_).1 (jo T t a 0 d.dH d.at_).2 a 0 with⟨h1,h2⟩|⟨i,n,h1,h2,h3,h4⟩
 ·rw[h1,J1 _ S (λj H=>?_) _ bS];have g:a[j]?=some (a[j]'(by omega)):=aa _;have:=h2 j _ g;rw[<-l j _ g]at this;simpa using this
 ·have P:=(ae.1 h1).1;have p:(e.du 0 0)[i]?=some ((e.du 0 0)[i]'(by omega)):=aa _;generalize (e.du 0 0)[i]=r at p;have K:=(l i n h1).2 h2;have v:∀j,j<i->wA (e.du 0 0) S j=false:=λj H=>by
   have g:a[j]?=some (a[j]'(by omega)):=aa _;have:=h4 j _ H g;rw[<-l j _ g]at this;simpa using this
  rw[h3,bJ,Fg _ S i r p K v (λj q s D=>?_) _ (by omega) bS];by_cases E:∃k,k<(e.du 0 0).length/\S.getD k false=true
  ·rcases lD i j with x|x|x
   ·exact Ml p s x K D E
   ·subst x;rw[p]at s;cases s;exact bS
   ·rw[v j x]at D;simp at D
  ·have Q:i=0:=by
    apply Nat.eq_zero_of_not_pos;intro F;have A:=v 0 F;have R:(e.du 0 0)[0]?=some ((e.du 0 0)[0]'(by omega)):=aa _;unfold wA at A;rw[R]at A;simp only[jI,Bool.not_eq_false']at A;rcases A with A|A
    ·exact E ⟨0,by omega,A⟩
    ·have:tO (e.du 0 0) S (e.du 0 0)[0] (e.du 0 0).length=true:=(yR _ S _ _ bS).2 (λk q W s L=>absurd ⟨k,W,L⟩ E);rw[this]at A;simp at A
   subst Q;rw[Qy p];exact ld
open Go.Lib (decDigits)
theorem Ue(e)(b)(d)(j:Int):aP (Qs e b d) j=fH (λx=>(ot (rE e b d) (cZ (lQ b d) x)).toNat) (aP (G6 b) j):=by
 unfold Qs;generalize lQ b d=E;generalize rE e b d=c;have g:∀(l:List NR)(T:List Ty),eE (T.map (fH (λx=>(ot c (cZ E x)).toNat))) (rp E c l)=(eE T (l.map atR)).map (fH (λx=>(ot c (cZ E x)).toNat)):=λl=>by
  induction l with
  |nil=>intro T;simp[rp,eE]
  |cons n r i=>
   intro T;have k:iz (T.map (fH (λx=>(ot c (cZ E x)).toNat))) (ox n (if n.form=4 then ot c (cZ E n.at_) else -1))=fH (λx=>(ot c (cZ E x)).toNat) (iz T (atR n)):=NJ _ T (atR n) _ rfl (λm=>by
    have h:n.form=4:=m;simp[ox,atR,ah h])
   have f:=i (T++[iz T (atR n)]);rw[bz,List.map_singleton,<-k]at f;exact f
 have a:=g b [];rw[eH]at a;rw[a,oW]
theorem xM{P}{f g}(h:∀x,P x->f x=g x):∀t:Ty,vh P t->fH f t=fH g t
 |.n,_=>rfl
 |.p r a b,c=>by
  obtain⟨h1,h2,h3⟩:=c.p;simp[fH,h r h1,xM h a h2,xM h b h3]
theorem Fh(a:Int)(i:Int):∀(l:List Int)(r:Nat),Dx (l++[a]) r i=Dx l r i++(if a=i then [r+l.length] else [])
 |[],r=>by simp[Dx]
 |x::l,r=>by
  rw[aS];simp only[Dx];rw[Fh a i l (r+1),aF,aB,show r+1+l.length=r+(l.length+1) by omega]
theorem Ob{e}{g}{v}{D E:Nat}(p:NA [] e 0 g)(f:fo e g D E)(a:g[g.length-1]?=some v)(q:∀n∈g,n.at_<v.dH)(T)(b)(C:∀j x,(e.subs 0 0)[j]?=some x->iP b x.2.1=aP T (j:Nat)){j:Nat}{x}(w:(e.subs 0 0)[j]?=some x):∀c,(r7 (e.du 0 0) b c).getD x.2.1 []=Dx (mn T g v c) 0 (j:Nat)
 |0=>by
  simp[r7,mn,Dx,List.getD];rw[eQ];split<;>rfl
 |c+1=>by
  have l:=WN p f a q T c (tN b c (e.du 0 0)) (λk F=>by
   have y:k<(e.subs 0 0).length:=by rw[cU];exact F
   have s:=aa y;have z:(e.du 0 0)[k]?=some (dA (e.subs 0 0)[k]):=by rw[gO,aC,s];rfl
   unfold tN;rw[List.getD,aC,z];simp;rw[sO,C k _ s])
  have t:(mn T g v c).length=c:=by unfold mn;rw[aO,di]
  rw[Ds,Fh,l,t,bJ,<-(Ob p f a q T b C w c)];have m:r7 (e.du 0 0) b (c+1)=match TS (e.du 0 0) b c with|none=>r7 (e.du 0 0) b c|some id=>(r7 (e.du 0 0) b c).set id ((r7 (e.du 0 0) b c).getD id []++[c]):=rfl
  rw[m];unfold TS;cases G:Aa (e.du 0 0) (tN b c (e.du 0 0)) (e.du 0 0).length with
  |none=>
   simp only[Option.bind_none,Option.map_none];rw[ag (by omega),aN]
  |some i=>
   have A:=TD _ _ _ i bS G;have d:(e.du 0 0)[i]?=some ((e.du 0 0)[i]'A):=aa _;have o:(e.du 0 0)[j]?=some (dA x):=by rw[gO,aC,w];rfl
   generalize (e.du 0 0)[i]=r at d;simp only[jR,d,cf];have H:=mS e 0 0 x (aq w);have I:=fj x.1;by_cases u:i=j
   ·subst u;rw[d]at o;cases o;rw[sO,ah rfl];simp[List.getD];rw[bh (by rw[GI,gA e 0 0];omega)];rfl
   ·have B:r.id≠x.2.1:=λh=>u (Dd e 0 0 d o (by rw[h,sO]));rw[ag (by omega),aN];simp[List.getD];rw[bI B]
theorem Mm{e}(N:TZ e b d)(A:gL e)(B:e.wf)(l:NA [] e 0 b)(m:fo e b w c)(r:b[b.length-1]?=some d)(C:∀n∈b,n.at_<d.dH)(f)(h:WI e b d f)(R:nB (Mi e b f) (e.subs 0 0)=none):e.JI (mF f e.dn).1 (r7 (e.du 0 0) (Mi e b (mF f e.dn).1) (mF f e.dn).2) 0 0=e.yI (rZ e b d) (xL e b d) 0:=by
 obtain⟨v,S,T⟩:=WM l m f h (WJ N l B m f h R);have D:∀x,Qv b x->cF e (mF f e.dn).1 x=(ot (rE e b d) (cZ (lQ b d) x)).toNat:=λx q=>by
  obtain⟨i,c⟩:=cB ((Ag l x).1 q);have E:i<e.dn:=by rw[<-tQ e];exact (ae.1 c).1
  have F:(qd e).getD i 0=x:=by rw[List.getD,c];rfl
  have:=v i E;rw[F]at this;rw[Fe m _ c,this];rfl
 refine NX _ _ _ _ e 0 0 0 A (λj x q=>⟨?_,λp k V W O G=>?_⟩)
 ·rw[bJ,S];refine Ob l m r C (Qs e b d) (Mi e b (mF f e.dn).1) (λj x q=>?_) q _;rw[Mk e b _ q,Ue];exact xM D _ (N.all _)
 ·have H:=(ae.1 q).1;obtain⟨n,I⟩:∃n,b[j]?=some n:=⟨_,aa (by rw[l.len,<-cU e 0 0];exact H)⟩;have z:=GN l 0 0 j x n q I;rw[G]at z;have P:(e.du 0 0)[j]?=some (dA x):=by rw[gO,aC,q];rfl
  have Q:=l.XO 0 0 _ (l9 P I);unfold SZ;have o:rU (rZ e b d) j=if n.form=4 then ot (rE e b d) (cZ (lQ b d) n.at_) else -1:=by unfold rZ;exact Ac _ _ b j n I
  rw[bJ];have s:dX k=4↔k=.pair:=by cases k<;>decide
  by_cases y:k=.pair
  ·rw[ah (show n.form=4 by rw[z];exact s.2 y)]at o;rw[o,ah y];obtain⟨_,J,_⟩:=oT e 0 0;have K:(dA x).iw=true:=by unfold Rec.iw;rw[Q.pr.1 (by rw[z];exact s.2 y)];simp
   obtain⟨_,L,U,h3,_⟩:=J _ (aq P) K;have u:(dA x).site=x.2.2:=by obtain⟨t,a,g⟩:=x;cases t<;>rfl
   rw[u]at h3 L;have M:(qd e)[x.2.2]?=some n.at_:=by
    unfold qd;rw[aC,show x.2.2=x.2.2-0 by omega,h3,<-Q.p];rfl
   have F:(qd e).getD x.2.2 0=n.at_:=by rw[List.getD,M];rfl
   have:=v x.2.2 (by omega);rw[F]at this;rw[this,ag (by omega),bL]
  ·rw[ag (show ¬n.form=4 by rw[z];exact λh=>y (s.1 h))]at o;rw[o,ag y];rfl
open Go.RowKit
theorem Uf(c):∀i,∀x∈(mF c i).1,x<i
 |0,x,h=>by simp[mF]at h
 |i+1,x,h=>by
  have a:=Uf c i;have d:=Md c i;simp only[mF]at h;split at h
  ·rcases aA.1 h with h|h
   ·have:=a x h;omega
   ·simp only[ax]at h;omega
  ·rcases aA.1 h with h|h
   ·have:=a x h;omega
   ·rw[List.getD]at h;cases b:(mF c i).1[c.getD i 0]? with
    |none=>rw[b]at h;simp at h;omega
    |some z=>rw[b]at h;simp at h;have:=a z (aq b);omega
theorem ru(s)(w)(x y:Nat)(j:x≠0)(a:∀w,Calls prog 31 #[.string s] w λv b=>∃c d e f g h,v=.returned (.tuple #[cG (.slice c d e) (.slice f g h),.int .i64 x,.int .i64 y])/\bg w b):Calls prog 16 #[.string s] w λv b=>v=.returned (.tuple #[.string (bs []),.int .i64 x])/\bg w b:=by
 unfold cG at a;have q:((x:Int) !=0)=true:=by simp;omega
 go_in;go_wp2_with fail;refine (a _).mono ?_;rintro _ k ⟨c,d,e,f,g,h,rfl,i⟩;go_wp2;refine au (v:=.tuple #[.string (bs []),.int .i64 x]) (by simp[results,results16,go_sem];rfl) rfl ⟨rfl,i.alloc i.size _⟩
theorem tR(s)(w)(x:Nat)(e:x≠0)(b:∀a,bg w a->Calls prog 33 #[.string s,.bool false] a λv c=>∃p q y,v=.returned (.tuple #[.pointer p,.pointer q,.int .i64 x,.int .i64 y])/\bg a c):Calls prog 17 #[.string s] w λv c=>v=.returned (.tuple #[.string (bs []),.int .i64 x])/\bg w c:=by
 have f:((x:Int) !=0)=true:=by simp;omega
 go_in;go_wp2_with fail;refine (b _ fp).mono ?_;rintro _ a ⟨p,q,y,rfl,d⟩;go_wp2;refine au (v:=.tuple #[.string (bs []),.int .i64 x]) (by simp[results,results17,go_sem];rfl) rfl ⟨rfl,d⟩
theorem wj(s)(w)(c)(x:Nat)(h1:Calls prog 16 #[.string s] w λv a=>v=.returned (.tuple #[.string (bs c),.int .i64 x])/\bg w a)(h2:∀a,bg w a->Calls prog 17 #[.string s] a λv e=>v=.returned (.tuple #[.string (bs c),.int .i64 x])/\bg a e):Calls prog 4 #[.string s] w λv a=>v=.returned (.bool true)/\bg w a:=by
 have i:((x:Int)==(x:Int))=true:=by simp
 have j:((bs c).toList==(bs c).toList)=true:=by simp
 have d:∀w,Calls prog 14 #[.int .i64 x] w λv a=>v=.returned (.int .i64 x)/\a=w:=by
  intro w;go_in;go_wp2;go_ret;exact⟨rfl,rfl⟩
 generalize bs c=B at*;go_in;go_wp2_with fail;refine h1.mono ?_;rintro _ h ⟨rfl,b⟩;go_wp2_with fail;refine (h2 h b).mono ?_;rintro _ k ⟨rfl,f⟩;have g:=b.trans (f.mono b.size);go_wp2_with fail;refine (d _).mono ?_;rintro _ _ ⟨rfl,rfl⟩;go_wp2;go_ret;exact⟨rfl,g⟩
theorem Mn (s) (w) (L:s.size<=maxLen) (p:Lib.TabIs prog w "internal/strconv.uint64pow10" .u64 Lib.pow10Tab):Calls prog 4 #[.string s] w λv u=>v=.returned (.bool true)/\bg w u:=by
 by_cases M:3000<s.size
 ·exact wj s w [] 1 (ru s w 1 0 (by omega) (λw=>(ko (.inl ⟨rfl,rfl⟩) s w M L).mono λ_ _ ⟨h,d⟩=>⟨_,_,_,_,_,_,h,d⟩)) (λw _=>tR s w 1 (by omega) (λw _=>(xp s w M L).mono λ_ _ ⟨h,d⟩=>⟨_,_,_,h,d⟩))
 ·cases z:jt false s.data.toList with
  |some q=>exact wj s w [] 2 (ru s w 2 q (by omega) (λw=>(kr (.inl ⟨rfl,rfl,rfl,rfl⟩) s w (by omega) q z).mono λ_ _ ⟨h,d⟩=>⟨_,_,_,_,_,_,h,d⟩)) (λw _=>tR s w 2 (by omega) (λw _=>(xq s w (by omega) q z).mono λ_ _ ⟨h,d⟩=>⟨_,_,_,h,d⟩))
  |none=>
   obtain⟨e,g⟩:=qv z;have hit:=λu d=>rI u (cC p u d);have N:=gP g;by_cases r:(cK e).1=0
   ·have i:e.dn<=100:=by
     unfold cK at r;split at r
     ·simp at r
     ·omega
    have Q:(aV (List.range e.dn) e 0 0 [] (qo e)).2.e=0:=by
     have:=r;unfold cK at this;rw[ag (by omega)]at this;exact this
    obtain⟨U,m,_⟩:=zN g.wf r;obtain⟨n,o,j,R,G⟩:=Ea s (by omega) e g (ZR m i);obtain⟨⟨_,k⟩,_⟩:=PE.plain g (iy _);have A:=(g.eO (iy _)).1;obtain⟨X,Y,f⟩:=j.pos;have E:=Qw m j.na j.at_;have S:=JP (z:=o) j.na;obtain⟨B,_⟩:=NU e n o (by omega);have H:(xL e n o).length<=150:=by unfold xL mn;rw[aO,di];omega
    have I:(e.yI (rZ e n o) (xL e n o) 0).length<=180000000:=by
     have h1:=TM B H R.pr e j.na.LB k;have h2:=A7 e A;omega
    have l:=λc h a=>Mm E k g.wf j.na f j.last j.at_ c h a;refine wj s w (e.yI (rZ e n o) (xL e n o) 0) 0 (G w p) (λu C=>?_);refine (JR (P:=WI e n o) s u e (Mi e n) (by omega) g.wf A k i (λD d=>hit D (C.trans (d.mono C.size))) (Z8 e n o)
     (λc h=>Ua E m k j.na f c h.len (λx J=>by have:=h.sm x J;omega)) (λc h=>h.sm)
     (λc h=>Ua E m k j.na f _ (tP c e.dn) (λx J=>?_)) (λc x y h a=>Uc E j.na g.wf f c x y h a)
     (λc h a=>by rw[l c h a];exact I) (λD _=>?_)).mono ?_
    ·have:=Uf c e.dn x J;omega
    ·refine (uM s D (by omega) e g z i).mono λ_ F ⟨b,K,h,d,T⟩=>⟨b,K,((aV (List.range e.dn) e 0 0 [] (qo e)).2.at_:Int),?_,d,T⟩;rw[h,Q];rfl
    ·rintro v F ⟨c,h,a,O,d⟩;rw[l c h a]at O;exact⟨O,d⟩
   ·refine wj s w [] (cK e).1 (ru s w (cK e).1 (cK e).2 r (λw=>qP s w (by omega) e g)) (λD B=>tR s D (cK e).1 r (λF V=>?_));by_cases t:100<e.dn
    ·refine (xu s F (by omega) e g z t).mono λ_ _ ⟨q,h,Z,d⟩=>⟨none,none,(q:Int),?_,d⟩;rw[h];unfold cK;rw[ah t];rfl
    ·have W:(cK e).1=(aV (List.range e.dn) e 0 0 [] (qo e)).2.e:=by unfold cK;rw[ag t]
     rw[W];exact (uM s F (by omega) e g z (by omega)).mono λ_ _ ⟨b,K,h,d,_⟩=>⟨some ⟨b,0,none⟩,some ⟨K,0,none⟩,_,h,d⟩
def Mo(f:Nat)(a:Array Value)(w:World):Prop:=∀b,bg w b->Calls prog f a b λv c=>v=.returned (.bool true)/\bg b c
theorem wk{a}{b}(h:Mo w a b)(o):Calls prog w a (b.alloc o) λv c=>v=.returned (.bool true)/\bg b c:=by
 have d:=(aM b.heap.size b).alloc bS o;exact (h _ d).mono λ_ _ ⟨h1,h2⟩=>⟨h1,d.trans (h2.mono d.size)⟩
theorem WO(s)(k f:Int)(w)(h1:Mo 45 #[.string s] w)(h2:Mo 3 #[.string s,.int .i64 f] w)(h3:Mo 4 #[.string s] w)(a:Mo 46 #[.string s] w)(b:Mo 47 #[.string s] w)(c:Mo 5 #[.string s,.int .i64 f] w):Calls prog 20 #[.agg #[.int .i64 k,.string s,.int .i64 f]] w λv d=>v=.returned (.bool true)/\bg w d:=by
 have e:k=1\/k=2\/k=3\/k=4\/k=5\/k=6\/((k==1)=false/\(k==2)=false/\(k==3)=false/\(k==4)=false/\(k==5)=false/\(k==6)=false):=by
  simp only[aH,ne_eq];omega
 rcases e with rfl|rfl|rfl|rfl|rfl|rfl|⟨h,i,j,l,m,n⟩
 all_goals go_in
 all_goals go_wp2_with fail
 all_goals first
  | (first|refine (wk h1 _).mono ?_|refine (wk h2 _).mono ?_|refine (wk h3 _).mono ?_|refine (wk a _).mono ?_|refine (wk b _).mono ?_|refine (wk c _).mono ?_
     rintro _ o ⟨rfl,g⟩;go_wp2;go_ret;exact⟨rfl,g⟩)
  | (go_ret
     exact⟨rfl,fp.alloc bS _⟩)
def Ug(w:World)(v:Value)(b:List (Int×ByteArray×Int)):Prop:=
 (v=.slice none 0 0/\b=[])\/∃a d,v=.slice (some a) b.length d/\b.length<=maxLen/\∀(i:Nat)(c:Int×ByteArray×Int),b[i]?=some c->
  w.cell? (a.add (i*3))=some (.int .i64 c.1)/\cg w ((a.add (i*3)).block) ((a.add (i*3)).off+1) (.string c.2.1)/\cg w ((a.add (i*3)).block) ((a.add (i*3)).off+2) (.int .i64 c.2.2)
theorem Z9(v)(b)(w)(h:Ug w v b)(g:∀e c,c∈b->bg w e->Calls prog 20 #[.agg #[.int .i64 c.1,.string c.2.1,.int .i64 c.2.2]] e λv j=>v=.returned (.bool true)/\bg e j):Calls prog 6 #[v] w λv e=>v=.returned (.bool true)/\bg w e:=by
 rcases h with⟨rfl,rfl⟩|⟨a,r,rfl,s,t⟩
 ·go_in;go_wp2;go_loopw [3] (λi wr=>i=.int .i64 0/\wr=w) (λ_ _=>0)
  case atStart=>exact⟨rfl,rfl⟩
  case round=>
   obtain⟨rfl,rfl⟩:=hrel;go_wp2;go_ret;exact⟨rfl,fp⟩
 ·have u:(b.length:Int)<=9223372036854775807:=by unfold maxLen at s;omega
  go_in;go_wp2;go_loopw [3] (λi wr=>∃k:Nat,k<=b.length/\i=.int .i64 k/\bg w wr) (λi _=>b.length-(intOf i).toNat)
  case atStart=>exact⟨0,ld,rfl,fp⟩
  case round=>
   obtain⟨k,x,rfl,d⟩:=hrel;by_cases l:k<b.length
   ·obtain⟨c,f⟩:∃c,b[k]?=some c:=⟨_,aa l⟩;obtain⟨q,m,n⟩:=t k c f;rw[<-d.cell (aR _ _ q)]at q;replace m:=(d.cell (aR _ _ m)).trans m;replace n:=(d.cell (aR _ _ n)).trans n;go_wp2_with fail;refine (g _ c (aq f) d).mono ?_;rintro _ y ⟨rfl,o⟩;have p:=d.trans (o.mono d.size);go_wp2;go_roundw
    case rel=>exact⟨k+1,by omega,by go_num,p⟩
    case measure=>simp[intOf];omega
   ·go_wp2;go_ret;exact⟨rfl,d⟩
theorem WQ (v) (b) (w) (h:Ug w v b) (k:∀c∈b,c.2.1.size<=maxLen) (e:Lib.TabIs prog w "internal/strconv.uint64pow10" .u64 Lib.pow10Tab):
  Calls prog 6 #[v] w λv g=>v=.returned (.bool true)/\bg w g:=
 Z9 v b w h λg c l j=>by
  have f:=λa (i:bg g a)=>cC e a (j.trans (i.mono j.size));have d:=k c l;exact WO c.2.1 c.1 c.2.2 g (λa _=>LA _ a d) (λa h=>P8 _ _ a d (f a h)) (λa h=>Mn _ a d (f a h)) (λa h=>LI _ a d (f a h)) (λa h=>Tt _ a d (f a h)) (λa h=>SU _ _ a d (f a h))
