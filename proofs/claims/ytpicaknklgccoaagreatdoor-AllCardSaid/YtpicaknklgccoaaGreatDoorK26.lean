import Derived.Test.YtpicaknklgccoaaGreatDoorK24
set_option maxHeartbeats 32000000
set_option maxRecDepth 100000
namespace Go.Proofs.YtpicaknklgccoaaGreatDoor
open Go.RowKit
variable {w:List Nat}{a:List TP}{b c:List Ty}{d x:Nat}{y:List Int}{z v:Value}{u K L:World}
def qc(d:List TP)(K:List Nat)(n:NR):(Nat×Nat)×List TP:=
 let a:=bt K n.p0
 let b:=bt K n.p1
 let c:=bt K n.p2
 if n.form=2 then ((if n.source=-1 then (0,4) else (bt K n.source,0)),d)
 else if n.form=12 then ((a,0),d)
 else if n.form=3 then ((b,0),d)
 else if n.form=4 then ((if 63<(lB (kT d 0 a b).2 (kT d 0 a b).1).sz then (0,6) else ((kT d 0 a b).1,0)),(kT d 0 a b).2)
 else if n.form=5 then ((if a=0 then (0,5) else ((lB d a).a,0)),d)
 else if n.form=6 then ((if a=0 then (0,5) else ((lB d a).b,0)),d)
 else if n.form=7\/n.form=11 then ((b,if a=0/\b=c then 0 else 5),d)
 else if n.form=8\/n.form=9\/n.form=10 then ((0,if a=0/\b=0 then 0 else 5),d)
 else ((0,0),d)
theorem sG(c)(r a b:Nat):(kT c r a b).2.length<=c.length+1/\(kT c r a b).1<=c.length+1:=by
 unfold kT;cases d:c.findIdx? (ql r a b) with
 |none=>simp
 |some i=>
  have:=(dC.1 d).1;simp;omega
def nI(c:List TP)(K:List Nat)(n:NR)(r:Nat):Nat×List TP:=
 if n.form=2 then (bt K n.source,c)
 else if n.form=12 then (bt K n.p0,c)
 else if n.form=3 then (bt K n.p1,c)
 else if n.form=7 then (bt K n.p1,c)
 else if n.form=11 then (bt K n.p1,c)
 else if n.form=4 then kT c r (bt K n.p0) (bt K n.p1)
 else if n.form=5 then ((lB c (bt K n.p0)).a,c)
 else if n.form=6 then ((lB c (bt K n.p0)).b,c)
 else (0,c)
def ftK(b:List TP)(K:List Nat)(n:NR)(a:Nat):Nat:=
 if n.form=2 then (if n.source=-1 then 4 else 0)
 else if n.form=4 then (if 63<(lB b a).sz then 6 else 0)
 else if n.form=5 then (if bt K n.p0=0 then 5 else 0)
 else if n.form=6 then (if bt K n.p0=0 then 5 else 0)
 else if n.form=7 then (if bt K n.p0=0/\bt K n.p1=bt K n.p2 then 0 else 5)
 else if n.form=11 then (if bt K n.p0=0/\bt K n.p1=bt K n.p2 then 0 else 5)
 else if n.form=8 then (if bt K n.p0=0/\bt K n.p1=0 then 0 else 5)
 else if n.form=9 then (if bt K n.p0=0/\bt K n.p1=0 then 0 else 5)
 else if n.form=10 then (if bt K n.p0=0/\bt K n.p1=0 then 0 else 5)
 else 0
theorem xm(K)(x:Nat)(i:Int)(h:i<K.length):bt (K++[x]) i=bt K i:=by
 unfold bt;split
 ·rw[ak (by omega)]
 ·rfl
theorem Pw(a)(K)(n)(h:n.p0<K.length/\n.p1<K.length/\n.p2<K.length):ftK (nI a K n 0).2 (K++[(nI a K n 0).1]) n (nI a K n 0).1=(qc a K n).1.2/\((qc a K n).1.2=0->nI a K n 0=((qc a K n).1.1,(qc a K n).2)):=by
 unfold ftK;rw[xm K _ _ h.1,xm K _ _ h.2.1,xm K _ _ h.2.2];unfold nI qc;by_cases f:n.form=2
 ·simp[ah f];by_cases g:n.source=-1
  ·simp[ah g]
  ·simp[ag g]
 simp[ag f];by_cases c:n.form=12
 ·simp[c]
 simp[ag c];by_cases i:n.form=3
 ·simp[i]
 simp[ag i];by_cases j:n.form=4
 ·simp[j];by_cases b:63<(lB (kT a 0 (bt K n.p0) (bt K n.p1)).2 (kT a 0 (bt K n.p0) (bt K n.p1)).1).sz
  ·simp[ah b]
  ·simp[ag b]
 simp[ag j];by_cases k:n.form=5
 ·simp[k];by_cases b:bt K n.p0=0
  ·simp[ah b]
  ·simp[ag b]
 simp[ag k];by_cases l:n.form=6
 ·simp[l];by_cases b:bt K n.p0=0
  ·simp[ah b]
  ·simp[ag b]
 simp[ag l];by_cases m:n.form=7
 ·simp[m]
 by_cases d:n.form=11
 ·simp[d]
 simp only[m,d,or_self,aT];by_cases o:n.form=8
 ·simp[o]
 by_cases p:n.form=9
 ·simp[p]
 by_cases e:n.form=10
 ·simp[e]
 simp[o,p,e]
structure YU(tb:List TP)(K:List Nat)(n:NR): Prop where
 hl:tb.length<=8999
 hK:K.length<=9000
 kn:∀i,bt K i<=9500
 sz:∀k,(lB tb k).sz<=10000
 s:-10<=n.source/\n.source<=10000
 p0:-10<=n.p0/\n.p0<=10000
 p1:-10<=n.p1/\n.p1<=10000
 p2:-10<=n.p2/\n.p2<=10000
def jm(D:List Ty)(k:Nat):Ty:=if k=0 then .n else (D[k-1]?).getD .n
structure Rel(tb:List TP)(D:List Ty)(K:List Nat)(T:List Ty): Prop where
 len:D.length=tb.length
 at_:∀(j:Nat)(p:TP),tb[j]?=some p->p.a<=j/\p.b<=j/\D[j]?=some (.p p.r (jm D p.a) (jm D p.b))/\p.sz=(Ty.p p.r (jm D p.a) (jm D p.b)).size/\p.sz<=127
 nd:∀(i j:Nat)(p q:TP),tb[i]?=some p->tb[j]?=some q->p.r=q.r->p.a=q.a->p.b=q.b->i=j
 k:∀x∈K,x<=tb.length
 t:K.map (jm D)=T
 s:∀t∈T,t.size<=63
theorem Rel.pair{d}{D}(h:Rel d D w c)(k:Nat)(f:k≠0)(g:k<=d.length):∃p,d[k-1]?=some p/\jm D k=.p p.r (jm D p.a) (jm D p.b)/\p.a<k/\p.b<k/\lB d k=p:=by
 have e:k-1<d.length:=by omega
 refine⟨d[k-1],aa e,?_,?_,?_,?_⟩
 ·obtain⟨_,_,h3,_⟩:=h.at_ (k-1) _ (aa e)
  conv=>lhs;unfold jm
  rw[ag f,h3];rfl
 ·have:=(h.at_ (k-1) _ (aa e)).1;omega
 ·have:=(h.at_ (k-1) _ (aa e)).2.1;omega
 ·unfold lB;rw[ag f,aa e];rfl
theorem aab(D):jm D 0=.n:=rfl
theorem Rel.num(h:Rel a b w c)(k:Nat)(f:k<=a.length):jm b k=.n↔k=0:=by
 constructor
 ·intro e;by_cases d:k=0
  ·exact d
  ·obtain⟨p,_,h2,_⟩:=h.pair k d f;rw[h2]at e;cases e
 ·intro e;subst e;rfl
theorem Rel.inj{i}{D}(h:Rel i D w c):∀(m k d:Nat),k<=m->k<=i.length->d<=i.length->jm D k=jm D d->k=d:=by
 intro m
 induction m with
 |zero=>
  intro k d o _ f e;have:k=0:=by omega
  subst this;exact ((h.num d f).1 e.symm).symm
 |succ m j=>
  intro k d o l f e;by_cases n:k=0
  ·subst n;exact ((h.num d f).1 e.symm).symm
  ·by_cases g:d=0
   ·subst g;exact (h.num k l).1 e
   ·obtain⟨p,r,s,v,x,_⟩:=h.pair k n l;obtain⟨q,t,u,y,z,_⟩:=h.pair d g f;rw[s,u]at e;simp[Ty.p.injEq]at e;have:=h.nd (k-1) (d-1) p q r t e.1 (j p.a q.a (by omega) (by omega) (by omega) e.2.1) (j p.b q.b (by omega) (by omega) (by omega) e.2.2);omega
theorem Rel.YV(h:Rel a b w c)(g:d<=a.length)(f:x<=a.length):jm b d=jm b x↔d=x:=
 ⟨h.inj d d x bS g f,λe=>by rw[e]⟩
theorem Rel.known(h:Rel a b w c)(i:Int):aP c i=jm b (bt w i)/\bt w i<=a.length/\(aP c i).size<=63:=by
 unfold aP bt;by_cases d:0<=i
 ·rw[ah d,ah d,<-h.t,aC];cases e:w[i.toNat]? with
  |none=>exact⟨rfl,ld,by simp[Ty.size]⟩
  |some x=>
   refine⟨rfl,h.k x (aq e),?_⟩;exact h.s _ (by rw[<-h.t];exact List.mem_map_of_mem (aq e))
 ·rw[ag d,ag d];exact⟨rfl,ld,by simp[Ty.size]⟩
theorem Rel.sz(h:Rel a b w c)(k:Nat)(e:k<=a.length):(lB a k).sz=(jm b k).size:=by
 by_cases d:k=0
 ·subst d;rfl
 ·obtain⟨p,f,g,_,_,i⟩:=h.pair k d e;rw[i,g];exact (h.at_ (k-1) p f).2.2.2.1
theorem Rel.M8(h:Rel a b w c)(k:Nat):(lB a k).sz<=127:=by
 unfold lB;split
 ·simp
 ·cases d:a[k-1]? with
  |none=>simp
  |some p=>exact (h.at_ _ p d).2.2.2.2
theorem Rel.R7{d}{D}(h:Rel d D w c)(k:Nat):(lB d k).a<=d.length/\(lB d k).b<=d.length:=by
 unfold lB;split
 ·simp
 ·cases e:d[k-1]? with
  |none=>simp
  |some p=>
   have:=h.at_ _ p e;have:=(ae.1 e).1;simp;omega
theorem Rel.push(h:Rel a b w c)(k:Nat)(f:k<=a.length)(g:(jm b k).size<=63):Rel a b (w++[k]) (c++[jm b k]):=by
 refine⟨h.len,h.at_,h.nd,?_,?_,?_⟩
 ·intro x d;rcases aA.1 d with d|d
  ·exact h.k x d
  ·rw[ax]at d;rw[d];exact f
 ·rw[bz,h.t];rfl
 ·intro t e;rcases aA.1 e with e|e
  ·exact h.s t e
  ·rw[ax]at e;rw[e];exact g
theorem sH(D)(x)(k:Nat)(a:k<=D.length):jm (D++[x]) k=jm D k:=by
 unfold jm;split
 ·rfl
 ·rw[ak (by omega)]
theorem Rel.Xt(h:Rel a b w c)(r d e:Nat)(M:d<=a.length)(N:e<=a.length)(R:(jm b d).size<=63)(S:(jm b e).size<=63):∃y,Rel (Go.Proofs.YtpicaknklgccoaaGreatDoor.kT a r d e).2 y w c/\jm y (Go.Proofs.YtpicaknklgccoaaGreatDoor.kT a r d e).1=.p r (jm b d) (jm b e)/\(Go.Proofs.YtpicaknklgccoaaGreatDoor.kT a r d e).1<=(Go.Proofs.YtpicaknklgccoaaGreatDoor.kT a r d e).2.length/\(∀k,k<=a.length->jm y k=jm b k):=by
 unfold Go.Proofs.YtpicaknklgccoaaGreatDoor.kT;cases z:a.findIdx? (ql r d e) with
 |some i=>
  obtain⟨f,m,_⟩:=dC.1 z;simp only;unfold ql at m;simp only[cu,iQ]at m;obtain⟨p,A,O,_⟩:=h.pair (i+1) (by omega) (by omega);rw[fB,aa f]at A;simp only[ai]at A;refine⟨b,h,?_,by omega,λ_ _=>rfl⟩;rw[O,<-A,m.1.1,m.1.2,m.2]
 |none=>
  simp only;rw[fS]at z;have B:=h.len;refine⟨b++[.p r (jm b d) (jm b e)],⟨by simp[B],?_,?_,λx C=>by have:=h.k x C;simp;omega,?_,h.s⟩,?_,by simp,λk U=>sH b _ k (by omega)⟩
  ·intro j p l;by_cases E:j<a.length
   ·rw[ak E]at l;obtain⟨h1,h2,h3,P,Q⟩:=h.at_ j p l;rw[sH b _ p.a (by omega),sH b _ p.b (by omega),ak (by omega)];exact⟨h1,h2,h3,P,Q⟩
   ·have F:j=a.length:=by
     have:=(ae.1 l).1;simp at this;omega
    subst F;rw[aw bS]at l;simp only[cx,aL,ai]at l;subst l;simp only;rw[sH b _ d (by omega),sH b _ e (by omega),aw (by omega),B,cx,h.sz d M,h.sz e N];refine⟨M,N,rfl,by simp only[Ty.size];omega,by omega⟩
  ·intro i j p q f l G H I;have n:∀(i:Nat)(p:TP),a[i]?=some p->¬(p.r=r/\p.a=d/\p.b=e):=by
    intro i p f J;have:=z p (aq f);unfold ql at this;simp[J.1,J.2.1,J.2.2]at this
   have g:∀(i:Nat)(p:TP),(a++[⟨r,d,e,1+(lB a d).sz+(lB a e).sz⟩])[i]?=some p->(a[i]?=some p/\i<a.length)\/(i=a.length/\p.r=r/\p.a=d/\p.b=e):=by
    intro i p f;by_cases o:i<a.length
    ·rw[ak o]at f;exact aD ⟨f,o⟩
    ·have L:i=a.length:=by
      have:=(ae.1 f).1;simp at this;omega
     subst L;rw[aw bS]at f;simp only[cx,aL,ai]at f;subst f;exact aE ⟨rfl,rfl,rfl,rfl⟩
   rcases g i p f with⟨h1,_⟩|⟨h1,h2⟩
   ·rcases g j q l with⟨u,_⟩|⟨u,v⟩
    ·exact h.nd i j p q h1 u G H I
    ·exact absurd ⟨G.trans v.1,H.trans v.2.1,I.trans v.2.2⟩ (n i p h1)
   ·rcases g j q l with⟨u,_⟩|⟨u,v⟩
    ·exact absurd ⟨G.symm.trans h2.1,H.symm.trans h2.2.1,I.symm.trans h2.2.2⟩ (n j q u)
    ·omega
  ·rw[<-h.t];apply List.map_congr_left;intro x C;exact sH b _ x (by have:=h.k x C;omega)
  ·unfold jm;rw[ag (by omega),fB,<-B,aw bS];simp
theorem IL{f}{D}(h:Rel f D w c)(n):(qc f w n).1.2=(gC c n).2/\((gC c n).2=0->∃o,Rel (qc f w n).2 o (w++[(qc f w n).1.1]) (c++[(gC c n).1])):=by
 obtain⟨g,l,q⟩:=h.known n.p0;obtain⟨j,s,A⟩:=h.known n.p1;obtain⟨R,S,Y⟩:=h.known n.p2;obtain⟨L,U,M⟩:=h.known n.source;have push:∀k,k<=f.length->(jm D k).size<=63->∃o,Rel f o (w++[k]) (c++[jm D k]):=λk d m=>⟨D,h.push k d m⟩;have N:=push 0 ld (by simp[jm,Ty.size]);unfold qc gC;rw[g]at q;rw[j]at A;rw[L]at M;by_cases B:n.form=2
 ·rw[ah B,ah B];by_cases m:n.source=-1
  ·rw[ah m,ah m];exact⟨rfl,λe=>by cases e⟩
  ·rw[ag m,ag m];refine⟨rfl,λ_=>?_⟩;rw[L];exact push _ U M
 rw[ag B,ag B];by_cases i:n.form=12
 ·rw[ah i,ah i];refine⟨rfl,λ_=>?_⟩;rw[g];exact push _ l q
 rw[ag i,ag i];by_cases C:n.form=3
 ·rw[ah C,ah C];refine⟨rfl,λ_=>?_⟩;rw[j];exact push _ s A
 rw[ag C,ag C];by_cases E:n.form=4
 ·rw[ah E,ah E];obtain⟨o,h1,h2,h3,_⟩:=h.Xt 0 (bt w n.p0) (bt w n.p1) l s q A;have t:=h1.sz _ h3;rw[h2,<-g,<-j]at t;rw[t];by_cases F:63<(Ty.p 0 (aP c n.p0) (aP c n.p1)).size
  ·rw[ah F,ah F];exact⟨rfl,λe=>by cases e⟩
  ·rw[ag F,ag F];refine⟨rfl,λ_=>⟨o,?_⟩⟩;have:=h1.push _ h3 (by rw[h2,<-g,<-j];omega);rw[h2,<-g,<-j]at this;exact this
 rw[ag E,ag E];have part:∀(u:bt w n.p0≠0),∃r,aP c n.p0=.p r (jm D (lB f (bt w n.p0)).a) (jm D (lB f (bt w n.p0)).b)/\(lB f (bt w n.p0)).a<=f.length/\(lB f (bt w n.p0)).b<=f.length:=by
  intro d;obtain⟨p,Z,V,q3,q4,W⟩:=h.pair (bt w n.p0) d l;rw[W];exact⟨p.r,by rw[g,V],by omega,by omega⟩
 have v:∀r x y,aP c n.p0=.p r x y->x.size<=63/\y.size<=63:=by
  intro r x y e;rw[<-g,e]at q;simp[Ty.size]at q;omega
 by_cases u:n.form=5
 ·rw[ah u,ah u];by_cases d:bt w n.p0=0
  ·have:aP c n.p0=.n:=by rw[g];exact (h.num _ l).2 d
   rw[ah d,this];exact⟨rfl,λe=>by cases e⟩
  ·obtain⟨r,z,O,P⟩:=part d;have:=v _ _ _ z;rw[ag d,z];exact⟨rfl,λ_=>push _ O this.1⟩
 rw[ag u,ag u];by_cases G:n.form=6
 ·rw[ah G,ah G];by_cases d:bt w n.p0=0
  ·have:aP c n.p0=.n:=by rw[g];exact (h.num _ l).2 d
   rw[ah d,this];exact⟨rfl,λe=>by cases e⟩
  ·obtain⟨r,z,O,P⟩:=part d;have:=v _ _ _ z;rw[ag d,z];exact⟨rfl,λ_=>push _ P this.2⟩
 rw[ag G,ag G];have Q:aP c n.p0=.n↔bt w n.p0=0:=by rw[g];exact h.num _ l
 have X:aP c n.p1=.n↔bt w n.p1=0:=by rw[j];exact h.num _ s
 have J:aP c n.p1=aP c n.p2↔bt w n.p1=bt w n.p2:=by rw[j,R];exact h.YV s S
 by_cases H:n.form=7\/n.form=11
 ·rw[ah H,ah H];simp only[Q,J];refine⟨trivial,λ_=>?_⟩;rw[j];exact push _ s A
 rw[ag H,ag H];by_cases I:n.form=8\/n.form=9\/n.form=10
 ·rw[ah I,ah I];simp only[Q,X];exact⟨trivial,λ_=>N⟩
 rw[ag I,ag I];exact⟨rfl,λ_=>N⟩
def Xu:List TP->List Nat->List NR->Nat×Nat
 |_,_,[]=>(0,0)
 |a,K,n::r=>if (qc a K n).1.2≠0 then ((qc a K n).1.2,n.at_) else Xu (qc a K n).2 (K++[(qc a K n).1.1]) r
theorem R8:∀(b:List NR){a:List TP}{D:List Ty}{K:List Nat}{T:List Ty},Rel a D K T->Xu a K b=(mh T b).1
 |[],_,_,_,_,_=>rfl
 |n::r,a,D,K,T,h=>by
  obtain⟨h1,h2⟩:=IL h n;simp only[Xu,mh,h1];by_cases e:(gC T n).2≠0
  ·rw[ah e,ah e]
  ·rw[ag e,ag e];have c:(gC T n).2=0:=by omega
   obtain⟨d,h3⟩:=h2 c;exact R8 r h3
theorem R9:Rel [] [] [] []:=⟨rfl,λj p h=>by simp at h,λi j p q h=>by simp at h,by simp,rfl,by simp⟩
theorem Px(a)(K)(n):(qc a K n).2.length<=a.length+1:=by
 have:=(sG a 0 (bt K n.p0) (bt K n.p1)).1;unfold qc;split<;>(try simp only;omega);split<;>(try simp only;omega);split<;>(try simp only;omega);split<;>(try simp only;omega);split<;>(try simp only;omega);split<;>(try simp only;omega);split<;>(try simp only;omega);split<;>(try simp only;omega)
def NR.small(n:NR):Prop:=(-1<=n.source/\n.source<=9000)/\(-1<=n.p0/\n.p0<=9000)/\(-1<=n.p1/\n.p1<=9000)/\(-1<=n.p2/\n.p2<=9000)
def FX(a:Sc):Prop:=∀x∈a,-1<=x.2/\x.2<=9000
theorem IM{a}(h:FX a)(w):-1<=gb a w/\gb a w<=9000:=by
 unfold gb;split
 ·rename_i x b;exact h x (by have:=dU b;simpa using this)
 ·omega
theorem yw:∀(c:List PT)(a:Nat),a+aU c<=9000->∀x∈cz c a,-1<=x/\x<=9000
 |[],_,_,x,b=>by simp[cz]at b
 |t::r,a,h,x,b=>by
  simp[aU]at h;rcases bf.1 b with rfl|b
  ·omega
  ·exact yw r (a+t.cnt) (by omega) x b
theorem xo(h:∀x∈y,-1<=x/\x<=9000)(j:Nat):-1<=y.getD j (-1)/\y.getD j (-1)<=9000:=by
 rw[aZ];cases a:y[j]? with
 |none=>simp
 |some x=>exact h x (aq a)
mutual
theorem NA.small:∀{e:Sc}{t:PT}{d:Nat}{g:List NR},NA e t d g->FX e->d+t.cnt<=9000->∀n∈g,n.small
 |_,.num p s,d,g,h,_,_,n,f=>by
  simp only[NA]at h;subst h;rw[ax]at f;subst f;exact⟨by simp,by simp,by simp,by simp⟩
 |e,.name p s,d,g,h,i,_,n,f=>by
  simp only[NA]at h;subst h;rw[ax]at f;subst f;exact⟨IM i s,by simp,by simp,by simp⟩
 |e,.node p k m w l,d,g,h,i,o,n,f=>by
  simp only[NA]at h;obtain⟨y,v,h1,rfl⟩:=h;simp only[PT.cnt]at o;rcases aA.1 f with f|f
  ·exact j6.small h1 i (by omega) n f
  ·rw[ax]at f;subst f;have q:=yw l d (by omega);exact⟨by simp,xo q 0,xo q 1,xo q 2⟩
theorem j6.small:∀{e:Sc}{m:List UInt8}{u:List PT}{bs:List Bool}{d:Nat}{g:List NR},j6 e m u bs d g->FX e->d+aU u<=9000->∀n∈g,n.small
 |_,_,[],_,_,_,h,_,_,n,f=>by simp only[j6]at h;rw[h.2]at f;simp at f
 |_,_,_::_,[],_,_,h,_,_,_,_=>by simp[j6]at h
 |e,m,t::r,b::bs,d,g,h,i,o,n,f=>by
  simp only[j6]at h;obtain⟨a,c,h1,h2,rfl⟩:=h;simp only[aU]at o;rcases aA.1 f with f|f
  ·refine NA.small h1 ?_ (by omega) n f;cases b with
   |false=>exact i
   |true=>
    intro x j;rcases aA.1 j with j|j
    ·exact i x j
    ·rw[ax]at j;subst j;show -1<=(d:Int)-1/\(d:Int)-1<=9000;omega
  ·exact j6.small h2 i (by omega) n f
end
theorem EE:∀(c:List PT)(a:Nat),∀x∈cz c a,x<((a+aU c:Nat):Int)
 |[],_,x,b=>by simp[cz]at b
 |t::r,a,x,b=>by
  simp[aU];rcases bf.1 b with rfl|b
  ·omega
  ·have:=EE r (a+t.cnt) x b;omega
theorem FY(h:∀x∈y,x<(d:Int))(j:Nat):y.getD j (-1)<(d:Int):=by
 rw[aZ];cases a:y[j]? with
 |none=>simp;omega
 |some x=>exact h x (aq a)
mutual
theorem NA.back:∀{e:Sc}{t:PT}{d:Nat}{g:List NR},NA e t d g->∀(j:Nat)(n:NR),g[j]?=some n->n.p0<((d+j:Nat):Int)/\n.p1<((d+j:Nat):Int)/\n.p2<((d+j:Nat):Int)
 |_,.num p s,d,g,h,j,n,f=>by
  simp only[NA]at h;subst h;have i:j=0:=by have:=(ae.1 f).1;simp at this;omega
  subst i;simp only[aL,ai]at f;subst f;simp only;omega
 |e,.name p s,d,g,h,j,n,f=>by
  simp only[NA]at h;subst h;have i:j=0:=by have:=(ae.1 f).1;simp at this;omega
  subst i;simp only[aL,ai]at f;subst f;simp only;omega
 |e,.node p k o y l,d,g,h,j,n,f=>by
  simp only[NA]at h;obtain⟨v,w,h1,rfl⟩:=h;have q:=j6.len h1;by_cases i:j<v.length
  ·rw[ak i]at f;exact j6.back h1 j n f
  ·have m:j=v.length:=by have:=(ae.1 f).1;simp at this;omega
   rw[aw (by omega),m,cx]at f;simp only[aL,ai]at f;subst f;have u:=EE l d;rw[m,q];exact⟨FY u 0,FY u 1,FY u 2⟩
theorem j6.back:∀{e:Sc}{o:List UInt8}{x:List PT}{bs:List Bool}{d:Nat}{g:List NR},j6 e o x bs d g->∀(j:Nat)(n:NR),g[j]?=some n->n.p0<((d+j:Nat):Int)/\n.p1<((d+j:Nat):Int)/\n.p2<((d+j:Nat):Int)
 |_,_,[],_,_,_,h,j,n,f=>by simp only[j6]at h;rw[h.2]at f;simp at f
 |_,_,_::_,[],_,_,h,_,_,_=>by simp[j6]at h
 |e,o,t::r,b::bs,d,g,h,j,n,f=>by
  simp only[j6]at h;obtain⟨a,c,h1,h2,rfl⟩:=h;have q:=NA.len h1;by_cases i:j<a.length
  ·rw[ak i]at f;exact NA.back h1 j n f
  ·rw[aw (by omega)]at f;have:=j6.back h2 (j-a.length) n f;rw[q]at this i;rw[show d+t.cnt+(j-t.cnt)=d+j from by omega]at this;exact this
end
mutual
theorem Sa:∀(t:PT)(a:Nat),∀x∈opn t a,(a:Int)<=x/\x<((a+t.cnt:Nat):Int)
 |.num _ _,a,x,b=>by simp only[opn,ax]at b;subst b;simp only[PT.cnt];omega
 |.name _ _,a,x,b=>by simp only[opn,ax]at b;subst b;simp only[PT.cnt];omega
 |.node _ _ _ _ c,a,x,b=>by
  simp only[opn]at b;simp only[PT.cnt];rcases bf.1 b with rfl|b
  ·omega
  ·have:=M9 c a x b;omega
theorem M9:∀(d:List PT)(a:Nat),∀x∈pF d a,(a:Int)<=x/\x<((a+aU d:Nat):Int)
 |[],_,x,b=>by simp[pF]at b
 |t::r,a,x,b=>by
  simp only[pF]at b;simp only[aU];rcases aA.1 b with b|b
  ·have:=Sa t a x b;omega
  ·have:=M9 r (a+t.cnt) x b;omega
end
open Tryz
theorem IP(w)(cb o:Nat)(A)(T)(f l)(d)(K)(n)(ri:Int)(r:Nat)(hr:n.form=4->ri=r)(h:lM cb o A T w f l d K)(x:YU d K n):Calls prog 126 #[.pointer (some ⟨cb,o,none⟩),dK n,.int .i64 ri] w λv B=>v=.returned (.int .i64 (nI d K n r).1)/\∃F,AF cb w B f l F l/\lM cb o (A.setIfInBounds o F) T B F l (nI d K n r).2 K:=by
 have G:bg w (w.alloc (gG n)):=fp.alloc bS _;have q:=h.below G;have hk:=λ(B:World)(H:bg w B)(i:Int)(hi:-10<=i/\i<=10000)=>nu B cb o l K i (h.below H).c1 (h.below H).t x.hK hi;have N:=nu (w.alloc (gG n)) cb o l K n.p0 q.c1 q.t x.hK x.p0;have O:=nu (w.alloc (gG n)) cb o l K n.p1 q.c1 q.t x.hK x.p1;have I:=vM (w.alloc (gG n)) cb o f d (bt K n.p0) q.c0 q.p (by have:=x.hl;omega) (by have:=x.kn n.p0;omega);have g:Hid (nI d K n r=(if n.form=2 then (bt K n.source,d)
  else if n.form=12 then (bt K n.p0,d)
  else if n.form=3 then (bt K n.p1,d)
  else if n.form=7 then (bt K n.p1,d)
  else if n.form=11 then (bt K n.p1,d)
  else if n.form=4 then kT d r (bt K n.p0) (bt K n.p1)
  else if n.form=5 then ((lB d (bt K n.p0)).a,d)
  else if n.form=6 then ((lB d (bt K n.p0)).b,d)
  else (0,d))):=rfl
 obtain⟨R,hR⟩:=ez (nI d K n r);rw[<-hR]at g⊢;unfold AE at I;unfold dK;unfold gG DS at N O I G;have Y:=λ(B:World)(H:bg w B)=>nu B cb o l K n.source (h.below H).c1 (h.below H).t x.hK x.s;have Z:=λ(B:World)(H:bg w B)=>Pu B cb o A T f l d K r (bt K n.p0) (bt K n.p1) (h.below H) x.hl (x.kn _) (x.kn _) ⟨x.sz _,x.sz _⟩;generalize bt K n.p0=W at*;generalize bt K n.p1=S at*;generalize bt K n.source=ks at*;generalize lB d W=P at*;show Calls _ _ #[Value.pointer (some ⟨cb,o,none⟩),_,_] w _;go_in;go_wp2_with fail;refine ay N ?_;rintro _ _ ⟨rfl,rfl⟩;go_wp2_with fail;refine ay O ?_;rintro _ _ ⟨rfl,rfl⟩;go_wp2_with fail;refine ay I ?_;rintro _ w1 ⟨rfl,J⟩;have U:w1.heap[w.heap.size]?=some (gG n):=by rw[J.block _ (by simp)];exact bD _ _
 obtain⟨d0,d1,d2,d3,d4,d5,d6,d7,d8,d9⟩:=cD U;have xP:=aG U;have k:=(G.trans (J.mono (by simp))).alloc (by have:=J.size;simp at this;omega) (.cells #[.int .i64 P.r,.int .i64 P.a,.int .i64 P.b,.int .i64 P.sz] 212);by_cases m:n.form=2
 ·have E:=cL (x:=2) m;have e:R=(ks,d):=by have:=g;simp only[ah m]at this;exact this
  go_wp2_with fail;refine ay (Y _ k) ?_;rintro _ _ ⟨rfl,rfl⟩;go_wp2;go_ret;exact⟨by rw[e];rfl,f,AF.below cb f l k,by rw[e];exact (h.below k).self⟩
 by_cases c:n.form=12
 ·have E:=aJ (x:=2) m;have u:=cL (x:=12) c;have e:R=(W,d):=by have:=g;simp only[ag m,ah c]at this;exact this
  go_wp2;go_ret;exact⟨by rw[e];rfl,f,AF.below cb f l k,by rw[e];exact (h.below k).self⟩
 by_cases y:n.form=3
 ·have E:=aJ (x:=2) m;have u:=aJ (x:=12) c;have L:=cL (x:=3) y;have e:R=(S,d):=by have:=g;simp only[ag m,ag c,ah y]at this;exact this
  go_wp2;go_ret;exact⟨by rw[e];rfl,f,AF.below cb f l k,by rw[e];exact (h.below k).self⟩
 by_cases z:n.form=7
 ·have E:=aJ (x:=2) m;have u:=aJ (x:=12) c;have L:=aJ (x:=3) y;have V:=cL (x:=7) z;have e:R=(S,d):=by have:=g;simp only[ag m,ag c,ag y,ah z]at this;exact this
  go_wp2;go_ret;exact⟨by rw[e];rfl,f,AF.below cb f l k,by rw[e];exact (h.below k).self⟩
 by_cases j:n.form=11
 ·have E:=aJ (x:=2) m;have u:=aJ (x:=12) c;have L:=aJ (x:=3) y;have V:=aJ (x:=7) z;have C:=cL (x:=11) j;have e:R=(S,d):=by have:=g;simp only[ag m,ag c,ag y,ag z,ah j]at this;exact this
  go_wp2;go_ret;exact⟨by rw[e];rfl,f,AF.below cb f l k,by rw[e];exact (h.below k).self⟩
 by_cases D:n.form=4
 ·have E:=aJ (x:=2) m;have u:=aJ (x:=12) c;have L:=aJ (x:=3) y;have V:=aJ (x:=7) z;have C:=aJ (x:=11) j;have q4:=cL (x:=4) D;have e:R=kT d r W S:=by have:=g;simp only[ag m,ag c,ag y,ag z,ag j,ah D]at this;exact this
  have hri:=hr D;subst hri;go_wp2_with fail;refine ay (Z _ k) ?_;rintro _ w2 ⟨rfl,pv2,hfr,q⟩;have HF:=(AF.below cb f l k).trans hfr;generalize kT d r W S=Q at*;go_wp2;go_ret;exact⟨by rw[e];rfl,pv2,HF,by rw[e];exact q⟩
 by_cases M:n.form=5
 ·have E:=aJ (x:=2) m;have u:=aJ (x:=12) c;have L:=aJ (x:=3) y;have V:=aJ (x:=7) z;have C:=aJ (x:=11) j;have q4:=aJ (x:=4) D;have q5:=cL (x:=5) M;have e:R=(P.a,d):=by have:=g;simp only[ag m,ag c,ag y,ag z,ag j,ag D,ah M]at this;exact this
  go_wp2;go_ret;exact⟨by rw[e];rfl,f,AF.below cb f l k,by rw[e];exact (h.below k).self⟩
 by_cases X:n.form=6
 ·have E:=aJ (x:=2) m;have u:=aJ (x:=12) c;have L:=aJ (x:=3) y;have V:=aJ (x:=7) z;have C:=aJ (x:=11) j;have q4:=aJ (x:=4) D;have q5:=aJ (x:=5) M;have q6:=cL (x:=6) X;have e:R=(P.b,d):=by have:=g;simp only[ag m,ag c,ag y,ag z,ag j,ag D,ag M,ah X]at this;exact this
  go_wp2;go_ret;exact⟨by rw[e];rfl,f,AF.below cb f l k,by rw[e];exact (h.below k).self⟩
 have E:=aJ (x:=2) m;have u:=aJ (x:=12) c;have L:=aJ (x:=3) y;have V:=aJ (x:=7) z;have C:=aJ (x:=11) j;have q4:=aJ (x:=4) D;have q5:=aJ (x:=5) M;have q6:=aJ (x:=6) X;have e:R=(0,d):=by have:=g;simp only[ag m,ag c,ag y,ag z,ag j,ag D,ag M,ag X]at this;exact this
 go_wp2;go_ret;exact⟨by rw[e];rfl,f,AF.below cb f l k,by rw[e];exact (h.below k).self⟩
theorem kX(h:d≠x):((d:Int) !=(x:Int))=true:=by simp;omega
theorem jM(h:d=x):((d:Int) !=(x:Int))=false:=by simp;omega
theorem IQ(w)(cb:Nat)(W Z)(D)(K)(n)(m:Nat)(h:FU cb w W Z D K)(hl:D.length<=9000)(hK:K.length<=9000)(hkd:m<=10000)(Xr:-10<=n.p0/\n.p0<=10000)(Fu:-10<=n.p1/\n.p1<=10000)(My:-10<=n.p2/\n.p2<=10000):Calls prog 96 #[dK n,.int .i64 m,ptr cb] w λv w'=>v=.returned (.int .i64 (ftK D K n m))/\bg w w':=by
 have S:bg w (w.alloc (gG n)):=fp.alloc bS _;have A:=h.below S;have G:=qA (w.alloc (gG n)) cb W Z D K n.p0 A hK Xr;have H:=qA (w.alloc (gG n)) cb W Z D K n.p1 A hK Fu;have I:=qA (w.alloc (gG n)) cb W Z D K n.p2 A hK My;have E:=YS (w.alloc (gG n)) cb W D m (dR A.y rfl) A.p hl hkd;have X:Hid _:=S;have g:Hid (ftK D K n m=(if n.form=2 then (if n.source=-1 then 4 else 0)
  else if n.form=4 then (if 63<(lB D m).sz then 6 else 0)
  else if n.form=5 then (if bt K n.p0=0 then 5 else 0)
  else if n.form=6 then (if bt K n.p0=0 then 5 else 0)
  else if n.form=7 then (if bt K n.p0=0/\bt K n.p1=bt K n.p2 then 0 else 5)
  else if n.form=11 then (if bt K n.p0=0/\bt K n.p1=bt K n.p2 then 0 else 5)
  else if n.form=8 then (if bt K n.p0=0/\bt K n.p1=0 then 0 else 5)
  else if n.form=9 then (if bt K n.p0=0/\bt K n.p1=0 then 0 else 5)
  else if n.form=10 then (if bt K n.p0=0/\bt K n.p1=0 then 0 else 5)
  else 0)):=rfl
 obtain⟨R,hR⟩:=ez (ftK D K n m);rw[<-hR]at g⊢;clear hR h A S;unfold ptr at G H I E;unfold AE at E;unfold dK;unfold gG DS at G H I E X;refine fT G H I E λHK0 HK1 Xb Na=>?_;clear G H I E;generalize bt K n.p0=s at*;generalize bt K n.p1=u at*;generalize bt K n.p2=F at*;generalize lB D m=P at*;show Calls _ _ #[_,_,Value.pointer (some ⟨cb,0,none⟩)] w _;go_in;go_wp2_with fail;refine ay HK0 ?_;rintro _ _ ⟨rfl,rfl⟩;go_wp2_with fail;refine ay HK1 ?_;rintro _ _ ⟨rfl,rfl⟩;go_wp2_with fail;refine ay Xb ?_;rintro _ _ ⟨rfl,rfl⟩;go_wp2_with fail;refine ay Na ?_;rintro _ w1 ⟨rfl,J⟩;have T:w1.heap[w.heap.size]?=some (gG n):=by rw[J.block _ (by simp)];exact bD _ _
 obtain⟨d0,d1,d2,d3,d4,d5,d6,d7,d8,d9⟩:=cD T;have xP:=aG T;have hB:=(X.trans (J.mono (by simp))).alloc (by have:=J.size;simp at this;omega) (.cells #[.int .i64 P.r,.int .i64 P.a,.int .i64 P.b,.int .i64 P.sz] 212);have o:Hid _:=hB;clear J hB T;by_cases k:n.form=2
 ·have L:=cL (x:=2) k;have d:=by have:=g;simp only[ah k]at this;exact this
  clear g k;by_cases c:n.source=-1
  ·have z:(n.source==-1)=true:=by rw[c];rfl
   have f:Hid (R=4):=by rw[d,ah c];exact rfl
   clear c d;go_wp2;go_ret;exact⟨by rw[f.out];first|done|rfl,o⟩
  ·have z:(n.source==-1)=false:=by rw[aH];exact c
   have f:Hid (R=0):=by rw[d,ag c];exact rfl
   clear c d;go_wp2;go_ret;exact⟨by rw[f.out];first|done|rfl,o⟩
 by_cases l:n.form=4
 ·have L:=aJ (x:=2) k;have Q:=cL (x:=4) l;have d:=by have:=g;simp only[ag k,ah l]at this;exact this
  clear g k l;by_cases c:63<P.sz
  ·have f:Hid (R=6):=by rw[d,ah c];exact rfl
   clear d;go_wp2;go_ret;exact⟨by rw[f.out];first|done|rfl,o⟩
  ·have f:Hid (R=0):=by rw[d,ag c];exact rfl
   clear d;go_wp2;go_ret;exact⟨by rw[f.out];first|done|rfl,o⟩
 by_cases q:n.form=5
 ·have L:=aJ (x:=2) k;have Q:=aJ (x:=4) l;have U:=cL (x:=5) q;have d:=by have:=g;simp only[ag k,ag l,ah q]at this;exact this
  clear g k l q;by_cases c:s=0
  ·have z:=cL (x:=0) c;have f:Hid (R=5):=by rw[d,ah c];exact rfl
   clear c d;go_wp2;go_ret;exact⟨by rw[f.out];first|done|rfl,o⟩
  ·have z:=aJ (x:=0) c;have f:Hid (R=0):=by rw[d,ag c];exact rfl
   clear c d;go_wp2;go_ret;exact⟨by rw[f.out];first|done|rfl,o⟩
 by_cases t:n.form=6
 ·have L:=aJ (x:=2) k;have Q:=aJ (x:=4) l;have U:=aJ (x:=5) q;have V:=cL (x:=6) t;have d:=by have:=g;simp only[ag k,ag l,ag q,ah t]at this;exact this
  clear g k l q t;by_cases c:s=0
  ·have z:=cL (x:=0) c;have f:Hid (R=5):=by rw[d,ah c];exact rfl
   clear c d;go_wp2;go_ret;exact⟨by rw[f.out];first|done|rfl,o⟩
  ·have z:=aJ (x:=0) c;have f:Hid (R=0):=by rw[d,ag c];exact rfl
   clear c d;go_wp2;go_ret;exact⟨by rw[f.out];first|done|rfl,o⟩
 by_cases x:n.form=7
 ·have L:=aJ (x:=2) k;have Q:=aJ (x:=4) l;have U:=aJ (x:=5) q;have V:=aJ (x:=6) t;have Y:=cL (x:=7) x;have d:=by have:=g;simp only[ag k,ag l,ag q,ag t,ah x]at this;exact this
  clear g k l q t x;by_cases c:s=0
  ·have z:((s:Int) !=0)=false:=jM (x:=0) c;by_cases i:u=F
   ·have M:((u:Int) !=(F:Int))=false:=jM (x:=F) i;have f:Hid (R=0):=by rw[d,ah ⟨c,i⟩];exact rfl
    clear c i d;go_wp2;go_ret;exact⟨by rw[f.out];first|done|rfl,o⟩
   ·have M:((u:Int) !=(F:Int))=true:=kX (x:=F) i;have f:Hid (R=5):=by rw[d,ag (λe=>i e.2)];exact rfl
    clear c i d;go_wp2;go_ret;exact⟨by rw[f.out];first|done|rfl,o⟩
  ·have z:((s:Int) !=0)=true:=kX (x:=0) c;have f:Hid (R=5):=by rw[d,ag (λe=>c e.1)];exact rfl
   clear c d;go_wp2;go_ret;exact⟨by rw[f.out];first|done|rfl,o⟩
 by_cases j:n.form=11
 ·have L:((n.form:Int)==2)=false:=aJ (x:=2) k;have Q:((n.form:Int)==4)=false:=aJ (x:=4) l;have U:((n.form:Int)==5)=false:=aJ (x:=5) q;have V:((n.form:Int)==6)=false:=aJ (x:=6) t;have Y:((n.form:Int)==7)=false:=aJ (x:=7) x;have N:((n.form:Int)==11)=true:=cL (x:=11) j;have d:R=(if s=0/\u=F then 0 else 5):=by have:=g;simp only[ag k,ag l,ag q,ag t,ag x,ah j]at this;exact this
  clear g k l q t x j;by_cases c:s=0
  ·have z:((s:Int) !=0)=false:=jM (x:=0) c;by_cases i:u=F
   ·have M:((u:Int) !=(F:Int))=false:=jM (x:=F) i;have f:Hid (R=0):=by rw[d,ah ⟨c,i⟩];exact rfl
    clear c i d;go_wp2;go_ret;exact⟨by rw[f.out];first|done|rfl,o⟩
   ·have M:((u:Int) !=(F:Int))=true:=kX (x:=F) i;have f:Hid (R=5):=by rw[d,ag (λe=>i e.2)];exact rfl
    clear c i d;go_wp2;go_ret;exact⟨by rw[f.out];first|done|rfl,o⟩
  ·have z:((s:Int) !=0)=true:=kX (x:=0) c;have f:Hid (R=5):=by rw[d,ag (λe=>c e.1)];exact rfl
   clear c d;go_wp2;go_ret;exact⟨by rw[f.out];first|done|rfl,o⟩
 by_cases C:n.form=8
 ·have L:((n.form:Int)==2)=false:=aJ (x:=2) k;have Q:((n.form:Int)==4)=false:=aJ (x:=4) l;have U:((n.form:Int)==5)=false:=aJ (x:=5) q;have V:((n.form:Int)==6)=false:=aJ (x:=6) t;have Y:((n.form:Int)==7)=false:=aJ (x:=7) x;have N:((n.form:Int)==11)=false:=aJ (x:=11) j;have q8:((n.form:Int)==8)=true:=cL (x:=8) C;have d:R=(if s=0/\u=0 then 0 else 5):=by have:=g;simp only[ag k,ag l,ag q,ag t,ag x,ag j,ah C]at this;exact this
  clear g k l q t x j C;by_cases c:s=0
  ·have z:((s:Int) !=0)=false:=jM (x:=0) c;by_cases i:u=0
   ·have M:((u:Int) !=0)=false:=jM (x:=0) i;have f:Hid (R=0):=by rw[d,ah ⟨c,i⟩];exact rfl
    clear c i d;go_wp2;go_ret;exact⟨by rw[f.out];first|done|rfl,o⟩
   ·have M:((u:Int) !=0)=true:=kX (x:=0) i;have f:Hid (R=5):=by rw[d,ag (λe=>i e.2)];exact rfl
    clear c i d;go_wp2;go_ret;exact⟨by rw[f.out];first|done|rfl,o⟩
  ·have z:((s:Int) !=0)=true:=kX (x:=0) c;have f:Hid (R=5):=by rw[d,ag (λe=>c e.1)];exact rfl
   clear c d;go_wp2;go_ret;exact⟨by rw[f.out];first|done|rfl,o⟩
 by_cases O:n.form=9
 ·have L:((n.form:Int)==2)=false:=aJ (x:=2) k;have Q:((n.form:Int)==4)=false:=aJ (x:=4) l;have U:((n.form:Int)==5)=false:=aJ (x:=5) q;have V:((n.form:Int)==6)=false:=aJ (x:=6) t;have Y:((n.form:Int)==7)=false:=aJ (x:=7) x;have N:((n.form:Int)==11)=false:=aJ (x:=11) j;have q8:((n.form:Int)==8)=false:=aJ (x:=8) C;have q9:((n.form:Int)==9)=true:=cL (x:=9) O;have d:R=(if s=0/\u=0 then 0 else 5):=by have:=g;simp only[ag k,ag l,ag q,ag t,ag x,ag j,ag C,ah O]at this;exact this
  clear g k l q t x j C O;by_cases c:s=0
  ·have z:((s:Int) !=0)=false:=jM (x:=0) c;by_cases i:u=0
   ·have M:((u:Int) !=0)=false:=jM (x:=0) i;have f:Hid (R=0):=by rw[d,ah ⟨c,i⟩];exact rfl
    clear c i d;go_wp2;go_ret;exact⟨by rw[f.out];first|done|rfl,o⟩
   ·have M:((u:Int) !=0)=true:=kX (x:=0) i;have f:Hid (R=5):=by rw[d,ag (λe=>i e.2)];exact rfl
    clear c i d;go_wp2;go_ret;exact⟨by rw[f.out];first|done|rfl,o⟩
  ·have z:((s:Int) !=0)=true:=kX (x:=0) c;have f:Hid (R=5):=by rw[d,ag (λe=>c e.1)];exact rfl
   clear c d;go_wp2;go_ret;exact⟨by rw[f.out];first|done|rfl,o⟩
 by_cases B:n.form=10
 ·have L:((n.form:Int)==2)=false:=aJ (x:=2) k;have Q:((n.form:Int)==4)=false:=aJ (x:=4) l;have U:((n.form:Int)==5)=false:=aJ (x:=5) q;have V:((n.form:Int)==6)=false:=aJ (x:=6) t;have Y:((n.form:Int)==7)=false:=aJ (x:=7) x;have N:((n.form:Int)==11)=false:=aJ (x:=11) j;have q8:((n.form:Int)==8)=false:=aJ (x:=8) C;have q9:((n.form:Int)==9)=false:=aJ (x:=9) O;have q10:((n.form:Int)==10)=true:=cL (x:=10) B;have d:R=(if s=0/\u=0 then 0 else 5):=by have:=g;simp only[ag k,ag l,ag q,ag t,ag x,ag j,ag C,ag O,ah B]at this;exact this
  clear g k l q t x j C O B;by_cases c:s=0
  ·have z:((s:Int) !=0)=false:=jM (x:=0) c;by_cases i:u=0
   ·have M:((u:Int) !=0)=false:=jM (x:=0) i;have f:Hid (R=0):=by rw[d,ah ⟨c,i⟩];exact rfl
    clear c i d;go_wp2;go_ret;exact⟨by rw[f.out];first|done|rfl,o⟩
   ·have M:((u:Int) !=0)=true:=kX (x:=0) i;have f:Hid (R=5):=by rw[d,ag (λe=>i e.2)];exact rfl
    clear c i d;go_wp2;go_ret;exact⟨by rw[f.out];first|done|rfl,o⟩
  ·have z:((s:Int) !=0)=true:=kX (x:=0) c;have f:Hid (R=5):=by rw[d,ag (λe=>c e.1)];exact rfl
   clear c d;go_wp2;go_ret;exact⟨by rw[f.out];first|done|rfl,o⟩
 have L:((n.form:Int)==2)=false:=aJ (x:=2) k;have Q:((n.form:Int)==4)=false:=aJ (x:=4) l;have U:((n.form:Int)==5)=false:=aJ (x:=5) q;have V:((n.form:Int)==6)=false:=aJ (x:=6) t;have Y:((n.form:Int)==7)=false:=aJ (x:=7) x;have N:((n.form:Int)==11)=false:=aJ (x:=11) j;have q8:((n.form:Int)==8)=false:=aJ (x:=8) C;have q9:((n.form:Int)==9)=false:=aJ (x:=9) O;have q10:((n.form:Int)==10)=false:=aJ (x:=10) B;have f:Hid (R=0):=by have:=g;simp only[ag k,ag l,ag q,ag t,ag x,ag j,ag C,ag O,ag B]at this;exact this
 clear g k l q t x j C O B;go_wp2;go_ret;exact⟨by rw[f.out];first|done|rfl,o⟩
theorem AF.toBelow{cb B:Nat}{w0}{a b}(h:AF cb u K z v a b)(c:Below B w0 u)(l:B<=cb)(m:B<=u.heap.size)(f:∀g,z.ownBlock=some g->B<=g)(i:∀g,v.ownBlock=some g->B<=g):Below B w0 K/\(∀g,a.ownBlock=some g->B<=g)/\(∀g,b.ownBlock=some g->B<=g):=by
 refine⟨⟨h.os.trans c.os,h.tape.trans c.tape,h.output.trans c.output,bw c.size h.size,λk j=>?_⟩,λg d=>?_,λg d=>?_⟩
 ·rw[h.blk k (by omega) (by omega) (λe=>by have:=f k e;omega) (λe=>by have:=i k e;omega)];exact c.block k j
 ·rcases h.p g d with e|e
  ·exact f g e
  ·omega
 ·rcases h.t g d with e|e
  ·exact i g e
  ·omega
theorem lM.acQ{cb:Nat}{A}{T}(h:lM cb d A T u z v a w)(c:Nat){f:Nat}(q:bg u K)(s:K.grownBy L v.ownBlock)(m:L.ownsRow 0 3 1 (.slice (some ⟨x,0,none⟩) (w.length+1) f) (w.length+1) ((w.map λ(k:Nat)=>Value.int .i64 k)++[.int .i64 c]))(n:v.ownBlock=some x\/K.heap.size<=x):AF cb u (L.setCell ⟨cb,d+1,none⟩ (.slice (some ⟨x,0,none⟩) (w.length+1) f)) z v z (.slice (some ⟨x,0,none⟩) (w.length+1) f)/\lM cb d (A.setIfInBounds (d+1) (.slice (some ⟨x,0,none⟩) (w.length+1) f)) T (L.setCell ⟨cb,d+1,none⟩ (.slice (some ⟨x,0,none⟩) (w.length+1) f)) z (.slice (some ⟨x,0,none⟩) (w.length+1) f) a (w++[c]):=by
 obtain⟨p,r⟩:=push (d+1) h.lt.2.2 h.ty q s m n;obtain⟨e,b,_⟩:=p.keep h.p h.py h.pt;exact⟨⟨p.os,p.tape,p.output,p.size,λk i j _ l=>p.kp k i j l,λ_ h=>aD h,p.own⟩,p.blk h.y,by rw[eI,ag (by omega)];exact h.a,by rw[eI,ah rfl,ah (jX.1 h.b).1],e,by simpa using r,h.py,p.ne,b⟩
theorem CC(w)(cb o:Nat)(A)(T)(G H)(p)(K)(n)(L:Int)(r:Nat)(hr:n.form=4->L=r)(h:lM cb o A T w G H p K)(Y:YU p K n):Calls prog 95 #[.pointer (some ⟨cb,o,none⟩),dK n,.int .i64 L] w λv Z=>v=.returned (.int .i64 (nI p K n r).1)/\∃q s,AF cb w Z G H q s/\lM cb o ((A.setIfInBounds o q).setIfInBounds (o+1) s) T Z q s (nI p K n r).2 (K++[(nI p K n r).1]):=by
 obtain⟨i0,hi,M,N,O⟩:=cI iJ;have z:bg w (w.alloc (gG n)):=fp.alloc bS _;have f:=IP (w.alloc (gG n)) cb o A T G H p K n L r hr (h.below z) Y;have K8:=Y.hK;have B:=AF.below cb G H z;unfold dK at f;unfold gG DS at f B;unfold dK;obtain⟨X,hX⟩:=ez (nI p K n r);rw[<-hX]at f⊢;clear hX;show Calls _ _ #[Value.pointer (some ⟨cb,o,none⟩),_,_] w _;go_in;go_wp2_with fail;refine ay f ?_;rintro _ x ⟨rfl,C,D,a⟩;have i:=a.y;have l:=a.t;have GR:=aG i;obtain⟨I,J,c⟩:=cm l;have t1:x.cell? ⟨cb,o+1,none⟩=some (.slice I K.length J):=by rw[a.c1,<-c]
 have E:Hid ((x.alloc (.cells #[.int .i64 X.1] 3)).ownsRow 0 3 1 (.slice I K.length J) K.length (K.map λ(k:Nat)=>Value.int .i64 k)):=by
  have:=l.alloc (.cells #[.int .i64 X.1] 3);rw[c]at this;exact this
 have P:(x.alloc (.cells #[.int .i64 X.1] 3)).heap[cb]?=some (.cells (A.setIfInBounds o C) T (0,0)):=cR _ i;have Q:∀u∈([.int .i64 X.1]:List Value),u.oneCell'=true:=by intro v hv;simp only[ax]at hv;subst hv;rfl
 have R:=B.trans D;go_wp2_with (at_builtin;go_must (refine mV _ rfl (.tmp 16) (.tmp 18) 42 rfl 3 i0 _ 1 8 gM hi M N O rfl (by decide) (.slice I K.length J) K.length (K.map λ(k:Nat)=>Value.int .i64 k) rfl E ⟨x.heap.size,0,none⟩ 1 1 [.int .i64 X.1] rfl rfl ?c1 Q (by decide) ?c3 ?c4 ?_))
 case c1=>
  intro j v hj;rw[<-hj]
  first|rfl|exact dQ _ _ _ _
 case c3=>unfold maxLen;omega
 case c4=>omega
 intro g S w4 F d U;have e:=kW d P (by have:=a.ty;rw[c]at this;exact this);have z1:w4.cell? ⟨cb,o+1,none⟩=some (.slice I K.length J):=by rw[aI e,<-c];exact a.b
 have zf:=aK e (o+1);have zl:=aG e;have m:=lM.acQ (x:=g) (f:=S) a X.1 ((aM _ x).alloc bS (.cells #[.int .i64 X.1] 3)) (by rw[c];exact d) F (by rw[c,show (x.alloc (.cells #[.int .i64 X.1] 3)).heap.size=x.heap.size+1 from by simp];exact U);have V:=m.2;have W:=R.trans m.1;go_wp2;go_ret;exact⟨rfl,C,_,W,V⟩
theorem Nb(w)(cb:Nat)(d i)(c)(K)(n)(j:Int)(r:Nat)(l:n.form=4->j=r)(h:FU cb w d i c K)(m:YU c K n):Calls prog 95 #[ptr cb,dK n,.int .i64 j] w λv k=>v=.returned (.int .i64 (nI c K n r).1)/\∃a b,AF cb w k d i a b/\FU cb k a b (nI c K n r).2 (K++[(nI c K n r).1]):=
 (CC w cb 0 _ _ d i c K n j r l h.toO m).mono λ_ _ ⟨e,a,b,f,g⟩=>⟨e,a,b,f,g.toC⟩
def tG(a:List NR)(b:List Int):Nat×Nat:=if (ll a b).1≠0 then ll a b else Xu [] [] a
theorem uL(w)(nv ov)(c)(x)(h:ew w nv ov c x)(ho:CA c x)(hl:c.length<=9000)(FZ:∀n∈c,n.small)(hbk:∀(j:Nat)(n:NR),c[j]?=some n->n.p0<j/\n.p1<j/\n.p2<j):Calls prog 58 #[cG nv ov] w λv o=>v=.returned (.tuple #[.int .i64 (tG c x).1,.int .i64 (tG c x).2])/\bg w o:=by
 have y:=λ(o:World)(hb:bg w o)=>mY o nv ov c x (h.below hb);have z:=λ(o:World)(hb:bg w o)(k:Nat)(n:NR)(hk:c[k]?=some n)=>kS o nv ov c x (h.below hb) k n hk hl;have E:=λ(o:World)(hb:bg w o)=>DT o nv ov c x (h.below hb) ho hl;obtain⟨a0,acR,e0⟩:=cm h.nd;obtain⟨a1,X4,e1⟩:=cm h.op;rw[ho.1]at e1;obtain⟨m,hm⟩:=ez c.length;rw[<-hm]at e0 e1 hl;subst e0;subst e1;unfold cG at y z E;unfold cG;unfold dK at z;rw[<-hm]at y;refine wC y z E hm FZ hbk λub K9 aaF HM Nc HBK=>?_;obtain⟨O,F⟩:=ez (tG c x);rw[<-F];have La:Hid _:=F;clear y z E ho h hm F FZ hbk;have Lb:bg w (w.alloc (.cells #[.slice a0 m acR,.slice a1 m X4] 59)):=(aM _ w).alloc bS _;have VP:Hid _:=Lb;have hmn:=aaF _ Lb;clear Lb aaF;go_in;go_wp2_with fail;refine hmn.mono ?_;rintro _ A ⟨rfl,hbb⟩;have C:Hid _:=hbb;obtain⟨b0,b1,bl⟩:=jb hbb;clear hbb hmn;by_cases P:(ll c x).1≠0
 ·have HA:Hid (O=ll c x):=by rw[La.out];unfold tG;rw[ah P];exact rfl
  have q:(((ll c x).1:Int) !=0)=true:=by simp;omega
  generalize ll c x=M at*;clear P;go_wp2;refine au (v:=.tuple #[.int .i64 M.1,.int .i64 M.2]) (by simp[results,results58,go_sem]) rfl ⟨by rw[HA.out],VP.trans (C.mono (by simp))⟩
 ·have HA:Hid (O=Xu [] [] c):=by rw[La.out];unfold tG;rw[ag P];exact rfl
  have q:(((ll c x).1:Int) !=0)=false:=by simp;omega
  generalize ll c x=M at*;clear P;have sY:bg w A:=VP.trans (C.mono (by simp));have Q:Hid _:=sY;have R:=sY.size;have hC0:FU A.heap.size (A.alloc (.cells #[.slice none 0 0,.slice none 0 0] 156)) (.slice none 0 0) (.slice none 0 0) [] []:=⟨bD _ _,wD,wD,by simp[Value.ownBlock],by simp[Value.ownBlock],λg hg=>by simp[Value.ownBlock]at hg⟩;have HC0:Hid _:=hC0;clear hC0 sY;go_wp2;go_loopw [7,8,9,10] (λi _ _ _ wr=>∃k:Nat,k<=m/\i=.int .i64 k/\∃pv tv f D K T,FU A.heap.size wr pv tv f K/\Rel f D K T/\K.length=k/\f.length<=k/\Xu [] [] c=Xu f K (c.drop k)/\bg A wr/\A.heap.size<wr.heap.size/\(∀g,pv.ownBlock=some g->A.heap.size<=g)/\(∀g,tv.ownBlock=some g->A.heap.size<=g)) (λi _ _ _ _=>m-(intOf i).toNat)
  case atStart=>exact⟨0,by omega,rfl,_,_,[],[],[],[],HC0.out,R9,rfl,by simp,by simp,(aM _ A).alloc bS _,by simp,by simp[Value.ownBlock],by simp[Value.ownBlock]⟩
  case round=>
   obtain⟨k,hk,rfl,pv,tv,f,D,K,T,hC,d,K8,htl,a,r,hbs,pq,Nd⟩:=hrel;have U4:bg w wr:=Q.trans (r.mono R);have G:=C.trans (r.mono C.size);obtain⟨x0,x1,xl⟩:=jb G;have S:=ub wr U4;have U:=r.size;by_cases hlt:k<m
   ·have V:k<c.length:=by have:=HM.out;omega
    obtain⟨n,hn⟩:∃n,c[k]?=some n:=⟨c[k],aa V⟩;have b:=Nc n (aq hn);have xQ:c.drop k=n::c.drop (k+1):=by
     rw[aW V];rw[aa V]at hn;simp only[ai]at hn;rw[hn]
    rw[xQ]at a;simp only[Xu]at a;have hst:=IL d n;have htk:=Px f K n;have l:YU f K n:=⟨by omega,by omega,λi=>by have:=(d.known i).2.1;omega,λj=>by have:=d.M8 j;omega,⟨by have:=b.1;omega,by have:=b.1;omega⟩,⟨by have:=b.2.1;omega,by have:=b.2.1;omega⟩,⟨by have:=b.2.2.1;omega,by have:=b.2.2.1;omega⟩,⟨by have:=b.2.2.2;omega,by have:=b.2.2.2;omega⟩⟩;have H:=HBK k n hn;have I:=Pw f K n (by rw[K8];exact H);have hpl:=sG f 0 (bt K n.p0) (bt K n.p1);have J:(nI f K n 0).2.length<=k+1/\(nI f K n 0).1<=10000:=by
     have hk0:=l.kn n.p0;have hk1:=l.kn n.p1;have hks:=l.kn n.source;have hab:=d.R7 (bt K n.p0);unfold nI;split
     ·exact⟨by simp only;omega,by simp only;omega⟩
     split
     ·exact⟨by simp only;omega,by simp only;omega⟩
     split
     ·exact⟨by simp only;omega,by simp only;omega⟩
     split
     ·exact⟨by simp only;omega,by simp only;omega⟩
     split
     ·exact⟨by simp only;omega,by simp only;omega⟩
     split
     ·exact⟨by omega,by omega⟩
     split
     ·exact⟨by simp only;omega,by simp only;omega⟩
     split
     ·exact⟨by simp only;omega,by simp only;omega⟩
     ·exact⟨by simp only;omega,by simp only;omega⟩
    have s:=λ(o:World)(hb:bg wr o)=>Nb o A.heap.size pv tv f K n 0 0 (λ_=>rfl) (hC.below hb) l;have t:=λ(o:World)(FW Hn:Value)(hC':FU A.heap.size o FW Hn (nI f K n 0).2 (K++[(nI f K n 0).1]))=>IQ o A.heap.size FW Hn (nI f K n 0).2 (K++[(nI f K n 0).1]) n (nI f K n 0).1 hC' (by omega) (by simp;omega) J.2 l.p0 l.p1 l.p2;rw[I.1]at t;unfold ptr dK at s t;refine xW s t I.2 hn a hst r hC pq λVQ Yk VR HN HCK vL L HC Xj=>?_;refine fw Nd K8 J.1 λLc HKL HTL=>?_;clear hn b xQ a hst htk l s d hC r G pq Nd V K8 htl t I H J hpl;go_wp2_with fail;refine S.mono ?_;rintro _ w1 ⟨rfl,u⟩;have aaG:=C.trans ((L.trans (u.mono U)).mono C.size);obtain⟨d0,d1,dl⟩:=jb aaG;have hno:=K9 w1 (Q.trans ((L.trans (u.mono U)).mono R)) k n HN;have W:Hid _:=u;clear u aaG S x0 x1;go_wp2_with fail;refine hno.mono ?_;rintro _ w2 ⟨rfl,hb2⟩;have Y:bg wr w2:=W.trans (hb2.mono W.size);have J7:=Y.alloc Y.size (gG n);have s:=VQ _ J7;have QB:Hid _:=J7;have acS:=Y.size;clear hb2 Y hno d0 d1 J7 VQ;unfold gG DS at s;go_wp2_with fail;refine s.mono ?_;rintro _ w3 ⟨rfl,Uw,DK,B,Ux⟩;have Z:w3.heap[w2.heap.size]?=some (gG n):=by
     rw[B.blk w2.heap.size (by simp) (by omega) (λe=>by have:=(HC.out.lt.1 _ e);omega) (λe=>by have:=(HC.out.lt.2.1 _ e);omega)];exact bD _ _
    have Py:bg A (w2.alloc (gG n)):=L.trans (QB.mono U);obtain⟨g1,g2,g3⟩:=B.toBelow Py bS (by simp;omega) Xj Lc;have YW:=B.size;have acT:A.heap.size<w3.heap.size:=by simp at YW;omega
    have t:=Yk w3 Uw DK Ux;obtain⟨d0,d1,d2,d3,d4,d5,d6,d7,d8,d9⟩:=cD Z;have xP:=aG Z;refine pd Ux g1 g2 g3 Z λVB Ow HG2 YX Xv=>?_;clear B Ux Z Py g1 g2 g3 s QB Yk;go_wp2_with fail;refine t.mono ?_;rintro _ w4 ⟨rfl,hb4⟩;have c1:w4.cell? ⟨w2.heap.size,1,none⟩=some (.int .i64 n.at_):=by rw[hb4.cell (p:=⟨w2.heap.size,1,none⟩) xP];exact d1
    have IU:Hid _:=hb4;have YY:=hb4.size;clear hb4 t d0 d1 d2 d3 d4 d5 d6 d7 d8 d9;generalize qc f K n=X at*;by_cases hf:X.1.2=0
    ·have q2:((X.1.2:Int) !=0)=false:=by simp;omega
     have a:=HCK;rw[ag (by omega)]at a;obtain⟨D',N⟩:=vL.2 (by rw[<-vL.out.1];exact hf);have hX:=VR hf;have YZ:=VB;have hTL:=HTL;rw[hX]at YZ hTL;refine fT (YZ.below IU) hTL a N λHC4 acU Y2 VS=>?_;clear hf a N hX YZ hTL VB HTL;go_wp2;go_roundw
     case rel=>exact⟨k+1,by omega,by go_num,Uw,DK,X.2,D',K++[X.1.1],_,HC4.out,VS.out,by simp[HKL.out],acU.out,Y2.out,Ow.out.trans (IU.out.mono (by omega)),by omega,HG2.out,YX.out⟩
     case measure=>simp[intOf];omega
    ·have q2:((X.1.2:Int) !=0)=true:=by simp;omega
     have a:=HCK;rw[ah hf]at a;have R6:Hid (O=(X.1.2,n.at_)):=by rw[HA.out];exact a
     clear hf a;go_wp2;go_quiet (fail);go_wp2;refine au (v:=.tuple #[.int .i64 X.1.2,.int .i64 n.at_]) (by simp[results,results58,go_sem]) rfl ⟨by rw[R6.out],?_⟩;exact (Q.trans ((Ow.out.trans (IU.out.mono (by omega))).mono R)).trans ⟨rfl,rfl,rfl,bS,λ_ _=>rfl⟩
   ·have R6:Hid (O=(0,0)):=by
     have hd:c.drop k=[]:=bF (by have:=HM.out;omega);rw[hd]at a;rw[HA.out,a];exact rfl
    have L:Hid _:=r;clear r hC d a G pq Nd;go_wp2_with fail;refine S.mono ?_;rintro _ w1 ⟨rfl,u⟩;have W:Hid _:=Q.out.trans ((L.out.trans (u.mono U)).mono R);clear u S;go_wp2;refine au (v:=.tuple #[.int .i64 0,.int .i64 0]) (by simp[results,results58,go_sem]) rfl ⟨by rw[R6.out];rfl,W.out⟩
