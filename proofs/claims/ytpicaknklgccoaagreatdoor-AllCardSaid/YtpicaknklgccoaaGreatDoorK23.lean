import Derived.Test.YtpicaknklgccoaaGreatDoorK11
set_option maxHeartbeats 2000000
set_option maxRecDepth 100000
namespace Go.Proofs.YtpicaknklgccoaaGreatDoor
open Tryz
open Go.RowKit
variable {w:List Tk}{a:Tk}{b:Nat}{c:Bool}{d:List Ty}
abbrev ic:=@wpList_make_full
theorem VG(d:Nat)(e)(b)(f:b.l=a::w)(g:a.c=.num):nX d e b=((b.nodes.length:Int),{b with l:=w,nodes:=b.nodes++[⟨1,a.at_,a.at_+a.s.length,aQ a.s,[],0,-1,-1,-1,-1⟩]}):=by
 simp[nX,f,kQ,mN,g,fJ,Hy,PS.tail,PS.add,oB]
theorem RT(d:Nat)(e)(b)(f:b.l=a::w)(g:a.c=.wB):nX d e b=((b.nodes.length:Int),{b with l:=w,nodes:=b.nodes++[⟨2,a.at_,a.at_+a.s.length,0,a.s,0,gb b.scope a.s,-1,-1,-1⟩]}):=by
 simp[nX,f,kQ,mN,g,fJ,Ar,PS.tail,PS.add,oB]
theorem Cu(b:Nat)(e)(d)(f:d.l=a::w)(g:a.c=.opn):nX b e d=e ⟨0,a.at_,a.at_+a.s.length,0,[],0,-1,-1,-1,-1⟩ {d with l:=w}:=by
 simp[nX,f,kQ,mN,g,fJ,PS.tail,oB]
theorem VH(b:Nat)(e)(d)(f:d.l=a::w)(h1:a.c≠.num)(h2:a.c≠.wB)(h3:a.c≠.opn)(g:d.fl=none):(nX b e d).2.stuck a.at_:=by
 have i:=λh=>h1 ((OW _).1 h);have j:=λh=>h2 ((sw _).1 h);have k:=λh=>h3 ((OX _).1 h);unfold nX;simp[f,kQ,mN,ag i,ag j,ag k];exact qH g
theorem M3(a:Nat)(c)(b)(d:b.l=[])(e:b.fl=none):(nX a c b).2.stuck a:=by
 unfold nX;simp[d,kQ];exact qH e
theorem Cv(o X)(i:Int):(o++[-1]++X).set o.length i=o++i::X:=by
 rw[aB,ik _ _ bS];simp
theorem tC(c:Cl)(a):(iW (fJ c)=0\/(iW (fJ c)=12/\a=false))↔jK c a=[]:=by
 cases c with
 |kw k=>cases k<;>cases a<;>decide
 |_=>cases a<;>decide
theorem ED(k)(a):(wU k a).head?≠some .body:=by cases k<;>cases a<;>decide
theorem PW.wK{a}:∀{d:List Wt}{l:List Tk}{f g:List UInt8}{c:List PT}{r:List Tk},PW a d l f g c r->Wt.name∉d->f=[]
 |_,_,_,_,_,_,.nil,_=>rfl
 |_,_,_,_,_,_,.close _ h1,b=>PW.wK h1 (λh=>b (cj _ h))
 |_,_,_,_,_,_,.name _ _,b=>absurd eC b
 |_,_,_,_,_,_,.region _ h1,b=>PW.wK h1 (λh=>b (cj _ h))
 |_,_,_,_,_,_,.e _ h1,b=>PW.wK h1 (λh=>b (cj _ h))
theorem PW.r9{a}:∀{d:List Wt}{l:List Tk}{g f:List UInt8}{c:List PT}{r:List Tk},PW a d l g f c r->Wt.region∉d->f=[]
 |_,_,_,_,_,_,.nil,_=>rfl
 |_,_,_,_,_,_,.close _ h1,b=>PW.r9 h1 (λh=>b (cj _ h))
 |_,_,_,_,_,_,.region _ _,b=>absurd eC b
 |_,_,_,_,_,_,.name _ h1,b=>PW.r9 h1 (λh=>b (cj _ h))
 |_,_,_,_,_,_,.e _ h1,b=>PW.r9 h1 (λh=>b (cj _ h))
theorem qN(a)(b:Nat):∀n:Nat,Ri a (nY a b n) n/\NoE a b (nY a b n) n:=by
 intro n
 induction n with
 |zero=>
  constructor
  ·intro l e r h y;obtain⟨t,R,S,_⟩:=h.suffix;rw[S]at y;simp at y
  ·intro l y _ d w x;have I:l=[]:=dE.1 (by omega);subst I;refine⟨b,λp=>rfl,?_⟩;exact M3 b _ {d with opened:=d.opened++[-1]} w x
 |succ m J=>
  constructor
  ·intro l e r h y d w x;cases h with
   |num D=>
    rename_i t;refine⟨_,rfl,?_⟩;unfold nY p8;rw[VG b _ {d with opened:=d.opened++[-1]} w D];have:=Cv d.opened [] (d.nodes.length:Int);simp only[aN]at this;simp only[this,opn,PT.cnt]
    congr 1
    omega
   |name D=>
    rename_i t;refine⟨_,rfl,?_⟩;unfold nY p8;rw[RT b _ {d with opened:=d.opened++[-1]} w D];have:=Cv d.opened [] (d.nodes.length:Int);simp only[aN]at this;simp only[this,opn,PT.cnt]
    congr 1
    omega
   |node D Q j G=>
    rename_i t u k z H E f;have A:¬(iW (fJ u.c)=0\/(iW (fJ u.c)=12/\a=false)):=by
     rw[tC,Q];exact j
    rw[tq k a j]at G;simp at y;obtain⟨c,K,h1,h2,h3⟩:=MH b J.1 (wU k a) z H E f r G (MG k a) (by omega)
     {d with opened:=d.opened++[-1],l:=z} ⟨[],[],0⟩ H rfl x (λe=>absurd e (ED k a)) (by
      split
      ·rfl
      ·rename_i B;have:Wt.name∉(wU k a).map BZ.wt++[.close]:=by
        intro o;rcases aA.1 o with o|o
        ·obtain⟨i,L,e⟩:=cM.1 o;cases i with
         |name=>exact B (by simpa using L)
         |_=>cases e
        ·simp at o
       exact (PW.wK G this).symm)
    rw[Vj]at h2;have M:(if (wU k a).contains .region then aQ E else 0)=aQ E:=by
     split
     ·rfl
     ·rename_i B;have:Wt.region∉(wU k a).map BZ.wt++[.close]:=by
       intro o;rcases aA.1 o with o|o
       ·obtain⟨i,L,e⟩:=cM.1 o;cases i with
        |region=>exact B (by simpa using L)
        |_=>cases e
       ·simp at o
      rw[PW.r9 G this];rfl
    rw[M]at h3;refine⟨K++[⟨dX k,t.at_,c.at_+c.s.length,0,H,aQ E,-1,(cz f d.nodes.length).getD 0 (-1),(cz f d.nodes.length).getD 1 (-1),(cz f d.nodes.length).getD 2 (-1)⟩],⟨K,_,h2,rfl⟩,?_⟩;unfold nY p8;rw[Cu b _ {d with opened:=d.opened++[-1]} w D];unfold mP;have C:kQ b (u::z)=mN u:=rfl;simp only[C];rw[ag (by simpa [mN] using A)];have g:iW (mN u).kind=dX k:=by simp[mN,Q,dX]
    rw[g,zw a b _ k j];simp only[PS.tail,List.tail_cons];rw[h3];have N:(kQ b (c::r)).kind=3:=(zu _).2 h1;simp only[PS.expect,N];rw[ag (by simp)];simp only[PS.tail,List.tail_cons,PS.add,NR.filled,bC,kQ,mN,opn,PT.cnt];have:=Cv d.opened (pF f d.nodes.length) ((d.nodes++K).length:Int);rw[this];simp[h2.len]
    congr 1
    omega
  ·intro l y B d w x;cases l with
   |nil=>
    refine⟨b,λp=>rfl,?_⟩;exact M3 b _ {d with opened:=d.opened++[-1]} w x
   |cons t r=>
    by_cases h1:t.c=.num
    ·exact absurd ⟨_,_,.num h1⟩ B
    by_cases h2:t.c=.wB
    ·exact absurd ⟨_,_,.name h2⟩ B
    by_cases h3:t.c=.opn
    ·unfold nY p8;rw[Cu b _ {d with opened:=d.opened++[-1]} w h3];unfold mP;cases r with
     |nil=>
      refine⟨b,λp=>by simp[cN,h3],?_⟩;exact qH x
     |cons u z=>
      have C:kQ b (u::z)=mN u:=rfl;simp[C];by_cases j:jK u.c a=[]
      ·have:=(tC u.c a).2 j;refine⟨u.at_,λp=>by simp[cN,h3,j],?_⟩;rw[ah (by simpa [mN] using this)];exact qH x
      ·have A:=λh=>j ((tC u.c a).1 h);rw[ag (by simpa [mN] using A)];cases F:u.c with
       |kw k=>
        rw[F]at j;have v:fY k a≠[]:=j;have g:iW (mN u).kind=dX k:=by simp[mN,F,dX]
        rw[g,zw a b _ k v];simp at y;obtain⟨q,O,P⟩:=Yt (w:=b) J.1 J.2 (KE a b m) (wU k a) z (λ⟨H,E,f,R,T⟩=>B ⟨_,_,.node h3 F v (by rw[tq k a v];exact T)⟩) (by omega)
         {d with opened:=d.opened++[-1],l:=z} ⟨[],[],0⟩ rfl x
        refine⟨q,λp=>?_,P⟩;have:=O p;simp[cN,h3,F,jK];rw[ag v,tq k a v];simpa using this
       |_=>rw[F]at j;exact absurd rfl j
    ·refine⟨t.at_,λp=>?_,?_⟩
     ·simp[cN]
     ·exact VH b _ {d with opened:=d.opened++[-1]} w h1 h2 h3 x
def ps0(l:List Tk):PS:=⟨l,none,[],[],[]⟩
def mf(a:Bool)(b:Nat)(l:List Tk):PS:=(nY a b l.length (ps0 l)).2.expect b 0
theorem uI{e}(h:PE c w e []):∃a,NA [] e 0 a/\mf c b w=⟨[],none,[],a,opn e 0⟩:=by
 obtain⟨a,h1,h2⟩:=(qN c b w.length).1 w e [] h bS (ps0 w) rfl rfl;refine⟨a,h1,?_⟩;unfold mf;rw[h2];simp[PS.expect,kQ,PS.tail,ps0]
theorem VI{q:Nat}(h:cN c b w [.e]=some q):(mf c b w).fl=some q:=by
 unfold mf;by_cases a:∃e r,PE c w e r
 ·obtain⟨e,r,a⟩:=a;rw[a.sound]at h;obtain⟨d,h1,h2⟩:=(qN c b w.length).1 w e r a bS (ps0 w) rfl rfl;cases r with
  |nil=>simp[cN]at h
  |cons t r=>
   simp[cN]at h;have:=oO (w:=b) (b:=0) (a:=(nY c b w.length (ps0 w)).2) (by rw[h2];rfl) (by rw[h2];exact OY _);rw[h2]at this;rw[h2,this.1];simp[kQ,mN,h]
 ·obtain⟨f,h1,h2⟩:=(qN c b w.length).2 w bS a (ps0 w) rfl rfl;rw[h1 []]at h;simp at h;subst h;exact (iU h2).1
def aP(T:List Ty)(i:Int):Ty:=if 0<=i then (T[i.toNat]?).getD .n else .n
def gC(T:List Ty)(n:NR):Ty×Nat:=
 if n.form=2 then (if n.source=-1 then (.n,4) else (aP T n.source,0))
 else if n.form=12 then (aP T n.p0,0)
 else if n.form=3 then (aP T n.p1,0)
 else if n.form=4 then (if 63<(Ty.p 0 (aP T n.p0) (aP T n.p1)).size then (.n,6) else (.p 0 (aP T n.p0) (aP T n.p1),0))
 else if n.form=5 then (match aP T n.p0 with
  |.n=>(.n,5)
  |.p _ x _=>(x,0))
 else if n.form=6 then (match aP T n.p0 with
  |.n=>(.n,5)
  |.p _ _ x=>(x,0))
 else if n.form=7\/n.form=11 then (aP T n.p1,if aP T n.p0=.n/\aP T n.p1=aP T n.p2 then 0 else 5)
 else if n.form=8\/n.form=9\/n.form=10 then (.n,if aP T n.p0=.n/\aP T n.p1=.n then 0 else 5)
 else (.n,0)
def mh:List Ty->List NR->(Nat×Nat)×List Ty
 |T,[]=>((0,0),T)
 |T,n::r=>if (gC T n).2≠0 then (((gC T n).2,n.at_),T) else mh (T++[(gC T n).1]) r
theorem tD:∀(a b:List NR)(T:List Ty),mh T (a++b)=if (mh T a).1.1≠0 then mh T a else mh (mh T a).2 b
 |[],b,T=>by simp[mh]
 |n::r,b,T=>by
  simp only[aS,mh];by_cases h:(gC T n).2≠0
  ·simp[h]
  ·simp only[ag h];exact tD r b _
theorem xh(t:Ty):t.bare=.n↔t=.n:=by cases t<;>simp[Ty.bare]
def jl(T:List Ty):dc->Sc->Prop
 |[],[]=>True
 |x::e,y::s=>x.1=y.1/\0<=y.2/\T[y.2.toNat]?=some x.2.bare/\jl T e s
 |_,_=>False
theorem jl.app{T}:∀{e a:dc}{s b:Sc},jl T e s->jl T a b->jl T (e++a) (s++b)
 |[],_,[],_,_,h=>h
 |_::_,_,_::_,_,h,c=>⟨h.1,h.2.1,h.2.2.1,jl.app h.2.2.2 c⟩
 |[],_,_::_,_,h,_=>h.elim
 |_::_,_,[],_,h,_=>h.elim
theorem jl.rev{T}:∀{e:dc}{s:Sc},jl T e s->jl T e.reverse s.reverse
 |[],[],_=>trivial
 |_::_,_::_,h=>by
  rw[iv,iv];exact jl.app (jl.rev h.2.2.2) ⟨h.1,h.2.1,h.2.2.1,trivial⟩
 |[],_::_,h=>h.elim
 |_::_,[],h=>h.elim
theorem jl.more{T a}:∀{e:dc}{s:Sc},jl T e s->jl (T++a) e s
 |[],[],_=>trivial
 | _::_,_::_,h=>⟨h.1,h.2.1,by
   have h3:=h.2.2.1;rw[ak (ae.1 h3).1];exact h3,jl.more h.2.2.2⟩
 |[],_::_,h=>h.elim
 |_::_,[],h=>h.elim
theorem jl.find{T}(w):∀{e:dc}{s:Sc},jl T e s->(e.find? (λx=>x.1==w)=none/\s.find? (λx=>x.1==w)=none)\/(∃x y,e.find? (λx=>x.1==w)=some x/\s.find? (λx=>x.1==w)=some y/\0<=y.2/\T[y.2.toNat]?=some x.2.bare)
 |[],[],_=>aD ⟨rfl,rfl⟩
 |x::_,y::_,h=>by
  rw[dw,dw,<-h.1];by_cases b:(x.1==w)=true
  ·rw[b];exact aE ⟨x,y,rfl,rfl,h.2.1,h.2.2.1⟩
  ·have a:(x.1==w)=false:=by simpa using b
   rw[a];exact jl.find w h.2.2.2
 |[],_::_,h=>h.elim
 |_::_,[],h=>h.elim
theorem jl.look{e:dc}{s}(h:jl d e s)(w):(look e w=none/\gb s w=-1)\/(∃t,look e w=some t/\gb s w≠-1/\aP d (gb s w)=t.bare):=by
 rcases h.rev.find w with⟨h1,h2⟩|⟨x,y,h1,h2,h3,a⟩
 ·left;unfold Go.Proofs.YtpicaknklgccoaaGreatDoor.look gb;rw[h1,h2];exact⟨rfl,rfl⟩
 ·right;refine⟨x.2,?_,?_,?_⟩
  ·unfold Go.Proofs.YtpicaknklgccoaaGreatDoor.look;rw[h1];rfl
  ·unfold gb;rw[h2];simp only;omega
  ·unfold gb aP;rw[h2];simp only;rw[ah h3,a];rfl
theorem Po(a)(e p:Nat)(h:a.e≠0):gY a e p=a:=by unfold gY;rw[ag h]
theorem sE(id p:Nat)(x)(h:x.2.e≠0):(fin id p x).2.e=x.2.e/\(fin id p x).2.at_=x.2.at_:=by
 unfold fin;simp only;rw[ag (λa=>h a.1)];exact⟨rfl,rfl⟩
mutual
theorem iX(cls):∀(t:PT)(id d:Nat)(f:dc)(g:gH),g.e≠0->(aV cls t id d f g).2.e=g.e/\(aV cls t id d f g).2.at_=g.at_
 |.num p s,id,d,f,g,h=>by simp only[aV];exact sE _ _ _ h
 |.name p s,id,d,f,g,h=>by
  simp only[aV];split
  ·exact sE _ _ _ h
  ·rw[Po _ _ _ h];exact sE _ _ _ h
 |.node p k j u i,id,d,f,g,h=>by
  simp only[aV];split
  ·have:=K5 cls j i (id+1) d f g h;have h2:=sE id p (gI cls j i (id+1) d f g) (by rw[this.1];exact h);exact⟨h2.1.trans this.1,h2.2.trans this.2⟩
  ·have o:(if k=.loop then df cls j i (id+1) d f g else cP cls i (id+1) (d+if k=.pair then 1 else 0) f g).2.e=g.e/\(if k=.loop then df cls j i (id+1) d f g else cP cls i (id+1) (d+if k=.pair then 1 else 0) f g).2.at_=g.at_:=by
    by_cases q:k=.loop
    ·simp only[ah q];exact IB cls j i _ _ f g h
    ·simp only[ag q];exact uJ cls i _ _ f g h
   generalize (if k=.loop then df cls j i (id+1) d f g else cP cls i (id+1) (d+if k=.pair then 1 else 0) f g)=x at o;have m:x.2.e≠0:=by rw[o.1];exact h
   rw[ah m];have h2:=sE id p (Ty.n,x.2) m;exact⟨h2.1.trans o.1,h2.2.trans o.2⟩
theorem uJ(cls):∀(l:List PT)(id d:Nat)(f:dc)(g:gH),g.e≠0->(cP cls l id d f g).2.e=g.e/\(cP cls l id d f g).2.at_=g.at_
 |[],_,_,_,g,_=>by simp[cP]
 |a::r,id,d,f,g,h=>by
  simp only[cP];have h1:=iX cls a id d f g h;have h2:=uJ cls r (id+a.cnt) (d+a.dn) f (aV cls a id d f g).2 (by rw[h1.1];exact h);exact⟨h2.1.trans h1.1,h2.2.trans h1.2⟩
theorem K5(cls)(j):∀(l:List PT)(id d:Nat)(f:dc)(g:gH),g.e≠0->(gI cls j l id d f g).2.e=g.e/\(gI cls j l id d f g).2.at_=g.at_
 |[a,b],id,d,f,g,h=>by
  simp only[gI];have h1:=iX cls a id d f g h;have h2:=iX cls b (id+a.cnt) (d+a.dn) (f++[(j,(aV cls a id d f g).1)]) (aV cls a id d f g).2 (by rw[h1.1];exact h);exact⟨h2.1.trans h1.1,h2.2.trans h1.2⟩
 |[],_,_,_,g,_=>by simp[gI]
 |[_],_,_,_,g,_=>by simp[gI]
 |_::_::_::_,_,_,_,g,_=>by simp[gI]
theorem IB(cls)(j):∀(l:List PT)(id d:Nat)(f:dc)(g:gH),g.e≠0->(df cls j l id d f g).2.e=g.e/\(df cls j l id d f g).2.at_=g.at_
 |[a,b,c],id,d,f,g,h=>by
  simp only[df];have h1:=iX cls a id d f g h;have h2:=iX cls b (id+a.cnt) (d+a.dn) f (aV cls a id d f g).2 (by rw[h1.1];exact h);have h3:=iX cls c (id+a.cnt+b.cnt) (d+a.dn+b.dn) (f++[(j,(aV cls b (id+a.cnt) (d+a.dn) f (aV cls a id d f g).2).1)]) (aV cls b (id+a.cnt) (d+a.dn) f (aV cls a id d f g).2).2 (by rw[h2.1,h1.1];exact h);exact⟨h3.1.trans (h2.1.trans h1.1),h3.2.trans (h2.2.trans h1.2)⟩
 |[],_,_,_,g,_=>by simp[df]
 |[_],_,_,_,g,_=>by simp[df]
 |[_,_],_,_,_,g,_=>by simp[df]
 |_::_::_::_::_,_,_,_,g,_=>by simp[df]
end
def tV(cls:List Nat)(g:List UInt8):List PT->List Bool->Nat->Nat->dc->Ty->gH->List Ty×gH
 |a::r,b::bs,id,c,d,e,f=>
  let x:=aV cls a id c (if b then d++[(g,e)] else d) f
  let y:=tV cls g r bs (id+a.cnt) (c+a.dn) d x.1 x.2
  (x.1::y.1,y.2)
 |_,_,_,_,_,_,f=>([],f)
theorem IC(cls)(k):∀(f:List PT)(bs:List Bool)(id c:Nat)(e:dc)(d:Ty)(g:gH),bs.length=f.length->(∀b∈bs,b=false)->tV cls k f bs id c e d g=cP cls f id c e g
 |[],[],_,_,_,_,_,_,_=>by simp[tV,cP]
 |a::r,b::bs,id,c,e,d,g,h,l=>by
  have i:=l b eC;subst i;simp only[tV,cP,cH,aT];rw[IC cls k r bs _ _ _ _ _ (by simpa using h) (λb j=>l b (cj _ j))]
 |[],_::_,_,_,_,_,_,h,_=>by simp at h
 |_::_,[],_,_,_,_,_,h,_=>by simp at h
theorem FR(cls)(f):∀(g:List PT)(bs:List Bool)(id c:Nat)(e:dc)(d:Ty)(i:gH),bs.length=g.length->(tV cls f g bs id c e d i).1.length=bs.length
 |[],[],_,_,_,_,_,_=>by simp[tV]
 |a::r,b::bs,id,c,e,d,i,h=>by
  simp[tV];rw[FR cls f r bs _ _ _ _ _ (by simpa using h)]
 |[],_::_,_,_,_,_,_,h=>by simp at h
 |_::_,[],_,_,_,_,_,h=>by simp at h
theorem Cw(cls)(i):∀(j:List PT)(bs:List Bool)(id c:Nat)(d:dc)(f:Ty)(g:gH),g.e≠0->(tV cls i j bs id c d f g).2.e=g.e/\(tV cls i j bs id c d f g).2.at_=g.at_
 |a::r,b::bs,id,c,d,f,g,h=>by
  have h1:=iX cls a id c (if b then d++[(i,f)] else d) g h;have h2:=Cw cls i r bs (id+a.cnt) (c+a.dn) d (aV cls a id c (if b then d++[(i,f)] else d) g).1 (aV cls a id c (if b then d++[(i,f)] else d) g).2 (by rw[h1.1];exact h);exact⟨h2.1.trans h1.1,h2.2.trans h1.2⟩
 |[],_,_,_,_,_,_,_=>by simp[tV]
 |_::_,[],_,_,_,_,_,_=>by simp[tV]
def Agree(T:List Ty)(n:Nat)(e at_:Nat)(y:(Nat×Nat)×List Ty)(P:List Ty->Prop):Prop:=
 (e=0/\y.1=(0,0)/\∃a,y.2=T++a/\a.length=n/\P (T++a))\/(e≠0/\y.1=(e,at_))
theorem xk{t}(h:d[b]?=some t):aP d (b:Int)=t:=by
 unfold aP;rw[ah (by omega)];simp[h]
theorem qO(id p:Nat)(x)(h:x.1.size<=63):(fin id p x).1=x.1/\(fin id p x).2.e=x.2.e/\(fin id p x).2.at_=x.2.at_:=by
 have a:¬(x.2.e=0/\63<x.1.size):=by omega
 simp[fin,ag a]
theorem RU(id p:Nat)(x)(a:x.2.e=0)(h:63<x.1.size):(fin id p x).2.e=6/\(fin id p x).2.at_=p:=by
 unfold fin gY;simp only;rw[ah ⟨a,h⟩,ah a];exact⟨rfl,rfl⟩
def dr(cls:List Nat)(k:Kw)(p a:Nat)(b:List Ty)(c:gH):Ty×gH:=
 if k=.dV then (b.getD 1 .n,c) else dz cls k p a b c
theorem acL(a)(p id:Nat)(h:a.e=0):(fin id p (Ty.n,gY a 5 p)).2.e=5/\(fin id p (Ty.n,gY a 5 p)).2.at_=p:=by
 have h1:(gY a 5 p).e=5/\(gY a 5 p).at_=p:=by unfold gY;rw[ah h];exact⟨rfl,rfl⟩
 have:=qO id p (Ty.n,gY a 5 p) (by simp[Ty.size]);exact⟨this.2.1.trans h1.1,this.2.2.trans h1.2⟩
theorem Pp(cls)(k)(id p d:Nat)(m)(i)(T)(A:Nat)(I)(J:Int)(D E F:Int)(L:m.length=(j5 k).length)(G:i.e=0)(z:∀t∈m,t.size<=63)(s:∀t,m[0]?=some t->aP T D=t.bare)(u:∀t,m[1]?=some t->aP T E=t.bare)(K:∀t,m[2]?=some t->aP T F=t.bare):((fin id p (dr cls k p d m i)).2.e=0/\gC T ⟨dX k,p,A,0,I,J,-1,D,E,F⟩=((fin id p (dr cls k p d m i)).1.bare,0))\/((fin id p (dr cls k p d m i)).2.e≠0/\(gC T ⟨dX k,p,A,0,I,J,-1,D,E,F⟩).2=(fin id p (dr cls k p d m i)).2.e/\(fin id p (dr cls k p d m i)).2.at_=p):=by
 have h:∀(t:Ty)(f:NR),t.size<=63->dr cls k p d m i=(t,i)->gC T f=(t.bare,0)->((fin id p (dr cls k p d m i)).2.e=0/\gC T f=((fin id p (dr cls k p d m i)).1.bare,0))\/((fin id p (dr cls k p d m i)).2.e≠0/\(gC T f).2=(fin id p (dr cls k p d m i)).2.e/\(fin id p (dr cls k p d m i)).2.at_=p):=by
  intro t f M v H;rw[v];have:=qO id p (t,i) M;exact aD ⟨this.2.1.trans G,by rw[this.1];exact H⟩
 have bad:∀(f:NR),dr cls k p d m i=(.n,gY i 5 p)->(gC T f).2=5->((fin id p (dr cls k p d m i)).2.e=0/\gC T f=((fin id p (dr cls k p d m i)).1.bare,0))\/((fin id p (dr cls k p d m i)).2.e≠0/\(gC T f).2=(fin id p (dr cls k p d m i)).2.e/\(fin id p (dr cls k p d m i)).2.at_=p):=by
  intro f v H;rw[v];have:=acL i p id G;exact aE ⟨by rw[this.1];decide,by rw[this.1];exact H,this.2⟩
 match k,m,L with
 |.dV,[a,b],_=>
  have o:=u b rfl;exact h b _ (z b (by simp)) (by simp[dr]) (by simp[gC,dX,fJ,iW,o])
 |.new,[a],_=>
  have j:=s a rfl;exact h a _ (z a (by simp)) (by simp[dr,dz]) (by simp[gC,dX,fJ,iW,j])
 |.pair,[a,b],_=>
  have j:=s a rfl;have o:=u b rfl;have v:dr cls .pair p d [a,b] i=(.p (cls.getD d 0) a b,i):=by simp[dr,dz]
  generalize cls.getD d 0=g at v;have B:(Ty.p 0 a.bare b.bare).size=(Ty.p g a b).size:=by simp[Ty.size,gq]
  by_cases q:63<(Ty.p g a b).size
  ·right;rw[v];have:=RU id p (.p g a b,i) G q;refine⟨by rw[this.1];decide,?_,this.2⟩;rw[this.1];simp[gC,dX,fJ,iW,j,o,B];simp[q]
  ·exact h _ _ (by omega) v (by simp[gC,dX,fJ,iW,j,o,B];simp[q,Ty.bare])
 |.fst,[a],_=>
  have j:=s a rfl;cases a with
  |n=>exact bad _ (by simp[dr,dz]) (by simp[gC,dX,fJ,iW,j];simp[Ty.bare])
  |p r x y=>
   have w:x.size<=63:=by have:=z (.p r x y) (by simp);simp[Ty.size]at this;omega
   exact h x _ w (by simp[dr,dz]) (by simp[gC,dX,fJ,iW,j];simp[Ty.bare])
 |.snd,[a],_=>
  have j:=s a rfl;cases a with
  |n=>exact bad _ (by simp[dr,dz]) (by simp[gC,dX,fJ,iW,j];simp[Ty.bare])
  |p r x y=>
   have w:y.size<=63:=by have:=z (.p r x y) (by simp);simp[Ty.size]at this;omega
   exact h y _ w (by simp[dr,dz]) (by simp[gC,dX,fJ,iW,j];simp[Ty.bare])
 |.lv,[a,b,c],_=>
  have j:=s a rfl;have o:=u b rfl;have C:=K c rfl;by_cases l:a=.n/\b.bare=c.bare
  ·exact h b _ (z b (by simp)) (by simp[dr,dz,l]) (by simp[gC,dX,fJ,iW,j,o,C];simp[xh,l])
  ·exact bad _ (by simp only[dr,dz];simp[l]) (by simp only[gC,dX,fJ,iW,j,o,C];simp only[xh];simp[l])
 |.loop,[a,b,c],_=>
  have j:=s a rfl;have o:=u b rfl;have C:=K c rfl;by_cases l:a=.n/\b.bare=c.bare
  ·exact h b _ (z b (by simp)) (by simp[dr,dz,l]) (by simp[gC,dX,fJ,iW,j,o,C];simp[xh,l])
  ·exact bad _ (by simp only[dr,dz];simp[l]) (by simp only[gC,dX,fJ,iW,j,o,C];simp only[xh];simp[l])
 |.add,[a,b],_=>
  have j:=s a rfl;have o:=u b rfl;by_cases l:a=.n/\b=.n
  ·exact h .n _ (by simp[Ty.size]) (by simp[dr,dz,l]) (by simp[gC,dX,fJ,iW,j,o];simp[l,Ty.bare])
  ·exact bad _ (by simp only[dr,dz];simp[l]) (by simp only[gC,dX,fJ,iW,j,o];simp only[xh];simp[l])
 |.sub,[a,b],_=>
  have j:=s a rfl;have o:=u b rfl;by_cases l:a=.n/\b=.n
  ·exact h .n _ (by simp[Ty.size]) (by simp[dr,dz,l]) (by simp[gC,dX,fJ,iW,j,o];simp[l,Ty.bare])
  ·exact bad _ (by simp only[dr,dz];simp[l]) (by simp only[gC,dX,fJ,iW,j,o];simp only[xh];simp[l])
 |.less,[a,b],_=>
  have j:=s a rfl;have o:=u b rfl;by_cases l:a=.n/\b=.n
  ·exact h .n _ (by simp[Ty.size]) (by simp[dr,dz,l]) (by simp[gC,dX,fJ,iW,j,o];simp[l,Ty.bare])
  ·exact bad _ (by simp only[dr,dz];simp[l]) (by simp only[gC,dX,fJ,iW,j,o];simp only[xh];simp[l])
theorem j6.YQ{d}{g}:∀{f:List PT}{bs:List Bool}{e:Nat}{i:List NR},j6 d g f bs e i->bs.length=f.length
 |[],_,_,_,h=>by simp[j6]at h;simp[h.1]
 |_::_,[],_,_,h=>by simp[j6]at h
 |t::r,b::bs,_,_,h=>by
  obtain⟨a,c,h1,h2,rfl⟩:=h;simp[j6.YQ h2]
theorem ID(cls)(p:Nat)(k)(l o)(d)(id f:Nat)(i:dc)(g)(j)(m:(j5 k).length=d.length):aV cls (.node p k l o d) id f i j=fin id p ( if (tV cls l d (j5 k) (id+1) (f+if k=.pair then 1 else 0) i g j).2.e≠0/\k≠.dV then (.n,(tV cls l d (j5 k) (id+1) (f+if k=.pair then 1 else 0) i g j).2) else dr cls k p f (tV cls l d (j5 k) (id+1) (f+if k=.pair then 1 else 0) i g j).1 (tV cls l d (j5 k) (id+1) (f+if k=.pair then 1 else 0) i g j).2):=by
 have q:∀bs,j5 k=bs->(∀b∈bs,b=false)->tV cls l d (j5 k) (id+1) (f+if k=.pair then 1 else 0) i g j=cP cls d (id+1) (f+if k=.pair then 1 else 0) i j:=by
  intro bs r h;exact IC cls l d (j5 k) _ _ i g j m (by rw[r];exact h)
 by_cases h1:k=.dV
 ·subst h1
  match d,m with
  |[a,b],_=>simp[aV,gI,tV,j5,dr]
 by_cases h2:k=.loop
 ·subst h2
  match d,m with
  |[a,b,c],_=>simp[aV,df,tV,j5,dr]
 have h3:∀b∈j5 k,b=false:=by
  revert h1 h2;cases k<;>simp[j5]
 rw[q _ rfl h3];simp[aV,ag h1,ag h2,dr];simp[h1]
mutual
theorem aaD(cls)(O:∀x∈cls,x<1000):∀(t:PT)(f:Sc)(w:List NR)(d:dc)(i:gH)(T:List Ty)(id c:Nat),NA f t T.length w->jl T d f->i.e=0->lG d i->Agree T t.cnt (aV cls t id c d i).2.e (aV cls t id c d i).2.at_ (mh T w) (λT1=>T1[T.length+t.cnt-1]?=some (aV cls t id c d i).1.bare)
 |.num p s,f,w,d,i,T,id,c,q,_,v,_=>by
  simp only[NA]at q;subst q;simp only[aV];have z:=qO id p (Ty.n,i) (by simp[Ty.size]);left;refine⟨z.2.1.trans v,by simp[mh,gC],[.n],by simp[mh,gC],rfl,?_⟩;rw[z.1];simp[PT.cnt,Ty.bare]
 |.name p s,f,w,d,i,T,id,c,q,I,v,D=>by
  simp only[NA]at q;subst q;simp only[aV];rcases I.look s with⟨h1,h2⟩|⟨t,h1,h2,h3⟩
  ·rw[h1];simp only;have z:=qO id p (Ty.n,gY i 4 p) (by simp[Ty.size]);have he:(gY i 4 p).e=4/\(gY i 4 p).at_=p:=by unfold gY;rw[ah v];exact⟨rfl,rfl⟩
   right;refine⟨by rw[z.2.1];simp[he.1],?_⟩;rw[z.2.1,z.2.2];simp[mh,gC,h2,he]
  ·rw[h1];simp only;obtain⟨x,u,rfl⟩:=Bv h1;have z:=qO id p (x.2,i) (D.2 v x u);left;refine⟨z.2.1.trans v,by simp[mh,gC,h2],[x.2.bare],by simp[mh,gC,h2,h3],rfl,?_⟩;rw[z.1];simp[PT.cnt]
 |.node p k m rg l,f,w,d,i,T,id,c,q,I,v,D=>by
  simp only[NA]at q;obtain⟨ks,dH,P,rfl⟩:=q;have hb:=P.YQ;have hK:=Xp cls O m l (j5 k) f ks d .n i T (id+1) (c+if k=.pair then 1 else 0) P I v D oz (by simp[Ty.size]) (λe=>by revert e;cases k<;>simp[j5]);have E:(tV cls m l (j5 k) (id+1) (c+if k=.pair then 1 else 0) d .n i).1.length=(j5 k).length:=FR cls m l (j5 k) _ _ _ _ _ hb;rw[ID cls p k m rg l id c d .n i hb];generalize tV cls m l (j5 k) (id+1) (c+if k=.pair then 1 else 0) d .n i=x at hK E;rw[tD];obtain⟨X,hS⟩:=hK;rcases X with⟨A,B,F,J,o,N⟩|⟨C,B⟩
  ·have K:¬(x.2.e≠0/\k≠.dV):=λh=>h.1 A;rw[ag K,B,ag (by simp),J];have hnm:=Pp cls k id p c x.1 x.2 (T++F) dH m (aQ rg) ((cz l T.length).getD 0 (-1)) ((cz l T.length).getD 1 (-1)) ((cz l T.length).getD 2 (-1)) E A (λt Q=>hS A t Q) (N 0) (N 1) (N 2);simp only[mh];rcases hnm with⟨G,ft⟩|⟨Y,f2,f3⟩
   ·left;rw[ft];refine⟨G,by simp,F++[(fin id p (dr cls k p c x.1 x.2)).1.bare],by simp,by simp[o,PT.cnt];omega,?_⟩;show (T++(F++[_]))[_]?=_;have hi:T.length+(PT.node p k m rg l).cnt-1=(T++F).length:=by simp[o,PT.cnt];omega
    rw[<-aB,hi,aw bS];simp
   ·right;rw[f2,ah Y];exact⟨Y,by simp[f3]⟩
  ·have L:(mh T ks).1.1≠0:=by rw[B];exact C
   rw[ah L];right;have R:∀y:Ty×gH,y.2=x.2->(fin id p y).2.e≠0/\(mh T ks).1=((fin id p y).2.e,(fin id p y).2.at_):=by
    intro y S;have:=sE id p y (by rw[S];exact C);rw[this.1,this.2,S];exact⟨C,B⟩
   by_cases hk:k=.dV
   ·rw[ag (λh=>h.2 hk)];exact R _ (by simp[dr,hk])
   ·rw[ah ⟨C,hk⟩];exact R _ rfl
theorem Xp(cls)(O:∀x∈cls,x<1000)(m):∀(H:List PT)(bs:List Bool)(f:Sc)(w:List NR)(d:dc)(g:Ty)(i:gH)(T:List Ty)(id c:Nat),j6 f m H bs T.length w->jl T d f->i.e=0->lG d i->g.fit->g.size<=63->(bs.head?=some true->0<T.length/\T[T.length-1]?=some g.bare)->Agree T (aU H) (tV cls m H bs id c d g i).2.e (tV cls m H bs id c d g i).2.at_ (mh T w) (λT1=>∀(j:Nat)(t:Ty),(tV cls m H bs id c d g i).1[j]?=some t->aP T1 ((cz H T.length).getD j (-1))=t.bare)/\((tV cls m H bs id c d g i).2.e=0->∀t∈(tV cls m H bs id c d g i).1,t.size<=63)
 |[],bs,f,w,d,g,i,T,id,c,q,_,v,_,_,_,_=>by
  simp only[j6]at q;obtain⟨rfl,rfl⟩:=q;simp only[tV];exact⟨aD ⟨v,rfl,[],by simp[mh],rfl,by simp⟩,by simp⟩
 |_::_,[],_,_,_,_,_,_,_,_,q,_,_,_,_,_,_=>by simp[j6]at q
 |a::r,b::bs,f,w,d,g,i,T,id,c,q,I,v,D,Fu,My,hp3=>by
  simp only[j6]at q;obtain⟨na,nc,h1,h2,rfl⟩:=q;have hr':jl T (if b then d++[(m,g)] else d) (if b then f++[(m,(T.length:Int)-1)] else f):=by
   cases b with
   |false=>exact I
   |true=>
    obtain⟨hT0,rA⟩:=hp3 rfl;refine I.app ⟨rfl,?_,?_,trivial⟩
    ·show (0:Int)<=(T.length:Int)-1;omega
    ·show T[((T.length:Int)-1).toNat]?=_;rw[show ((T.length:Int)-1).toNat=T.length-1 from by omega];exact rA
  have U:lG (if b then d++[(m,g)] else d) i:=by
   cases b with
   |false=>exact D
   |true=>
    constructor
    ·intro x u;rcases aA.1 u with u|u
     ·exact D.1 x u
     ·rw[ax]at u;subst u;exact Fu
    ·intro A x u;rcases aA.1 u with u|u
     ·exact D.2 A x u
     ·rw[ax]at u;subst u;exact My
  have X:=aaD cls O a (if b then f++[(m,(T.length:Int)-1)] else f) na (if b then d++[(m,g)] else d) i T id c h1 hr' v U;have Z:=iD cls O a id c (if b then d++[(m,g)] else d) i U;simp only[tV];generalize aV cls a id c (if b then d++[(m,g)] else d) i=x at X Z;rw[tD];rcases X with⟨A,B,F,J,o,N⟩|⟨C,B⟩
  ·rw[B,ag (by simp),J];have M:(T++F).length=T.length+a.cnt:=by simp[o]
   have WW:=fj a;have hB:=Xp cls O m r bs f nc d x.1 x.2 (T++F) (id+a.cnt) (c+a.dn) (by rw[M];exact h2) I.more A (D.on (λ_=>v)) Z.1 (Z.2.1 A).2 (λ_=>⟨by omega,by rw[M];exact N⟩);generalize tV cls m r bs (id+a.cnt) (c+a.dn) d x.1 x.2=y at hB;obtain⟨hB1,hB2⟩:=hB;refine⟨?_,?_⟩
   ·rcases hB1 with⟨G,fy,T2,s6,V,hP2⟩|⟨Y,fy⟩
    ·left;refine⟨G,fy,F++T2,by rw[s6];simp,by simp[o,V,aU],?_⟩;intro j t hj;cases j with
     |zero=>
      simp only[aL,ai]at hj;subst hj;simp only[cz,bB];rw[show ((T.length+a.cnt:Nat):Int)-1=((T.length+a.cnt-1:Nat):Int) from by omega,<-aB];refine xk ?_;rw[ak (by omega)];exact N
     |succ j=>
      simp only[cE]at hj;simp only[cz,bM];have:=hP2 j t hj;rw[M]at this;rw[<-aB];exact this
    ·exact aE ⟨Y,fy⟩
   ·intro G t Q;rcases bf.1 Q with rfl|Q
    ·exact (Z.2.1 A).2
    ·exact hB2 G t Q
  ·have L:(mh T na).1.1≠0:=by rw[B];exact C
   rw[ah L];have W:=Cw cls m r bs (id+a.cnt) (c+a.dn) d x.1 x.2 C;generalize tV cls m r bs (id+a.cnt) (c+a.dn) d x.1 x.2=y at W;refine⟨aE ⟨?_,?_⟩,?_⟩
   ·rw[W.1];exact C
   ·rw[B,W.1,W.2]
   ·intro G;rw[W.1]at G;exact absurd G C
end
def Rec.iw(r:Rec):Bool:=r.op==Kw.pair.bytes
mutual
def PT.tE:PT->List (Nat×List UInt8)
 |.num _ _=>[]
 |.name _ _=>[]
 |.node p k _ b a=>(if k=.pair then [(p,b)] else [])++pJ a
def pJ:List PT->List (Nat×List UInt8)
 |[]=>[]
 |t::r=>t.tE++pJ r
end
mutual
theorem lj:∀t:PT,t.tE.length=t.dn
 |.num _ _=>rfl
 |.name _ _=>rfl
 |.node _ k _ _ a=>by simp only[PT.tE,PT.dn,aj,IE a];split<;>rfl
theorem IE:∀b:List PT,(pJ b).length=eS b
 |[]=>rfl
 |t::r=>by simp only[pJ,eS,aj,lj t,IE r]
end
mutual
theorem yt:∀t:PT,t.dn<=t.cnt
 |.num _ _=>by simp[PT.dn]
 |.name _ _=>by simp[PT.dn]
 |.node _ k _ _ a=>by have:=IG a;simp only[PT.dn,PT.cnt];split<;>omega
theorem IG:∀b:List PT,eS b<=aU b
 |[]=>by simp[eS]
 |t::r=>by have:=yt t;have:=IG r;simp only[eS,aU];omega
end
def uK(a:List Rec):Nat:=(a.filter Rec.iw).length
theorem AA(a b):uK (a++b)=uK a+uK b:=by simp[uK]
theorem VJ(k:Kw):(k.bytes==Kw.pair.bytes)=decide (k=.pair):=by cases k<;>decide
mutual
theorem oT:∀(t:PT)(id e:Nat),uK (t.du id e)=t.dn/\(∀r∈t.du id e,r.iw=true->e<=r.site/\r.site<e+t.dn/\∃o,t.tE[r.site-e]?=some (r.p,o)/\r.n=aQ o)/\(∀s,e<=s->s<e+t.dn->∃r∈t.du id e,r.iw=true/\r.site=s)
 |.num p s,id,e=>by
  refine⟨rfl,?_,?_⟩
  ·intro r f g;simp only[PT.du,ax]at f;subst f;simp[Rec.iw,rz,Kw.bytes]at g
  ·intro s h1 h2;simp[PT.dn]at h2;omega
 |.name p s,id,e=>by
  refine⟨rfl,?_,?_⟩
  ·intro r f g;simp only[PT.du,ax]at f;subst f;simp[Rec.iw,jE,Kw.bytes]at g
  ·intro s h1 h2;simp[PT.dn]at h2;omega
 |.node p k w o i,id,e=>by
  obtain⟨h1,h2,h3⟩:=AB i (id+1) (e+if k=.pair then 1 else 0);have h:(Rec.iw ⟨k.bytes,p,w,aQ o,id,id+aU i,e⟩)=decide (k=.pair):=VJ k;refine⟨?_,?_,?_⟩
  ·simp only[PT.du,PT.dn,AA,h1];have:uK [⟨k.bytes,p,w,aQ o,id,id+aU i,e⟩]=if k=.pair then 1 else 0:=by
    unfold uK;rw[eF,h];by_cases j:k=.pair<;>simp[j]
   omega
  ·intro r f g;simp only[PT.du,aA,ax]at f;rcases f with f|f
   ·obtain⟨a,b,l,c,d⟩:=h2 r f g;simp only[PT.tE,PT.dn];by_cases j:k=.pair
    ·rw[ah j]at a b c⊢;rw[ah j];refine⟨by omega,by omega,l,?_,d⟩;rw[show r.site-e=(r.site-(e+1))+1 from by omega];simpa using c
    ·rw[ag j]at a b c⊢;rw[ag j];exact⟨by omega,by omega,l,by simpa using c,d⟩
   ·subst f;rw[h]at g;have j:k=.pair:=by simpa using g
    simp only[PT.tE,PT.dn,ah j];exact⟨by omega,by omega,o,by simp,rfl⟩
  ·intro s v m;simp only[PT.dn]at m;by_cases j:k=.pair
   ·rw[ah j]at h3 m;by_cases x:s=e
    ·refine⟨⟨k.bytes,p,w,aQ o,id,id+aU i,e⟩,by simp[PT.du],?_,x.symm⟩;rw[h];simpa using j
    ·obtain⟨r,f,g,u⟩:=h3 s (by omega) (by omega);exact⟨r,by simp only[PT.du,ah j,aA];exact aD f,g,u⟩
   ·rw[ag j]at h3 m;obtain⟨r,f,g,u⟩:=h3 s (by omega) (by omega);exact⟨r,by simp only[PT.du,ag j,aA];exact aD f,g,u⟩
theorem AB:∀(q:List PT)(id e:Nat),uK (jZ q id e)=eS q/\(∀r∈jZ q id e,r.iw=true->e<=r.site/\r.site<e+eS q/\∃o,(pJ q)[r.site-e]?=some (r.p,o)/\r.n=aQ o)/\(∀s,e<=s->s<e+eS q->∃r∈jZ q id e,r.iw=true/\r.site=s)
 |[],_,_=>by
  refine⟨rfl,?_,?_⟩
  ·intro r f;simp[jZ]at f
  ·intro s h1 h2;simp[eS]at h2;omega
 |t::q,id,e=>by
  obtain⟨h1,h2,h3⟩:=oT t id e;obtain⟨y,z,A⟩:=AB q (id+t.cnt) (e+t.dn);have B:=lj t;refine⟨by simp only[jZ,eS,AA,h1,y],?_,?_⟩
  ·intro r f g;simp only[jZ,aA]at f;simp only[pJ,eS];rcases f with f|f
   ·obtain⟨a,b,l,c,d⟩:=h2 r f g;exact⟨a,by omega,l,by rw[ak (by omega)];exact c,d⟩
   ·obtain⟨a,b,l,c,d⟩:=z r f g;refine⟨by omega,by omega,l,?_,d⟩;rw[aw (by omega),B,show r.site-e-t.dn=r.site-(e+t.dn) from by omega];exact c
  ·intro s v m;simp only[eS]at m;by_cases x:s<e+t.dn
   ·obtain⟨r,f,g,u⟩:=h3 s v x;exact⟨r,by simp only[jZ,aA];exact aD f,g,u⟩
   ·obtain⟨r,f,g,u⟩:=A s (by omega) (by omega);exact⟨r,by simp only[jZ,aA];exact aE f,g,u⟩
end
def yu:List Nat->List Rec->List Value->List Value
 |b::c,r::d,a=>yu c d (if r.iw then a.set r.site (ptr b) else a)
 |_,_,a=>a
theorem II{w}{P:Rec->Prop}:∀(i:List Nat)(f:List Rec)(c:List Value)(s:Nat),fF w i f->(∀r∈f,P r)->s<c.length->((∃r∈f,r.iw=true/\r.site=s)\/(∃b r,c[s]?=some (ptr b)/\isRec w b r/\r.iw=true/\r.site=s/\P r))->∃b r,(yu i f c)[s]?=some (ptr b)/\isRec w b r/\r.iw=true/\r.site=s/\P r
 |[],[],c,s,_,_,l,h=>by
  rcases h with⟨r,m,_⟩|h
  ·simp at m
  ·simpa [yu] using h
 |b::i,r::f,c,s,n,o,l,h=>by
  refine II i f _ s n.2 (λr m=>o r (cj _ m)) (by split<;>simpa using l) ?_;by_cases j:r.iw=true
  ·rw[ah j];by_cases k:r.site=s
   ·exact aE ⟨b,r,by rw[k,bh l],n.1,j,k,o r eC⟩
   ·rcases h with⟨g,a,d,e⟩|⟨p,g,h1,h2⟩
    ·rcases bf.1 a with rfl|a
     ·exact absurd e k
     ·exact aD ⟨g,a,d,e⟩
    ·exact aE ⟨p,g,by rw[bI k];exact h1,h2⟩
  ·rw[ag j];rcases h with⟨g,a,d,e⟩|h
   ·rcases bf.1 a with rfl|a
    ·exact absurd d j
    ·exact aD ⟨g,a,d,e⟩
   ·exact aE h
 |[],_::_,_,_,h,_,_,_=>by simp[fF]at h
 |_::_,[],_,_,h,_,_,_=>by simp[fF]at h
theorem fF.at{w}:∀{a:List Nat}{c:List Rec},fF w a c->∀i,i<a.length->∃b r,a[i]?=some b/\c[i]?=some r/\isRec w b r
 |[],[],_,i,d=>by simp at d
 |b::a,r::c,h,0,_=>⟨b,r,rfl,rfl,h.1⟩
 |b::a,r::c,h,i+1,d=>by
  obtain⟨e,f,h1,h2,h3⟩:=fF.at h.2 i (by simpa using d);exact⟨e,f,by simpa using h1,by simpa using h2,h3⟩
 |[],_::_,h,_,_=>by simp[fF]at h
 |_::_,[],h,_,_=>by simp[fF]at h
theorem sF(t)(b:Nat)(F)(w)(T:t.cnt<=9000)(hT:gS w F t 0 0 b):Calls prog 37 #[ptr b] w λe w'=>∃g J vs,e=.returned (.slice (some ⟨g,0,none⟩) t.dn J)/\bg w w'/\w'.ownsRow 0 63 1 (.slice (some ⟨g,0,none⟩) t.dn J) t.dn vs/\∀s,s<t.dn->∃b r,vs[s]?=some (ptr b)/\isRec w b r/\r.iw=true/\r.site=s/\r∈t.du 0 0:=by
 obtain⟨i0,hi,hz0,hz1,hz2⟩:=cI vA;have U:=UU t 0 0 b F w T hT w fp;unfold ptr at U;show Calls _ _ #[Value.pointer (some ⟨b,0,none⟩)] w _;go_in;go_wp2_with (first
  |(go_at_call 69;refine U.mono ?_;rintro e o ⟨g1,V,a,rfl,K,W,u⟩)
  |(at_make;go_must (refine ic _ rfl (.tmp 10) (.tmp 10) 76 rfl o.heap.size 63 i0 _ 1 sj hi hz0 hz1 .i64 .i64 _ _ a.length rfl rfl rfl rfl ?m1 ?m2 ?m3 ?_)))
 case m1=>rw[hz2];have:=u.len;rw[gA]at this;omega
 case m2=>have:=u.len;rw[gA]at this;unfold maxLen;omega
 case m3=>omega
 intro w2 X v;have hL:=by have:=u.len;rw[gA]at this;exact this
 obtain⟨d,L⟩:=ez ((madeCells #[Value.pointer none] a.length).toList);have aeK:=X.1;have M:w2.ownsRow o.heap.size 63 1 (.slice (some ⟨o.heap.size,0,none⟩) a.length a.length) a.length d:=by rw[L];exact X
 have Y:=by have:=M.1;simpa using this
 have Z:d.length=a.length:=Y;have hb2:bg o w2:=⟨v.os,v.tape,v.output,v.size,λk hk=>v.block k hk (by simp)⟩;have MB:o.ownsRow w.heap.size 63 1 (.slice (some ⟨g1,0,none⟩) a.length V) a.length (a.map ptr):=W;have hs1:=K.size;have hs2:=hb2.size;have hlen:a.length<=9000:=by omega
 have N:=(oT t 0 0);have acM:=(W.lt g1 rfl).2;have VK:=(M.lt _ rfl).2;go_wp2
 go_loopw [5,6] (λn i wr=>∃(j m:Nat)(c:List Value),j<=a.length/\i=.int .i64 j/\n=.int .i64 m/\m<=j/\wr.ownsRow o.heap.size 63 1 (.slice (some ⟨o.heap.size,0,none⟩) a.length a.length) a.length c/\bg o wr/\c.length=a.length/\
   yu (a.drop j) ((t.du 0 0).drop j) c=yu a (t.du 0 0) d/\m+uK ((t.du 0 0).drop j)=t.dn) (λ_ i _=>a.length-(intOf i).toNat)
 case atStart=>exact⟨0,0,d,by omega,rfl,rfl,by omega,M,hb2,Z,by simp,by simp;exact N.1⟩
 case round=>
  obtain⟨j,m,c,hj,rfl,rfl,hmj,hown,f,C,x,WW⟩:=hrel;have l:wr.ownsRow o.heap.size 63 1 (.slice (some ⟨o.heap.size,0,none⟩) a.length a.length) a.length c:=hown;have hbs:=f.size;have hwr:o.heap.size<wr.heap.size:=(l.lt _ rfl).2;by_cases O:j<a.length
  ·obtain⟨q,r,D,E,hrec⟩:=u.at j O;obtain⟨kv,G⟩:=hrec;have sY:=aG G;have H:wr.heap[q]?=some (.cells (dJ r.op r.p r.nm r.n kv r.id r.last r.site) 82 (0,0)):=by
    rw[f.block q (by omega),K.block q sY];exact G
   have y0:cg wr q 0 (.string (bs r.op)):=dR H rfl;have y7:cg wr q 7 (.int .i64 r.site):=dR H rfl;have hlc:wr.cell? ⟨g1,j,none⟩=some (.pointer (some ⟨q,0,none⟩)):=by
    rw[f.cell (p:=⟨g1,j,none⟩) acM,MB.cellAt j (by omega)];simp[D,ptr]
   have hop:((bs r.op).toList==[112,97,105,114])=r.iw:=by rw[bo];rfl
   have hdb:a.drop j=q::a.drop (j+1):=by
    rw[aW O];rw[aa O]at D;simp only[ai]at D;rw[D]
   have I:j<(t.du 0 0).length:=by rw[gA];omega
   have xQ:(t.du 0 0).drop j=r::(t.du 0 0).drop (j+1):=by
    rw[aW I];rw[aa I]at E;simp only[ai]at E;rw[E]
   have Q:=x;rw[hdb,xQ]at Q;simp only[yu]at Q;have hc2:=WW;rw[xQ]at hc2;have GU:m+uK (r::(t.du 0 0).drop (j+1))=t.dn:=hc2;have HFF:yu (a.drop (j+1)) ((t.du 0 0).drop (j+1)) (if r.iw then c.set r.site (ptr q) else c)=yu a (t.du 0 0) d:=Q;have R:r.iw=true->r.site<a.length:=by
    intro B;have h:=N.2.1 r (aq E) B;have h2:=yt t;omega
   by_cases B:r.iw=true
   ·have hsl:=R B;rw[B]at hop;have hst:=l.stored r.site (ptr q);have vL:(wr.setCell ⟨o.heap.size,r.site,none⟩ (ptr q)).ownsRow o.heap.size 63 1 (.slice (some ⟨o.heap.size,0,none⟩) a.length a.length) a.length (c.set r.site (ptr q)):=hst.1;have hoc:=l.cellAt r.site (by omega);obtain⟨ov,Vz⟩:∃ov,c[r.site]?=some ov:=⟨c[r.site]'(by rw[C];exact hsl),aa _⟩;rw[Vz]at hoc;have hfz:=l.frozenAt r.site;have y:=HFF;rw[ah B]at y;have HFL:=y;have z:=GU;have A:uK (r::(t.du 0 0).drop (j+1))=1+uK ((t.du 0 0).drop (j+1)):=by unfold uK;rw[eF,ah B];simp;omega
    rw[A]at z;have VL:=z;have HPP:r.iw=true:=B;go_wp2;go_region;go_wp2;go_roundw
    case rel=>
     refine⟨j+1,m+1,c.set r.site (ptr q),by omega,by go_num,by go_num,by omega,?_,?_,by simp[C],HFL,by have:=VL;omega⟩
     ·exact vL
     ·exact (f.setCell (p:=⟨o.heap.size,r.site,none⟩) bS _).trans ⟨rfl,rfl,rfl,bS,λ_ _=>rfl⟩
    case measure=>simp[intOf];omega
   ·have hp':r.iw=false:=by simpa using B
    rw[hp']at hop;have y:=HFF;rw[ag B]at y;have z:=GU;have A:uK (r::(t.du 0 0).drop (j+1))=uK ((t.du 0 0).drop (j+1)):=by unfold uK;rw[eF,ag B]
    rw[A]at z;go_wp2;go_roundw
    case rel=>exact⟨j+1,m,c,by omega,by go_num,rfl,by omega,l,f,C,y,z⟩
    case measure=>simp[intOf];omega
  ·have hjl:j=a.length:=by omega
   have hm:m=t.dn:=by
    have:=WW;rw[bF (by rw[gA];omega)]at this;simpa [uK] using this
   have hpl:=yt t;have Xq:m<=a.length:=by omega
   go_wp2;go_ret;refine⟨o.heap.size,a.length,c.take t.dn,by rw[<-hm,hL];rfl,(K.trans (f.mono hs1)),?_,?_⟩
   ·have h:=l;obtain⟨h1,h2⟩:=h;rcases h2 with⟨h2,_⟩|⟨g,J,cur,hv,hg,hh,hn,hcm,hcs,S⟩
    ·cases h2
    ·refine⟨by rw[cS,C];omega,aE ⟨o.heap.size,a.length,cur,rfl,ld,?_,by omega,?_,?_,?_⟩⟩
     ·simp only[bN,ai,Addr.mk.injEq]at hv;rw[hv.1.1];exact hh
     ·simp only[bN]at hv;omega
     ·simp only[bN]at hv;omega
     ·have h3:(cur.toList.take (a.length*1)).take (t.dn*1)=c.take (t.dn*1):=by rw[S]
      rw[nN,dL (by omega)]at h3;simpa using h3
   ·intro s hs;have hf:=x;rw[hjl,mw]at hf;simp only[yu]at hf;obtain⟨r0,hr0,Xr,hs0⟩:=N.2.2 s (by omega) (by omega);obtain⟨q,r,h1,h2,h3,h4,h5⟩:=II (P:=λr=>r∈t.du 0 0) a (t.du 0 0) d s u (λ_ h=>h) (by rw[Z];omega) (aD ⟨r0,hr0,Xr,hs0⟩);rw[<-hf]at h1;exact⟨q,r,by rw[List.getElem?_take_of_lt hs];exact h1,h2,h3,h4,h5⟩
