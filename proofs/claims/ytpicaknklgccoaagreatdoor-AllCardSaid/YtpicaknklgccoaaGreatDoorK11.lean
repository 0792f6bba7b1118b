import Derived.Test.YtpicaknklgccoaaGreatDoorK10
namespace Go.Proofs.YtpicaknklgccoaaGreatDoor
variable {w b d z:Nat}{x:PS -> Int × PS}{y:Bool}{u:dc}{K:Ty}
inductive BZ|name|region|e|body
 deriving DecidableEq
def BZ.wt:BZ->Wt
 |.name=>.name
 |.region=>.region
 |.e=>.e
 |.body=>.e
def wU(k:Kw)(a:Bool):List BZ:=
 match k,a with
 |.dV,_=>[.name,.e,.body]
 |.loop,_=>[.e,.name,.e,.body]
 |.pair,true=>[.region,.e,.e]
 |.new,_=>[.region,.e]
 |.pair,false=>[.e,.e]
 |.add,_=>[.e,.e]
 |.sub,_=>[.e,.e]
 |.less,_=>[.e,.e]
 |.fst,_=>[.e]
 |.snd,_=>[.e]
 |.lv,_=>[.e,.e,.e]
theorem tq(k)(a)(h:fY k a≠[]):fY k a=(wU k a).map BZ.wt++[.close]:=by
 cases k<;>cases a<;>first|rfl|exact absurd rfl h
def Vi:List BZ->Bool
 |[]=>true
 |.name::a=>!a.contains .name&&a.head? !=some .body&&Vi a
 |.region::a=>!a.contains .region&&a.head? !=some .body&&Vi a
 |.body::a=>!a.contains .name&&Vi a
 |.e::a=>Vi a
theorem MG(k)(a):Vi (wU k a)=true:=by cases k<;>cases a<;>decide
structure FS where
 parts:List Int
 word:List UInt8
 region:Int
def nG(a:Nat)(d:PS->Int×PS):List BZ->FS->PS->FS×PS
 |[],b,c=>(b,c)
 |.name::f,b,c=>nG a d f {b with word:=(kQ a c.l).word} (c.expect a 4)
 |.region::f,b,c=>nG a d f {b with region:=(kQ a c.l).num} (c.expect a 6)
 |.e::f,b,c=>nG a d f {b with parts:=b.parts++[(d c).1]} (d c).2
 |.body::f,b,c=>nG a d f {b with parts:=b.parts++[(kR d b.word (b.parts.getLastD (-1)) c).1]} (kR d b.word (b.parts.getLastD (-1)) c).2
def dX(k:Kw):Nat:=iW (fJ (.kw k))
def NR.filled(n:NR)(a:FS):NR:={n with word:=a.word,region:=a.region,p0:=a.parts.getD 0 (-1),p1:=a.parts.getD 1 (-1),p2:=a.parts.getD 2 (-1)}
theorem zw(a)(b:Nat)(d)(k)(f:fY k a≠[])(at_ c:Nat)(num:Int)(e):ux a b d ⟨dX k,at_,c,num,[],0,-1,-1,-1,-1⟩ e=(NR.filled ⟨dX k,at_,c,num,[],0,-1,-1,-1,-1⟩ (nG b d (wU k a) ⟨[],[],0⟩ e).1,(nG b d (wU k a) ⟨[],[],0⟩ e).2):=by
 cases k<;>cases a<;>first|rfl|exact absurd rfl f
def cz:List PT->Nat->List Int
 |[],_=>[]
 |t::r,a=>(((a+t.cnt:Nat):Int)-1)::cz r (a+t.cnt)
mutual
def opn:PT->Nat->List Int
 |.num _ _,a=>[(a:Int)]
 |.name _ _,a=>[(a:Int)]
 |.node _ _ _ _ b,a=>((a+aU b:Nat):Int)::pF b a
def pF:List PT->Nat->List Int
 |[],_=>[]
 |t::r,a=>opn t a++pF r (a+t.cnt)
end
def Ev:List BZ->List Bool
 |[]=>[]
 |.name::a=>Ev a
 |.region::a=>Ev a
 |.e::a=>false::Ev a
 |.body::a=>true::Ev a
def j5:Kw->List Bool
 |.dV=>[false,true]
 |.loop=>[false,false,true]
 |.pair=>[false,false]
 |.new=>[false]
 |.add=>[false,false]
 |.sub=>[false,false]
 |.less=>[false,false]
 |.fst=>[false]
 |.snd=>[false]
 |.lv=>[false,false,false]
theorem Vj(k)(a):Ev (wU k a)=j5 k:=by cases k<;>cases a<;>rfl
abbrev Sc:=List (List UInt8×Int)
variable {v:Sc}
mutual
def NA(d:Sc):PT->Nat->List NR->Prop
 |.num p s,_,g=>g=[⟨1,p,p+s.length,aQ s,[],0,-1,-1,-1,-1⟩]
 |.name p s,_,g=>g=[⟨2,p,p+s.length,0,s,0,gb d s,-1,-1,-1⟩]
 | .node p k h l f,e,g=>∃j i,j6 d h f (j5 k) e j/\
   g=j++[⟨dX k,p,i,0,h,aQ l,-1,(cz f e).getD 0 (-1),(cz f e).getD 1 (-1),(cz f e).getD 2 (-1)⟩]
def j6(d:Sc)(h:List UInt8):List PT->List Bool->Nat->List NR->Prop
 |[],bs,_,g=>bs=[]/\g=[]
 |_::_,[],_,_=>False
 |t::r,b::bs,e,g=>∃a c,NA (if b then d++[(h,(e:Int)-1)] else d) t e a/\j6 d h r bs (e+t.cnt) c/\g=a++c
end
mutual
theorem NA.len:∀{d:Sc}{t:PT}{e:Nat}{f:List NR},NA d t e f->f.length=t.cnt
 |_,.num _ _,_,_,h=>by simp only[NA]at h;subst h;rfl
 |_,.name _ _,_,_,h=>by simp only[NA]at h;subst h;rfl
 |_,.node _ _ _ _ g,_,_,h=>by
  simp only[NA]at h;obtain⟨l,j,h1,rfl⟩:=h;have:=j6.len h1;simp only[aj,aF,bn,PT.cnt,this];omega
theorem j6.len:∀{d:Sc}{k:List UInt8}{i:List PT}{bs:List Bool}{e:Nat}{f:List NR},j6 d k i bs e f->f.length=aU i
 |_,_,[],_,_,_,h=>by simp only[j6]at h;simp[h.2,aU]
 |_,_,_::_,[],_,_,h=>by simp[j6]at h
 |_,_,t::r,b::bs,_,_,h=>by
  simp only[j6]at h;obtain⟨a,c,h1,h2,rfl⟩:=h;have:=NA.len h1;have:=j6.len h2;simp only[aj,aU];omega
end
mutual
theorem tr:∀(t:PT)(a:Nat),(opn t a).length=t.cnt
 |.num _ _,_=>rfl
 |.name _ _,_=>rfl
 |.node _ _ _ _ b,a=>by have:=HU b a;simp only[opn,aF,PT.cnt,this];omega
theorem HU:∀(c:List PT)(a:Nat),(pF c a).length=aU c
 |[],_=>rfl
 |t::r,a=>by have:=tr t a;have:=HU r (a+t.cnt);simp only[pF,aj,aU];omega
end
def Ri(b:Bool)(d:PS->Int×PS)(m:Nat):Prop:=∀(l:List Tk)(e:PT)(r:List Tk),PE b l e r->l.length<=m->∀a:PS,a.l=l->a.fl=none->
 ∃c,NA a.scope e a.nodes.length c/\d a=(((a.nodes.length+e.cnt:Nat):Int)-1,{a with l:=r,nodes:=a.nodes++c,opened:=a.opened++opn e a.nodes.length})
def NoE(a:Bool)(b:Nat)(d:PS->Int×PS)(m:Nat):Prop:=∀l:List Tk,l.length<=m->(¬ ∃e r,PE a l e r)->∀c:PS,c.l=l->c.fl=none->
 ∃q,(∀p,cN a b l (.e::p)=some q)/\(d c).2.stuck q
theorem B0(f:Ri y x w)(a:List UInt8)(c:Int){l:List Tk}{e:PT}{r:List Tk}(h:PE y l e r)(g:l.length<=w)(b:PS)(i:b.l=l)(j:b.fl=none):∃d,NA (b.scope++[(a,c)]) e b.nodes.length d/\kR x a c b=(((b.nodes.length+e.cnt:Nat):Int)-1,{b with l:=r,nodes:=b.nodes++d,opened:=b.opened++opn e b.nodes.length}):=by
 obtain⟨d,h1,h2⟩:=f l e r h g {b with scope:=b.scope++[(a,c)]} i j;refine⟨d,h1,?_⟩;unfold kR;simp only[h2,eX]
theorem MH(n:Nat)(Y:Ri y x w):∀(o:List BZ)(l:List Tk)(C E:List UInt8)(d:List PT)(r:List Tk),PW y (o.map BZ.wt++[.close]) l C E d r->Vi o=true->l.length<=w->∀(a:PS)(f:FS)(b:List UInt8),a.l=l->a.fl=none->(o.head?=some .body->f.parts.getLastD (-1)=(a.nodes.length:Int)-1)->(if o.contains .name then C else f.word)=b->∃t v,t.c=.cls/\j6 a.scope b d (Ev o) a.nodes.length v/\nG n x o f a=(⟨f.parts++cz d a.nodes.length,b,if o.contains .region then aQ E else f.region⟩,{a with l:=t::r,nodes:=a.nodes++v,opened:=a.opened++pF d a.nodes.length}):=by
 intro o
 induction o with
 |nil=>
  intro l C E d r h _ P a f b D F _ G;cases h with
  |close H h1=>
   cases h1;refine⟨_,[],H,⟨rfl,rfl⟩,?_⟩;simp only[nG,cz,pF,aN];rw[<-D,<-G];rfl
 |cons i o U=>
  intro l C E d r h k P a f b D F I G;cases i with
  |name=>
   simp only[Vi,cu,fW]at k;obtain⟨⟨J,A⟩,K⟩:=k;cases h with
   |name H h1=>
    rename_i t z Q;simp at P;have V:(kQ n a.l).kind=4:=by rw[D];exact (sw _).2 H
    have L:a.expect n 4={a with l:=z}:=by
     unfold PS.expect;rw[ag (by simp[V])];simp[PS.tail,D]
    have M:(kQ n a.l).word=t.s:=by rw[D];simp[kQ,mN,Ar,H]
    have p:(if o.contains .name then Q else t.s)=b:=by
     rw[J];simpa using G
    obtain⟨N,v,h2,h3,O⟩:=U z Q E d r h1 K (by omega) {a with l:=z} {f with word:=t.s} b rfl F (λe=>by rw[e]at A;simp at A) p;refine⟨N,v,h2,h3,?_⟩;simp[nG];rw[L,M,O];simp
  |region=>
   simp only[Vi,cu,fW]at k;obtain⟨⟨J,A⟩,K⟩:=k;cases h with
   |region H h1=>
    rename_i t z W;simp at P;have V:(kQ n a.l).kind=6:=by rw[D];exact (vH _).2 H
    have L:a.expect n 6={a with l:=z}:=by
     unfold PS.expect;rw[ag (by simp[V])];simp[PS.tail,D]
    have R:(kQ n a.l).num=aQ t.s:=by rw[D];simp[kQ,mN,Hy,H]
    have p:(if o.contains .name then C else f.word)=b:=by simpa using G
    obtain⟨N,v,h2,h3,O⟩:=U z C W d r h1 K (by omega) {a with l:=z} {f with region:=aQ t.s} b rfl F (λe=>by rw[e]at A;simp at A) p;refine⟨N,v,h2,h3,?_⟩;simp[nG];rw[L,R,O,J];simp
  |e=>
   cases h with
   |e S h1=>
    rename_i e z q;have X:=S.len;obtain⟨B,u,g⟩:=Y l e z S P a D F;have p:(if o.contains .name then C else f.word)=b:=by simpa using G
    have j:=u.len;obtain⟨N,v,h2,h3,O⟩:=U z C E q r h1 k (by omega) (x a).2 {f with parts:=f.parts++[(x a).1]} b (by rw[g]) (by rw[g];exact F)
     (λ_=>by rw[g];simp[j]) p
    refine⟨N,B++v,h2,?_,?_⟩
    ·rw[g]at h3;simp[j]at h3;exact⟨B,v,u,h3,rfl⟩
    ·simp[nG];rw[O,g];simp[cz,pF,j]
  |body=>
   simp only[Vi,cu,fW]at k;cases h with
   |e S h1=>
    rename_i e z q;have X:=S.len;have T:f.word=b:=by
     have:(BZ.body::o).contains .name=false:=by simpa using k.1
     rw[this]at G;simpa using G
    obtain⟨B,u,g⟩:=B0 Y f.word (f.parts.getLastD (-1)) S P a D F;have p:(if o.contains .name then C else f.word)=b:=by rw[k.1];simpa using T
    have j:=u.len;obtain⟨N,v,h2,h3,O⟩:=U z C E q r h1 k.2 (by omega) (kR x f.word (f.parts.getLastD (-1)) a).2 {f with parts:=f.parts++[(kR x f.word (f.parts.getLastD (-1)) a).1]} b (by rw[g]) (by rw[g];exact F)
     (λ_=>by rw[g];simp[j]) p
    refine⟨N,B++v,h2,?_,?_⟩
    ·rw[g]at h3;simp[j]at h3;rw[T,I rfl]at u;exact⟨B,v,u,h3,rfl⟩
    ·simp only[nG];rw[O,g];simp[cz,pF,j]
theorem qy(h:BW x)(f:Nat):∀(c:List BZ)(g:FS)(b:PS),b.stuck w->(nG f x c g b).2.stuck w:=by
 intro c
 induction c with
 |nil=>intro g b a;exact a
 |cons i c d=>
  intro g b a;cases i with
  |name=>exact d _ _ (iU a)
  |region=>exact d _ _ (iU a)
  |e=>exact d _ _ (h w b a)
  |body=>exact d _ _ (KF h _ _ a)
theorem oO{a:PS}(c:a.fl=none)(d:(kQ w a.l).kind≠b):(a.expect w b).stuck (kQ w a.l).at_:=by
 unfold PS.expect;rw[ah d];exact qH c
theorem Yt(K:Ri y x b)(L:NoE y w x b)(B:BW x):∀(s:List BZ)(l:List Tk),(¬ ∃C D f r,PW y (s.map BZ.wt++[.close]) l C D f r)->l.length<=b->∀(a:PS)(g:FS),a.l=l->a.fl=none->∃q,(∀p,cN y w l (s.map BZ.wt++.close::p)=some q)/\((nG w x s g a).2.expect w 3).stuck q:=by
 intro s
 induction s with
 |nil=>
  intro l h v a g d j;simp only[eH,bC,nG]at h⊢;cases l with
  |nil=>exact⟨w,λp=>rfl,by have:=oO (w:=w) (b:=3) j (by rw[d];simp[kQ]);rw[d]at this;exact this⟩
  |cons t r=>
   by_cases n:t.c=.cls
   ·exact absurd ⟨_,_,_,_,.close n .nil⟩ h
   ·refine⟨t.at_,λp=>by simp[cN,ag n],?_⟩;have:=oO (w:=w) (b:=3) j (by rw[d];exact λe=>n ((zu _).1 e));rw[d]at this;exact this
 |cons i s E=>
  intro l h v a g d j;cases i with
  |name=>
   simp only[bK,BZ.wt,aS]at h⊢;simp[nG];cases l with
   |nil=>
    refine⟨w,λp=>rfl,?_⟩;have:=oO (w:=w) (b:=4) j (by rw[d];simp[kQ]);rw[d]at this;exact iU (qy B w s _ _ this)
   |cons t r=>
    by_cases n:t.c=.wB
    ·have F:(kQ w a.l).kind=4:=by rw[d];exact (sw _).2 n
     have z:a.expect w 4={a with l:=r}:=by
      unfold PS.expect;rw[ag (by simp[F])];simp[PS.tail,d]
     rw[z];obtain⟨q,h1,h2⟩:=E r (λ⟨C,D,f,G,A⟩=>h ⟨_,_,_,_,.name n A⟩) (by simp at v;omega) {a with l:=r} {g with word:=(kQ w a.l).word} rfl j;exact⟨q,λp=>by simp[cN,ah n];exact h1 p,h2⟩
    ·refine⟨t.at_,λp=>by simp[cN,ag n],?_⟩;have:=oO (w:=w) (b:=4) j (by rw[d];exact λe=>n ((sw _).1 e));rw[d]at this;exact iU (qy B w s _ _ this)
  |region=>
   simp only[bK,BZ.wt,aS]at h⊢;simp[nG];cases l with
   |nil=>
    refine⟨w,λp=>rfl,?_⟩;have:=oO (w:=w) (b:=6) j (by rw[d];simp[kQ]);rw[d]at this;exact iU (qy B w s _ _ this)
   |cons t r=>
    by_cases n:t.c=.uj
    ·have F:(kQ w a.l).kind=6:=by rw[d];exact (vH _).2 n
     have z:a.expect w 6={a with l:=r}:=by
      unfold PS.expect;rw[ag (by simp[F])];simp[PS.tail,d]
     rw[z];obtain⟨q,h1,h2⟩:=E r (λ⟨C,D,f,G,A⟩=>h ⟨_,_,_,_,.region n A⟩) (by simp at v;omega) {a with l:=r} {g with region:=(kQ w a.l).num} rfl j;exact⟨q,λp=>by simp[cN,ah n];exact h1 p,h2⟩
    ·refine⟨t.at_,λp=>by simp[cN,ag n],?_⟩;have:=oO (w:=w) (b:=6) j (by rw[d];exact λe=>n ((vH _).1 e));rw[d]at this;exact iU (qy B w s _ _ this)
  |e=>
   simp only[bK,BZ.wt,aS]at h⊢;by_cases o:∃e r,PE y l e r
   ·obtain⟨e,r,o⟩:=o;obtain⟨H,I,u⟩:=K l e r o v a d j;have J:=o.len;obtain⟨q,h1,h2⟩:=E r (λ⟨C,D,f,G,A⟩=>h ⟨_,_,_,_,.e o A⟩) (by omega) (x a).2 {g with parts:=g.parts++[(x a).1]} (by rw[u]) (by rw[u];exact j);exact⟨q,λp=>by rw[o.sound];exact h1 p,h2⟩
   ·obtain⟨q,h1,h2⟩:=L l v o a d j;exact⟨q,λp=>h1 _,iU (qy B w s _ _ h2)⟩
  |body=>
   simp only[bK,BZ.wt,aS]at h⊢;by_cases o:∃e r,PE y l e r
   ·obtain⟨e,r,o⟩:=o;obtain⟨H,I,u⟩:=B0 K g.word (g.parts.getLastD (-1)) o v a d j;have J:=o.len;obtain⟨q,h1,h2⟩:=E r (λ⟨C,D,f,G,A⟩=>h ⟨_,_,_,_,.e o A⟩) (by omega) (kR x g.word (g.parts.getLastD (-1)) a).2 {g with parts:=g.parts++[(kR x g.word (g.parts.getLastD (-1)) a).1]} (by rw[u]) (by rw[u];exact j);exact⟨q,λp=>by rw[o.sound];exact h1 p,h2⟩
   ·obtain⟨q,h1,h2⟩:=L l v o {a with scope:=a.scope++[(g.word,g.parts.getLastD (-1))]} d j;exact⟨q,λp=>h1 _,iU (qy B w s _ _ h2)⟩
structure MV where
 c:Bool
 n:Int
variable {T:MV}
structure MC where
 a:MV
 b:MV
 home:Nat
 lA:Nat
structure MR where
 num:Int
 lA:Nat
 cells:Nat
structure MM where
 steps:Nat
 fault:Nat
 named:List MV
 cells:List MC
 regs:List MR
 opened:Nat
 live:Int
 most:Int
variable {a c L:MM}{P:MM -> MV × MM}
def v0:MV:=⟨false,0⟩
def c0:MC:=⟨v0,v0,0,0⟩
def MM.stop(m:MM)(f:Nat):MM:=if m.fault=0 then {m with fault:=f} else m
def MM.opn(m:MM)(k:Int):MM:={m with regs:=m.regs++[⟨k,m.opened,0⟩],opened:=m.opened+1}
def MM.fin(m:MM):MM:=match m.regs.getLast? with
 |none=>m
 |some r=>{m with live:=m.live-r.cells,regs:=m.regs.dropLast}
def rJ(l:List MR)(k:Int):Nat->Nat
 |0=>0
 |i+1=>if (l[i+1]?).map (·.num)=some k then i+1 else rJ l k i
def MM.home(m:MM)(k:Int):Nat:=rJ m.regs k (m.regs.length-1)
def MM.ep(m:MM)(k:Int)(a b:MV):MV×MM:=match m.regs[m.home k]? with
 |none=>(v0,m)
 |some r=>(⟨true,m.cells.length⟩,{m with regs:=m.regs.set (m.home k) {r with cells:=r.cells+1},cells:=m.cells++[⟨a,b,m.home k,r.lA⟩],live:=m.live+1,most:=if m.most<m.live+1 then m.live+1 else m.most})
def MM.nj(m:MM)(c:MC):Bool:=match m.regs[c.home]? with
 |some r=>r.lA==c.lA
 |none=>false
def MM.use(m:MM)(v:MV):MC×MM:=
 if v.c=false\/v.n<0\/(m.cells.length:Int)<=v.n then (c0,m)
 else (m.cells.getD v.n.toNat c0,if m.nj (m.cells.getD v.n.toNat c0)=true then m else m.stop 13)
def MM.name(m:MM)(i:Int)(v:MV):MM:=if 0<=i/\i<m.named.length then {m with named:=m.named.set i.toNat v} else m
def MM.look(m:MM)(i:Int):MV:=if i<0\/(m.named.length:Int)<=i then v0 else m.named.getD i.toNat v0
def jj(a:Nat)(m:MM)(f:MM->MV×MM):MV×MM:=
 let b:=if a<=m.steps then m.stop 12 else m
 if b.fault≠0 then (v0,b) else f {b with steps:=b.steps+1}
def j7(i:Int)(f:MM->MV×MM):Nat->MV->MM->MV×MM
 |0,x,m=>(x,m)
 |k+1,x,m=>if m.fault≠0 then (x,m) else j7 i f k (f (m.name i x)).1 (f (m.name i x)).2
def qI(k:Kw)(a b:Int):Int:=
 if k=.add then Int.tmod (a+b) 10000 else if k=.sub then Int.tmod (a+10000-b) 10000 else if a<b then 1 else 0
mutual
def mW(e:Nat):PT->Sc->Nat->MM->MV×MM
 |.num _ s,_,_,m=>jj e m (λm=>(⟨false,aQ s⟩,m))
 |.name _ s,f,_,m=>jj e m (λm=>(m.look (gb f s),m))
 |.node _ k h i g,f,d,m=>
  if k=.new then DN e (aQ i) g f d m
  else jj e m (λm=>
   if k=.dV then KG e h g f d m
   else if k=.lv then Yu e g f d m
   else if k=.loop then B6 e h g f d m
   else qh e k (aQ i) g f d m)
def DN(e:Nat)(i:Int):List PT->Sc->Nat->MM->MV×MM
 |[a],f,d,m=>
  let x:=mW e a f d (m.opn i)
  (x.1,x.2.fin)
 |_,_,_,m=>(v0,m)
def KG(e:Nat)(h:List UInt8):List PT->Sc->Nat->MM->MV×MM
 |[a,b],f,d,m=>
  let x:=mW e a f d m
  mW e b (f++[(h,((d+a.cnt:Nat):Int)-1)]) (d+a.cnt) (x.2.name (((d+a.cnt:Nat):Int)-1) x.1)
 |_,_,_,m=>(v0,m)
def Yu(e:Nat):List PT->Sc->Nat->MM->MV×MM
 |[a,b,c],f,d,m=>
  let x:=mW e a f d m
  if x.1.n≠0 then mW e b f (d+a.cnt) x.2 else mW e c f (d+a.cnt+b.cnt) x.2
 |_,_,_,m=>(v0,m)
def B6(e:Nat)(h:List UInt8):List PT->Sc->Nat->MM->MV×MM
 |[a,b,c],f,d,m=>
  let x:=mW e a f d m
  let y:=mW e b f (d+a.cnt) x.2
  j7 (((d+a.cnt+b.cnt:Nat):Int)-1) (λm=>mW e c (f++[(h,((d+a.cnt+b.cnt:Nat):Int)-1)]) (d+a.cnt+b.cnt) m) x.1.n.toNat y.1 y.2
 |_,_,_,m=>(v0,m)
def qh(e:Nat)(k:Kw)(i:Int):List PT->Sc->Nat->MM->MV×MM
 |[a],f,d,m=>
  let x:=mW e a f d m
  let c:=x.2.use x.1
  (if k=.fst then c.1.a else c.1.b,c.2)
 |[a,b],f,d,m=>
  let x:=mW e a f d m
  let y:=mW e b f (d+a.cnt) x.2
  if k=.pair then y.2.ep i x.1 y.1 else (⟨false,qI k x.1.n y.1.n⟩,y.2)
 |_,_,_,m=>(v0,m)
end
def MV.bd(v:MV):Prop:=-30000<=v.n/\v.n<=30000
def qi:List MR->Nat
 |[]=>0
 |r::l=>r.cells+qi l
structure ui(fuel:Nat)(m:MM): Prop where
 steps:m.steps<=fuel
 cells:m.cells.length<=m.steps
 live:m.live=qi m.regs
 sum:qi m.regs<=m.cells.length
 most:0<=m.most/\m.most<=m.cells.length
 named:∀v∈m.named,v.bd
 cell:∀c∈m.cells,c.a.bd/\c.b.bd/\c.home<=20000/\c.lA<=m.opened
 regs:m.regs.length<=20000
 lA:∀r∈m.regs,r.lA<=m.opened/\-1<=r.num/\r.num<=9999
theorem ye:v0.bd:=by simp[v0,MV.bd]
theorem MM.MI(h:ui w a)(f:Nat):ui w (a.stop f):=by
 unfold MM.stop;split
 ·exact⟨h.steps,h.cells,h.live,h.sum,h.most,h.named,h.cell,h.regs,h.lA⟩
 ·exact h
theorem uz(a b):qi (a++b)=qi a+qi b:=by induction a<;>simp[qi, *];omega
theorem yf:∀(l:List MR)(i:Nat)(r b:MR),l[i]?=some r->qi (l.set i b)+r.cells=qi l+b.cells
 |[],i,r,b,h=>by simp at h
 |a::l,0,r,b,h=>by simp at h;subst h;simp[qi];omega
 |a::l,i+1,r,b,h=>by
  have:=yf l i r b (by simpa using h);simp[qi];omega
theorem MM.KH(h:ui w a)(k:Int)(d:-1<=k/\k<=9999)(b:a.regs.length+1<=20000):ui w (a.opn k):=by
 refine⟨h.steps,h.cells,?_,?_,h.most,h.named,?_,?_,?_⟩
 ·simp[MM.opn,uz,qi,h.live]
 ·simp[MM.opn,uz,qi];exact h.sum
 ·intro c e;have:=h.cell c e;exact⟨this.1,this.2.1,this.2.2.1,iq this.2.2.2⟩
 ·simp[MM.opn];omega
 ·intro r b;simp only[MM.opn,aA,ax]at b;rcases b with b|rfl
  ·have:=h.lA r b;exact⟨iq this.1,this.2⟩
  ·exact⟨Nat.le_succ _,d⟩
theorem MM.Yv(h:ui w a):ui w a.fin:=by
 cases b:a.regs.getLast? with
 |none=>unfold MM.fin;rw[b];exact h
 |some r=>
  have c:a.fin={a with live:=a.live-r.cells,regs:=a.regs.dropLast}:=by unfold MM.fin;rw[b]
  rw[c];have e:a.regs.dropLast++[r]=a.regs:=by
   rw[List.getLast?_eq_some_iff]at b;obtain⟨i,d⟩:=b;rw[d];simp
  have f:qi a.regs=qi a.regs.dropLast+r.cells:=by
   conv=>lhs;rw[<-e]
   simp[uz,qi]
  have h2:=h.sum;refine⟨h.steps,h.cells,?_,?_,h.most,h.named,h.cell,?_,?_⟩
  ·show a.live-r.cells=((qi a.regs.dropLast:Nat):Int);rw[h.live,f];omega
  ·show qi a.regs.dropLast<=a.cells.length;omega
  ·show a.regs.dropLast.length<=_;have:=h.regs;simp;omega
  ·intro x g;exact h.lA x (by rw[<-e];exact List.mem_append_left _ g)
theorem MM.KI(h:ui w a)(k:Int)(d b)(j:d.bd)(l:b.bd)(e:a.cells.length<a.steps)(s:w<=20000):ui w (a.ep k d b).2/\(a.ep k d b).1.bd:=by
 cases f:a.regs[a.home k]? with
 |none=>unfold MM.ep;rw[f];exact⟨h,ye⟩
 |some r=>
  have n:a.ep k d b=(⟨true,a.cells.length⟩,{a with regs:=a.regs.set (a.home k) {r with cells:=r.cells+1},cells:=a.cells++[⟨d,b,a.home k,r.lA⟩],live:=a.live+1,most:=if a.most<a.live+1 then a.live+1 else a.most}):=by unfold MM.ep;rw[f]
  rw[n];have h1:=h.live;have h2:=h.sum;have h3:=h.most;have i:=aq f;have o:=yf a.regs (a.home k) r {r with cells:=r.cells+1} f;simp only at o;have p:=(ae.1 f).1;have q:=h.steps;refine⟨⟨h.steps,?_,?_,?_,?_,h.named,?_,?_,?_⟩,?_⟩
  ·simp;omega
  ·show a.live+1=((qi (a.regs.set (a.home k) {r with cells:=r.cells+1}):Nat):Int);rw[h1];omega
  ·show qi (a.regs.set (a.home k) {r with cells:=r.cells+1})<=(a.cells++_).length;simp;omega
  ·simp;split<;>omega
  ·intro c e;simp only[aA,ax]at e;rcases e with e|rfl
   ·exact h.cell c e
   ·refine⟨j,l,?_,(h.lA r i).1⟩;have:=h.regs;show a.home k<=20000;omega
  ·show (a.regs.set _ _).length<=_;rw[cO];exact h.regs
  ·intro x g;rcases iH g with g|rfl
   ·exact h.lA x g
   ·exact h.lA r i
  ·simp[MV.bd];omega
theorem H0{a:Type}(l:List a)(i:Nat)(d:a)(h:i<l.length):l.getD i d∈l:=by
 rw[aZ,aa h];simp
theorem MM.KJ{m}(h:ui w m)(v):ui w (m.use v).2/\(m.use v).1.a.bd/\(m.use v).1.b.bd:=by
 unfold MM.use;split
 ·exact⟨h,ye,ye⟩
 ·rename_i e;have c:v.n.toNat<m.cells.length:=by omega
  have d:=h.cell _ (H0 m.cells v.n.toNat c0 c);refine⟨?_,d.1,d.2.1⟩;split
  ·exact h
  ·exact MM.MI h 13
theorem MM.A8(h:ui w a)(i:Int)(v)(c:v.bd):ui w (a.name i v):=by
 unfold MM.name;split
 ·refine⟨h.steps,h.cells,h.live,h.sum,h.most,?_,h.cell,h.regs,h.lA⟩;intro x b;rcases iH b with b|rfl
  ·exact h.named x b
  ·exact c
 ·exact h
theorem MM.Vk(h:ui w a)(i:Int):(a.look i).bd:=by
 unfold MM.look;split
 ·exact ye
 ·exact h.named _ (H0 _ _ _ (by omega))
theorem Rj(k)(a b:Int):(⟨false,qI k a b⟩:MV).bd:=by
 unfold MV.bd qI;simp only;have h1:=Int.tmod_lt_of_pos (a+b) (show (0:Int)<10000 by omega);have h2:=Int.tmod_lt_of_pos (a+10000-b) (show (0:Int)<10000 by omega);have h3:=Int.lt_tmod_of_pos (a+b) (show (0:Int)<10000 by omega);have c:=Int.lt_tmod_of_pos (a+10000-b) (show (0:Int)<10000 by omega);split
 ·omega
 ·split
  ·omega
  ·split<;>omega
structure Grow(n:Nat)(m m':MM): Prop where
 st:m.steps<=m'.steps
 fl:m.fault≠0->m'.fault≠0/\m'.steps=m.steps
 op:m'.opened+20000*m.steps+(if m'.fault=0 then 20000 else 0)<=m.opened+20000*m'.steps+n
 rg:m'.regs.length=m.regs.length
 nm:m'.named.length=m.named.length
 cl:m'.cells.length+m.steps<=m.cells.length+m'.steps
structure j8(n s:Nat)(m m':MM): Prop where
 st:m.steps<=m'.steps
 op:m'.opened+20000*m.steps<=m.opened+20000*m'.steps+n
 rg:m'.regs.length=m.regs.length
 nm:m'.named.length=m.named.length
 cl:m'.cells.length+m.steps<=m.cells.length+m'.steps+s
theorem j8.refl(m):j8 0 0 m m:=⟨bS,by omega,rfl,rfl,by omega⟩
theorem Grow.inner{n:Nat}(h:Grow n a c):j8 n 0 a c:=⟨h.st,by have:=h.op;split at this<;>omega,h.rg,h.nm,by have:=h.cl;omega⟩
theorem j8.trans{n:Nat}(h:j8 n b a c)(e:j8 w d c L):j8 (n+w) (b+d) a L:=by
 have:=h.st;have:=e.st;have:=h.op;have:=e.op;have:=h.cl;have:=e.cl;exact⟨by omega,by omega,e.rg.trans h.rg,e.nm.trans h.nm,by omega⟩
theorem j8.le{n:Nat}(h:j8 n b a c)(e:n<=w)(f:b<=d):j8 w d a c:=by
 have:=h.op;have:=h.cl;exact⟨h.st,by omega,h.rg,h.nm,by omega⟩
theorem Ca(m)(f:Nat):j8 0 0 m (m.stop f):=by
 unfold MM.stop;split
 ·exact⟨bS,by simp only;omega,rfl,rfl,by simp only;omega⟩
 ·exact j8.refl m
theorem OZ(m)(v):j8 0 0 m (m.use v).2:=by
 unfold MM.use;split
 ·exact j8.refl m
 ·simp only;split
  ·exact j8.refl m
  ·exact Ca m 13
theorem tu(m)(i:Int)(v):j8 0 0 m (m.name i v):=by
 unfold MM.name;split
 ·exact⟨bS,by simp only;omega,rfl,by simp,by simp only;omega⟩
 ·exact j8.refl m
theorem wV(m:MM)(i:Int)(v):(m.name i v).fault=m.fault/\(m.name i v).steps=m.steps:=by unfold MM.name;split<;>exact⟨rfl,rfl⟩
theorem KK(m)(k:Int)(a b):j8 0 1 m (m.ep k a b).2:=by
 cases c:m.regs[m.home k]? with
 |none=>unfold MM.ep;rw[c];exact (j8.refl m).le bS (by omega)
 |some r=>
  have d:m.ep k a b=(⟨true,m.cells.length⟩,{m with regs:=m.regs.set (m.home k) {r with cells:=r.cells+1},cells:=m.cells++[⟨a,b,m.home k,r.lA⟩],live:=m.live+1,most:=if m.most<m.live+1 then m.live+1 else m.most}):=by unfold MM.ep;rw[c]
  rw[d];exact⟨bS,by simp only;omega,by simp,rfl,by simp;omega⟩
def Cb(a n:Nat)(m:MM)(x:MV×MM):Prop:=ui a x.2/\x.1.bd/\Grow n m x.2
def vI(a n s:Nat)(m:MM)(x:MV×MM):Prop:=ui a x.2/\x.1.bd/\j8 n s m x.2
theorem uA{n:Nat}(h:ui w a)(i:a.fault=0->a.steps<w->ui w {a with steps:=a.steps+1}->vI w n 1 {a with steps:=a.steps+1} (P {a with steps:=a.steps+1})):Cb w (1+n) a (jj w a P):=by
 unfold jj;by_cases d:w<=a.steps
 ·simp only[ah d];have b:(a.stop 12).fault≠0:=by unfold MM.stop;split<;>simp_all
  simp[ah b];have e:=Ca a 12;have j:(a.stop 12).steps=a.steps:=by unfold MM.stop;split<;>rfl
  refine⟨MM.MI h 12,ye,⟨e.st,λ_=>⟨b,j⟩,?_,e.rg,e.nm,?_⟩⟩
  ·have:=e.op;rw[ag b];simp only at this⊢;omega
  ·have:=e.cl;simp only at this⊢;omega
 ·simp only[ag d];by_cases c:a.fault=0
  ·rw[ag (λg=>g c)];have k:ui w {a with steps:=a.steps+1}:=⟨by simp only;omega,iq h.cells,h.live,h.sum,h.most,h.named,h.cell,h.regs,h.lA⟩;obtain⟨h1,h2,h3⟩:=i c (by omega) k;generalize P {a with steps:=a.steps+1}=y at h1 h2 h3;have l:=h3.st;have o:=h3.op;have p:=h3.cl;simp only at l o p;have q:(if y.2.fault=0 then 20000 else 0)<=20000:=by split<;>decide
   exact⟨h1,h2,⟨by omega,λg=>absurd c g,by omega,h3.rg,h3.nm,by omega⟩⟩
  ·simp[ah c];exact⟨h,ye,⟨bS,λ_=>⟨c,rfl⟩,by simp only[ag c];omega,rfl,rfl,by simp only;omega⟩⟩
theorem Av{c n:Nat}(p:n<=20000){i:Int}{f}{R:Nat}(l:∀m,ui c m->m.regs.length=R->Cb c n m (f m)):∀(k:Nat)(x:MV)(m:MM),ui c m->x.bd->m.regs.length=R->vI c n 0 m (j7 i f k x m)
 |0,x,m,g,h,_=>⟨g,h,(j8.refl m).le ld bS⟩
 |k+1,x,m,g,h,o=>by
  simp only[j7];split
  ·exact⟨g,h,(j8.refl m).le ld bS⟩
  ·rename_i s;have b:=tu m i x;obtain⟨h1,h2,h3⟩:=l (m.name i x) (MM.A8 g i x h) (b.rg.trans o);have q:=wV m i x;have j:=Av (i:=i) p l k (f (m.name i x)).1 (f (m.name i x)).2 h1 h2 (h3.rg.trans (b.rg.trans o));by_cases d:(f (m.name i x)).2.fault=0
   ·refine⟨j.1,j.2.1,?_⟩;have a:=j.2.2;have r:=h3.op;rw[ah d]at r;have t:=b.op;have u:=b.cl;have v:=h3.cl;have w:=h3.st;have y:=a.op;have z:=a.cl;have A:=a.st;exact⟨by omega,by omega,a.rg.trans (h3.rg.trans b.rg),a.nm.trans (h3.nm.trans b.nm),by omega⟩
   ·have e:j7 i f k (f (m.name i x)).1 (f (m.name i x)).2=((f (m.name i x)).1,(f (m.name i x)).2):=by
     cases k with
     |zero=>rfl
     |succ k=>simp only[j7];rw[ah d]
    rw[e];have:=b.trans h3.inner;exact⟨h1,h2,this.le (by omega) (by omega)⟩
mutual
def PT.DP:PT->Prop
 |.num _ s=>0<=aQ s/\aQ s<=9999
 |.name _ _=>True
 |.node _ _ _ b a=>(0<=aQ b/\aQ b<=9999)/\oP a
def oP:List PT->Prop
 |[]=>True
 |t::r=>t.DP/\oP r
end
mutual
theorem jk(d:Nat)(g:d<=20000):∀(t:PT)(h:Sc)(e:Nat)(m:MM),t.wf->t.DP->ui d m->m.regs.length+t.cnt<=20000->Cb d t.cnt m (mW d t h e m)
 |.num p s,h,e,m,_,q,u,_=>by
  simp only[PT.DP]at q;simp only[mW,PT.cnt];exact uA (n:=0) u (λ_ _ u=>⟨u,by simp only[MV.bd];omega,(j8.refl _).le bS (by omega)⟩)
 |.name p s,h,e,m,_,_,u,_=>by
  simp only[mW,PT.cnt];exact uA (n:=0) u (λ_ _ u=>⟨u,MM.Vk u _,(j8.refl _).le bS (by omega)⟩)
 |.node p k E v w,h,e,m,l,q,u,j=>by
  simp only[PT.wf]at l;simp only[PT.DP]at q;simp only[PT.cnt]at j;simp only[mW,PT.cnt];by_cases P:k=.new
  ·subst P;simp only[ah];exact KL d g (aQ v) (by omega) w h e m l.1 l.2 q.2 u j
  ·simp only[ag P];refine uA u (λhz K D=>?_);by_cases F:k=.dV
   ·subst F;simp only[ah];exact KM d g E w h e _ l.1 l.2 q.2 D (by simp only;omega)
   ·simp only[ag F];by_cases G:k=.lv
    ·subst G;simp only[ah];exact O0 d g w h e _ l.1 l.2 q.2 D (by simp only;omega)
    ·simp only[ag G];by_cases H:k=.loop
     ·subst H;simp only[ah];exact H4 d g E w h e _ l.1 l.2 q.2 D (by simp only;omega)
     ·simp only[ag H];have:=u.cells;exact KN d g k (aQ v) w h e _ l.2 q.2 D (by simp only;omega) (by simp only;omega)
theorem KL(d:Nat)(g:d<=20000)(v:Int)(L:-1<=v/\v<=9999):∀(o:List PT)(h:Sc)(e:Nat)(m:MM),o.length=arity .new->rH o->oP o->ui d m->m.regs.length+(1+aU o)<=20000->Cb d (1+aU o) m (DN d v o h e m)
 |[a],h,e,m,_,l,q,u,j=>by
  simp only[rH]at l;simp only[oP]at q;simp only[aU]at j;simp only[DN,aU];have Y:=MM.KH u v L (by omega);have ho:(m.opn v).regs.length=m.regs.length+1:=by simp[MM.opn]
  obtain⟨h1,h2,h3⟩:=jk d g a h e (m.opn v) l.1 q.1 Y (by omega);have Z:(m.opn v).steps=m.steps:=rfl;have e2:(m.opn v).fault=m.fault:=rfl;have e3:(m.opn v).opened=m.opened+1:=rfl;have e4:(m.opn v).named=m.named:=rfl;have e5:(m.opn v).cells=m.cells:=rfl;generalize mW d a h e (m.opn v)=x at h1 h2 h3;have A:=h3.rg;have I:x.2.fin.steps=x.2.steps/\x.2.fin.fault=x.2.fault/\x.2.fin.opened=x.2.opened/\x.2.fin.named=x.2.named/\x.2.fin.cells=x.2.cells/\x.2.fin.regs.length=x.2.regs.length-1:=by
   unfold MM.fin;cases hg:x.2.regs.getLast? with
   | none => have:x.2.regs=[]:=by simpa using hg
             rw[this]at A;simp at A;omega
   |some r=>exact⟨rfl,rfl,rfl,rfl,rfl,by simp⟩
  obtain⟨J,Q,f3,f4,f5,f6⟩:=I;have S:=h3.st;have M:=h3.fl;have T:=h3.op;have U:=h3.nm;have N:=h3.cl;rw[Z]at S M T N;rw[e2]at M;rw[e3]at T;rw[e4]at U;rw[e5]at N;refine⟨MM.Yv h1,h2,⟨by rw[J];exact S,by rw[J,Q];exact M,?_,by rw[f6];omega,by rw[f4];exact U,by rw[f5,J];exact N⟩⟩;rw[f3,Q,J];omega
 |[],_,_,_,j,_,_,_,_=>by simp[arity]at j
 |_::_::_,_,_,_,j,_,_,_,_=>by simp[arity]at j
theorem KM(d:Nat)(g:d<=20000)(E):∀(o:List PT)(h:Sc)(e:Nat)(m:MM),o.length=arity .dV->rH o->oP o->ui d m->m.regs.length+(1+aU o)<=20000->vI d (aU o) 1 m (KG d E o h e m)
 |[a,b],h,e,m,_,l,q,u,j=>by
  simp only[rH]at l;simp only[oP]at q;simp only[aU]at j;simp only[KG,aU];obtain⟨h1,h2,h3⟩:=jk d g a h e m l.1 q.1 u (by omega);generalize mW d a h e m=x at h1 h2 h3;have A:=h3.rg;have V:=tu x.2 (((e+a.cnt:Nat):Int)-1) x.1;have hnr:=V.rg;obtain⟨B,C,z⟩:=jk d g b (h++[(E,((e+a.cnt:Nat):Int)-1)]) (e+a.cnt) _ l.2.1 q.2.1 (MM.A8 h1 (((e+a.cnt:Nat):Int)-1) x.1 h2) (by omega);exact⟨B,C,(h3.inner.trans (V.trans z.inner)).le (by omega) (by omega)⟩
 |[],_,_,_,j,_,_,_,_=>by simp[arity]at j
 |[_],_,_,_,j,_,_,_,_=>by simp[arity]at j
 |_::_::_::_,_,_,_,j,_,_,_,_=>by simp[arity]at j
theorem O0(d:Nat)(g:d<=20000):∀(o:List PT)(h:Sc)(e:Nat)(m:MM),o.length=arity .lv->rH o->oP o->ui d m->m.regs.length+(1+aU o)<=20000->vI d (aU o) 1 m (Yu d o h e m)
 |[a,b,c],h,e,m,_,l,q,u,j=>by
  simp only[rH]at l;simp only[oP]at q;simp only[aU]at j;simp only[Yu,aU];obtain⟨h1,h2,h3⟩:=jk d g a h e m l.1 q.1 u (by omega);generalize mW d a h e m=x at h1 h2 h3;have A:=h3.rg;split
  ·obtain⟨B,C,z⟩:=jk d g b h (e+a.cnt) x.2 l.2.1 q.2.1 h1 (by omega);exact⟨B,C,(h3.inner.trans z.inner).le (by omega) (by omega)⟩
  ·obtain⟨B,C,z⟩:=jk d g c h (e+a.cnt+b.cnt) x.2 l.2.2.1 q.2.2.1 h1 (by omega);exact⟨B,C,(h3.inner.trans z.inner).le (by omega) (by omega)⟩
 |[],_,_,_,j,_,_,_,_=>by simp[arity]at j
 |[_],_,_,_,j,_,_,_,_=>by simp[arity]at j
 |[_,_],_,_,_,j,_,_,_,_=>by simp[arity]at j
 |_::_::_::_::_,_,_,_,j,_,_,_,_=>by simp[arity]at j
theorem H4(d:Nat)(g:d<=20000)(E):∀(o:List PT)(h:Sc)(e:Nat)(m:MM),o.length=arity .loop->rH o->oP o->ui d m->m.regs.length+(1+aU o)<=20000->vI d (aU o) 1 m (B6 d E o h e m)
 |[a,b,c],h,e,m,_,l,q,u,j=>by
  simp only[rH]at l;simp only[oP]at q;simp only[aU]at j;simp only[B6,aU];obtain⟨h1,h2,h3⟩:=jk d g a h e m l.1 q.1 u (by omega);generalize mW d a h e m=x at h1 h2 h3;have A:=h3.rg;obtain⟨B,C,z⟩:=jk d g b h (e+a.cnt) x.2 l.2.1 q.2.1 h1 (by omega);generalize mW d b h (e+a.cnt) x.2=y at B C z;have W:=z.rg;obtain⟨l1,l2,l3⟩:=Av (n:=c.cnt) (by omega) (i:=((e+a.cnt+b.cnt:Nat):Int)-1) (R:=y.2.regs.length) (f:=λm=>mW d c (h++[(E,((e+a.cnt+b.cnt:Nat):Int)-1)]) (e+a.cnt+b.cnt) m)
   (λm hm hR=>jk d g c _ (e+a.cnt+b.cnt) m l.2.2.1 q.2.2.1 hm (by omega)) x.1.n.toNat y.1 y.2 B C rfl
  exact⟨l1,l2,(h3.inner.trans (z.inner.trans l3)).le (by omega) (by omega)⟩
 |[],_,_,_,j,_,_,_,_=>by simp[arity]at j
 |[_],_,_,_,j,_,_,_,_=>by simp[arity]at j
 |[_,_],_,_,_,j,_,_,_,_=>by simp[arity]at j
 |_::_::_::_::_,_,_,_,j,_,_,_,_=>by simp[arity]at j
theorem KN(d:Nat)(g:d<=20000)(k)(v:Int):∀(o:List PT)(h:Sc)(e:Nat)(m:MM),rH o->oP o->ui d m->m.regs.length+(1+aU o)<=20000->m.cells.length<m.steps->vI d (aU o) 1 m (qh d k v o h e m)
 |[a],h,e,m,l,q,u,j,_=>by
  simp only[rH]at l;simp only[oP]at q;simp only[aU]at j;simp only[qh,aU];obtain⟨h1,h2,h3⟩:=jk d g a h e m l.1 q.1 u (by omega);generalize mW d a h e m=x at h1 h2 h3;have O:=MM.KJ h1 x.1;refine⟨O.1,?_,(h3.inner.trans (OZ x.2 x.1)).le (by omega) (by omega)⟩;simp only;split
  ·exact O.2.1
  ·exact O.2.2
 |[a,b],h,e,m,l,q,u,j,K=>by
  simp only[rH]at l;simp only[oP]at q;simp only[aU]at j;simp only[qh,aU];obtain⟨h1,h2,h3⟩:=jk d g a h e m l.1 q.1 u (by omega);generalize mW d a h e m=x at h1 h2 h3;have A:=h3.rg;obtain⟨B,C,z⟩:=jk d g b h (e+a.cnt) x.2 l.2.1 q.2.1 h1 (by omega);generalize mW d b h (e+a.cnt) x.2=y at B C z;have q1:=h3.cl;have q2:=z.cl;split
  ·have X:=MM.KI B v x.1 y.1 h2 C (by omega) g;exact⟨X.1,X.2,(h3.inner.trans (z.inner.trans (KK y.2 v x.1 y.1))).le (by omega) (by omega)⟩
  ·exact⟨B,Rj _ _ _,(h3.inner.trans z.inner).le (by omega) (by omega)⟩
 |[],_,_,m,_,_,u,_,_=>by simp only[qh];exact⟨u,ye,(j8.refl m).le ld (by omega)⟩
 |_::_::_::_,_,_,m,_,_,u,_,_=>by simp only[qh];exact⟨u,ye,(j8.refl m).le ld (by omega)⟩
end
def Fits(d:List MC):Ty->MV->Prop
 |.n,v=>v.c=false/\0<=v.n/\v.n<=9999
 |.p _ A B,v=>(v.c=false/\0<=v.n/\v.n<=9999)\/(v.c=true/\∃(i:Nat)(c:MC),v.n=i/\d[i]?=some c/\Fits d A c.a/\Fits d B c.b)
theorem yh(a)(T):Fits a T v0:=by cases T<;>simp[Fits,v0]
theorem Fits.mono{a l}:∀{T:Ty}{v:MV},Fits a T v->Fits (a++l) T v
 |.n,_,h=>h
 |.p _ A B,_,h=>by
  rcases h with h|⟨d,i,c,e,b,f,g⟩
  ·exact aD h
  ·refine aE ⟨d,i,c,e,?_,Fits.mono f,Fits.mono g⟩;rw[ak (ae.1 b).1];exact b
structure Ext(m m':MM)(base c:Nat): Prop where
 cells:∃l,m'.cells=m.cells++l
 len:m'.named.length=m.named.length
 named:∀i,(i<base\/base+c<=i)->m'.named[i]?=m.named[i]?
theorem Ext.refl(m)(a c:Nat):Ext m m a c:=⟨⟨[],by simp⟩,rfl,λ_ _=>rfl⟩
theorem Ext.trans{g}{b c j:Nat}(h:Ext a g w j)(e:Ext g L d z)(k:b<=w/\w+j<=b+c)(n:b<=d/\d+z<=b+c):Ext a L b c:=by
 obtain⟨l,o⟩:=h.cells;obtain⟨p,f⟩:=e.cells;exact⟨⟨l++p,by rw[f,o,aB]⟩,e.len.trans h.len,λi q=>(e.named i (by omega)).trans (h.named i (by omega))⟩
theorem Ext.same(h1:c.cells=a.cells)(h2:c.named=a.named)(d b:Nat):Ext a c d b:=⟨⟨[],by simp[h1]⟩,by rw[h2],λ_ _=>by rw[h2]⟩
theorem Fits.on(h:Fits a.cells K T)(d:Ext a c b w):Fits c.cells K T:=by
 obtain⟨l,e⟩:=d.cells;rw[e];exact h.mono
theorem H7(m)(f a c:Nat):Ext m (m.stop f) a c:=by unfold MM.stop;split<;>(refine Ext.same ?_ ?_ _ _<;>rfl)
theorem MJ(m)(v)(a c:Nat):Ext m (m.use v).2 a c:=by
 unfold MM.use;split
 ·exact Ext.refl _ _ _
 ·simp only;split
  ·exact Ext.refl _ _ _
  ·exact H7 _ _ _ _
theorem H8(m)(k:Int)(a b)(d c:Nat):Ext m (m.ep k a b).2 d c:=by
 unfold MM.ep;split
 ·exact Ext.refl _ _ _
 ·exact⟨⟨_,rfl⟩,rfl,λ_ _=>rfl⟩
theorem mQ(m)(j:Nat)(v)(a c:Nat)(b:a<=j/\j<a+c):Ext m (m.name (j:Int) v) a c:=by
 unfold MM.name;split
 ·refine⟨⟨[],by simp⟩,by simp,λi d=>?_⟩;rw[bI (by omega)]
 ·exact Ext.refl _ _ _
theorem FD(m:MM)(j:Nat)(v)(a:j<m.named.length):(m.name (j:Int) v).named[j]?=some v:=by
 unfold MM.name;rw[ah (by omega)];simp;rw[bh a]
theorem Vm(m)(a c:Nat):Ext m m.fin a c:=by unfold MM.fin;split<;>(refine Ext.same ?_ ?_ _ _<;>rfl)
def EF(a:List MV)(b:List MC)(d:Sc)(G:dc)(c:Nat):Prop:=∀s T,look G s=some T->∃(i:Nat)(v:MV),gb d s=(i:Int)/\i<c/\a[i]?=some v/\Fits b T v
theorem wW(G:dc)(a)(T)(s):look (G++[(a,T)]) s=if a=s then some T else look G s:=by
 unfold look;rw[fq];by_cases h:a=s
 ·simp[h]
 ·have:(a==s)=false:=by rw[aH];exact h
  simp[h,this]
theorem qJ(b:Sc)(a:List UInt8)(j:Int)(s:List UInt8):gb (b++[(a,j)]) s=if a=s then j else gb b s:=by
 unfold gb;rw[fq];simp only[iv,List.reverse_nil,bC,cQ,dw];by_cases h:a=s
 ·simp[h]
 ·have:(a==s)=false:=by rw[aH];exact h
  simp[h,this]
theorem EF.on(h:EF a.named a.cells v u w)(f:Ext a c b d)(k:w<=b):EF c.named c.cells v u w:=by
 intro s T g;obtain⟨i,e,h1,h2,h3,j⟩:=h s T g;exact⟨i,e,h1,h2,(f.named i (aD (by omega))).trans h3,j.on f⟩
theorem EF.up{c}{d}(h:EF c d v u w)(g:w<=b):EF c d v u b:=by
 intro s T e;obtain⟨i,a,h1,h2,h3,f⟩:=h s T e;exact⟨i,a,h1,by omega,h3,f⟩
theorem EF.snoc{j:Nat}{nm}(h:EF a.named a.cells v u w)(n:w<=j)(f:j<a.named.length)(g:Fits a.cells K T):EF (a.name (j:Int) T).named (a.name (j:Int) T).cells (v++[(nm,(j:Int))]) (u++[(nm,K)]) (j+1):=by
 have d:=mQ a j T j 1 (by omega);intro s k c;rw[wW]at c;rw[qJ];by_cases e:nm=s
 ·rw[ah e]at c⊢;cases c;exact⟨j,T,rfl,by omega,FD a j T f,g.on d⟩
 ·rw[ag e]at c⊢;obtain⟨i,b,h1,h2,h3,l⟩:=h s k c;exact⟨i,b,h1,by omega,(d.named i (aD (by omega))).trans h3,l.on d⟩
def Cc(m:MM)(x:MV×MM)(a c:Nat)(T:Ty):Prop:=Ext m x.2 a c/\Fits x.2.cells T x.1
theorem lX(h:Cc {a with steps:=a.steps+1} (P {a with steps:=a.steps+1}) b d K):Cc a (jj w a P) b d K:=by
 unfold jj;by_cases e:w<=a.steps
 ·simp only[ah e];have g:(a.stop 12).fault≠0:=by unfold MM.stop;split<;>simp_all
  simp[ah g];exact⟨H7 _ _ _ _,yh _ _⟩
 ·simp only[ag e];by_cases i:a.fault=0
  ·rw[ag (λj=>j i)];exact⟨(show Ext a {a with steps:=a.steps+1} b d from Ext.same (by rfl) (by rfl) b d).trans h.1 (by omega) (by omega),h.2⟩
  ·rw[ah i];exact⟨Ext.refl _ _ _,yh _ _⟩
theorem Ew{a c j:Nat}{T}{f}{L:Nat}{P:MM->Prop}(g:a<=j/\j<a+c)(h:∀m v,P m->Fits m.cells T v->m.named.length=L->Cc (m.name (j:Int) v) (f (m.name (j:Int) v)) a c T)(b:∀m i,P m->Ext m i a c->P i):∀(k:Nat)(v:MV)(m:MM),P m->Fits m.cells T v->m.named.length=L->Cc m (j7 (j:Int) f k v m) a c T
 |0,v,m,_,d,_=>⟨Ext.refl _ _ _,d⟩
 |k+1,v,m,l,d,n=>by
  simp only[j7];split
  ·exact⟨Ext.refl _ _ _,d⟩
  ·have h1:=h m v l d n;have e:Ext m (f (m.name (j:Int) v)).2 a c:=(mQ m j v a c g).trans h1.1 (by omega) (by omega);have h2:=Ew g h b k (f (m.name (j:Int) v)).1 (f (m.name (j:Int) v)).2 (b m _ l e) h1.2 (e.len.trans n);exact⟨e.trans h2.1 (by omega) (by omega),h2.2⟩
