import Derived.Test.YtpicaknklgccoaaGreatDoorK3
import Derived.Deep.RegionHeld3
set_option maxHeartbeats 2000000
set_option maxRecDepth 100000
namespace Go.Proofs.YtpicaknklgccoaaGreatDoor
open Tryz
open Go.RowKit
open Go.Lib (decDigits)
variable {w d v:Nat}{a b T O:World}{c y z K:Value}{u:gH}{L P:List (List UInt8)}{N:List UInt8}{M:PT}{Y:dc}{R:Nat -> Prop}{I:Obj}{G:Ty × gH}
abbrev aR:=@World.block_lt_of_cell?
abbrev iO:=@World.size_alloc
theorem kV(w)(o)(n:Nat):bg w ((w.alloc o).drewN n):=⟨rfl,rfl,rfl,by simp,λk a=>cV _ _ _ a⟩
theorem A6{n:Nat}{c}(b:a.heap[w]?=some c):a.grownBy ((a.alloc I).drewN n) (some w)/\((a.alloc I).drewN n).heap[w]?=some c:=
 ⟨jh (kV a I n) _,by show (a.alloc I).heap[w]?=_;exact cR _ b⟩
theorem Hm(t:Ty)(w)(f:t.txt.length<=100000):Calls prog 171 #[.string (bs t.txt)] w λe d=>∃x y c,e=.returned (.tuple #[.string x,.string y,.bool c])/\∃n,d=w.drewN n:=by
 cases t with
 |n=>exact (Hk w).mono (by rintro e d ⟨rfl,rfl⟩;exact⟨_,_,_,rfl,0,rfl⟩)
 |p r a b=>exact (uk r a b w f).mono (by rintro e d ⟨rfl,n,rfl⟩;exact⟨_,_,_,rfl,n,rfl⟩)
theorem Oq(w)(i m t h l:Nat)(H I J O)(p:Nat)(P)(Q:Nat)(n:Int)(id u c:Nat)(A:w.heap[h]?=some (.cells (lV (.slice (some ⟨i,0,none⟩) m t) H I J 0 p) 115 (0,0)))(B:w.heap[l]?=some (.cells (dJ Kw.pair.bytes Q P n O id u c) 82 (0,0)))(r:Nat)(a b)(R:r<1000)(hit:∀d,bg w d->Calls prog 49 #[.int .i64 r] d λe S=>e=.returned (.string (bs (decDigits r)))/\bg d S)(T:a.txt.length+b.txt.length<=90000)(U:c<m)(_hcl:m<=9000)(j:w.cell? ⟨i,c,none⟩=some (.int .i64 r)):Calls prog 144 #[ptr h,ptr l,.agg #[.string (bs a.txt),.string (bs b.txt),.string (bs [])]] w λv d=>v=.returned (.string (bs (Ty.p r a b).txt))/\w.grownBy d (some h)/\d.heap[h]?=some (.cells (lV (.slice (some ⟨i,0,none⟩) m t) H I J 0 p) 115 (0,0)):=by
 have Y:w.cell? ⟨l,0,none⟩=some (.string (bs Kw.pair.bytes)):=by rw[aI B];rfl
 have C:=aG B;have x:=aG A;have Z:((bs Kw.pair.bytes).toList==[110,101,119])=false:=by rw[bo];decide
 have q1:((bs Kw.pair.bytes).toList==[112,97,105,114])=true:=by rw[bo];decide
 have V:w.cell? ⟨l,7,none⟩=some (.int .i64 c):=by rw[aI B];rfl
 have W:w.cell? ⟨h,0,none⟩=some (.slice (some ⟨i,0,none⟩) m t):=by rw[aI A];rfl
 have D:=aR _ _ j;show Calls _ _ #[Value.pointer (some ⟨h,0,none⟩),Value.pointer (some ⟨l,0,none⟩),_] w _;go_in;go_wp2_with (go_at_call 171;refine ((λw=>Hm a w (by omega)) _).mono ?_;rintro e s ⟨_,_,_,rfl,K,o⟩;have y:∀E,s.cell? E=(w.alloc (Obj.cells #[Value.string (bs a.txt),Value.string (bs b.txt),Value.string (bs [])] 139)).cell? E:=(λE=>by rw[o];rfl);have z:Hid (s=(w.alloc (Obj.cells #[Value.string (bs a.txt),Value.string (bs b.txt),Value.string (bs [])] 139)).drewN K):=o;clear o);have g:bg w s:=by rw[z.out];exact kV w _ K
 have L:w.heap.size<s.heap.size:=by rw[z.out];simp[World.drewN]
 have M:Hid (∀d,bg s d->d.cell? ⟨h,0,none⟩=some (.slice (some ⟨i,0,none⟩) m t)/\d.cell? ⟨l,7,none⟩=some (.int .i64 c)/\d.cell? ⟨i,c,none⟩=some (.int .i64 r)/\d.cell? ⟨w.heap.size,0,none⟩=some (.string (bs a.txt))/\d.cell? ⟨w.heap.size,1,none⟩=some (.string (bs b.txt))):=by
  intro d q;refine⟨?_,?_,?_,?_,?_⟩
  ·rw[q.cell (p:=⟨h,0,none⟩) (by show h<_;omega),g.cell (p:=⟨h,0,none⟩) x];exact W
  ·rw[q.cell (p:=⟨l,7,none⟩) (by show l<_;omega),g.cell (p:=⟨l,7,none⟩) C];exact V
  ·rw[q.cell (p:=⟨i,c,none⟩) (by show i<_;omega),g.cell (p:=⟨i,c,none⟩) D];exact j
  ·rw[q.cell (p:=⟨w.heap.size,0,none⟩) (by show w.heap.size<_;omega),y,aI (bD _ _)];rfl
  ·rw[q.cell (p:=⟨w.heap.size,1,none⟩) (by show w.heap.size<_;omega),y,aI (bD _ _)];rfl
 have F:=λd q=>Kt r a b d R (hit d q) T;go_region_held3 (λd=>d.cell? ⟨h,0,none⟩=some (.slice (some ⟨i,0,none⟩) m t)/\d.cell? ⟨l,7,none⟩=some (.int .i64 c)/\d.cell? ⟨i,c,none⟩=some (.int .i64 r)/\d.cell? ⟨w.heap.size,0,none⟩=some (.string (bs a.txt))/\d.cell? ⟨w.heap.size,1,none⟩=some (.string (bs b.txt))) (first|exact M _ ⟨rfl,rfl,rfl,bS,λ_ _=>rfl⟩|exact M _ ⟨f.os,f.tape,f.output,f.size,λk G=>f.block k G⟩) (first|(go_at_call 172;refine (F _ (g.trans ?_)).mono ?_;exact⟨rfl,rfl,rfl,bS,λ_ _=>rfl⟩;rintro e X ⟨rfl,f⟩))
 all_goals
  have N:=g.trans ((⟨f.os,f.tape,f.output,f.size,λk G=>f.block k G⟩:bg s X).mono g.size);go_wp2;go_ret;exact⟨rfl,jh N _,by rw[N.block h x];exact A⟩
mutual
theorem PT.ind{P:PT->Prop}(h1:∀p s,P (.num p s))(h2:∀p s,P (.name p s))(h3:∀p k b c a,(∀x∈a,P x)->P (.node p k b c a)):∀t,P t
 |.num p s=>h1 p s
 |.name p s=>h2 p s
 |.node p k b c a=>h3 p k b c a (PT.aaf h1 h2 h3 a)
theorem PT.aaf{P:PT->Prop}(h1:∀p s,P (.num p s))(h2:∀p s,P (.name p s))(h3:∀p k b c a,(∀x∈a,P x)->P (.node p k b c a)):∀l:List PT,∀x∈l,P x
 |[]=>λx d=>by simp at d
 |t::r=>λx d=>by
  have e:=PT.ind h1 h2 h3 t;have f:=PT.aaf h1 h2 h3 r;rcases bf.1 d with h|h
  ·rw[h];exact e
  ·exact f x h
end
structure Rec where
 op:List UInt8
 p:Nat
 nm:List UInt8
 n:Int
 id:Nat
 last:Nat
 site:Nat
mutual
def PT.du:PT->Nat->Nat->List Rec
 |.num p s,id,a=>[⟨rz,p,[],aQ s,id,id,a⟩]
 |.name p s,id,a=>[⟨jE,p,s,0,id,id,a⟩]
 |.node p k c d b,id,a=>jZ b (id+1) (a+if k=.pair then 1 else 0)++[⟨k.bytes,p,c,aQ d,id,id+aU b,a⟩]
def jZ:List PT->Nat->Nat->List Rec
 |[],_,_=>[]
 |t::r,id,a=>t.du id a++jZ r (id+t.cnt) (a+t.dn)
end
def isRec(w:World)(b:Nat)(r:Rec):Prop:=∃a,w.heap[b]?=some (.cells (dJ r.op r.p r.nm r.n a r.id r.last r.site) 82 (0,0))
def fF(w:World):List Nat->List Rec->Prop
 |[],[]=>True
 |b::a,r::c=>isRec w b r/\fF w a c
 |_,_=>False
theorem fF.append{w}:∀{d a:List Nat}{e c:List Rec},fF w d e->fF w a c->fF w (d++a) (e++c)
 |[],_,[],_,_,h=>h
 |b::d,_,r::e,_,h,f=>⟨h.1,fF.append h.2 f⟩
 |[],_,_::_,_,h,_=>by simp[fF]at h
 |_::_,_,[],_,h,_=>by simp[fF]at h
theorem fF.len{w}:∀{a:List Nat}{c:List Rec},fF w a c->a.length=c.length
 |[],[],_=>rfl
 |b::a,r::c,h=>by simp[fF.len h.2]
 |[],_::_,h=>by simp[fF]at h
 |_::_,[],h=>by simp[fF]at h
mutual
theorem gA:∀(t:PT)(id a:Nat),(t.du id a).length=t.cnt
 |.num _ _,_,_=>rfl
 |.name _ _,_,_=>rfl
 |.node _ _ _ _ b,id,a=>by simp[PT.du,PT.cnt,oK b];omega
theorem oK:∀(c:List PT)(id a:Nat),(jZ c id a).length=aU c
 |[],_,_=>rfl
 |t::r,id,a=>by simp[jZ,aU,gA t,oK r]
end
theorem X3(c)(t):∀(id b:Nat),jZ (c++[t]) id b=jZ c id b++t.du (id+aU c) (b+eS c):=by
 induction c with
 |nil=>intro id b;simp[jZ,aU,eS]
 |cons a r d=>intro id b;simp[jZ,d,aU,eS];rw[aY,aY]
theorem fZ.at{w}{F}:∀(e:List PT)(id d:Nat)(g:List Nat),fZ w F e id d g->∀(i:Nat)(t:PT),e[i]?=some t->∃b,g[i]?=some b/\gS w F t (id+aU (e.take i)) (d+eS (e.take i)) b
 |[],_,_,[],_,i,t,f=>by simp at f
 |a::e,id,d,c::g,h,0,t,f=>by
  simp at f;subst f;exact⟨c,rfl,by simpa [aU,eS] using h.1⟩
 |a::e,id,d,c::g,h,i+1,t,f=>by
  obtain⟨b,j,k⟩:=fZ.at e _ _ g h.2 i t (by simpa using f);refine⟨b,by simpa using j,?_⟩;simp[aU,eS];rw[<-aY,<-aY];exact k
 |[],_,_,_::_,h,_,_,_=>by simp[fZ]at h
 |_::_,_,_,[],h,_,_,_=>by simp[fZ]at h
theorem fj(t:PT):0<t.cnt:=by cases t<;>simp[PT.cnt]<;>omega
theorem xX(b):b.length<=aU b:=by
 induction b with
 |nil=>simp
 |cons a r c=>have:=fj a;simp[aU];omega
theorem j1(b)(i:Nat):aU (b.take i)<=aU b:=by
 induction b generalizing i with
 |nil=>simp
 |cons a r c=>cases i with
  |zero=>simp[aU]
  |succ i=>have:=c i;simp[aU];omega
theorem Ot{e}{n:Nat}{f}(h:a.ownsRow w e d c n f)(g:∀k,k<a.heap.size->b.heap[k]?=a.heap[k]?):b.ownsRow w e d c n f:=
 bO h (λk i=>g k (h.lt k i).2)
mutual
theorem gS.same{w e}{F}(c:∀k,k<w.heap.size->e.heap[k]?=w.heap[k]?):∀(t:PT)(id a b:Nat),gS w F t id a b->gS e F t id a b
 |.num p s,id,a,b,h=>by
  simp only[gS]at h⊢;exact⟨h.1,by rw[c _ (aG h.2)];exact h.2⟩
 |.name p s,id,a,b,h=>by
  simp only[gS]at h⊢;exact⟨h.1,by rw[c _ (aG h.2)];exact h.2⟩
 |.node p k m n f,id,a,b,h=>by
  simp only[gS]at h⊢;obtain⟨i,j,d,h1,h2,h3,l⟩:=h;exact⟨i,j,d,by rw[c _ (aG h1)];exact h1,h2,Ot h3 c,fZ.same c f _ _ d l⟩
theorem fZ.same{w e}{F}(c:∀k,k<w.heap.size->e.heap[k]?=w.heap[k]?):∀(g:List PT)(id a:Nat)(d:List Nat),fZ w F g id a d->fZ e F g id a d
 |[],_,_,[],_=>by simp[fZ]
 |t::g,id,a,b::d,h=>by
  simp only[fZ]at h⊢;exact⟨gS.same c t _ _ b h.1,fZ.same c g _ _ d h.2⟩
 |[],_,_,_::_,h=>by simp[fZ]at h
 |_::_,_,_,[],h=>by simp[fZ]at h
end
theorem fF.same{w d}(e:∀k,k<w.heap.size->d.heap[k]?=w.heap[k]?):∀{a:List Nat}{c:List Rec},fF w a c->fF d a c
 |[],[],_=>True.intro
 |b::a,r::c,h=>by
  obtain⟨⟨f,h1⟩,h2⟩:=h;exact⟨⟨f,by rw[e b (aG h1)];exact h1⟩,fF.same e h2⟩
 |[],_::_,h=>by simp[fF]at h
 |_::_,[],h=>by simp[fF]at h
theorem sj:prog.underlying 76=some (.slice 63):=by kernel_rfl
theorem vA:(prog.info? 63).map (λi=>(i.zero,i.size,i.bytes))=some (some (.pointer none),1,8):=by kernel_rfl
mutual
def PT.subs:PT->Nat->Nat->List (PT×Nat×Nat)
 |.num p s,id,a=>[(.num p s,id,a)]
 |.name p s,id,a=>[(.name p s,id,a)]
 |.node p k c d b,id,a=>fG b (id+1) (a+if k=.pair then 1 else 0)++[(.node p k c d b,id,a)]
def fG:List PT->Nat->Nat->List (PT×Nat×Nat)
 |[],_,_=>[]
 |t::r,id,a=>t.subs id a++fG r (id+t.cnt) (a+t.dn)
end
def dA:PT×Nat×Nat->Rec
 |(.num p s,id,a)=>⟨rz,p,[],aQ s,id,id,a⟩
 |(.name p s,id,a)=>⟨jE,p,s,0,id,id,a⟩
 |(.node p k c d b,id,a)=>⟨k.bytes,p,c,aQ d,id,id+aU b,a⟩
mutual
theorem gO:∀(t:PT)(id a:Nat),t.du id a=(t.subs id a).map dA
 |.num _ _,_,_=>rfl
 |.name _ _,_,_=>rfl
 |.node _ _ _ _ b,id,a=>by simp only[PT.du,PT.subs,bz,wM b];rfl
theorem wM:∀(c:List PT)(id a:Nat),jZ c id a=(fG c id a).map dA
 |[],_,_=>rfl
 |t::r,id,a=>by simp only[jZ,fG,bz,gO t,wM r]
end
theorem cU(t:PT)(id a:Nat):(t.subs id a).length=t.cnt:=by rw[<-gA t id a,gO,aO]
theorem j3(b)(id a:Nat):(fG b id a).length=aU b:=by rw[<-oK b id a,wM,aO]
theorem Ku(c)(t):∀(id b:Nat),fG (c++[t]) id b=fG c id b++t.subs (id+aU c) (b+eS c):=by
 induction c with
 |nil=>intro id b;simp[fG,aU,eS]
 |cons a r d=>intro id b;simp[fG,d,aU,eS];rw[aY,aY]
def j4(w:World)(F:Nat->Prop):List Nat->List (PT×Nat×Nat)->Prop
 |[],[]=>True
 |b::a,x::c=>gS w F x.1 x.2.1 x.2.2 b/\j4 w F a c
 |_,_=>False
theorem j4.append{w}{F}:∀{d a:List Nat}{e c:List (PT×Nat×Nat)},j4 w F d e->j4 w F a c->j4 w F (d++a) (e++c)
 |[],_,[],_,_,h=>h
 |b::d,_,r::g,_,h,f=>⟨h.1,j4.append h.2 f⟩
 |[],_,_::_,_,h,_=>by simp[j4]at h
 |_::_,_,[],_,h,_=>by simp[j4]at h
theorem j4.len{w}{F}:∀{a:List Nat}{c:List (PT×Nat×Nat)},j4 w F a c->a.length=c.length
 |[],[],_=>rfl
 |b::a,r::d,h=>by simp[j4.len h.2]
 |[],_::_,h=>by simp[j4]at h
 |_::_,[],h=>by simp[j4]at h
theorem j4.at{w}{F}:∀{c:List Nat}{d:List (PT×Nat×Nat)},j4 w F c d->∀(i:Nat)(x:PT×Nat×Nat),d[i]?=some x->∃b,c[i]?=some b/\gS w F x.1 x.2.1 x.2.2 b
 |[],[],_,i,x,a=>by simp at a
 |b::c,r::e,h,i,x,a=>by
  cases i with
  |zero=>simp only[aL,ai]at a;subst a;exact⟨b,rfl,h.1⟩
  |succ i=>simp at a⊢;exact j4.at h.2 i x a
 |[],_::_,h,_,_,_=>by simp[j4]at h
 |_::_,[],h,_,_,_=>by simp[j4]at h
theorem vB{id:Nat}(h:gS a R M id w d):isRec a d (dA (M,id,w)):=by
 cases M with
 |num p s=>simp[gS]at h;exact⟨_,h.2⟩
 |name p s=>simp[gS]at h;exact⟨_,h.2⟩
 |node p k g i c=>simp only[gS]at h;obtain⟨_,e,j,f,_⟩:=h;exact⟨e,f⟩
theorem El(b:Nat)(F)(t)(l w)(H)(p:Nat)(I)(n:Int)(id f:Nat)(m:l.heap[b]?=some (.cells (dJ H p I n (.slice none 0 0) id id f) 82 (0,0)))(q:bg l w)(J:gS l F t id f b):Calls prog 69 #[ptr b] w λe A=>∃g j k,e=.returned (.slice (some ⟨g,0,none⟩) k.length j)/\bg w A/\A.ownsRow w.heap.size 63 1 (.slice (some ⟨g,0,none⟩) k.length j) k.length (k.map ptr)/\j4 l F k [(t,id,f)]:=by
 obtain⟨K,L,r,s,v⟩:=cI vA;have O:cg w b 4 (.slice none 0 0):=(q.cell (p:=⟨b,4,none⟩) (aG m)).trans (by rw[aI m];rfl);show Calls _ _ #[Value.pointer (some ⟨b,0,none⟩)] w _;go_in;go_wp2;refine wp_loop_rounds 1 ?_;rw[rounds_succ];go_wp2_with (at_builtin;refine dG _ rfl (.tmp 26) (.tmp 28) 76 rfl w.heap.size 63 K _ 1 8 sj L r s v rfl (by decide) _ 0 [] rfl wD ⟨w.heap.size,0,none⟩ 1 1 [ptr b] rfl rfl ?d1 ?d2 ?d3 ?d4 ?d5 ?_)
 case d1=>
  intro B u d
  match B,d with
  |0,d=>simp at d;subst d;simp[Addr.add,ptr]
  |B+1,d=>simp at d
 case d2=>intro u C;simp at C;subst C;rfl
 case d3=>unfold maxLen;omega
 case d4=>omega
 case d5=>simp
 intro M D a i E;have x:bg w D:=((aM w.heap.size w).alloc bS _).grown i (by simp) (λb m=>by simp[Value.ownBlock]at m);obtain⟨o,c,y⟩:∃o c,M=.slice (some ⟨o,0,none⟩) 1 c:=by
  rcases a.2 with⟨h,P⟩|⟨Q,G,N,h,_⟩
  ·omega
  ·exact⟨_,_,h⟩
 rw[y]at a⊢;have z:D.ownsRow w.heap.size 63 1 (.slice (some ⟨o,0,none⟩) 1 c) 1 [ptr b]:=a;go_wp2;go_ret;exact⟨o,c,[b],rfl,x,z,J,True.intro⟩
theorem xY(t):∀(id c b:Nat)(F:Nat->Prop)(y:World),t.cnt<=9000->gS y F t id c b->∀w:World,bg y w->Calls prog 69 #[ptr b] w λe w'=>∃g D G,e=.returned (.slice (some ⟨g,0,none⟩) G.length D)/\bg w w'/\w'.ownsRow w.heap.size 63 1 (.slice (some ⟨g,0,none⟩) G.length D) G.length (G.map ptr)/\j4 y F G (t.subs id c):=by
 induction t using PT.ind with
 |h1 p s=>
  intro id c b F y z C w n;have J:=C;simp only[gS]at C;exact El b F _ y w _ _ _ _ _ _ C.2 n J
 |h2 p s=>
  intro id c b F y z C w n;have J:=C;simp only[gS]at C;exact El b F _ y w _ _ _ _ _ _ C.2 n J
 |h3 p k nm rg a ih=>
  intro id c b F y z C w n;obtain⟨i0,hi,Q,R,S⟩:=cI vA;have HT0:Hid _:=C;simp only[gS]at C;obtain⟨hFb,kv,G,P,hF,T,U⟩:=C;have sY:=aG P;have H:=n.size;have x4:cg w b 4 kv:=(n.cell (p:=⟨b,4,none⟩) sY).trans (by rw[aI P];rfl);have hkl:=by have:=xX a;simp only[PT.cnt]at z;omega
  have hlen:=fZ.len _ _ _ _ U;have GR:aU a<=9000:=by simp only[PT.cnt]at z;omega
  obtain⟨va,vc,K⟩:∃va vc,kv=.slice va a.length vc:=by
   rcases T.2 with⟨h,h'⟩|⟨g,D,V,h,_⟩
   ·exact⟨none,0,by rw[h,h']⟩
   ·exact⟨_,_,h⟩
  have W:y.ownsRow 0 63 1 kv a.length (G.map ptr):=T;rw[K]at x4;show Calls _ _ #[Value.pointer (some ⟨b,0,none⟩)] w _;go_in;go_wp2;go_loopw [3,4] (λv i wr=>∃(j:Nat)(d:List Nat),j<=a.length/\i=.int .i64 j/\bg w wr/\wr.ownsRow w.heap.size 63 1 v d.length (d.map ptr)/\j4 y F d (fG (a.take j) (id+1) (c+if k=.pair then 1 else 0))) (λ_ i _=>a.length-(intOf i).toNat)
  case atStart=>exact⟨0,[],by omega,rfl,fp,wD,by simp[fG,j4]⟩
  case round=>
   obtain⟨j,d,hj,rfl,f,I,o⟩:=hrel;have x4r:=(f.cell (p:=⟨b,4,none⟩) (by simp only;omega)).trans x4;by_cases hlt:j<a.length
   ·obtain⟨x,X⟩:∃x,a[j]?=some x:=⟨a[j],aa hlt⟩;obtain⟨bx,hbx,Uo⟩:=fZ.at _ _ _ _ U j x X;have Mx:x.cnt<=9000:=by
     have h1:=j1 a (j+1);rw[cW,X]at h1;simp only[eT]at h1;rw[lU]at h1;omega
    have hcj:d.length<=9000:=by
     rw[o.len,j3];have h1:=j1 a j;omega
    obtain⟨Y,Z⟩:∃Y,va=some ⟨Y,0,none⟩:=by
     have h:=W.2;rw[K]at h;rcases h with⟨h,h'⟩|⟨g,D,V,h,_⟩
     ·omega
     ·simp only[bN]at h;exact⟨_,h.1⟩
    have hkc:y.cell? ⟨Y,j,none⟩=some (ptr bx):=by
     have h:y.ownsRow 0 63 1 (.slice (some ⟨Y,0,none⟩) a.length vc) a.length (G.map ptr):=by rw[<-Z,<-K];exact W
     rw[h.cellAt j (by omega)];simp[hbx]
    have Kv:=aR _ _ hkc;have aag:=((n.trans (f.mono H)).cell (p:=⟨Y,j,none⟩) Kv).trans hkc;subst Z;unfold ptr at aag;have hca:=ih x (aq X) _ _ bx F y Mx Uo wr (n.trans (f.mono H));unfold ptr at hca;have q:wr.ownsRow w.heap.size 63 1 _ d.length (d.map ptr):=I;have L:=f.size;have hcs:d.length+x.cnt<=9000:=by
     have h0:=GR;have h1:=j1 a (j+1);rw[cW,X]at h1;simp only[eT]at h1;rw[lU]at h1;have h2:=o.len;rw[j3]at h2;omega
    go_wp2_with (first
     |(go_at_call 69;refine hca.mono ?_;rintro e w1 ⟨g1,X4,B,rfl,E,UT,M⟩)
     |(at_builtin;go_must (refine dG _ rfl (.tmp 23) (.tmp 24) 76 rfl w.heap.size 63 i0 _ 1 8 sj hi Q R S rfl (by decide) _ d.length (d.map ptr) rfl (bE q E) ⟨g1,0,none⟩ B.length X4 (B.map ptr) rfl ?d0 ?d1 ?d2 ?d3 ?d4 ?d5 ?_)))
    case d0=>simp
    case d1=>intro j' u m;exact UT.cells rfl j' u m
    case d2=>intro u hu;simp at hu;obtain⟨_,_,rfl⟩:=hu;rfl
    case d3=>have:=M.len;rw[cU]at this;unfold maxLen;omega
    case d4=>have:=M.len;rw[cU]at this;omega
    case d5=>have:=E.size;omega
    intro v' w2 l r hnil;have aen:=E.size;have N:bg w w2:=(f.trans (E.mono L)).grown r (by omega) (λb P=>(cA q b P).1);have O:w2.ownsRow w.heap.size 63 1 v' (d.length+B.length) (d.map ptr++B.map ptr):=l;have QB:Hid (j4 y F (d++B) (fG (a.take j) (id+1) (c+if k=.pair then 1 else 0)++x.subs (id+1+aU (a.take j)) (c+(if k=.pair then 1 else 0)+eS (a.take j)))):=by
     exact j4.append o M
    go_wp2;go_roundw
    case rel=>
     refine⟨j+1,d++B,by omega,by go_num,N,?_,?_⟩
     ·have:=O;simpa using this
     ·have:=QB;rw[cW,X];simp only[eT];rw[Ku];exact this
    case measure=>simp[intOf];omega
   ·have hcj:d.length<=9000:=by
     rw[o.len,j3];have h1:=j1 a j;omega
    have q:wr.ownsRow w.heap.size 63 1 _ d.length (d.map ptr):=I;have L:=f.size;go_wp2_with (at_builtin;refine dG _ rfl (.tmp 26) (.tmp 28) 76 rfl w.heap.size 63 i0 _ 1 8 sj hi Q R S rfl (by decide) _ d.length (d.map ptr) rfl (q.alloc _) ⟨wr.heap.size,0,none⟩ 1 1 [ptr b] rfl rfl ?d1 ?d2 ?d3 ?d4 ?d5 ?_)
    case d1=>
     intro j' u m
     match j',m with
     |0,m=>simp at m;subst m;simp[Addr.add,ptr]
     |j'+1,m=>simp at m
    case d2=>intro u hu;simp at hu;subst hu;rfl
    case d3=>unfold maxLen;omega
    case d4=>omega
    case d5=>simp;omega
    intro v' w2 l r hnil;have N:bg w w2:=(f.alloc L _).grown r (by simp;omega) (λb P=>(cA q b P).1);obtain⟨g2,A,QC⟩:∃g2 A,v'=.slice (some ⟨g2,0,none⟩) (d.length+1) A:=by
     rcases l.2 with⟨h,h'⟩|⟨g',cap',V,h,_⟩
     ·omega
     ·exact⟨_,_,h⟩
    rw[QC]at l⊢;have O:w2.ownsRow w.heap.size 63 1 (.slice (some ⟨g2,0,none⟩) (d.length+1) A) (d.length+1) (d.map ptr++[ptr b]):=l;go_wp2;go_ret;refine⟨g2,A,d++[b],by simp,N,?_,?_⟩
    ·have:=O;simpa using this
    ·have m:j=a.length:=by omega
     have hr:=o;rw[m,fR]at hr;simp only[PT.subs];exact j4.append hr ⟨HT0,True.intro⟩
theorem j4.du:∀{b:List Nat}{c:List (PT×Nat×Nat)},j4 a R b c->fF a b (c.map dA)
 |[],[],_=>trivial
 |_::_,_::_,h=>⟨vB h.1,h.2.du⟩
 |[],_::_,h=>h.elim
 |_::_,[],h=>h.elim
theorem UU(t):∀(id a b:Nat)(F:Nat->Prop)(f:World),t.cnt<=9000->gS f F t id a b->∀w:World,bg f w->Calls prog 69 #[ptr b] w λe h=>∃g c d,e=.returned (.slice (some ⟨g,0,none⟩) d.length c)/\bg w h/\h.ownsRow w.heap.size 63 1 (.slice (some ⟨g,0,none⟩) d.length c) d.length (d.map ptr)/\fF f d (t.du id a):=by
 intro id a b F f i j w k;refine (xY t id a b F f i j w k).mono ?_;rintro e h ⟨g,c,d,h1,h2,h3,l⟩;exact⟨g,c,d,h1,h2,h3,gO t id a▸l.du⟩
def ia(l:List UInt8):Value:=.string (bs l)
def apart(u v:Value):Prop:=∀g,u.ownBlock=some g->v.ownBlock≠some g
theorem apart.symm(h:apart c y):apart y c:=λg a b=>h g b a
structure ja(w0 w:World)(yb:Nat)(cls:List Nat)(cv nv tv ov:Value)(env:dc)(st:gH): Prop where
 b0:bg w0 w
 hyb:w0.heap.size<=yb
 y:w.heap[yb]?=some (.cells (lV cv nv tv ov st.e st.at_) 115 (0,0))
 c:w.ownsRow w0.heap.size 3 1 cv cls.length (cls.map λ(k:Nat)=>Value.int .i64 k)
 n:w.ownsRow w0.heap.size 9 1 nv env.length (env.map λx=>ia x.1)
 t:w.ownsRow w0.heap.size 9 1 tv env.length (env.map λx=>ia x.2.txt)
 o:w.ownsRow w0.heap.size 9 1 ov st.of.length (st.of.map ia)
 cy:cv.ownBlock≠some yb
 ny:nv.ownBlock≠some yb
 ty:tv.ownBlock≠some yb
 oy:ov.ownBlock≠some yb
 cn:apart cv nv
 ct:apart cv tv
 co:apart cv ov
 nt:apart nv tv
 no:apart nv ov
 QD:apart tv ov
structure Fr(w w':World)(yb:Nat)(nv tv ov nv' Hn:Value): Prop where
 size:w.heap.size<=w'.heap.size
 blk:∀k,k<w.heap.size->k≠yb->nv.ownBlock≠some k->tv.ownBlock≠some k->ov.ownBlock≠some k->w'.heap[k]?=w.heap[k]?
 n:∀g,nv'.ownBlock=some g->nv.ownBlock=some g\/w.heap.size<=g
 t:∀g,Hn.ownBlock=some g->tv.ownBlock=some g\/w.heap.size<=g
theorem Fr.refl(w)(c:Nat)(a b d):Fr w w c a b d a b:=⟨bS,λ_ _ _ _ _ _=>rfl,λ_ h=>aD h,λ_ h=>aD h⟩
theorem Fr.trans{d f i}(h:Fr a b w c y z K d)(j:Fr b T w K d z f i):Fr a T w c y z f i:=by
 refine⟨bw h.size j.size,?_,?_,?_⟩
 ·intro k m o p q r;rw[j.blk k (cT m h.size) o (λe=>by rcases h.n k e with e|e;exact p e;omega) (λe=>by rcases h.t k e with e|e;exact q e;omega) r];exact h.blk k m o p q r
 ·intro g l;rcases j.n g l with e|e
  ·exact h.n g e
  ·exact aE (bw h.size e)
 ·intro g l;rcases j.t g l with e|e
  ·exact h.t g e
  ·exact aE (bw h.size e)
theorem Fr.below(h:bg a b)(e:Nat)(c d f):Fr a b e c d f c d:=⟨h.size,λk g _ _ _ _=>h.block k g,λ_ h=>aD h,λ_ h=>aD h⟩
theorem Fr.grown(h:a.grownBy b (some w))(c d f):Fr a b w c d f c d:=⟨h.size,λk g i _ _ _=>h.block k g (λe=>by cases e;exact i rfl),λ_ h=>aD h,λ_ h=>aD h⟩
theorem Fr.set(f i j)(m:j.ownBlock=some d)(l:b.heap=(a.setCell ⟨d,v,none⟩ c).heap):Fr a b w f i j f i:=
 ⟨by rw[l];simp[World.setCell],λk _ _ _ _ h=>by rw[l,cX _ _ (by simp only;intro e;subst e;exact h m)],λ_ h=>aD h,λ_ h=>aD h⟩
def sZ(i:World)(h:Nat)(cls:List Nat)(t:PT):Prop:=
 ∀(id c b:Nat)(F:Nat->Prop)(a:dc)(d:gH)(k l m j:Value)(w:World),gS i F t id c b->ja i w h cls k l m j a d->
  id+t.cnt<=d.of.length->c+t.dn<=cls.length->(∀x∈a,x.2.fit)->(d.e=0->∀x∈a,x.2.size<=63)->a.length+t.cnt<=9000->
  Calls prog 71 #[ptr h,ptr b] w λv n=>v=.returned (.string (bs (aV cls t id c a d).1.txt))/\
   ∃f g,Fr w n h l m j f g/\ja i n h cls k f g j a (aV cls t id c a d).2
def zj(j:World)(i:Nat)(cls:List Nat)(t:PT)(f:Nat->Nat->dc->gH->Ty×gH):Prop:=
 ∀(id c b:Nat)(F:Nat->Prop)(a:dc)(d:gH)(l m n k:Value)(w:World),gS j F t id c b->ja j w i cls l m n k a d->
  id+t.cnt<=d.of.length->c+t.dn<=cls.length->(∀x∈a,x.2.fit)->(d.e=0->∀x∈a,x.2.size<=63)->a.length+t.cnt<=9000->
  Calls prog 113 #[ptr i,ptr b] w λv o=>v=.returned (.string (bs (f id c a d).1.txt))/\
   ∃g h,Fr w o i m n k g h/\ja j o i cls l g h k a (f id c a d).2
def PT.pl:PT->Nat
 |.num p _=>p
 |.name p _=>p
 |.node p _ _ _ _=>p
theorem UW{id:Nat}(h:gS a R M id w d):∃i e n f c,a.heap[d]?=some (.cells (dJ i M.pl e n f id c w) 82 (0,0)):=by
 cases M with
 |num p s=>simp[gS]at h;exact⟨_,_,_,_,_,h.2⟩
 |name p s=>simp[gS]at h;exact⟨_,_,_,_,_,h.2⟩
 |node p k e j g=>simp only[gS]at h;obtain⟨_,f,l,h1,_⟩:=h;exact⟨_,_,_,_,_,h1⟩
theorem ja.err{cls}{i}(h:ja a b w cls i y z K Y u)(g:b.grownBy T (some w)){e p:Nat}(r:T.heap[w]?=some (.cells (lV i y z K e p) 115 (0,0))):ja a T w cls i y z K Y {u with e:=e,at_:=p}:=by
 have d:∀(v:Value)(f:Nat)(j:TypeId)(n:Nat)(l:List Value),b.ownsRow f j 1 v n l->v.ownBlock≠some w->T.ownsRow f j 1 v n l:=by
  intro v f j n l q s;exact bO q (λk m=>g.block k (q.lt k m).2 (λe=>by cases e;exact s m))
 refine⟨?_,h.hyb,r,d _ _ _ _ _ h.c h.cy,d _ _ _ _ _ h.n h.ny,d _ _ _ _ _ h.t h.ty,d _ _ _ _ _ h.o h.oy,h.cy,h.ny,h.ty,h.oy,h.cn,h.ct,h.co,h.nt,h.no,h.QD⟩;refine h.b0.trans ⟨g.os,g.tape,g.output,g.size,λk m=>g.block k (by have:=h.b0.size;omega) (λe=>by cases e;have:=h.hyb;omega)⟩
theorem ja.setOf{cls}{s A}(h:ja a b w cls s A z (.slice (some ⟨d,0,none⟩) u.of.length v) Y u)(id:Nat)(x)(p:T.heap=(b.setCell ⟨d,id,none⟩ (ia x)).heap)(h1:T.os=b.os)(h2:T.tape=b.tape)(h3:T.output=b.output):ja a T w cls s A z (.slice (some ⟨d,0,none⟩) (u.of.set id x).length v) Y {u with of:=u.of.set id x}:=by
 have B:=h.o.lt d rfl;have i:∀k,k≠d->T.heap[k]?=b.heap[k]?:=λk m=>by rw[p,lu m]
 have E:T.heap.size=b.heap.size:=by rw[p];simp[World.setCell]
 have j:∀(f:Value)(l:Nat)(q:TypeId)(n:Nat)(r:List Value),b.ownsRow l q 1 f n r->apart f (.slice (some ⟨d,0,none⟩) u.of.length v)->T.ownsRow l q 1 f n r:=by
  intro f l q n r C D;exact bO C (λk m=>i k (λe=>D k m (by rw[e];rfl)))
 refine⟨?_,h.hyb,?_,j _ _ _ _ _ h.c h.co,j _ _ _ _ _ h.n h.no,j _ _ _ _ _ h.t h.QD,?_,h.cy,h.ny,h.ty,?_,h.cn,h.ct,?_,h.nt,?_,?_⟩
 ·exact h.b0.trans ⟨h1,h2,h3,by omega,λk m=>i k (by omega)⟩
 ·rw[i w (λe=>h.oy (by rw[e];rfl))];have e:(u.of.set id x).length=u.of.length:=by simp
  rw[e];exact h.y
 ·have e:(u.of.set id x).length=u.of.length:=by simp
  rw[e,jw];exact bO ((h.o.stored id (ia x)).1) (λk _=>by rw[p])
 ·exact h.oy
 ·exact h.co
 ·exact h.no
 ·exact h.QD
theorem UX{id p:Nat}(a:G.2.e=0)(h:63<G.1.size):fin id p G=(G.1,{e:=6,at_:=p,of:=G.2.of.set id G.1.txt}):=by
 simp only[fin,gY];rw[ah ⟨a,h⟩,ah a]
theorem Ou{id p:Nat}(h:¬(G.2.e=0/\63<G.1.size)):fin id p G=(G.1,{G.2 with of:=G.2.of.set id G.1.txt}):=by
 simp only[fin];rw[ag h]
theorem xZ{cls}{f:Nat->Nat->dc->gH->Ty×gH}(hf:zj a w cls M f)(heq:∀id i k B,aV cls M id i k B=fin id M.pl (f id i k B))(Y:∀id i k B,(f id i k B).2.of.length=B.of.length)(R:∀id i (k:dc) (B:gH),(∀x∈k,x.2.fit)->(B.e=0->∀x∈k,x.2.size<=63)->(f id i k B).1.fit):sZ a w cls M:=by
 intro id i b F k B Z nv tv ov c hT hin hid S hs1 hs2 wN;have G:=hf id i b F k B Z nv tv ov c hT hin hid S hs1 hs2 wN;rw[heq];have hl:=Y id i k B;have hsz:=Fl (R id i k B hs1 hs2);obtain⟨v,hty⟩:∃x,x=f id i k B:=⟨_,rfl⟩;rw[<-hty]at G hl hsz⊢;obtain⟨v,j⟩:=v;simp only at G hl hsz⊢;have WW:=fj M;have hsa:=QW (bs v.txt);rw[iE,QS]at hsa;have H:∀c,(bs v.txt).size<=maxLen->Calls prog 114 #[.string (bs v.txt)] c λe w'=>e=.returned (.int .i64 (v.size:Nat))/\c=w':=λc h=>(hsa c h).mono (λ_ _ h=>⟨h.1,h.2.symm⟩);obtain⟨op,nm,n,kv,C,I⟩:=UW hT;have hb:=aG I;have hyb:=hin.hyb;have T:(bs v.txt).size<=maxLen:=by rw[eB];unfold maxLen;omega
 unfold ptr at G;by_cases Q:j.e=0/\63<v.size
 ·obtain⟨W,h63⟩:=Q;have O:=UX (id:=id) (p:=M.pl) (G:=(v,j)) W h63;show Calls _ _ #[Value.pointer (some ⟨w,0,none⟩),Value.pointer (some ⟨b,0,none⟩)] c _;go_in;go_wp2_with (first
   |(go_at_call 113;refine G.mono ?_;rintro e u ⟨rfl,q,r,A,l⟩;have y4:u.cell? ⟨w,4,none⟩=some (.int .i64 0):=(by rw[aI l.y];show some (Value.int .i64 (j.e:Nat))=_;rw[W];rfl))
   |(go_at_call 114;refine (H _ T).mono ?_;rintro e w' ⟨rfl,rfl⟩))
  have U:=A5 u w b Z q r ov kv j.e j.at_ 6 op nm M.pl n id C i (by omega) l.y (by rw[l.b0.block b hb];exact I);unfold ptr at U;rw[ah W,ah W]at U;refine U.mono ?_;rintro e X ⟨rfl,Ov,Uq⟩;have d:=l.err Ov Uq;have acr:=A.trans (Fr.grown Ov _ _ _);have A:=acr;obtain⟨z,J⟩:∃z:gH,z={j with e:=6,at_:=M.pl}:=⟨_,rfl⟩;rw[<-J]at d;have hl2:z.of.length=B.of.length:=by rw[J];exact hl
  have D:=d.o;obtain⟨m,E,s⟩:∃m E,ov=.slice (some ⟨m,0,none⟩) z.of.length E:=by
   rcases D.2 with⟨_,h⟩|⟨g,cap,cur,h,_⟩
   ·omega
   ·exact⟨_,_,h⟩
  rw[s]at d D;have y3:X.cell? ⟨w,3,none⟩=some (.slice (some ⟨m,0,none⟩) z.of.length E):=by rw[aI d.y];rfl
  have K:X.heap[b]?=some (.cells (dJ op M.pl nm n kv id C i) 82 (0,0)):=by rw[d.b0.block b hb];exact I
  have x5:X.cell? ⟨b,5,none⟩=some (.int .i64 id):=by rw[aI K];rfl
  have z0:X.cell? ⟨m,id,none⟩=some (ia (z.of[id]'(by omega))):=by rw[D.cellAt id (by omega),aC,aa (by omega)];rfl
  have z1:=D.frozenAt id;have L:ja a X w cls Z q r (.slice (some ⟨m,0,none⟩) z.of.length E) k z:=d;have N:=s;have V:=A;unfold ia at z0;go_wp2;go_region;go_wp2;go_ret;have P:=ja.setOf L id v.txt (T:=(X.setCell ⟨m,id,none⟩ (.string (bs v.txt))).drew) rfl rfl rfl rfl;rw[O];refine⟨rfl,q,r,V.trans (Fr.set _ _ _ (by rw[N];rfl) rfl),?_⟩;rw[N];rw[J]at P⊢;simpa using P
 ·have O:=Ou (id:=id) (p:=M.pl) (G:=(v,j)) Q;show Calls _ _ #[Value.pointer (some ⟨w,0,none⟩),Value.pointer (some ⟨b,0,none⟩)] c _;by_cases W:j.e=0
  ·have h63:v.size<=63:=by omega
   go_in;go_wp2_with (first
    |(go_at_call 113;refine G.mono ?_;rintro e u ⟨rfl,q,r,A,l⟩;have y4:u.cell? ⟨w,4,none⟩=some (.int .i64 0):=(by rw[aI l.y];show some (Value.int .i64 (j.e:Nat))=_;rw[W];rfl))
    |(go_at_call 114;refine (H _ T).mono ?_;rintro e w' ⟨rfl,rfl⟩))
   have d:=l;have hl2:=hl;have D:=d.o;obtain⟨m,E,s⟩:∃m E,ov=.slice (some ⟨m,0,none⟩) j.of.length E:=by
    rcases D.2 with⟨_,h⟩|⟨g,cap,cur,h,_⟩
    ·omega
    ·exact⟨_,_,h⟩
   rw[s]at d D;have y3:u.cell? ⟨w,3,none⟩=some (.slice (some ⟨m,0,none⟩) j.of.length E):=by rw[aI d.y];rfl
   have K:u.heap[b]?=some (.cells (dJ op M.pl nm n kv id C i) 82 (0,0)):=by rw[d.b0.block b hb];exact I
   have x5:u.cell? ⟨b,5,none⟩=some (.int .i64 id):=by rw[aI K];rfl
   have z0:u.cell? ⟨m,id,none⟩=some (ia (j.of[id]'(by omega))):=by rw[D.cellAt id (by omega),aC,aa (by omega)];rfl
   have z1:=D.frozenAt id;have L:ja a u w cls Z q r (.slice (some ⟨m,0,none⟩) j.of.length E) k j:=d;have N:=s;have V:=A;unfold ia at z0;go_wp2;go_region;go_wp2;go_ret;have P:=ja.setOf L id v.txt (T:=(u.setCell ⟨m,id,none⟩ (.string (bs v.txt))).drew) rfl rfl rfl rfl;rw[O];refine⟨rfl,q,r,V.trans (Fr.set _ _ _ (by rw[N];rfl) rfl),?_⟩;rw[N];simpa using P
  ·have h0':((j.e:Int)==0)=false:=by rw[aH];omega
   go_in;go_wp2_with (first
    |(go_at_call 113;refine G.mono ?_;rintro e u ⟨rfl,q,r,A,l⟩;have y4:u.cell? ⟨w,4,none⟩=some (.int .i64 j.e):=(by rw[aI l.y];rfl))
    |(go_at_call 114;refine (H _ T).mono ?_;rintro e w' ⟨rfl,rfl⟩))
   have d:=l;have hl2:=hl;have D:=d.o;obtain⟨m,E,s⟩:∃m E,ov=.slice (some ⟨m,0,none⟩) j.of.length E:=by
    rcases D.2 with⟨_,h⟩|⟨g,cap,cur,h,_⟩
    ·omega
    ·exact⟨_,_,h⟩
   rw[s]at d D;have y3:u.cell? ⟨w,3,none⟩=some (.slice (some ⟨m,0,none⟩) j.of.length E):=by rw[aI d.y];rfl
   have K:u.heap[b]?=some (.cells (dJ op M.pl nm n kv id C i) 82 (0,0)):=by rw[d.b0.block b hb];exact I
   have x5:u.cell? ⟨b,5,none⟩=some (.int .i64 id):=by rw[aI K];rfl
   have z0:u.cell? ⟨m,id,none⟩=some (ia (j.of[id]'(by omega))):=by rw[D.cellAt id (by omega),aC,aa (by omega)];rfl
   have z1:=D.frozenAt id;have L:ja a u w cls Z q r (.slice (some ⟨m,0,none⟩) j.of.length E) k j:=d;unfold ia at z0;go_wp2;go_region;go_wp2;go_ret;rw[O];refine⟨rfl,q,r,A.trans (Fr.set _ _ _ (by rw[s];rfl) rfl),?_⟩;rw[s];simpa using (ja.setOf L id v.txt (T:=(u.setCell ⟨m,id,none⟩ (.string (bs v.txt))).drew) rfl rfl rfl rfl)
structure Am(w0 w:World)(yb:Nat)(cls:List Nat)(cv nv tv ov:Value)(ns ts:List (List UInt8))(st:gH): Prop where
 b0:bg w0 w
 hyb:w0.heap.size<=yb
 y:w.heap[yb]?=some (.cells (lV cv nv tv ov st.e st.at_) 115 (0,0))
 c:w.ownsRow w0.heap.size 3 1 cv cls.length (cls.map λ(k:Nat)=>Value.int .i64 k)
 n:w.ownsRow w0.heap.size 9 1 nv ns.length (ns.map ia)
 t:w.ownsRow w0.heap.size 9 1 tv ts.length (ts.map ia)
 o:w.ownsRow w0.heap.size 9 1 ov st.of.length (st.of.map ia)
 cy:cv.ownBlock≠some yb
 ny:nv.ownBlock≠some yb
 ty:tv.ownBlock≠some yb
 oy:ov.ownBlock≠some yb
 cn:apart cv nv
 ct:apart cv tv
 co:apart cv ov
 nt:apart nv tv
 no:apart nv ov
 QD:apart tv ov
theorem ja.X5{cls}{d e}(h:ja a b w cls d e z K Y u):Am a b w cls d e z K (Y.map (·.1)) (Y.map (·.2.txt)) u:=
 ⟨h.b0,h.hyb,h.y,h.c,by rw[aO,dO];exact h.n,by rw[aO,dO];exact h.t,h.o,h.cy,h.ny,h.ty,h.oy,h.cn,h.ct,h.co,h.nt,h.no,h.QD⟩
theorem Am.Q0{cls}{d e}(h:Am a b w cls d e z K (Y.map (·.1)) (Y.map (·.2.txt)) u):ja a b w cls d e z K Y u:=
 ⟨h.b0,h.hyb,h.y,h.c,by have:=h.n;rw[aO,dO]at this;exact this,by have:=h.t;rw[aO,dO]at this;exact this,h.o,h.cy,h.ny,h.ty,h.oy,h.cn,h.ct,h.co,h.nt,h.no,h.QD⟩
theorem Am.Q1{cls}{s}(h:Am a b w cls c s z K L P u)(C:(b.alloc I).grownBy T s.ownBlock)(D:T.ownsRow 0 9 1 (.slice (some ⟨d,0,none⟩) (L.length+1) v) (L.length+1) (L.map ia++[ia N]))(B:s.ownBlock=some d\/(b.alloc I).heap.size<=d)(E:O=T.setCell ⟨w,1,none⟩ (.slice (some ⟨d,0,none⟩) (L.length+1) v)):Am a O w cls c (.slice (some ⟨d,0,none⟩) (L.length+1) v) z K (L++[N]) P u/\Fr b O w s z K (.slice (some ⟨d,0,none⟩) (L.length+1) v) z:=by
 subst E;obtain⟨p,r⟩:=push 1 (aG h.y) h.ny (fp.alloc bS I) C D B;obtain⟨e,F,_⟩:=p.keep h.c h.cy h.cn;obtain⟨f,_,G⟩:=p.keep h.t h.ty h.nt.symm;obtain⟨m,_,H⟩:=p.keep h.o h.oy h.no.symm;have q:∀d,s.ownBlock=some d->a.heap.size<=d:=λd i=>(h.n.lt d i).1;have:=h.b0.size;exact⟨⟨p.below h.b0 h.hyb q,h.hyb,p.blk h.y,e,eA (by simpa using r) λk i=>(p.own k i).elim (q k) (by omega),f,m,h.cy,p.ne,h.ty,h.oy,F,h.ct,h.co,G,H,h.QD⟩,p.size,λk i j l _ _=>p.kp k i j l,p.own,λ_ h=>aD h⟩
theorem Am.Em{w3}{cls}{m}{g cap:Nat}{A}(h:Am a b w cls c m z K L P u)(v:(b.alloc A).grownBy w3 z.ownBlock)(B:w3.ownsRow 0 9 1 (.slice (some ⟨g,0,none⟩) (P.length+1) cap) (P.length+1) (P.map ia++[ia N]))(s:z.ownBlock=some g\/(b.alloc A).heap.size<=g)(C:T=w3.setCell ⟨w,2,none⟩ (.slice (some ⟨g,0,none⟩) (P.length+1) cap)):Am a T w cls c m (.slice (some ⟨g,0,none⟩) (P.length+1) cap) K L (P++[N]) u/\Fr b T w m z K m (.slice (some ⟨g,0,none⟩) (P.length+1) cap):=by
 subst C;obtain⟨p,r⟩:=push 2 (aG h.y) h.ty (fp.alloc bS A) v B s;obtain⟨d,D,_⟩:=p.keep h.c h.cy h.ct;obtain⟨e,E,_⟩:=p.keep h.n h.ny h.nt;obtain⟨f,_,F⟩:=p.keep h.o h.oy h.QD.symm;have q:∀g,z.ownBlock=some g->a.heap.size<=g:=λg i=>(h.t.lt g i).1;have:=h.b0.size;exact⟨⟨p.below h.b0 h.hyb q,h.hyb,p.blk h.y,d,e,eA (by simpa using r) λk i=>(p.own k i).elim (q k) (by omega),f,h.cy,h.ny,p.ne,h.oy,h.cn,D,h.co,E,h.no,F⟩,p.size,λk i j _ l _=>p.kp k i j l,λ_ h=>aD h,p.own⟩
theorem Am.X6{cls}{s A}(h:Am a b w cls s (.slice (some ⟨d,0,none⟩) (L.length+1) v) A z (L++[N]) P u):Am a (b.setCell ⟨w,1,none⟩ (.slice (some ⟨d,0,none⟩) L.length v)) w cls s (.slice (some ⟨d,0,none⟩) L.length v) A z L P u:=by
 have m:∀f,f≠w->(b.setCell ⟨w,1,none⟩ (.slice (some ⟨d,0,none⟩) L.length v)).heap[f]?=b.heap[f]?:=λf B=>lu B;have j:∀(i:Value)(l:Nat)(q:TypeId)(n:Nat)(r:List Value),b.ownsRow l q 1 i n r->i.ownBlock≠some w->(b.setCell ⟨w,1,none⟩ (.slice (some ⟨d,0,none⟩) L.length v)).ownsRow l q 1 i n r:=
  λi l q n r C h1=>bO C (λk D=>m k (λe=>h1 (by rw[<-e];exact D)))
 have E:b.ownsRow a.heap.size 9 1 (.slice (some ⟨d,0,none⟩) L.length v) L.length (L.map ia):=by
  refine mJ (last:=[ia N]) (by simp) ?_;have:=h.n;simpa using this
 refine⟨?_,h.hyb,(bu h.y 1 _).trans rfl,j _ _ _ _ _ h.c h.cy,j _ _ _ _ _ E h.ny,j _ _ _ _ _ h.t h.ty,j _ _ _ _ _ h.o h.oy,h.cy,h.ny,h.ty,h.oy,h.cn,h.ct,h.co,h.nt,h.no,h.QD⟩;exact h.b0.setCell (p:=⟨w,1,none⟩) h.hyb _
theorem Am.X7{cls}{s A}(h:Am a b w cls s A (.slice (some ⟨d,0,none⟩) (P.length+1) v) z L (P++[N]) u):Am a (b.setCell ⟨w,2,none⟩ (.slice (some ⟨d,0,none⟩) P.length v)) w cls s A (.slice (some ⟨d,0,none⟩) P.length v) z L P u:=by
 have m:∀f,f≠w->(b.setCell ⟨w,2,none⟩ (.slice (some ⟨d,0,none⟩) P.length v)).heap[f]?=b.heap[f]?:=λf B=>lu B;have j:∀(i:Value)(l:Nat)(q:TypeId)(n:Nat)(r:List Value),b.ownsRow l q 1 i n r->i.ownBlock≠some w->(b.setCell ⟨w,2,none⟩ (.slice (some ⟨d,0,none⟩) P.length v)).ownsRow l q 1 i n r:=
  λi l q n r C h1=>bO C (λk D=>m k (λe=>h1 (by rw[<-e];exact D)))
 have E:b.ownsRow a.heap.size 9 1 (.slice (some ⟨d,0,none⟩) P.length v) P.length (P.map ia):=by
  refine mJ (last:=[ia N]) (by simp) ?_;have:=h.t;simpa using this
 refine⟨?_,h.hyb,(bu h.y 2 _).trans rfl,j _ _ _ _ _ h.c h.cy,j _ _ _ _ _ h.n h.ny,j _ _ _ _ _ E h.ty,j _ _ _ _ _ h.o h.oy,h.cy,h.ny,h.ty,h.oy,h.cn,h.ct,h.co,h.nt,h.no,h.QD⟩;exact h.b0.setCell (p:=⟨w,2,none⟩) h.hyb _
theorem Am.wO{cls}(h:Am a b w cls c y z K L P u):∃d e,y=.slice d L.length e/\(0<L.length->∃g,d=some ⟨g,0,none⟩):=by
 rcases h.n.2 with⟨f,i⟩|⟨g,e,j,f,_⟩
 ·exact⟨none,0,by rw[f,i],λh=>by omega⟩
 ·exact⟨_,e,f,λ_=>⟨g,rfl⟩⟩
theorem Am.wP{cls}(h:Am a b w cls c y z K L P u):∃d e,z=.slice d P.length e/\(0<P.length->∃g,d=some ⟨g,0,none⟩):=by
 rcases h.t.2 with⟨f,i⟩|⟨g,e,j,f,_⟩
 ·exact⟨none,0,by rw[f,i],λh=>by omega⟩
 ·exact⟨_,e,f,λ_=>⟨g,rfl⟩⟩
theorem Ho{cls}(hf:sZ a w cls M)(id k b:Nat)(F)(d:dc)(p)(J nv U C)(c)(B)(z)(hT:gS a F M id k b)(V:ja a c w cls J nv U C d p)(hid:id+M.cnt<=p.of.length)(N:k+M.dn<=cls.length)(hs1:∀x∈d,x.2.fit)(hs2:p.e=0->∀x∈d,x.2.size<=63)(ht1:z.fit)(Q2:p.e=0->z.size<=63)(wN:d.length+1+M.cnt<=9000):Calls prog 143 #[ptr w,.string (bs B),.string (bs z.txt),ptr b] c λv w'=>v=.returned (.string (bs (aV cls M id k (d++[(B,z)]) p).1.txt))/\∃X Y,Fr c w' w nv U C X Y/\ja a w' w cls J X Y C d (aV cls M id k (d++[(B,z)]) p).2:=by
 obtain⟨i0,hi,Z,hz1,hz2⟩:=cI vw;have O:=V.X5;obtain⟨na,nc,o,_⟩:=O.wO;obtain⟨R,S,m,_⟩:=O.wP;rw[aO]at o m;have T:=O.y;have Kx:=aG T;rw[o,m]at T;have y1:cg c w 1 (.slice na d.length nc):=dR T rfl;have y2:cg c w 2 (.slice R d.length S):=dR T rfl;have f1:=aK T 1;have f2:=aK T 2;have hown:c.ownsRow 0 9 1 (.slice na d.length nc) d.length (d.map λx=>ia x.1):=by
  rw[<-o];exact eA V.n (λ_ _=>ld)
 have tY:c.ownsRow 0 9 1 (.slice na d.length nc) d.length (d.map λx=>ia x.1):=hown;show Calls _ _ #[Value.pointer (some ⟨w,0,none⟩),_,_,Value.pointer (some ⟨b,0,none⟩)] c _;go_in;go_wp2_with (at_builtin;go_must (refine mV _ rfl (.tmp 20) (.tmp 22) 68 rfl 9 i0 _ 1 16 oJ hi Z hz1 hz2 rfl (by decide) (.slice na d.length nc) d.length (d.map λx=>ia x.1) rfl (tY.alloc _) ⟨c.heap.size,0,none⟩ 1 1 [ia B] rfl rfl ?d1 ?d2 (by decide) ?d3 ?d4 ?_))
 case d1=>
  intro j' u f
  match j',f with
  |0,f=>simp at f;subst f;simp[Addr.add,ia]
  |j'+1,f=>simp at f
 case d2=>intro u hu;simp at hu;subst hu;rfl
 case d3=>unfold maxLen;omega
 case d4=>omega
 intro E G D zk UY X8;have Fu:=Am.Q1 (N:=B) (O:=D.setCell ⟨w,1,none⟩ (.slice (some ⟨E,0,none⟩) (d.length+1) G)) O (by rw[o];exact UY) (by rw[aO,dO];exact zk) (by rw[o];simpa using X8) (by rw[aO]);rw[aO]at Fu;obtain⟨hG1,X9⟩:=Fu;have Ow:Am a (D.setCell ⟨w,1,none⟩ (.slice (some ⟨E,0,none⟩) (d.length+1) G)) w cls J (.slice (some ⟨E,0,none⟩) (d.length+1) G) U C (d.map (·.1)++[B]) (d.map (·.2.txt)) p:=hG1;have A:D.heap[w]?=some (.cells (lV J nv U C p.e p.at_) 115 (0,0)):=by
  rw[UY.block w (by simp;omega) (λe=>O.ny (by rw[o];exact e.symm)),cV _ _ _ Kx];exact O.y
 have UZ:=aG A;rw[o,m]at A;have y13:cg D w 1 (.slice na d.length nc):=dR A rfl;have y23:cg D w 2 (.slice R d.length S):=dR A rfl;have f13:=aK A 1;have f23:=aK A 2;have P:(D.setCell ⟨w,1,none⟩ (.slice (some ⟨E,0,none⟩) (d.length+1) G)).ownsRow 0 9 1 (.slice R d.length S) d.length (d.map λx=>ia x.2.txt):=by
  have h:=eA (b:=0) hG1.t (λ_ _=>ld);rw[aO,dO,m]at h;exact h
 have Q:(D.setCell ⟨w,1,none⟩ (.slice (some ⟨E,0,none⟩) (d.length+1) G)).ownsRow 0 9 1 (.slice R d.length S) d.length (d.map λx=>ia x.2.txt):=P;have Ya:(D.setCell ⟨w,1,none⟩ (.slice (some ⟨E,0,none⟩) (d.length+1) G)).heap.size=D.heap.size:=by simp[World.setCell]
 have q:Hid _:=Ya;go_wp2_with (at_builtin;go_must (refine mV _ rfl (.tmp 30) (.tmp 32) 68 rfl 9 i0 _ 1 16 oJ hi Z hz1 hz2 rfl (by decide) (.slice R d.length S) d.length (d.map λx=>ia x.2.txt) rfl (Q.alloc _) ⟨D.heap.size,0,none⟩ 1 1 [ia z.txt] rfl rfl ?e1 ?e2 (by decide) ?e3 ?e4 ?_))
 case e1=>
  intro j' u f
  match j',f with
  |0,f=>
   simp only[aL,ai]at f;subst f;exact (World.cell?_alloc_at _ _ _ _ q.symm).trans rfl
  |j'+1,f=>simp at f
 case e2=>intro u hu;simp at hu;subst hu;rfl
 case e3=>unfold maxLen;omega
 case e4=>omega
 intro g2 c2 w5 Hp QE Yb;have My:=Am.Em (N:=z.txt) (T:=w5.setCell ⟨w,2,none⟩ (.slice (some ⟨g2,0,none⟩) (d.length+1) c2)) Ow (by rw[m];exact QE) (by rw[aO,dO];exact Hp) (by rw[m];rcases Yb with h|h;exact aD h;exact aE (by rw[iO,q.out];exact h)) (by rw[aO]);rw[aO]at My;obtain⟨hG2,Yc⟩:=My;have Ox:ja a (w5.setCell ⟨w,2,none⟩ (.slice (some ⟨g2,0,none⟩) (d.length+1) c2)) w cls J (.slice (some ⟨E,0,none⟩) (d.length+1) G) (.slice (some ⟨g2,0,none⟩) (d.length+1) c2) C (d++[(B,z)]) p:=by
  apply Am.Q0;rw[bz,bz];exact hG2
 have hfo:=hf id k b F (d++[(B,z)]) p J _ _ C _ hT Ox hid N (by intro x hx;rcases aA.1 hx with h|h;exact hs1 x h;simp at h;subst h;exact ht1) (by intro h0 x hx;rcases aA.1 hx with h|h;exact hs2 h0 x h;simp at h;subst h;exact Q2 h0) (by simp;omega);have H:w5.heap[w]?=some (.cells (lV J (.slice (some ⟨E,0,none⟩) (d.length+1) G) U C p.e p.at_) 115 (0,0)):=by
  rw[QE.block w (by rw[iO,q.out];omega) (λe=>O.ty (by rw[m];exact e.symm)),cV _ _ _ (by rw[q.out];exact UZ)];exact Ow.y
 rw[m]at H;have y15:cg w5 w 1 (.slice (some ⟨E,0,none⟩) (d.length+1) G):=dR H rfl;have y25:cg w5 w 2 (.slice R d.length S):=dR H rfl;have f25:=aK H 2;unfold ptr at hfo;go_wp2_with fail;refine hfo.mono ?_;rintro e w7 ⟨rfl,nv7,tv7,hs7,Yd⟩;have i:=Yd.X5;rw[bz,bz]at i;obtain⟨na7,j,r,Ye⟩:=i.wO;obtain⟨ta7,l,s,Yf⟩:=i.wP;obtain⟨I,hg7⟩:=Ye (by simp);obtain⟨K,Ur⟩:=Yf (by simp);have el:(d.map (λx=>x.1)++List.map (λx=>x.1) [(B,z)]).length=d.length+1:=by simp
 have el2:(d.map (λx=>x.2.txt)++List.map (λx=>x.2.txt) [(B,z)]).length=d.length+1:=by simp
 rw[el,hg7]at r;rw[el2,Ur]at s;have aah:d.length+1<=j:=by
  have h:=i.n.2;rw[r,el]at h;rcases h with⟨h,_⟩|⟨g,cap,cur,h,_,_,h3,_⟩
  ·cases h
  ·simp only[bN]at h;omega
 have aai:d.length+1<=l:=by
  have h:=i.t.2;rw[s,el2]at h;rcases h with⟨h,_⟩|⟨g,cap,cur,h,_,_,h3,_⟩
  ·cases h
  ·simp only[bN]at h;omega
 rw[r,s]at i;obtain⟨st7,L⟩:=ez ((aV cls M id k (d++[(B,z)]) p).2);rw[<-L]at i;have y17:cg w7 w 1 (.slice (some ⟨I,0,none⟩) (d.length+1) j):=dR i.y rfl;have y27:cg w7 w 2 (.slice (some ⟨K,0,none⟩) (d.length+1) l):=dR i.y rfl;have f17:=aK i.y 1;have f27:=aK i.y 2;have hP:Am a ((w7.setCell ⟨w,1,none⟩ (.slice (some ⟨I,0,none⟩) d.length j)).setCell ⟨w,2,none⟩ (.slice (some ⟨K,0,none⟩) d.length l)) w cls J (.slice (some ⟨I,0,none⟩) d.length j) (.slice (some ⟨K,0,none⟩) d.length l) C (d.map (·.1)) (d.map (·.2.txt)) st7:=by
  have l1:(d.map (λx=>x.1)).length=d.length:=by simp
  have l2:(d.map (λx=>x.2.txt)).length=d.length:=by simp
  have q2:=Am.X7 (P:=d.map (λx=>x.2.txt)) (N:=z.txt) (d:=K) (v:=l) (by rw[l2];exact (Am.X6 (L:=d.map (λx=>x.1)) (N:=B) (d:=I) (v:=j) (by rw[l1];exact i)));rw[l1,l2]at q2;exact q2
 have Yg:=(X9.trans Yc).trans hs7;rw[r,s]at Yg;go_wp2;go_ret;refine⟨rfl,.slice (some ⟨I,0,none⟩) d.length j,.slice (some ⟨K,0,none⟩) d.length l,?_,?_⟩
 ·have h:=Yg;have h2:=(h.trans ((Fr.grown (w:=w) (nR w7 ⟨w,1,none⟩ (.slice (some ⟨I,0,none⟩) d.length j)) (.slice (some ⟨I,0,none⟩) (d.length+1) j) (.slice (some ⟨K,0,none⟩) (d.length+1) l) C))).trans ((Fr.grown (w:=w) (nR (w7.setCell ⟨w,1,none⟩ (.slice (some ⟨I,0,none⟩) d.length j)) ⟨w,2,none⟩ (.slice (some ⟨K,0,none⟩) d.length l)) (.slice (some ⟨I,0,none⟩) (d.length+1) j) (.slice (some ⟨K,0,none⟩) (d.length+1) l) C));exact⟨h2.size,h2.blk,h2.n,h2.t⟩
 rw[<-L];exact hP.Q0
