import Derived.Test.YtpicaknklgccoaaGreatDoorK11
set_option maxHeartbeats 2000000
set_option maxRecDepth 100000
namespace Go.Proofs.YtpicaknklgccoaaGreatDoor
open Tryz
variable {w b u N:Nat}{a k:jF}{c d V A:World}{x v:Value}{y G:List UInt8}{z:ni}{K U:MM}{L X:PT}{P:dc}{T Z:Ty}{M:jF -> Vl × jF}{Y:Kw}{R I:List (List UInt8)}{O:MV}{B:Sc}{Q:Vl}{E:List MC}{S:Nat -> Prop}{H:List MV}{J:List PT}{W:Obj}
abbrev ay:=@Calls.mono
theorem O2(c)(k)(a b:Int)(d:0<=a/\a<=9999)(e:0<=b/\b<=9999):Fits c .n ⟨false,qI k a b⟩:=by
 simp[Fits,qI];split
 ·rw[dD (by omega)];omega
 ·split
  ·rw[dD (by omega)];omega
  ·split<;>omega
theorem MK(h:Fits K.cells (.p w T Z) O):Fits K.cells T (K.use O).1.a/\Fits K.cells Z (K.use O).1.b:=by
 rcases h with h|⟨g,i,c,d,f,j,k⟩
 ·have e:(K.use O).1=c0:=by unfold MM.use;rw[ah (aD h.1)]
  rw[e];exact⟨yh _ _,yh _ _⟩
 ·have l:=(ae.1 f).1;have e:(K.use O).1=c:=by
   unfold MM.use;rw[ag (by rw[g,d];simp;omega)];rw[d,bL,aZ,f];rfl
  rw[e];exact⟨j,k⟩
theorem Rk{k:Int}{b}(c:Fits K.cells T O)(d:Fits K.cells Z b):Fits (K.ep k O b).2.cells (.p 0 T Z) (K.ep k O b).1:=by
 have e:=H8 K k O b 0 0;unfold MM.ep at e⊢;split
 ·exact yh _ _
 ·rename_i r f;simp only[Fits];refine aE ⟨trivial,K.cells.length,⟨O,b,K.home k,r.lA⟩,rfl,by simp,c.mono,d.mono⟩
theorem jr(g:Nat){G:dc}{t}(h:WT G t T):∀(l:Sc)(d:Nat)(m:MM),t.DP->EF m.named m.cells l G d->d+t.cnt<=m.named.length->Cc m (mW g t l d m) d t.cnt T:=by
 induction h with
 |num=>
  intro l d m q r u;exact lX ⟨Ext.refl _ _ _,by simp[Fits];exact q⟩
 |name K=>
  intro l d m q r u;simp[mW];refine lX ⟨Ext.refl _ _ _,?_⟩;obtain⟨i,v,h1,h2,h3,Q⟩:=r _ _ K;unfold MM.look;simp only[h1];rw[ag (by omega),bL,aZ,h3];exact Q
 |@dV G p C z a b A B E J o s=>
  intro l d m q r u;simp[PT.cnt,aU]at u⊢;simp only[mW,KG,bT,reduceCtorEq,aT];refine lX ?_;have h1:=o l d {m with steps:=m.steps+1} q.2.1 r (by simp only;omega);generalize mW g a l d {m with steps:=m.steps+1}=x at h1⊢;have R:=fj a;have w:x.2.named.length=m.named.length:=h1.1.len;have F:=EF.on (a:={m with steps:=m.steps+1}) r h1.1 bS;rw[show (((d+a.cnt:Nat):Int)-1)=((d+a.cnt-1:Nat):Int) from by omega];have D:=F.snoc (nm:=C) (j:=d+a.cnt-1) (by omega) (by omega) h1.2;rw[show d+a.cnt-1+1=d+a.cnt from by omega]at D;have I:=mQ x.2 (d+a.cnt-1) x.1 d a.cnt (by omega);have h2:=s _ (d+a.cnt) _ q.2.2.1 D (by rw[I.len,w];omega);exact⟨(h1.1.trans I (b:=d) (c:=a.cnt) (by omega) (by omega)).trans h2.1 (by omega) (by omega),h2.2⟩
 |@pair G p C z a b A B E J hs o s=>
  intro l d m q r u;simp[PT.cnt,aU]at u⊢;simp only[mW,qh,bT,reduceCtorEq,aT];refine lX ?_;have h1:=o l d {m with steps:=m.steps+1} q.2.1 r (by simp only;omega);generalize mW g a l d {m with steps:=m.steps+1}=x at h1⊢;have w:x.2.named.length=m.named.length:=h1.1.len;have h2:=s l (d+a.cnt) x.2 q.2.2.1 ((EF.on (a:={m with steps:=m.steps+1}) r h1.1 bS).up (by omega)) (by omega);generalize mW g b l (d+a.cnt) x.2=y at h2⊢;have h3:=H8 y.2 (aQ z) x.1 y.1 d (1+(a.cnt+b.cnt));exact⟨(h1.1.trans h2.1 (b:=d) (c:=a.cnt+b.cnt) (by omega) (by omega)).trans h3 (by omega) (by omega),Rk (h1.2.on h2.1) h2.2⟩
 |@fst G p C z a A B E o=>
  intro l d m q r u;simp[PT.cnt,aU]at u⊢;simp only[mW,qh,bT,reduceCtorEq,aT];refine lX ?_;have h1:=o l d {m with steps:=m.steps+1} q.2.1 r (by simp only;omega);generalize mW g a l d {m with steps:=m.steps+1}=x at h1⊢;have h3:=MJ x.2 x.1 d a.cnt;exact⟨h1.1.trans h3 (by omega) (by omega),(MK h1.2).1.on h3⟩
 |@snd G p C z a A B E o=>
  intro l d m q r u;simp[PT.cnt,aU]at u⊢;simp only[mW,qh,reduceCtorEq,aT];refine lX ?_;have h1:=o l d {m with steps:=m.steps+1} q.2.1 r (by simp only;omega);generalize mW g a l d {m with steps:=m.steps+1}=x at h1⊢;have h3:=MJ x.2 x.1 d a.cnt;exact⟨h1.1.trans h3 (by omega) (by omega),(MK h1.2).2.on h3⟩
 |@lv G p C z a b c T E J S o s H=>
  intro l d m q r u;simp[PT.cnt,aU]at u⊢;simp only[mW,Yu,bT,reduceCtorEq,aT];refine lX ?_;have h1:=o l d {m with steps:=m.steps+1} q.2.1 r (by simp only;omega);generalize mW g a l d {m with steps:=m.steps+1}=x at h1⊢;have w:x.2.named.length=m.named.length:=h1.1.len;have F:=EF.on (a:={m with steps:=m.steps+1}) r h1.1 bS;split
  ·have h2:=s l (d+a.cnt) x.2 q.2.2.1 (F.up (by omega)) (by omega);exact⟨h1.1.trans h2.1 (by omega) (by omega),h2.2⟩
  ·have h2:=H l (d+a.cnt+b.cnt) x.2 q.2.2.2.1 (F.up (by omega)) (by omega);exact⟨h1.1.trans h2.1 (by omega) (by omega),h2.2⟩
 |@two G p k C z a b U E J o s=>
  intro l d m q r u;simp[PT.cnt,aU]at u⊢;have e:mW g (.node p k C z [a,b]) l d m=jj g m (λm=>(⟨false,qI k (mW g a l d m).1.n (mW g b l (d+a.cnt) (mW g a l d m).2).1.n⟩,(mW g b l (d+a.cnt) (mW g a l d m).2).2)):=by
   rcases U with rfl|rfl|rfl<;>simp only[mW,qh,reduceCtorEq,aT]
  rw[e];refine lX ?_;have h1:=o l d {m with steps:=m.steps+1} q.2.1 r (by simp only;omega);generalize mW g a l d {m with steps:=m.steps+1}=x at h1⊢;have w:x.2.named.length=m.named.length:=h1.1.len;have h2:=s l (d+a.cnt) x.2 q.2.2.1 ((EF.on (a:={m with steps:=m.steps+1}) r h1.1 bS).up (by omega)) (by omega);have V:=h1.2;have W:=h2.2;exact⟨h1.1.trans h2.1 (by omega) (by omega),O2 _ _ _ _ V.2 W.2⟩
 |@loop G p C z a b c T E J S o s H=>
  intro l d m q r u;simp[PT.cnt,aU]at u⊢;simp only[mW,B6,bT,reduceCtorEq,aT];refine lX ?_;have h1:=o l d {m with steps:=m.steps+1} q.2.1 r (by simp only;omega);generalize mW g a l d {m with steps:=m.steps+1}=x at h1⊢;have w:x.2.named.length=m.named.length:=h1.1.len;have F:=EF.on (a:={m with steps:=m.steps+1}) r h1.1 bS;have h2:=s l (d+a.cnt) x.2 q.2.2.1 (F.up (by omega)) (by omega);generalize mW g b l (d+a.cnt) x.2=y at h2⊢;have M:=h2.1.len.trans w;have X:=fj b;rw[show (((d+a.cnt+b.cnt:Nat):Int)-1)=((d+a.cnt+b.cnt-1:Nat):Int) from by omega];have O:=Ew (a:=d+a.cnt) (c:=b.cnt+c.cnt) (j:=d+a.cnt+b.cnt-1) (T:=T) (L:=m.named.length) (P:=λm=>EF m.named m.cells l G d) (f:=λm=>mW g c (l++[(C,((d+a.cnt+b.cnt-1:Nat):Int))]) (d+a.cnt+b.cnt) m) (by omega)
   (λY v N Z hL=>by
    have D:=EF.snoc (nm:=C) (j:=d+a.cnt+b.cnt-1) (EF.up N (show d<=d+a.cnt+b.cnt-1 by omega)) bS (by omega) Z;rw[show d+a.cnt+b.cnt-1+1=d+a.cnt+b.cnt from by omega]at D;have h3:=H _ (d+a.cnt+b.cnt) _ q.2.2.2.1 D (by rw[(mQ Y (d+a.cnt+b.cnt-1) v (d+a.cnt+b.cnt-1) 1 (by omega)).len];omega);exact⟨(Ext.refl _ (d+a.cnt) 0).trans h3.1 (by omega) (by omega),h3.2⟩)
   (λm1 m2 N hE=>EF.on N hE (by omega)) x.1.n.toNat y.1 y.2 (F.on h2.1 (by omega)) h2.2 M
  exact⟨(h1.1.trans h2.1 (b:=d) (c:=a.cnt+b.cnt) (by omega) (by omega)).trans O.1 (by omega) (by omega),O.2⟩
 |@new G p C z a T E o=>
  intro l d m q r u;simp[PT.cnt,aU]at u⊢;simp only[mW,DN,bT];have h1:=o l d (m.opn (aQ z)) q.2.1 r (by show _<=m.named.length;omega);generalize mW g a l d (m.opn (aQ z))=x at h1⊢;have h0:Ext m (m.opn (aQ z)) d a.cnt:=Ext.same (by rfl) (by rfl) _ _;have h3:=Vm x.2 d a.cnt;exact⟨(h0.trans h1.1 (b:=d) (c:=a.cnt) (by omega) (by omega)).trans h3 (by omega) (by omega),h1.2.on h3⟩
def oC(d:List MC):Vl->MV->Prop
 |.n k,v=>v.c=false/\v.n=k/\k<=9999
 |.p a b,v=>v.c=true/\∃(i:Nat)(c:MC),v.n=i/\d[i]?=some c/\oC d a c.a/\oC d b c.b
theorem oC.mono{d l}:∀{x:Vl}{v:MV},oC d x v->oC (d++l) x v
 |.n _,_,h=>h
 |.p a b,_,h=>by
  obtain⟨f,i,c,g,e,j,k⟩:=h;refine⟨f,i,c,g,?_,oC.mono j,oC.mono k⟩;rw[ak (ae.1 e).1];exact e
theorem oC.on(h:oC K.cells Q O)(a:Ext K U b w):oC U.cells Q O:=by
 obtain⟨l,d⟩:=a.cells;rw[d];exact h.mono
theorem oC.fits:∀{x:Vl}{T:Ty}{v:MV},oC E x v->x.has T->Fits E T v
 |.n k,.n,v,h,_=>by simp[oC]at h;simp[Fits];exact⟨h.1,by omega,by omega⟩
 |.p a b,.p _ A B,v,h,d=>by
  obtain⟨e,i,c,f,g,j,l⟩:=h;exact aE ⟨e,i,c,f,g,j.fits d.1,l.fits d.2⟩
 |.n _,.p _ _ _,_,_,d=>by simp[Vl.has]at d
 |.p _ _,.n,_,_,d=>by simp[Vl.has]at d
theorem A9{a}:∀{T:Ty}{v:MV},Fits a T v->∃x,oC a x v/\x.size<=T.size
 |.n,v,h=>by simp[Fits]at h;exact⟨.n v.n.toNat,by simp[oC];exact⟨h.1,by omega,by omega⟩,by simp[Vl.size]⟩
 |.p r A B,v,h=>by
  rcases h with h|⟨b,i,c,d,e,f,g⟩
  ·exact⟨.n v.n.toNat,by simp[oC];exact⟨h.1,by omega,by omega⟩,by simp[Vl.size]⟩
  ·obtain⟨x,j,k⟩:=A9 f;obtain⟨y,l,m⟩:=A9 g;exact⟨.p x y,by simp only[oC];exact⟨b,i,c,d,e,j,l⟩,by simp[Vl.size,Ty.size];omega⟩
structure Sm(fuel:Nat)(st:jF)(m:MM): Prop where
 e:st.e=0
 f:m.fault=0
 s:m.steps=st.steps
 le:st.steps<=fuel
 c:m.cells.length=st.cells
 r:m.regs=[⟨-1,0,st.cells⟩]
 l:m.live=st.cells
 o:m.most=st.cells
 h:∀c∈m.cells,c.home=0/\c.lA=0
def Rl(a:jF)(m:MM):Prop:=a.e=12/\m.fault=12
def zx(a:Nat)(y:Vl×jF)(x:MV×MM)(T:Ty):Prop:=(Sm a y.2 x.2/\oC x.2.cells y.1 x.1/\y.1.has T)\/Rl y.2 x.2
def ER(a:List MV)(b:List MC)(e:Sc)(c:ni)(G:dc)(d:Nat):Prop:=∀s T,look G s=some T->∃(i:Nat)(v:MV),gb e s=(i:Int)/\i<d/\a[i]?=some v/\oC b (tU c s) v/\(tU c s).has T
theorem ER.ef(h:ER H E B z P w):EF H E B P w:=by
 intro s T a;obtain⟨i,v,h1,h2,h3,b,c⟩:=h s T a;exact⟨i,v,h1,h2,h3,b.fits c⟩
theorem ER.on(h:ER K.named K.cells B z P w)(a:Ext K U b u)(g:w<=b):ER U.named U.cells B z P w:=by
 intro s T d;obtain⟨i,v,h1,h2,h3,e,f⟩:=h s T d;exact⟨i,v,h1,h2,(a.named i (aD (by omega))).trans h3,e.on a,f⟩
theorem ER.up(h:ER H E B z P w)(e:w<=b):ER H E B z P b:=by
 intro s T a;obtain⟨i,v,h1,h2,h3,c,d⟩:=h s T a;exact⟨i,v,h1,by omega,h3,c,d⟩
theorem wY(a:ni)(b)(x)(s):tU (a++[(b,x)]) s=if b=s then x else tU a s:=by
 unfold tU;rw[fq];by_cases h:b=s
 ·simp[h]
 ·have:(b==s)=false:=by rw[aH];exact h
  simp[h,this]
theorem ER.snoc{j:Nat}{nm}(h:ER K.named K.cells B z P w)(o:w<=j)(d:j<K.named.length)(e:oC K.cells Q O)(f:Q.has T):ER (K.name (j:Int) O).named (K.name (j:Int) O).cells (B++[(nm,(j:Int))]) (z++[(nm,Q)]) (P++[(nm,T)]) (j+1):=by
 have c:=mQ K j O j 1 (by omega);intro s g a;rw[wW]at a;rw[qJ,wY];by_cases b:nm=s
 ·rw[ah b]at a⊢;rw[ah b];cases a;exact⟨j,O,rfl,by omega,FD K j O d,e.on c,f⟩
 ·rw[ag b]at a⊢;rw[ag b];obtain⟨i,u,h1,h2,h3,k,l⟩:=h s g a;exact⟨i,u,h1,by omega,(c.named i (aD (by omega))).trans h3,k.on c,l⟩
theorem Sm.name(h:Sm w a K)(i:Int)(v):Sm w a (K.name i v):=by
 unfold MM.name;split
 ·exact⟨h.e,h.f,h.s,h.le,h.c,h.r,h.l,h.o,h.h⟩
 ·exact h
theorem qz(m:MM)(f:Nat)(h:m.fault≠0):m.stop f=m:=by unfold MM.stop;rw[ag h]
theorem oQ(a:Nat)(m)(f)(h:m.fault≠0):jj a m f=(v0,m):=by
 unfold jj;have:(if a<=m.steps then m.stop 12 else m)=m:=by split<;>simp[qz m 12 h]
 simp only[this];rw[ah h]
theorem yj(a:Nat)(t)(b:ni)(c)(h:c.e≠0):ev a t b c=(.n 0,c):=by
 cases t<;>(simp only[ev,begun];rw[ah h])
inductive gL: PT->Prop
 |num {p:Nat} {s:List UInt8}:gL (.num p s)
 |name {p:Nat} {s:List UInt8}:gL (.name p s)
 |node {p:Nat} {k:Kw} {nm rg:List UInt8} {kids:List PT} (hk:k≠.new) (h:∀x∈kids,gL x):gL (.node p k nm rg kids)
theorem vJ(a:Nat)(t)(c:gL t)(d)(b:Nat)(m)(h:m.fault≠0):mW a t d b m=(v0,m):=by
 cases c with
 |num=>simp[mW];exact oQ a m _ h
 |name=>simp[mW];exact oQ a m _ h
 |node e _=>simp[mW];rw[ag e];exact oQ a m _ h
theorem O3(e:gL L)(d)(b:Nat)(c:ni)(h:Rl a K)(T):zx w (ev w L c a) (mW w L d b K) T:=by
 rw[yj w L c a (by rw[h.1];decide),vJ w L e d b K (by rw[h.2];decide)];exact aE h
theorem lY{g}(h:Sm w a K)(j:Sm w {a with steps:=a.steps+1} {K with steps:=K.steps+1}->zx w (M {a with steps:=a.steps+1}) (g {K with steps:=K.steps+1}) T):zx w (begun w a M) (jj w K g) T:=by
 unfold begun jj;have n:=h.s;have k:=h.le;rw[ag (λd=>d h.e)];by_cases i:a.steps=w
 ·rw[ah i];have b:w<=K.steps:=by omega
  simp[ah b];have e:K.stop 12={K with fault:=12}:=by unfold MM.stop;rw[ah h.f]
  rw[e];exact aE ⟨rfl,rfl⟩
 ·rw[ag i];have b:¬w<=K.steps:=by omega
  simp only[ag b];rw[ag (λd=>d h.f)];exact j ⟨h.e,h.f,by simp only;omega,by simp only;omega,h.c,h.r,h.l,h.o,h.h⟩
theorem Ex{d:Nat}{T}{j:Nat}{f}{g}{P:MM->Prop}(h:∀i m x v,P m->Sm d i m->oC m.cells x v->x.has T->zx d (f x i) (g (m.name (j:Int) v)) T/\P (g (m.name (j:Int) v)).2):∀(k:Nat)(i:jF)(m:MM)(x:Vl)(v:MV),P m->Sm d i m->oC m.cells x v->x.has T->zx d (turns f k x i) (j7 (j:Int) g k v m) T
 |0,i,m,x,v,_,l,o,p=>aD ⟨l,o,p⟩
 |k+1,i,m,x,v,r,l,o,p=>by
  simp only[turns,j7];rw[ag (λq=>q l.e),ag (λq=>q l.f)];obtain⟨h1,h2⟩:=h i m x v r l o p;rcases h1 with⟨a,b,c⟩|n
  ·exact Ex h k _ _ _ _ h2 a b c
  ·cases k with
   |zero=>exact aE n
   |succ k=>
    simp only[turns,j7];rw[ah (by rw[n.1];decide),ah (by rw[n.2];decide)];exact aE n
open Go.Lib (decDigits)
theorem KO(a:ni)(j:Nat)(b:j<a.length)(s:List UInt8):tU (a.take (j+1)) s=if a[j].1=s then a[j].2 else tU (a.take j) s:=by
 rw[bQ b,wY]
def wZ(a:ni)(G:dc):Prop:=∀s T,look G s=some T->(tU a s).has T
theorem wZ.snoc{nm}(h:wZ z P)(b:Q.has T):wZ (z++[(nm,Q)]) (P++[(nm,T)]):=by
 intro s U a;rw[vC]at a;rw[wY];by_cases e:nm=s
 ·rw[ah (by simpa using e)]at a;rw[ah e];cases a;exact b
 ·rw[ag (by simpa using e)]at a;rw[ag e];exact h s U a
def Res(T:Ty)(a:jF)(r:Vl×jF):Prop:=(r.2.e=0->a.e=0/\r.1.has T)/\(r.2.e≠0->r.1=.n 0)
theorem lZ(h:∀b:jF,b.e=0->a.e=0->Res T b (M b)):Res T a (begun w a M):=by
 unfold begun;split
 ·rename_i c;exact⟨λe=>absurd e c,λ_=>rfl⟩
 ·rename_i c;have d:a.e=0:=by simpa using c
  split
  ·exact⟨λe=>by simp at e,λ_=>rfl⟩
  ·have:=h {a with steps:=a.steps+1} d d;exact⟨λe=>⟨d,(this.1 e).2⟩,this.2⟩
theorem Ey{T}{f}(c:∀v a,(a.e=0->v.has T)->Res T a (f v a)):∀(k:Nat)(v:Vl)(a:jF),(a.e=0->v.has T)->(a.e≠0->v=.n 0)->Res T a (turns f k v a)
 |0,v,a,h1,h2=>⟨λe=>⟨e,h1 e⟩,h2⟩
 |k+1,v,a,h1,h2=>by
  unfold turns;split
  ·rename_i b;exact⟨λe=>absurd e b,h2⟩
  ·rename_i b;have g:a.e=0:=by simpa using b
   have d:=c v a h1;have:=Ey c k (f v a).1 (f v a).2 (λe=>(d.1 e).2) d.2;exact⟨λe=>⟨g,(this.1 e).2⟩,this.2⟩
theorem Vn(h:Q.has .n):∃k,Q=.n k/\k<=9999:=by
 cases Q with
 |n k=>exact⟨k,rfl,h⟩
 |p a b=>simp[Vl.has]at h
theorem gL.uB{p:Nat}(h:gL (.node p Y y G J)):∀x∈J,gL x:=by cases h with|node _ h=>exact h
theorem gL.kw{p:Nat}(h:gL (.node p Y y G J)):Y≠.new:=by cases h with|node h _=>exact h
def tz(a:Nat)(k:Kw)(b:List PT)(c:ni)(d:jF):Vl×jF:=
 if (lJ a b c d).2.e≠0 then (.n 0,(lJ a b c d).2) else mM k (lJ a b c d).1 (lJ a b c d).2
theorem FE(a:Nat)(k)(x)(b:ni)(c):tz a k [x] b c=if (ev a x b c).2.e≠0 then (.n 0,(ev a x b c).2) else mM k [(ev a x b c).1] (ev a x b c).2:=by
 unfold tz;simp only[lJ];rfl
theorem FG(a:Nat)(k)(x y)(b:ni)(c):tz a k [x,y] b c=if (ev a y b (ev a x b c).2).2.e≠0 then (.n 0,(ev a y b (ev a x b c).2).2) else mM k [(ev a x b c).1,(ev a y b (ev a x b c).2).1] (ev a y b (ev a x b c).2).2:=by
 unfold tz;simp only[lJ];rfl
theorem uC(a p:Nat)(k)(e f)(b)(c:ni)(d)(h1:k≠.dV)(h2:k≠.lv)(h3:k≠.loop):ev a (.node p k e f b) c d=begun a d (λd=>tz a k b c d):=by
 conv=>lhs;unfold ev
 simp only[ag h1,ag h2,ag h3];rfl
theorem uD(g:Nat)(h:WT P L T):∀(d:ni)(s:jF),L.eO->gL L->(s.e=0->wZ d P)->Res T s (ev g L d s):=by
 induction h with
 |num=>
  intro d s l m o;simp[PT.eO]at l;exact lZ (λi q _=>⟨λ_=>⟨q,by simp[Vl.has];omega⟩,λe=>absurd q e⟩)
 |name O=>
  intro d s l m o;exact lZ (λi q r=>⟨λ_=>⟨q,o r _ _ O⟩,λe=>absurd q e⟩)
 |@dV P p F J a b A B H K j w=>
  intro d s l m o;refine lZ (λi q r=>?_);have x:=j d i l.2.1 (m.uB _ (by simp)) (λ_=>o r);have y:=w (d++[(F,(ev g a d i).1)]) (ev g a d i).2 l.2.2.1 (m.uB _ (by simp)) (λe=>(o (by have:=(x.1 e).1;exact r)).snoc (x.1 e).2);exact⟨λe=>⟨q,(y.1 e).2⟩,y.2⟩
 |@pair P p F J a b A B H K Q j w=>
  intro d s l m o;rw[uC _ _ _ _ _ _ _ _ (by decide) (by decide) (by decide)];refine lZ (λi q r=>?_);have x:=j d i l.2.1 (m.uB _ (by simp)) (λ_=>o r);have y:=w d (ev g a d i).2 l.2.2.1 (m.uB _ (by simp)) (λ_=>o r);rw[FG];split
  ·rename_i C;exact⟨λe=>absurd e C,λ_=>rfl⟩
  ·rename_i C;have E:(ev g b d (ev g a d i).2).2.e=0:=by simpa using C
   have N:=y.1 E;refine⟨λ_=>⟨q,?_⟩,λe=>absurd E e⟩;exact⟨(x.1 N.1).2,N.2⟩
 |@fst P p F J a A B H j=>
  intro d s l m o;rw[uC _ _ _ _ _ _ _ _ (by decide) (by decide) (by decide)];refine lZ (λi q r=>?_);have x:=j d i l.2.1 (m.uB _ (by simp)) (λ_=>o r);rw[FE];split
  ·rename_i C;exact⟨λe=>absurd e C,λ_=>rfl⟩
  ·rename_i C;have E:(ev g a d i).2.e=0:=by simpa using C
   have D:=(x.1 E).2;refine⟨λ_=>⟨q,?_⟩,λe=>absurd E e⟩
   revert D
   generalize (ev g a d i).1=v;intro D;cases v with
   |n k=>simp[Vl.has]at D
   |p u v=>simp[Vl.has]at D;exact D.1
 |@snd P p F J a A B H j=>
  intro d s l m o;rw[uC _ _ _ _ _ _ _ _ (by decide) (by decide) (by decide)];refine lZ (λi q r=>?_);have x:=j d i l.2.1 (m.uB _ (by simp)) (λ_=>o r);rw[FE];split
  ·rename_i C;exact⟨λe=>absurd e C,λ_=>rfl⟩
  ·rename_i C;have E:(ev g a d i).2.e=0:=by simpa using C
   have D:=(x.1 E).2;refine⟨λ_=>⟨q,?_⟩,λe=>absurd E e⟩
   revert D
   generalize (ev g a d i).1=v;intro D;cases v with
   |n k=>simp[Vl.has]at D
   |p u v=>simp[Vl.has]at D;exact D.2
 |@lv P p F J a b c T H K R j w I=>
  intro d s l m o;refine lZ (λi q r=>?_);simp only[reduceCtorEq,aT,bT,DM];split
  ·have y:=w d (ev g a d i).2 l.2.2.1 (m.uB _ (by simp)) (λ_=>o r);exact⟨λe=>⟨q,(y.1 e).2⟩,y.2⟩
  ·have y:=I d (ev g a d i).2 l.2.2.2.1 (m.uB _ (by simp)) (λ_=>o r);exact⟨λe=>⟨q,(y.1 e).2⟩,y.2⟩
 |@two P p k F J a b M H K j w=>
  intro d s l m o;have S:k≠.dV:=by rcases M with rfl|rfl|rfl<;>decide
  have U:k≠.lv:=by rcases M with rfl|rfl|rfl<;>decide
  have V:k≠.loop:=by rcases M with rfl|rfl|rfl<;>decide
  rw[uC _ _ _ _ _ _ _ _ S U V];refine lZ (λi q r=>?_);rw[FG];split
  ·rename_i C;exact⟨λe=>absurd e C,λ_=>rfl⟩
  ·rename_i C;have E:(ev g b d (ev g a d i).2).2.e=0:=by simpa using C
   rcases M with rfl|rfl|rfl
   all_goals
    refine⟨λ_=>⟨q,?_⟩,λe=>absurd E e⟩;simp[mM,Vl.has]
    first|omega|(split<;>omega)
 |@loop P p F J a b c T H K R j w I=>
  intro d s l m o;refine lZ (λi q r=>?_);have y:=w d (ev g a d i).2 l.2.2.1 (m.uB _ (by simp)) (λ_=>o r);have z:=Ey (f:=λv s=>ev g c (d++[(F,v)]) s) (λv s W=>I (d++[(F,v)]) s l.2.2.2.1 (m.uB _ (by simp)) (λe=>(o r).snoc (W e))) (ev g a d i).1.num (ev g b d (ev g a d i).2).1 (ev g b d (ev g a d i).2).2 (λe=>(y.1 e).2) y.2;exact⟨λe=>⟨q,(z.1 e).2⟩,z.2⟩
 |new H j=>
  intro d s l m o;exact absurd rfl m.kw
def nH(b:Nat)(c a:jF):Prop:=c.steps<=b->a.steps<=b/\a.cells+c.steps<=c.cells+a.steps/\c.steps<=a.steps
theorem nH.refl(a:Nat)(b):nH a b b:=λh=>⟨h,by omega,by omega⟩
theorem nH.trans{b c}(h:nH w a b)(d:nH w b c):nH w a c:=λe=>by
 have h1:=h e;have h2:=d h1.1;exact⟨h2.1,by omega,by omega⟩
theorem xc(h:∀b:jF,b.steps=a.steps+1->b.cells=a.cells->b.steps<=w->(M b).2.steps<=w/\(M b).2.cells+b.steps<=b.cells+(M b).2.steps+1/\b.steps<=(M b).2.steps):nH w a (begun w a M).2:=by
 unfold begun;split
 ·exact nH.refl _ _
 ·split
  ·exact λh=>⟨h,by simp,by simp⟩
  ·rename_i c;intro d;have:=h {a with steps:=a.steps+1} rfl rfl (by simp only;omega);simp only at this⊢;omega
theorem Cd{a:Nat}{f}(c:∀v b,nH a b (f v b).2):∀(k:Nat)(v:Vl)(b:jF),nH a b (turns f k v b).2
 |0,_,b=>nH.refl _ _
 |k+1,v,b=>by
  unfold turns;split
  ·exact nH.refl _ _
  ·exact (c v b).trans (Cd c k _ _)
theorem O4(k)(b)(a):(mM k b a).2.steps=a.steps/\(mM k b a).2.cells<=a.cells+1:=by
 unfold mM;split<;>simp
mutual
theorem nZ(d:Nat):∀(t:PT)(e:ni)(f:jF),nH d f (ev d t e f).2
 |.num _ s,e,f=>by
  unfold ev;exact xc (λi _ _ h=>⟨h,by simp,bS⟩)
 |.name _ s,e,f=>by
  unfold ev;exact xc (λi _ _ h=>⟨h,by simp,bS⟩)
 |.node _ k l _ g,e,f=>by
  unfold ev;refine xc (λi _ _ h=>?_);split
  ·have:=KP d l g e i h;omega
  ·split
   ·have:=O5 d g e i h;omega
   ·split
    ·have:=H9 d l g e i h;omega
    ·have:=Aw d g e i h;simp only;split
     ·simp only;omega
     ·have:=O4 k (lJ d g e i).1 (lJ d g e i).2;omega
theorem Aw(d:Nat):∀(j:List PT)(e:ni)(f:jF),nH d f (lJ d j e f).2
 |[],_,f=>by simp only[lJ];exact nH.refl _ _
 |a::r,e,f=>by simp only[lJ];exact (nZ d a e f).trans (Aw d r e _)
theorem KP(d:Nat)(l):∀(j:List PT)(e:ni)(f:jF),nH d f (Ao d l j e f).2
 |[a,b],e,f=>by simp only[Ao];exact (nZ d a e f).trans (nZ d b _ _)
 |[],_,f=>by simp only[Ao];exact nH.refl _ _
 |[_],_,f=>by simp only[Ao];exact nH.refl _ _
 |_::_::_::_,_,f=>by simp only[Ao];exact nH.refl _ _
theorem O5(d:Nat):∀(j:List PT)(e:ni)(f:jF),nH d f (DM d j e f).2
 |[a,b,c],e,f=>by
  simp only[DM];split
  ·exact (nZ d a e f).trans (nZ d b _ _)
  ·exact (nZ d a e f).trans (nZ d c _ _)
 |[],_,f=>by simp only[DM];exact nH.refl _ _
 |[_],_,f=>by simp only[DM];exact nH.refl _ _
 |[_,_],_,f=>by simp only[DM];exact nH.refl _ _
 |_::_::_::_::_,_,f=>by simp only[DM];exact nH.refl _ _
theorem H9(d:Nat)(l):∀(j:List PT)(e:ni)(f:jF),nH d f (s8 d l j e f).2
 |[a,b,c],e,f=>by
  simp only[s8];exact ((nZ d a e f).trans (nZ d b _ _)).trans (Cd (λv f=>nZ d c _ f) _ _ _)
 |[],_,f=>by simp only[s8];exact nH.refl _ _
 |[_],_,f=>by simp only[s8];exact nH.refl _ _
 |[_,_],_,f=>by simp only[s8];exact nH.refl _ _
 |_::_::_::_::_,_,f=>by simp only[s8];exact nH.refl _ _
end
open Go.RowKit
def o4(c d:Value)(a:Nat)(b:jF):Array Value:=#[c,d,.int .i64 a,.int .i64 b.steps,.int .i64 b.cells,.int .i64 b.e]
structure kL(w0 w:World)(yb:Nat)(nv tv:Value)(env:ni)(fuel:Nat)(st:jF): Prop where
 b0:bg w0 w
 hyb:w0.heap.size<=yb
 y:w.heap[yb]?=some (.cells (o4 nv tv fuel st) 70 (0,0))
 n:w.ownsRow w0.heap.size 9 1 nv env.length (env.map λx=>ia x.1)
 t:w.ownsRow w0.heap.size 9 1 tv env.length (env.map λx=>ia x.2.txt)
 ny:nv.ownBlock≠some yb
 ty:tv.ownBlock≠some yb
 nt:apart nv tv
structure Ax(w0 w:World)(yb:Nat)(nv tv:Value)(ns ts:List (List UInt8))(fuel:Nat)(st:jF): Prop where
 b0:bg w0 w
 hyb:w0.heap.size<=yb
 y:w.heap[yb]?=some (.cells (o4 nv tv fuel st) 70 (0,0))
 n:w.ownsRow w0.heap.size 9 1 nv ns.length (ns.map ia)
 t:w.ownsRow w0.heap.size 9 1 tv ts.length (ts.map ia)
 ny:nv.ownBlock≠some yb
 ty:tv.ownBlock≠some yb
 nt:apart nv tv
theorem kL.X5(h:kL c d w x v z b a):Ax c d w x v (z.map (·.1)) (z.map (·.2.txt)) b a:=
 ⟨h.b0,h.hyb,h.y,by rw[aO,dO];exact h.n,by rw[aO,dO];exact h.t,h.ny,h.ty,h.nt⟩
theorem Ax.Q0(h:Ax c d w x v (z.map (·.1)) (z.map (·.2.txt)) b a):kL c d w x v z b a:=
 ⟨h.b0,h.hyb,h.y,by have:=h.n;rw[aO,dO]at this;exact this,by have:=h.t;rw[aO,dO]at this;exact this,h.ny,h.ty,h.nt⟩
theorem kL.grow(h:kL c d w x v z b a)(e:bg d V):kL c V w x v z b a:=
 ⟨h.b0.trans (e.mono h.b0.size),h.hyb,by rw[e.block w (aG h.y)];exact h.y,bE h.n e,bE h.t e,h.ny,h.ty,h.nt⟩
theorem kL.set{st'}(h:kL c d w x v z b a)(o:Nat)(f)(l:(o4 x v b a).setIfInBounds o f=o4 x v b st'):kL c (d.setCell ⟨w,o,none⟩ f) w x v z b st':=by
 have i:∀g,g≠w->(d.setCell ⟨w,o,none⟩ f).heap[g]?=d.heap[g]?:=λg m=>lu m;refine⟨h.b0.setCell (p:=⟨w,o,none⟩) h.hyb _,h.hyb,by rw[<-l];exact bu h.y o f,?_,?_,h.ny,h.ty,h.nt⟩
 ·exact bO h.n (λk j=>i k (λe=>h.ny (by rw[<-e];exact j)))
 ·exact bO h.t (λk j=>i k (λe=>h.ty (by rw[<-e];exact j)))
theorem Ax.Q1{e}(h:Ax c d w x v R I b a)(o:(d.alloc W).grownBy V x.ownBlock)(s:V.ownsRow 0 9 1 (.slice (some ⟨u,0,none⟩) (R.length+1) N) (R.length+1) (R.map ia++[ia e]))(m:x.ownBlock=some u\/(d.alloc W).heap.size<=u)(z:A=V.setCell ⟨w,0,none⟩ (.slice (some ⟨u,0,none⟩) (R.length+1) N)):Ax c A w (.slice (some ⟨u,0,none⟩) (R.length+1) N) v (R++[e]) I b a/\Fr d A w x v (.slice none 0 0) (.slice (some ⟨u,0,none⟩) (R.length+1) N) v:=by
 subst z;obtain⟨p,r⟩:=push 0 (aG h.y) h.ny (fp.alloc bS W) o s m;obtain⟨f,_,B⟩:=p.keep h.t h.ty h.nt.symm;have q:∀u,x.ownBlock=some u->c.heap.size<=u:=λu i=>(h.n.lt u i).1;have:=h.b0.size;exact⟨⟨p.below h.b0 h.hyb q,h.hyb,p.blk h.y,eA (by simpa using r) λk i=>(p.own k i).elim (q k) (by omega),f,p.ne,h.ty,B⟩,p.size,λk i j l _ _=>p.kp k i j l,p.own,λ_ h=>aD h⟩
theorem Ax.Em{w3}{e}{g cap:Nat}{A}(h:Ax c d w x v R I b a)(o:(d.alloc A).grownBy w3 v.ownBlock)(s:w3.ownsRow 0 9 1 (.slice (some ⟨g,0,none⟩) (I.length+1) cap) (I.length+1) (I.map ia++[ia e]))(m:v.ownBlock=some g\/(d.alloc A).heap.size<=g)(u:V=w3.setCell ⟨w,1,none⟩ (.slice (some ⟨g,0,none⟩) (I.length+1) cap)):Ax c V w x (.slice (some ⟨g,0,none⟩) (I.length+1) cap) R (I++[e]) b a/\Fr d V w x v (.slice none 0 0) x (.slice (some ⟨g,0,none⟩) (I.length+1) cap):=by
 subst u;obtain⟨p,r⟩:=push 1 (aG h.y) h.ty (fp.alloc bS A) o s m;obtain⟨f,z,_⟩:=p.keep h.n h.ny h.nt;have q:∀g,v.ownBlock=some g->c.heap.size<=g:=λg i=>(h.t.lt g i).1;have:=h.b0.size;exact⟨⟨p.below h.b0 h.hyb q,h.hyb,p.blk h.y,f,eA (by simpa using r) λk i=>(p.own k i).elim (q k) (by omega),h.ny,p.ne,z⟩,p.size,λk i j _ l _=>p.kp k i j l,λ_ h=>aD h,p.own⟩
theorem Ax.X6{f}(h:Ax c d w (.slice (some ⟨u,0,none⟩) (R.length+1) N) x (R++[f]) I b a):Ax c (d.setCell ⟨w,0,none⟩ (.slice (some ⟨u,0,none⟩) R.length N)) w (.slice (some ⟨u,0,none⟩) R.length N) x R I b a:=by
 have m:∀i,i≠w->(d.setCell ⟨w,0,none⟩ (.slice (some ⟨u,0,none⟩) R.length N)).heap[i]?=d.heap[i]?:=λi r=>lu r;have l:∀(v:Value)(j:Nat)(o:TypeId)(n:Nat)(q:List Value),d.ownsRow j o 1 v n q->v.ownBlock≠some w->(d.setCell ⟨w,0,none⟩ (.slice (some ⟨u,0,none⟩) R.length N)).ownsRow j o 1 v n q:=
  λv j o n q s h1=>bO s (λk z=>m k (λe=>h1 (by rw[<-e];exact z)))
 have A:d.ownsRow c.heap.size 9 1 (.slice (some ⟨u,0,none⟩) R.length N) R.length (R.map ia):=by
  refine mJ (last:=[ia f]) (by simp) ?_;have:=h.n;simpa using this
 refine⟨?_,h.hyb,(bu h.y 0 _).trans rfl,l _ _ _ _ _ A h.ny,l _ _ _ _ _ h.t h.ty,h.ny,h.ty,h.nt⟩;exact h.b0.setCell (p:=⟨w,0,none⟩) h.hyb _
theorem Ax.X7{f}(h:Ax c d w x (.slice (some ⟨u,0,none⟩) (I.length+1) N) R (I++[f]) b a):Ax c (d.setCell ⟨w,1,none⟩ (.slice (some ⟨u,0,none⟩) I.length N)) w x (.slice (some ⟨u,0,none⟩) I.length N) R I b a:=by
 have m:∀i,i≠w->(d.setCell ⟨w,1,none⟩ (.slice (some ⟨u,0,none⟩) I.length N)).heap[i]?=d.heap[i]?:=λi r=>lu r;have l:∀(v:Value)(j:Nat)(o:TypeId)(n:Nat)(q:List Value),d.ownsRow j o 1 v n q->v.ownBlock≠some w->(d.setCell ⟨w,1,none⟩ (.slice (some ⟨u,0,none⟩) I.length N)).ownsRow j o 1 v n q:=
  λv j o n q s h1=>bO s (λk z=>m k (λe=>h1 (by rw[<-e];exact z)))
 have A:d.ownsRow c.heap.size 9 1 (.slice (some ⟨u,0,none⟩) I.length N) I.length (I.map ia):=by
  refine mJ (last:=[ia f]) (by simp) ?_;have:=h.t;simpa using this
 refine⟨?_,h.hyb,(bu h.y 1 _).trans rfl,l _ _ _ _ _ h.n h.ny,l _ _ _ _ _ A h.ty,h.ny,h.ty,h.nt⟩;exact h.b0.setCell (p:=⟨w,1,none⟩) h.hyb _
theorem Ax.wO(h:Ax c d w x v R I b a):∃e f,x=.slice e R.length f/\(0<R.length->∃g,e=some ⟨g,0,none⟩):=by
 rcases h.n.2 with⟨i,j⟩|⟨g,f,k,i,_⟩
 ·exact⟨none,0,by rw[i,j],λh=>by omega⟩
 ·exact⟨_,f,i,λ_=>⟨g,rfl⟩⟩
theorem Ax.wP(h:Ax c d w x v R I b a):∃e f,v=.slice e I.length f/\(0<I.length->∃g,e=some ⟨g,0,none⟩):=by
 rcases h.t.2 with⟨i,j⟩|⟨g,f,k,i,_⟩
 ·exact⟨none,0,by rw[i,j],λh=>by omega⟩
 ·exact⟨_,f,i,λ_=>⟨g,rfl⟩⟩
theorem Ez(a:Nat)(f:ni)(A)(P I)(d)(o)(v)(hf:∀(P I:Value)(d:World),kL c d w P I (f++[(o,v)]) b A->Calls prog 34 #[ptr w,ptr a] d λe T=>e=.returned (.string (bs (ev b L (f++[(o,v)]) A).1.txt))/\∃B C,Fr d T w P I (.slice none 0 0) B C/\kL c T w B C (f++[(o,v)]) b (ev b L (f++[(o,v)]) A).2)(U:kL c d w P I f b A)(wN:f.length<=9000):Calls prog 62 #[ptr w,.string (bs o),.string (bs v.txt),ptr a] d λe T=>e=.returned (.string (bs (ev b L (f++[(o,v)]) A).1.txt))/\∃B C,Fr d T w P I (.slice none 0 0) B C/\kL c T w B C f b (ev b L (f++[(o,v)]) A).2:=by
 obtain⟨i0,hi,V,X,Y⟩:=cI vw;have M:=U.X5;obtain⟨Z,nc,p,_⟩:=M.wO;obtain⟨Q,R,m,_⟩:=M.wP;rw[aO]at p m;have S:=M.y;have Kx:=aG S;rw[p,m]at S;have y1:cg d w 0 (.slice Z f.length nc):=dR S rfl;have y2:cg d w 1 (.slice Q f.length R):=dR S rfl;have f1:=aK S 0;have f2:=aK S 1;have hown:d.ownsRow 0 9 1 (.slice Z f.length nc) f.length (f.map λx=>ia x.1):=by
  rw[<-p];exact eA U.n (λ_ _=>ld)
 have tY:d.ownsRow 0 9 1 (.slice Z f.length nc) f.length (f.map λx=>ia x.1):=hown;show Calls _ _ #[Value.pointer (some ⟨w,0,none⟩),_,_,Value.pointer (some ⟨a,0,none⟩)] d _;go_in;go_wp2_with (at_builtin;go_must (refine mV _ rfl (.tmp 20) (.tmp 22) 68 rfl 9 i0 _ 1 16 oJ hi V X Y rfl (by decide) (.slice Z f.length nc) f.length (f.map λx=>ia x.1) rfl (tY.alloc _) ⟨d.heap.size,0,none⟩ 1 1 [ia o] rfl rfl ?d1 ?d2 (by decide) ?d3 ?d4 ?_))
 case d1=>
  intro j' u i
  match j',i with
  |0,i=>simp at i;subst i;simp[Addr.add,ia]
  |j'+1,i=>simp at i
 case d2=>intro u hu;simp at hu;subst hu;rfl
 case d3=>unfold maxLen;omega
 case d4=>omega
 intro E F D zk UY X8;have Fu:=Ax.Q1 (e:=o) (A:=D.setCell ⟨w,0,none⟩ (.slice (some ⟨E,0,none⟩) (f.length+1) F)) M (by rw[p];exact UY) (by rw[aO,dO];exact zk) (by rw[p];simpa using X8) (by rw[aO]);rw[aO]at Fu;obtain⟨hG1,X9⟩:=Fu;have Ow:Ax c (D.setCell ⟨w,0,none⟩ (.slice (some ⟨E,0,none⟩) (f.length+1) F)) w (.slice (some ⟨E,0,none⟩) (f.length+1) F) I (f.map (·.1)++[o]) (f.map (·.2.txt)) b A:=hG1;have z:D.heap[w]?=some (.cells (o4 P I b A) 70 (0,0)):=by
  rw[UY.block w (by simp;omega) (λe=>M.ny (by rw[p];exact e.symm)),cV _ _ _ Kx];exact M.y
 have UZ:=aG z;rw[p,m]at z;have y13:cg D w 0 (.slice Z f.length nc):=dR z rfl;have y23:cg D w 1 (.slice Q f.length R):=dR z rfl;have f13:=aK z 0;have f23:=aK z 1;have N:(D.setCell ⟨w,0,none⟩ (.slice (some ⟨E,0,none⟩) (f.length+1) F)).ownsRow 0 9 1 (.slice Q f.length R) f.length (f.map λx=>ia x.2.txt):=by
  have h:=eA (b:=0) hG1.t (λ_ _=>ld);rw[aO,dO,m]at h;exact h
 have O:(D.setCell ⟨w,0,none⟩ (.slice (some ⟨E,0,none⟩) (f.length+1) F)).ownsRow 0 9 1 (.slice Q f.length R) f.length (f.map λx=>ia x.2.txt):=N;have Ya:(D.setCell ⟨w,0,none⟩ (.slice (some ⟨E,0,none⟩) (f.length+1) F)).heap.size=D.heap.size:=by simp[World.setCell]
 have q:Hid _:=Ya;go_wp2_with (at_builtin;go_must (refine mV _ rfl (.tmp 30) (.tmp 32) 68 rfl 9 i0 _ 1 16 oJ hi V X Y rfl (by decide) (.slice Q f.length R) f.length (f.map λx=>ia x.2.txt) rfl (O.alloc _) ⟨D.heap.size,0,none⟩ 1 1 [ia v.txt] rfl rfl ?e1 ?e2 (by decide) ?e3 ?e4 ?_))
 case e1=>
  intro j' u i
  match j',i with
  |0,i=>
   simp only[aL,ai]at i;subst i;exact (World.cell?_alloc_at _ _ _ _ q.symm).trans rfl
  |j'+1,i=>simp at i
 case e2=>intro u hu;simp at hu;subst hu;rfl
 case e3=>unfold maxLen;omega
 case e4=>omega
 intro g2 c2 w5 Hp QE Yb;have My:=Ax.Em (e:=v.txt) (V:=w5.setCell ⟨w,1,none⟩ (.slice (some ⟨g2,0,none⟩) (f.length+1) c2)) Ow (by rw[m];exact QE) (by rw[aO,dO];exact Hp) (by rw[m];rcases Yb with h|h;exact aD h;exact aE (by rw[iO,q.out];exact h)) (by rw[aO]);rw[aO]at My;obtain⟨hG2,Yc⟩:=My;have Ox:kL c (w5.setCell ⟨w,1,none⟩ (.slice (some ⟨g2,0,none⟩) (f.length+1) c2)) w (.slice (some ⟨E,0,none⟩) (f.length+1) F) (.slice (some ⟨g2,0,none⟩) (f.length+1) c2) (f++[(o,v)]) b A:=by
  apply Ax.Q0;rw[bz,bz];exact hG2
 have hfo:=hf _ _ _ Ox;have G:w5.heap[w]?=some (.cells (o4 (.slice (some ⟨E,0,none⟩) (f.length+1) F) I b A) 70 (0,0)):=by
  rw[QE.block w (by rw[iO,q.out];omega) (λe=>M.ty (by rw[m];exact e.symm)),cV _ _ _ (by rw[q.out];exact UZ)];exact Ow.y
 rw[m]at G;have y15:cg w5 w 0 (.slice (some ⟨E,0,none⟩) (f.length+1) F):=dR G rfl;have y25:cg w5 w 1 (.slice Q f.length R):=dR G rfl;have f25:=aK G 1;unfold ptr at hfo;go_wp2_with fail;refine hfo.mono ?_;rintro _ w7 ⟨rfl,nv7,tv7,hs7,Yd⟩;have j:=Yd.X5;rw[bz,bz]at j;obtain⟨na7,k,r,Ye⟩:=j.wO;obtain⟨ta7,l,s,Yf⟩:=j.wP;obtain⟨H,hg7⟩:=Ye (by simp);obtain⟨J,Ur⟩:=Yf (by simp);have el:(f.map (λx=>x.1)++List.map (λx=>x.1) [(o,v)]).length=f.length+1:=by simp
 have el2:(f.map (λx=>x.2.txt)++List.map (λx=>x.2.txt) [(o,v)]).length=f.length+1:=by simp
 rw[el,hg7]at r;rw[el2,Ur]at s;have aah:f.length+1<=k:=by
  have h:=j.n.2;rw[r,el]at h;rcases h with⟨h,_⟩|⟨g,cap,cur,h,_,_,h3,_⟩
  ·cases h
  ·simp only[bN]at h;omega
 have aai:f.length+1<=l:=by
  have h:=j.t.2;rw[s,el2]at h;rcases h with⟨h,_⟩|⟨g,cap,cur,h,_,_,h3,_⟩
  ·cases h
  ·simp only[bN]at h;omega
 rw[r,s]at j;obtain⟨st7,K⟩:=ez ((ev b L (f++[(o,v)]) A).2);rw[<-K]at j;have y17:cg w7 w 0 (.slice (some ⟨H,0,none⟩) (f.length+1) k):=dR j.y rfl;have y27:cg w7 w 1 (.slice (some ⟨J,0,none⟩) (f.length+1) l):=dR j.y rfl;have f17:=aK j.y 0;have f27:=aK j.y 1;have hP:Ax c ((w7.setCell ⟨w,0,none⟩ (.slice (some ⟨H,0,none⟩) f.length k)).setCell ⟨w,1,none⟩ (.slice (some ⟨J,0,none⟩) f.length l)) w (.slice (some ⟨H,0,none⟩) f.length k) (.slice (some ⟨J,0,none⟩) f.length l) (f.map (·.1)) (f.map (·.2.txt)) b st7:=by
  have l1:(f.map (λx=>x.1)).length=f.length:=by simp
  have l2:(f.map (λx=>x.2.txt)).length=f.length:=by simp
  have q2:=Ax.X7 (I:=f.map (λx=>x.2.txt)) (f:=v.txt) (u:=J) (N:=l) (by rw[l2];exact (Ax.X6 (R:=f.map (λx=>x.1)) (f:=o) (u:=H) (N:=k) (by rw[l1];exact j)));rw[l1,l2]at q2;exact q2
 have Yg:=(X9.trans Yc).trans hs7;rw[r,s]at Yg;go_wp2;go_ret;refine⟨rfl,.slice (some ⟨H,0,none⟩) f.length k,.slice (some ⟨J,0,none⟩) f.length l,?_,?_⟩
 ·have h:=Yg;have h2:=(h.trans ((Fr.grown (w:=w) (nR w7 ⟨w,0,none⟩ (.slice (some ⟨H,0,none⟩) f.length k)) (.slice (some ⟨H,0,none⟩) (f.length+1) k) (.slice (some ⟨J,0,none⟩) (f.length+1) l) (.slice none 0 0)))).trans ((Fr.grown (w:=w) (nR (w7.setCell ⟨w,0,none⟩ (.slice (some ⟨H,0,none⟩) f.length k)) ⟨w,1,none⟩ (.slice (some ⟨J,0,none⟩) f.length l)) (.slice (some ⟨H,0,none⟩) (f.length+1) k) (.slice (some ⟨J,0,none⟩) (f.length+1) l) (.slice none 0 0)));exact⟨h2.size,h2.blk,h2.n,h2.t⟩
 rw[<-K];exact hP.Q0
structure Ia(fuel:Nat)(st:jF): Prop where
 f:fuel<=20000
 s:st.steps<=fuel
 c:st.cells<=st.steps
theorem Ia.mono(h:Ia w a)(b:nH w a k):Ia w k:=by
 have h1:=b h.s;exact⟨h.f,h1.1,by have:=h.c;omega⟩
theorem Ia.on(h:Ia w a)(t)(b:ni):Ia w (ev w t b a).2:=h.mono (nZ w t b a)
theorem kL.drew(h:kL c d w x v z b a)(m:Nat):kL c (d.drewN m) w x v z b a:=h.grow (dW d m)
theorem Fr.setAt(w)(a:Nat)(b c)(m o:Nat)(x):Fr w ((w.drewN m).setCell ⟨a,o,none⟩ x) a b c (.slice none 0 0) b c:=(Fr.below (dW w m) _ _ _ _).trans (Fr.grown (nR (w.drewN m) ⟨a,o,none⟩ _) _ _ _)
def rK(j:World)(i a:Nat)(t:PT)(G:dc):Prop:=
 ∀(id d b:Nat)(F:Nat->Prop)(c:ni)(f:jF)(k l:Value)(w:World),gS j F t id d b->kL j w i k l c a f->(f.e=0->wZ c G)->c.length+t.cnt<=9000->Ia a f->
  Calls prog 34 #[ptr i,ptr b] w λe m=>e=.returned (.string (bs (ev a t c f).1.txt))/\
   ∃g h,Fr w m i k l (.slice none 0 0) g h/\kL j m i g h c a (ev a t c f).2
def Yw(j:World)(i a:Nat)(t:PT)(G:dc):Prop:=
 ∀(id f b:Nat)(F:Nat->Prop)(c:ni)(d:jF)(k l:Value)(w:World),gS j F t id f b->kL j w i k l c a d->wZ c G->c.length+t.cnt<=9000->Ia a d->d.e=0->d.steps≠a->
  Calls prog 34 #[ptr i,ptr b] w λe m=>e=.returned (.string (bs (ev a t c d).1.txt))/\
   ∃g h,Fr w m i k l (.slice none 0 0) g h/\kL j m i g h c a (ev a t c d).2
theorem O6(h:a.e≠0):begun w a M=(.n 0,a):=by unfold begun;rw[ah h]
theorem O7(b:a.e=0)(h:a.steps=w):begun w a M=(.n 0,{a with e:=12}):=by unfold begun;rw[ag (by simpa using b),ah h]
theorem sx(b:a.e=0)(h:a.steps≠w):begun w a M=M {a with steps:=a.steps+1}:=by unfold begun;rw[ag (by simpa using b),ag h]
theorem Rm(a:Nat)(t)(c:ni):∃f,∀b,ev a t c b=begun a b f:=by
 cases t with
 |num p s=>exact⟨_,λb=>by unfold ev;rfl⟩
 |name p s=>exact⟨_,λb=>by unfold ev;rfl⟩
 |node p k e g d=>exact⟨_,λb=>by unfold ev;rfl⟩
theorem sA:bs (Vl.n 0).txt=⟨#[48]⟩:=by
 simp[Vl.txt];rw[decDigits,dif_pos (by omega)];rfl
theorem qj(h:Yw c w b L P):rK c w b L P:=by
 intro id j a F k i q r d v g l n x;obtain⟨f,u⟩:=Rm b L k;have B:cg d w 2 (.int .i64 b):=dR g.y rfl;have C:cg d w 3 (.int .i64 i.steps):=dR g.y rfl;have D:cg d w 5 (.int .i64 i.e):=dR g.y rfl;have E:=aK g.y 5;have z:=aG g.y;by_cases o:i.e=0
 ·by_cases s:i.steps=b
  ·rw[u,O7 o s];have A:((i.e:Int) !=0)=false:=by rw[o];rfl
   have H:((i.steps:Int)==(b:Int))=true:=by rw[s];simp
   have p:=λm=>(g.drew m).set 5 (.int .i64 12) (st':={i with e:=12}) rfl;show Calls _ _ #[Value.pointer (some ⟨w,0,none⟩),Value.pointer (some ⟨a,0,none⟩)] d _;go_in;go_wp2;go_quiet (fail);go_wp2;go_ret;exact⟨by rw[sA];rfl,q,r,Fr.setAt d w q r _ 5 _,p _⟩
  ·exact h id j a F k i q r d v g (l o) n x o s
 ·rw[u,O6 o];have A:((i.e:Int) !=0)=true:=by simp;omega
  show Calls _ _ #[Value.pointer (some ⟨w,0,none⟩),Value.pointer (some ⟨a,0,none⟩)] d _;go_in;go_wp2;go_ret;exact⟨by rw[sA];rfl,q,r,Fr.refl _ _ _ _ _,g⟩
theorem kL.e0(h:kL c d w x v z b a)(f:a.e=0):d.cell? ⟨w,5,none⟩=some (.int .i64 0):=by
 have:d.cell? ⟨w,5,none⟩=some (.int .i64 a.e):=by rw[aI h.y];rfl
 rw[f]at this;exact this
theorem kL.step(h:kL c d w x v z b a)(m:Nat):kL c ((d.drewN m).setCell ⟨w,3,none⟩ (.int .i64 ((a.steps:Int)+1))) w x v z b {a with steps:=a.steps+1}:=
 (h.drew m).set 3 _ (by simp[o4])
theorem Rn(hit:nV c)(g d:Nat)(p:Nat)(s)(G:dc)(B:(PT.num p s).eO):Yw c g d (.num p s) G:=by
 intro id q b F j h r t w k a u v x z C;simp only[PT.eO]at B;simp only[gS]at k;have D:=aG k.2;have E:=by have:=a.hyb;omega
 have e:=(a.b0.block b D).trans k.2;obtain⟨n,A⟩:∃n:Nat,aQ s=n:=⟨(aQ s).toNat,by omega⟩;have L:w.cell? ⟨b,0,none⟩=some (.string (bs rz)):=by rw[aI e];rfl
 have M:w.cell? ⟨b,3,none⟩=some (.int .i64 n):=by rw[aI e,<-A];rfl
 have N:((bs rz).toList==[110,117,109,98,101,114])=true:=by rw[bo];decide
 have O:w.cell? ⟨g,2,none⟩=some (.int .i64 d):=by rw[aI a.y];rfl
 have P:w.cell? ⟨g,3,none⟩=some (.int .i64 h.steps):=by rw[aI a.y];rfl
 have Q:=a.e0 z;have R:=aK a.y 3;have H:=aG a.y;have I:=aG e;have S:((h.steps:Int)==(d:Int))=false:=by rw[aH];omega
 have l:ev d (.num p s) j h=(.n n,{h with steps:=h.steps+1}):=by unfold ev;rw[sx z C,A];rfl
 rw[l];have o:=λm=>a.step m;have J:=x.s;have K:=x.f;show Calls _ _ #[Value.pointer (some ⟨g,0,none⟩),Value.pointer (some ⟨b,0,none⟩)] w _;go_in;go_wp2_with fail;go_quiet (fail);go_wp2_with fail;refine ((λm=>hit n ((w.drewN m).setCell ⟨g,3,none⟩ (.int .i64 ((h.steps:Int)+1))) (by omega) (a.step m).b0) _).mono ?_;rintro _ T ⟨rfl,i⟩;go_wp2;go_ret;exact⟨rfl,r,t,(Fr.setAt w g r t _ 3 _).trans (Fr.below i _ _ _ _),(o _).grow i⟩
theorem Ro{K}(q a:Nat)(p:Nat)(z rg)(x y)(G:dc)(A)(R:WT G x A)(S:x.eO)(T:gL x)(U:rK K q a x G)(V:rK K q a y (G++[(z,A)])):Yw K q a (.node p .dV z rg [x,y]) G:=by
 intro id site b F d i X Y w hT g r L M he hq;obtain⟨va,vc,⟨g0,g2,g4⟩,Z,hk⟩:=lL hT;obtain⟨gk,bx,FH,I,rfl,hg,hc1,rA⟩:=hk 0 x rfl;obtain⟨j,C,KQ,J,H,_,hc2,s6⟩:=hk 1 y rfl;have egk:j=gk:=by simp only[ai,Addr.mk.injEq]at H;exact H.1.symm
 subst egk;have hne:=by have:=g.hyb;omega
 have QF:=by have:=g.hyb;omega
 simp only[PT.cnt,aU]at L;have yT:ev a (.node p .dV z rg [x,y]) d i=ev a y (d++[(z,(ev a x d {i with steps:=i.steps+1}).1)]) (ev a x d {i with steps:=i.steps+1}).2:=by
  conv=>lhs;unfold ev
  rw[sx he hq];simp only[ah,Ao]
 rw[yT];have N:Ia a {i with steps:=i.steps+1}:=⟨M.f,by have:=M.s;show i.steps+1<=a;omega,by have:=M.c;show i.cells<=i.steps+1;omega⟩;have hr1:=uD a R d {i with steps:=i.steps+1} S T (λ_=>r);have h1:=λm=>U FH I bx F d {i with steps:=i.steps+1} X Y _ rA (g.step m) (λ_=>r) (by omega) N;have hs2:=N.on x d;generalize ev a x d {i with steps:=i.steps+1}=B at*;have h2:=λD E O (l:kL K O q D E d a B.2)=>Ez (L:=y) C d B.2 D E O z B.1 (λn o k u=>V KQ J C F (d++[(z,B.1)]) B.2 n o k s6 u (λe=>r.snoc (hr1.1 e).2) (by simp;omega) hs2) l (by omega);have v:∀k,bg K k->cg k b 0 (.string (bs Kw.dV.bytes))/\cg k b 2 (.string (bs z))/\cg k b 4 (.slice (some ⟨j,0,none⟩) 2 vc)/\cg k j 0 (.pointer (some ⟨bx,0,none⟩))/\cg k j 1 (.pointer (some ⟨C,0,none⟩))/\b<k.heap.size/\j<k.heap.size:=
  λk h=>⟨(h.cell (p:=⟨b,0,none⟩) Z).trans g0,(h.cell (p:=⟨b,2,none⟩) Z).trans g2,(h.cell (p:=⟨b,4,none⟩) Z).trans g4,(h.cell (p:=⟨j,0,none⟩) hg).trans hc1,(h.cell (p:=⟨j,1,none⟩) hg).trans hc2,by have:=h.size;omega,by have:=h.size;omega⟩
 obtain⟨x0,x2,x4,ML,xk1,Rp,Rq⟩:=v w g.b0;have q0:((bs Kw.dV.bytes).toList==[110,117,109,98,101,114])=false:=by rw[bo];decide
 have q1:((bs Kw.dV.bytes).toList==[110,97,109,101])=false:=by rw[bo];decide
 have q2:((bs Kw.dV.bytes).toList==[108,101,116])=true:=by rw[bo];decide
 have y2:cg w q 2 (.int .i64 a):=dR g.y rfl;have y3:cg w q 3 (.int .i64 i.steps):=dR g.y rfl;have y5:=g.e0 he;have f3:=aK g.y 3;have Kx:=aG g.y;have q9:((i.steps:Int)==(a:Int))=false:=by rw[aH];omega
 have Yx:=M.s;have Xg:=M.f;show Calls _ _ #[Value.pointer (some ⟨q,0,none⟩),Value.pointer (some ⟨b,0,none⟩)] w _;go_in;go_wp2_with fail;go_quiet (fail);go_wp2_with fail;refine ay (h1 _) ?_;rintro _ O ⟨rfl,D,E,P,l⟩;obtain⟨z0,z2,z4,zk0,QG,Rs,Ut⟩:=v O l.b0
 have hun:∀W,bg O W->Calls prog 62 #[.pointer (some ⟨q,0,none⟩),.string (bs z),.string (bs B.1.txt),.pointer (some ⟨C,0,none⟩)] W λe k=>e=.returned (.string (bs (ev a y (d++[(z,B.1)]) B.2).1.txt))/\
   ∃n o,Fr w k q X Y (.slice none 0 0) n o/\kL K k q n o d a (ev a y (d++[(z,B.1)]) B.2).2:=by
  intro W hW;refine (h2 D E W (l.grow hW)).mono ?_;rintro e k ⟨rfl,n,o,Q,u⟩;exact⟨rfl,n,o,((Fr.setAt w q X Y _ 3 _).trans P).trans ((Fr.below hW _ _ _ _).trans Q),u⟩
 go_wp2;go_region_with (go_at_call 62;refine (hun _ ?_).mono ?_;exact⟨rfl,rfl,rfl,bS,λ_ _=>rfl⟩;rintro e w3 ⟨rfl,hw3⟩)
 all_goals (go_wp2_with fail;go_ret;exact⟨rfl,hw3⟩)
structure KAt(w0:World)(b gk vc:Nat)(k:Kw)(nm:List UInt8)(ks:List Nat): Prop where
 hb:b<w0.heap.size
 hg:gk<w0.heap.size
 c0:cg w0 b 0 (.string (bs k.bytes))
 c2:cg w0 b 2 (.string (bs nm))
 c4:cg w0 b 4 (.slice (some ⟨gk,0,none⟩) ks.length vc)
 ck:∀(j x:Nat),ks[j]?=some x->cg w0 gk j (.pointer (some ⟨x,0,none⟩))
theorem KAt.on{e}(h:KAt c b w u Y y e)(a:bg c d):KAt d b w u Y y e:=
 ⟨by have:=a.size;have:=h.hb;omega,by have:=a.size;have:=h.hg;omega,(a.cell (p:=⟨b,0,none⟩) h.hb).trans h.c0,(a.cell (p:=⟨b,2,none⟩) h.hb).trans h.c2,(a.cell (p:=⟨b,4,none⟩) h.hb).trans h.c4,λj x f=>(a.cell (p:=⟨w,j,none⟩) h.hg).trans (h.ck j x f)⟩
theorem Yy{p:Nat}{id:Nat}(n:gS c S (.node p Y y G [L]) id w b):∃h i g e d,KAt c b h i Y y [g]/\gS c S L e d g:=by
 obtain⟨v,i,⟨o,q,r⟩,s,t⟩:=lL n;obtain⟨h,g,e,d,rfl,u,l,m⟩:=t 0 L rfl;refine⟨h,i,g,e,d,⟨s,u,o,q,r,?_⟩,m⟩;intro j a f
 match j,f with
 |0,f=>simp only[aL,ai]at f;subst f;exact l
 |j+1,f=>simp at f
theorem Vo{p:Nat}{id:Nat}(A:gS c S (.node p Y y G [L,X]) id w b):∃n o l m g a h d,KAt c b n o Y y [l,m]/\gS c S L g a l/\gS c S X h d m:=by
 obtain⟨I,o,⟨B,C,D⟩,E,v⟩:=lL A;obtain⟨n,l,g,a,rfl,H,q,r⟩:=v 0 L rfl;obtain⟨i,m,h,d,f,_,s,t⟩:=v 1 X rfl;have u:i=n:=by simp only[ai,Addr.mk.injEq]at f;exact f.1.symm
 subst u;refine⟨i,o,l,m,g,a,h,d,⟨E,H,B,C,D,?_⟩,r,t⟩;intro j z e
 match j,e with
 |0,e=>simp only[aL,ai]at e;subst e;exact q
 |1,e=>simp only[cE,aL,ai]at e;subst e;exact s
 |j+2,e=>simp at e
theorem Vp{p:Nat}{z}{id:Nat}(K:gS c S (.node p Y y G [L,X,z]) id w b):∃q u r s t l a m d n e,KAt c b q u Y y [r,s,t]/\gS c S L l a r/\gS c S X m d s/\gS c S z n e t:=by
 obtain⟨R,u,⟨M,N,O⟩,P,v⟩:=lL K;obtain⟨q,r,l,a,rfl,Q,A,B⟩:=v 0 L rfl;obtain⟨C,s,m,d,h,_,D,E⟩:=v 1 X rfl;obtain⟨i,t,n,e,g,_,H,I⟩:=v 2 z rfl;have J:C=q:=by simp only[ai,Addr.mk.injEq]at h;exact h.1.symm
 have o:i=q:=by simp only[ai,Addr.mk.injEq]at g;exact g.1.symm
 subst J;subst o;refine⟨i,u,r,s,t,l,a,m,d,n,e,⟨P,Q,M,N,O,?_⟩,B,E,I⟩;intro j z f
 match j,f with
 |0,f=>simp only[aL,ai]at f;subst f;exact A
 |1,f=>simp only[cE,aL,ai]at f;subst f;exact D
 |2,f=>simp only[cE,aL,ai]at f;subst f;exact H
 |j+3,f=>simp at f
theorem Ba{r}(h:Res .n a r):∃k,r.1=.n k/\k<=9999:=by
 by_cases e:r.2.e=0
 ·exact Vn (h.1 e).2
 ·exact⟨0,h.2 e,by omega⟩
theorem Ia.step(b:Ia w a)(d:a.steps≠w):Ia w {a with steps:=a.steps+1}:=
 ⟨b.f,by have:=b.s;show a.steps+1<=w;omega,by have:=b.c;show a.cells<=a.steps+1;omega⟩
theorem Vq(A a:Nat)(p:Nat)(nm rg)(x y z)(G:dc)(hwx:WT G x .n)(GW:x.eO)(J5:gL x)(U:rK c A a x G)(V:rK c A a y G)(W:rK c A a z G):Yw c A a (.node p .lv nm rg [x,y,z]) G:=by
 intro id site b F e v nv tv w hT j q X hs he hq;obtain⟨gk,vc,bx,bb,bc,FH,H,KQ,I,Yz,J,B,Y,Z,Vr⟩:=Vp hT;have hne:=by have:=j.hyb;have:=B.hb;omega
 have QF:=by have:=j.hyb;have:=B.hg;omega
 simp only[PT.cnt,aU]at X;have yT:ev a (.node p .lv nm rg [x,y,z]) e v=if (ev a x e {v with steps:=v.steps+1}).1.num≠0 then ev a y e (ev a x e {v with steps:=v.steps+1}).2 else ev a z e (ev a x e {v with steps:=v.steps+1}).2:=by
  conv=>lhs;unfold ev
  rw[sx he hq];simp only[reduceCtorEq,aT,bT,DM]
 rw[yT];have K:=hs.step hq;have hr1:=uD a hwx e {v with steps:=v.steps+1} GW J5 (λ_=>q);have h1:=λm=>U FH H bx F e {v with steps:=v.steps+1} nv tv _ Y (j.step m) (λ_=>q) (by omega) K;have L:=K.on x e;generalize ev a x e {v with steps:=v.steps+1}=E at*;obtain⟨k,hk,hk9⟩:=Ba hr1;obtain⟨R,hR⟩:∃R,R=if E.1.num≠0 then ev a y e E.2 else ev a z e E.2:=⟨_,rfl⟩;rw[<-hR];have M:k=0->R=ev a z e E.2:=λh=>by rw[hR,hk];exact ag (λg=>g h)
 have N:k≠0->R=ev a y e E.2:=λh=>by rw[hR,hk];exact ah h
 rw[hk]at h1;have hnu:=λw=>tj k w hk9;have h2:=λl o C (i:kL c C A l o e a E.2)=>V KQ I bb F e E.2 l o C Z i (λ_=>q) (by omega) L;have h3:=λl o C (i:kL c C A l o e a E.2)=>W Yz J bc F e E.2 l o C Vr i (λ_=>q) (by omega) L;simp only[Vl.txt]at h1;have d:=B.on j.b0;have x0:=d.c0;have x4:=d.c4;have ML:=d.ck 0 bx rfl;have Rp:=d.hb;have Rq:=d.hg;have q0:((bs Kw.lv.bytes).toList==[110,117,109,98,101,114])=false:=by rw[bo];decide
 have q1:((bs Kw.lv.bytes).toList==[110,97,109,101])=false:=by rw[bo];decide
 have q2:((bs Kw.lv.bytes).toList==[108,101,116])=false:=by rw[bo];decide
 have q3:((bs Kw.lv.bytes).toList==[105,102])=true:=by rw[bo];decide
 have y2:cg w A 2 (.int .i64 a):=dR j.y rfl;have y3:cg w A 3 (.int .i64 v.steps):=dR j.y rfl;have y5:=j.e0 he;have f3:=aK j.y 3;have Kx:=aG j.y;have q9:((v.steps:Int)==(a:Int))=false:=by rw[aH];omega
 have Yx:=hs.s;have Xg:=hs.f;refine fT B h1 h2 h3 λHK H1 H2 H3=>?_;clear B d hT j q hs he yT hq Y Z Vr U V W K L hr1 h1 h2 h3 hk hR;unfold ptr at H1 H2 H3;by_cases D:k=0
 ·have qk:((k:Int) !=0)=false:=by subst D;rfl
  rw[M D];clear D M N;show Calls _ _ #[Value.pointer (some ⟨A,0,none⟩),Value.pointer (some ⟨b,0,none⟩)] w _;go_in;go_wp2_with fail;go_quiet (fail);go_wp2_with fail;refine ay (H1 _) ?_;rintro _ C ⟨rfl,l,o,r,i⟩;have d:=HK.on i.b0;have z4:=d.c4;have QG:=d.ck 1 bb rfl;have zk2:=d.ck 2 bc rfl;have Rs:=d.hb;have Ut:=d.hg;have hc:=H3 l o C i;have O:Hid _:=r;clear r i d HK H1 H2 H3;go_wp2_with fail;refine (hnu _).mono ?_;rintro _ C ⟨rfl,rfl⟩;go_wp2_with fail;refine ay hc ?_;rintro _ w3 ⟨rfl,P,Q,t,u⟩;refine bY t u λS T=>?_;clear t u hc;go_wp2;go_ret;exact⟨rfl,P,Q,((Fr.setAt w A nv tv _ 3 _).trans O).trans S,T⟩
 ·have qk:((k:Int) !=0)=true:=by simp;omega
  rw[N D];clear D M N;show Calls _ _ #[Value.pointer (some ⟨A,0,none⟩),Value.pointer (some ⟨b,0,none⟩)] w _;go_in;go_wp2_with fail;go_quiet (fail);go_wp2_with fail;refine ay (H1 _) ?_;rintro _ C ⟨rfl,l,o,r,i⟩;have d:=HK.on i.b0;have z4:=d.c4;have QG:=d.ck 1 bb rfl;have zk2:=d.ck 2 bc rfl;have Rs:=d.hb;have Ut:=d.hg;have hc:=H2 l o C i;have O:Hid _:=r;clear r i d HK H1 H2 H3;go_wp2_with fail;refine (hnu _).mono ?_;rintro _ C ⟨rfl,rfl⟩;go_wp2_with fail;refine ay hc ?_;rintro _ w3 ⟨rfl,P,Q,t,u⟩;refine bY t u λS T=>?_;clear t u hc;go_wp2;go_ret;exact⟨rfl,P,Q,((Fr.setAt w A nv tv _ 3 _).trans O).trans S,T⟩
theorem O8(k e:Nat)(p:Nat)(s)(G:dc):Yw c k e (.name p s) G:=by
 intro id R b F a l S T w K d U B o V hq;simp only[PT.cnt]at B;simp only[gS]at K;have X:=aG K.2;have hne:=by have:=d.hyb;omega
 have q:=(d.b0.block b X).trans K.2;have x0:w.cell? ⟨b,0,none⟩=some (.string (bs jE)):=by rw[aI q];rfl
 have x2:w.cell? ⟨b,2,none⟩=some (.string (bs s)):=by rw[aI q];rfl
 have q0:((bs jE).toList==[110,117,109,98,101,114])=false:=by rw[bo];decide
 have q1:((bs jE).toList==[110,97,109,101])=true:=by rw[bo];decide
 have y2:w.cell? ⟨k,2,none⟩=some (.int .i64 e):=by rw[aI d.y];rfl
 have y3:w.cell? ⟨k,3,none⟩=some (.int .i64 l.steps):=by rw[aI d.y];rfl
 have y5:=d.e0 V;have f3:=aK d.y 3;have Kx:=aG d.y;have sY:=aG q;have q9:((l.steps:Int)==(e:Int))=false:=by rw[aH];omega
 have L:ev e (.name p s) a l=(tU a s,{l with steps:=l.steps+1}):=by unfold ev;rw[sx V hq]
 rw[L];have Yx:=o.s;have Xg:=o.f;have C:=λm=>d.step m;have HT:=K.2;show Calls _ _ #[Value.pointer (some ⟨k,0,none⟩),Value.pointer (some ⟨b,0,none⟩)] w _;go_in;go_wp2;go_quiet (fail);go_wp2;obtain⟨W,M⟩:=ez ((w.drewN nq).setCell ⟨k,3,none⟩ (.int .i64 ((l.steps:Int)+1)));have Y:Hid _:=M;have D:=C nq;rw[<-M]at D;have r:=D.X5;obtain⟨na,nc,u,E⟩:=r.wO;obtain⟨ta,tc,x,H⟩:=r.wP;rw[aO]at u x E H;have Y0:W.cell? ⟨k,0,none⟩=some (.slice na a.length nc):=by rw[aI r.y,<-u];rfl
 have Y1:W.cell? ⟨k,1,none⟩=some (.slice ta a.length tc):=by rw[aI r.y,<-x];rfl
 have z:=(r.b0.block b X).trans HT;have X2:W.cell? ⟨b,2,none⟩=some (.string (bs s)):=by rw[aI z];rfl
 have Z:=aG r.y;have acA:=aG z;clear r M z;go_loopw [5,6] (λv i wr=>∃(j m:Nat),j<=a.length/\i=.int .i64 j/\wr=W.drewN m/\v=.string (bs (tU (a.take j) s).txt)) (λ_ i _=>a.length-(intOf i).toNat)
 case atStart=>exact⟨0,0,by omega,rfl,by rw[Y.out];rfl,by rw[show tU (a.take 0) s=.n 0 from rfl,sA]⟩
 case round=>
  obtain⟨j,m,hj,rfl,rfl,rfl⟩:=hrel;by_cases A:j<a.length
  ·obtain⟨gn,I⟩:=E (by omega);obtain⟨gt,J⟩:=H (by omega);have N:W.cell? ⟨gn,j,none⟩=some (.string (bs a[j].1)):=by
    have h:=D.n;rw[u,I]at h;rw[h.cellAt j (by omega),aC,aa A];rfl
   have O:W.cell? ⟨gt,j,none⟩=some (.string (bs a[j].2.txt)):=by
    have h:=D.t;rw[x,J]at h;rw[h.cellAt j (by omega),aC,aa A];rfl
   have aeC:=aR _ _ N;have aac:=aR _ _ O;rw[I]at Y0;rw[J]at Y1;have g:=KO a j A s;by_cases o:a[j].1=s
   ·rw[ah o]at g;have qs:((bs a[j].1).toList==(bs s).toList)=true:=by rw[bo,bR];have:(a[j].1==s)=true:=(by simpa using o);exact this
    go_wp2;go_quiet (fail);go_wp2;go_roundw
    case rel=>exact⟨j+1,_,by omega,by go_num,rfl,by rw[g]⟩
    case measure=>simp[intOf];omega
   ·have P:(a[j].1==s)=false:=by simpa using o
    rw[ag o]at g;have qs:((bs a[j].1).toList==(bs s).toList)=false:=by rw[bo,bR];exact P
    go_wp2;go_quiet (fail);go_wp2;go_roundw
    case rel=>exact⟨j+1,_,by omega,by go_num,rfl,by rw[g]⟩
    case measure=>simp[intOf];omega
  ·have Q:a.take j=a:=cw (by omega);rw[Q];go_wp2;go_ret;refine⟨rfl,S,T,?_,D.grow ⟨rfl,rfl,rfl,bS,λ_ _=>rfl⟩⟩;have h1:=Fr.setAt w k S T nq 3 (.int .i64 ((l.steps:Int)+1));rw[<-Y.out]at h1;exact h1.trans (Fr.below (dW W m) _ _ _ _)
