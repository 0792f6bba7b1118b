import Derived.Test.YtpicaknklgccoaaGreatDoorK33
set_option maxHeartbeats 4000000
set_option maxRecDepth 100000
namespace Go.Proofs.YtpicaknklgccoaaGreatDoor
open Tryz
open Go.RowKit
variable {w y:World}{a b v:Nat}{c:Obj}{d x:Value}{z:Sc}
theorem jy(e B:Nat)(t)(F G:Nat)(H)(I J:Nat)(j:Nat)(S)(U)(i:Nat)(n)(V:S[i]?=some n)(W)(a:n.form=12/\W=129\/n.form≠12/\W=130)(c:Nat)(g:MM->MV×MM)(hg:∀(w:World)(k l o:Value)(m:MM),uN e B w (.slice t F G) (.slice H I J) j k l o m S U c->Calls prog W #[ptr e,dK n] w (zI e w (.slice t F G) (.slice H I J) j k l o (g m)))(w)(k l o)(m)(h:uN e B w (.slice t F G) (.slice H I J) j k l o m S U c):Calls prog 98 #[ptr e,.int .i64 i] w (zI e w (.slice t F G) (.slice H I J) j k l o (g m)):=by
 obtain⟨R,hR⟩:∃R:Obj,R=.cells #[.bool false,.int .i64 0] 171:=⟨_,rfl⟩;have q:bg w (w.alloc R):=bV fp _;have x:=kS (w.alloc R) (.slice t F G) (.slice H I J) S U (h.env.tree _ (q.mono h.env.s)) i n V h.env.len;have K:Beside e w.heap.size (w.alloc R) k l o (.cells #[.bool false,.int .i64 0] 171):=Beside.new h.i (by rw[hR];exact bD w _) bS;have h1:=h.below q;have L:Hid (fK e e w (w.alloc R) k l o k l o):=fK.below e e k l o q;refine fw h1 K hg λH1 M HG=>?_;have y0:cg w e 0 (.slice t F G):=dR h.i.y rfl;have y1:cg w e 1 (.slice H I J):=dR h.i.y rfl;have X:=aG h.i.y;have Y:Hid _:=a;have hil:i<=9000:=by have:=(ae.1 V).1;have:=h.env.len;omega
 rcases a with⟨a,rfl⟩|⟨a,rfl⟩
 all_goals
  first|have Z:((n.form:Int)==12)=true:=cL (x:=12) a|have Z:((n.form:Int)==12)=false:=aJ (x:=12) a
  clear q K h1 h hg V a;unfold cG dK at x;unfold ptr;go_in;subst hR;go_wp2_with fail;refine ay x ?_;rintro _ w2 ⟨rfl,z⟩;obtain⟨W3,A⟩:=ez (w2.alloc (.cells #[.int .i64 n.form,.int .i64 n.at_,.int .i64 n.dH,.int .i64 n.num,.string (bs n.word),.int .i64 n.region,.int .i64 n.source,.int .i64 n.p0,.int .i64 n.p1,.int .i64 n.p2] 160));have C:Below (w.alloc (.cells #[.bool false,.int .i64 0] 171)).heap.size (w.alloc (.cells #[.bool false,.int .i64 0] 171)) W3:=by rw[A];exact z.alloc z.size _
  have h3:=H1.out.below C;have D:fK e e (w.alloc (.cells #[.bool false,.int .i64 0] 171)) W3 k l o k l o:=fK.below e e k l o C;have hk:=HG.out W3 k l o m h3;refine fw hk (L.out.trans D) (M.out.keep D) λHK N u=>?_;clear z C h3 D hk H1 L M HG x y0 y1;unfold ptr dK at HK;go_wp2_with fail;rw[<-A];refine ay HK.out ?_;rintro _ T ⟨rfl,nv5,cv5,rv5,E,O⟩;refine bY (N.out.trans E) O λDV QK=>?_;have d:=u.out.keep E;have P:Hid _:=d;have Q:w.heap.size<=w.heap.size:=bS;have x0:cg T w.heap.size 0 (.bool false):=dR d.b rfl;have t:cg T w.heap.size 1 (.int .i64 0):=dR d.b rfl;have g0:T.frozen? ⟨w.heap.size,0,none⟩=false:=aK d.b 0;have g1:T.frozen? ⟨w.heap.size,1,none⟩=false:=aK d.b 1;have VX:=aG d.b;clear E O d HK N u A X;generalize g m=p at*;unfold rC;go_wp2;have f:=P.out;have Xz:=(QK.out.beside f.ne f.n f.c f.r 0 (.bool p.1.c)).beside f.ne f.n f.c f.r 1 (.int .i64 p.1.n);have hf7:=(DV.out.upto (jN (jN fp ⟨w.heap.size,0,none⟩ Q (.bool p.1.c)) ⟨w.heap.size,1,none⟩ Q (.int .i64 p.1.n)));refine au (v:=.agg #[.bool p.1.c,.int .i64 p.1.n]) (by simp[results,results98,go_sem,x0,t]) rfl ⟨rfl,_,_,_,hf7,Xz⟩
mutual
def qV(d:List NR):Sc->PT->Nat->Prop
 |_,.num _ s,a=>∃n,d[a]?=some n/\n.form=1/\n.num=aQ s
 |e,.name _ s,a=>∃n,d[a]?=some n/\n.form=2/\n.source=gb e s
 |e,.node _ k f g c,a=>(∃n,d[a+aU c]?=some n/\n.form=dX k/\n.region=aQ g/\n.p0=(cz c a).getD 0 (-1)/\n.p1=(cz c a).getD 1 (-1)/\n.p2=(cz c a).getD 2 (-1))/\l7 d e f c (j5 k) a
def l7(d:List NR):Sc->List UInt8->List PT->List Bool->Nat->Prop
 |_,_,[],_,_=>True
 |_,_,_::_,[],_=>False
 |e,f,t::r,b::bs,a=>qV d (if b then e++[(f,(a:Int)-1)] else e) t a/\l7 d e f r bs (a+t.cnt)
end
theorem tI{d:Type}(b a c:List d)(j:Nat)(x:d)(h:a[j]?=some x):(b++(a++c))[b.length+j]?=some x:=by
 have e:=(ae.1 h).1;rw[aw (by omega),cJ,ak e];exact h
mutual
theorem NA.CG:∀{g:Sc}{t:PT}{d:Nat}{l:List NR},NA g t d l->∀(f e:List NR),f.length=d->qV (f++(l++e)) g t d
 |_,.num _ s,_,_,h,f,e,j=>by
  simp only[NA]at h;subst h;subst j;simp only[qV];exact⟨_,tI f _ e 0 _ rfl,rfl,rfl⟩
 |_,.name _ s,_,_,h,f,e,j=>by
  simp only[NA]at h;subst h;subst j;simp only[qV];exact⟨_,tI f _ e 0 _ rfl,rfl,rfl⟩
 |_,.node p k m u i,d,_,h,f,e,j=>by
  simp only[NA]at h;obtain⟨o,n,h1,rfl⟩:=h;have q:=j6.len h1;simp only[qV];refine⟨⟨⟨dX k,p,n,0,m,aQ u,-1,(cz i d).getD 0 (-1),(cz i d).getD 1 (-1),(cz i d).getD 2 (-1)⟩,?_,rfl,rfl,rfl,rfl,rfl⟩,?_⟩
  ·rw[<-q];conv=>lhs;rw[show d+o.length=f.length+o.length from by rw[j]]
   refine tI f _ e o.length _ ?_;rw[aw bS,cx];rfl
  ·have h2:=j6.CG h1 f (⟨dX k,p,n,0,m,aQ u,-1,(cz i d).getD 0 (-1),(cz i d).getD 1 (-1),(cz i d).getD 2 (-1)⟩::e) j;rw[aB,cQ];exact h2
theorem j6.CG:∀{g:Sc}{m:List UInt8}{v:List PT}{bs:List Bool}{d:Nat}{l:List NR},j6 g m v bs d l->∀(f e:List NR),f.length=d->l7 (f++(l++e)) g m v bs d
 |_,_,[],_,_,_,_,_,_,_=>by simp[l7]
 |_,_,_::_,[],_,_,h,_,_,_=>by simp[j6]at h
 |_,_,t::r,b::bs,_,_,h,f,e,j=>by
  simp only[j6]at h;obtain⟨a,c,h1,h2,rfl⟩:=h;have q:=NA.len h1;simp only[l7];constructor
  ·have:=NA.CG h1 f (c++e) j;rw[aB];exact this
  ·have:=j6.CG h2 (f++a) e (by rw[aj,q,j]);simp only[aB]at this⊢;exact this
end
theorem NA.Nn{t}{a}(h:NA z t 0 a):qV a z t 0:=by
 have:=NA.CG h [] [] rfl;simpa using this
def PN(a:Sc):Prop:=∀x∈a,-1<=x.2/\x.2<=9000
theorem PN.find(h:PN z)(s):-1<=gb z s/\gb z s<=9000:=by
 unfold gb;split
 ·rename_i x a;exact h x (by have:=dU a;simpa using this)
 ·omega
theorem PN.snoc(h:PN z)(nm)(i:Int)(b:-1<=i/\i<=9000):PN (z++[(nm,i)]):=by
 intro x a;rw[aA,ax]at a;rcases a with a|rfl
 ·exact h x a
 ·exact b
def CH(e B:Nat)(f:Option Addr)(g h:Nat)(i:Option Addr)(j k:Nat)(b:Nat)(c:List NR)(l:List Int)(t:PT):Prop:=
 ∀(d:Sc)(a:Nat),qV c d t a->PN d->t.wf->t.DP->a+t.cnt<=c.length->c.length<=9000->b<=20000->mC e B (.slice f g h) (.slice i j k) b c l (((a+t.cnt:Nat):Int)-1) t.cnt (λm=>mW b t d a m)
theorem SC(e B:Nat)(l)(o q:Nat)(r)(t u:Nat)(a:Nat)(f)(g)(p:Nat)(s):CH e B l o q r t u a f g (.num p s):=by
 intro x b v y z A C D E w i j k m h;refine⟨jk a E _ x b m z A h.bd h.rl,?_⟩;simp only[qV]at v;obtain⟨n,F,c,d⟩:=v;simp only[PT.cnt]at h⊢;rw[show (((b+1:Nat):Int)-1)=(b:Int) from by omega];have:=jy e B l o q r t u a f g b n F _ (.inr ⟨by rw[c];decide,rfl⟩) 1 (λm=>jj a m (λm=>(⟨false,n.num⟩,m))) (λw i j k m h=>qU e B _ _ a f g n c 1 _ (.inl ⟨rfl,rfl⟩) w i j k m h) w i j k m h;rw[d]at this;simp only[mW];exact this
theorem PO(e B:Nat)(o)(q r:Nat)(t)(u v:Nat)(a:Nat)(f)(g)(p:Nat)(s):CH e B o q r t u v a f g (.name p s):=by
 intro y b x i z A C D E w j k l m h;refine⟨jk a E _ y b m z A h.bd h.rl,?_⟩;simp only[qV]at x;obtain⟨n,F,d,c⟩:=x;simp only[PT.cnt]at h⊢;rw[show (((b+1:Nat):Int)-1)=(b:Int) from by omega];have:=jy e B o q r t u v a f g b n F _ (.inr ⟨by rw[d];decide,rfl⟩) 1 (λm=>jj a m (λm=>(m.look n.source,m))) (λw j k l m h=>qU e B _ _ a f g n d 1 _ (.inr (.inl ⟨rfl,by rw[c];exact i.find s,rfl⟩)) w j k l m h) w j k l m h;rw[c]at this;simp only[mW];exact this
theorem PQ(y B:Nat)(J)(K L:Nat)(M)(N O:Nat)(d:Nat)(z)(A)(p:Nat)(k)(U V)(o)(s:∀x∈o,CH y B J K L M N O d z A x):CH y B J K L M N O d z A (.node p k U V o):=by
 intro P e T t r C F u H w i j l m h;refine⟨jk d H _ P e m r C h.bd h.rl,?_⟩;simp only[qV]at T;obtain⟨⟨n,G,f,R,q,D,Q⟩,g⟩:=T;simp only[PT.wf]at r;simp only[PT.DP]at C;simp only[PT.cnt]at h F⊢;rw[show (((e+(1+aU o):Nat):Int)-1)=((e+aU o:Nat):Int) from by omega];cases k with
 |dV=>
  match o,r.1,s with
  |[a,b],_,s=>
   simp only[j5,l7,bT,cH,aT]at g;simp only[rH]at r;simp only[oP]at C;simp only[aU,az]at F G h⊢;simp only[cz,bB,bM]at q D;have E:=s a (by simp) P e g.1 t r.2.1 C.2.1 (by omega) u H;have I:=s b (by simp) _ (e+a.cnt) g.2.1 (t.snoc _ _ (by omega)) r.2.2.1 C.2.2.1 (by omega) u H;rw[<-q]at E;rw[<-D]at I;have v:=λw i j l m h=>I6 y B _ _ d z A n a.cnt b.cnt _ _ (by rw[q];omega) E I w i j l m (uN.less (T:=1+(a.cnt+b.cnt)) h (by omega));have:=jy y B J K L M N O d z A (e+(a.cnt+b.cnt)) n G _ (.inr ⟨by rw[f];decide,rfl⟩) (1+(a.cnt+b.cnt)) _ (λw i j l m h=>qU y B _ _ d z A n f (1+(a.cnt+b.cnt)) _ (.inr (.inr ⟨_,by decide,v⟩)) w i j l m h) w i j l m h;rw[q]at this;simp only[mW,KG,bT,reduceCtorEq,aT];exact this
 |pair=>
  match o,r.1,s with
  |[a,b],_,s=>
   simp only[j5,l7,cH,aT]at g;simp only[rH]at r;simp only[oP]at C;simp only[aU,az]at F G h⊢;simp only[cz,bB,bM]at q D;have E:=s a (by simp) P e g.1 t r.2.1 C.2.1 (by omega) u H;have I:=s b (by simp) _ (e+a.cnt) g.2.1 t r.2.2.1 C.2.2.1 (by omega) u H;rw[<-q]at E;rw[<-D]at I;have v:=λw i j l m h=>F4 y B _ _ d z A n a.cnt b.cnt _ _ E I w i j l m (uN.less (T:=1+(a.cnt+b.cnt)) h (by omega));have:=jy y B J K L M N O d z A (e+(a.cnt+b.cnt)) n G _ (.inr ⟨by rw[f];decide,rfl⟩) (1+(a.cnt+b.cnt)) _ (λw i j l m h=>qU y B _ _ d z A n f (1+(a.cnt+b.cnt)) _ (.inr (.inr ⟨_,by decide,v⟩)) w i j l m h) w i j l m h;rw[R]at this;simp only[mW,qh,bT,reduceCtorEq,aT];exact this
 |fst=>
  match o,r.1,s with
  |[a],_,s=>
   simp only[j5,l7,cH,aT]at g;simp only[rH]at r;simp only[oP]at C;simp only[aU,az]at F G h⊢;simp only[cz,bB]at q;have E:=s a (by simp) P e g.1 t r.2.1 C.2.1 (by omega) u H;rw[<-q]at E;have v:=λw i j l m h=>yB y B _ _ d z A n a.cnt _ E w i j l m (uN.less (T:=1+a.cnt) h (by omega));have:=jy y B J K L M N O d z A (e+a.cnt) n G _ (.inr ⟨by rw[f];decide,rfl⟩) (1+a.cnt) _ (λw i j l m h=>qU y B _ _ d z A n f (1+a.cnt) _ (.inr (.inr ⟨_,by decide,v⟩)) w i j l m h) w i j l m h;simp only[ah (show n.form=5 from f)]at this;simp only[mW,qh,bT,reduceCtorEq,aT];exact this
 |snd=>
  match o,r.1,s with
  |[a],_,s=>
   simp only[j5,l7,cH,aT]at g;simp only[rH]at r;simp only[oP]at C;simp only[aU,az]at F G h⊢;simp only[cz,bB]at q;have E:=s a (by simp) P e g.1 t r.2.1 C.2.1 (by omega) u H;rw[<-q]at E;have v:=λw i j l m h=>yB y B _ _ d z A n a.cnt _ E w i j l m (uN.less (T:=1+a.cnt) h (by omega));have:=jy y B J K L M N O d z A (e+a.cnt) n G _ (.inr ⟨by rw[f];decide,rfl⟩) (1+a.cnt) _ (λw i j l m h=>qU y B _ _ d z A n f (1+a.cnt) _ (.inr (.inr ⟨_,by decide,v⟩)) w i j l m h) w i j l m h;simp only[ag (show n.form≠5 by rw[f];decide)]at this;simp only[mW,qh,reduceCtorEq,aT];exact this
 |lv=>
  match o,r.1,s with
  |[a,b,c],_,s=>
   simp only[j5,l7,cH,aT]at g;simp only[rH]at r;simp only[oP]at C;simp only[aU,az]at F G h⊢;simp only[cz,bB,bM]at q D Q;have E:=s a (by simp) P e g.1 t r.2.1 C.2.1 (by omega) u H;have I:=s b (by simp) _ (e+a.cnt) g.2.1 t r.2.2.1 C.2.2.1 (by omega) u H;have S:=s c (by simp) _ (e+a.cnt+b.cnt) g.2.2.1 t r.2.2.2.1 C.2.2.2.1 (by omega) u H;rw[<-q]at E;rw[<-D]at I;rw[<-Q]at S;have v:=λw i j l m h=>Ll y B _ _ d z A n a.cnt b.cnt _ _ _ E I c.cnt S w i j l m (uN.less (T:=1+(a.cnt+(b.cnt+c.cnt))) h (by omega));have:=jy y B J K L M N O d z A (e+(a.cnt+(b.cnt+c.cnt))) n G _ (.inr ⟨by rw[f];decide,rfl⟩) (1+(a.cnt+(b.cnt+c.cnt))) _ (λw i j l m h=>qU y B _ _ d z A n f (1+(a.cnt+(b.cnt+c.cnt))) _ (.inr (.inr ⟨_,by decide,v⟩)) w i j l m h) w i j l m h;simp only[mW,Yu,bT,reduceCtorEq,aT];exact this
 |loop=>
  match o,r.1,s with
  |[a,b,c],_,s=>
   simp only[j5,l7,bT,cH,aT]at g;simp only[rH]at r;simp only[oP]at C;simp only[aU,az]at F G h⊢;simp only[cz,bB,bM]at q D Q;have E:=s a (by simp) P e g.1 t r.2.1 C.2.1 (by omega) u H;have I:=s b (by simp) _ (e+a.cnt) g.2.1 t r.2.2.1 C.2.2.1 (by omega) u H;have S:=s c (by simp) _ (e+a.cnt+b.cnt) g.2.2.1 (t.snoc _ _ (by omega)) r.2.2.2.1 C.2.2.2.1 (by omega) u H;rw[<-q]at E;rw[<-D]at I;rw[<-Q]at S;have v:=λw i j l m h=>F7 y B _ _ d z A n (by rw[D];omega) a.cnt b.cnt c.cnt _ _ _ E I (by omega) S w i j l m (uN.less (T:=1+(a.cnt+(b.cnt+c.cnt))) h (by omega));have:=jy y B J K L M N O d z A (e+(a.cnt+(b.cnt+c.cnt))) n G _ (.inr ⟨by rw[f];decide,rfl⟩) (1+(a.cnt+(b.cnt+c.cnt))) _ (λw i j l m h=>qU y B _ _ d z A n f (1+(a.cnt+(b.cnt+c.cnt))) _ (.inr (.inr ⟨_,by decide,v⟩)) w i j l m h) w i j l m h;rw[D]at this;simp only[mW,B6,bT,reduceCtorEq,aT];exact this
 |new=>
  match o,r.1,s with
  |[a],_,s=>
   simp only[j5,l7,cH,aT]at g;simp only[rH]at r;simp only[oP]at C;simp only[aU,az]at F G h⊢;simp only[cz,bB]at q;have E:=s a (by simp) P e g.1 t r.2.1 C.2.1 (by omega) u H;rw[<-q]at E;have:=jy y B J K L M N O d z A (e+a.cnt) n G _ (.inl ⟨f,rfl⟩) (1+a.cnt) _ (λw i j l m h=>I7 y B _ _ d z A n (by rw[R];omega) a.cnt _ E w i j l m h) w i j l m h;rw[R]at this;simp only[mW,DN,bT];exact this
 |_=>
  match o,r.1,s with
  |[a,b],_,s=>
   simp only[j5,l7,cH,aT]at g;simp only[rH]at r;simp only[oP]at C;simp only[aU,az]at F G h⊢;simp only[cz,bB,bM]at q D;have E:=s a (by simp) P e g.1 t r.2.1 C.2.1 (by omega) u H;have I:=s b (by simp) _ (e+a.cnt) g.2.1 t r.2.2.1 C.2.2.1 (by omega) u H;rw[<-q]at E;rw[<-D]at I;have v:=λw i j l m h=>A1 y B _ _ d z A n a.cnt b.cnt _ _ E I w i j l m (uN.less (T:=1+(a.cnt+b.cnt)) h (by omega))
   first
   | (have:=jy y B J K L M N O d z A (e+(a.cnt+b.cnt)) n G _ (.inr ⟨by rw[f];decide,rfl⟩) (1+(a.cnt+b.cnt)) _ (λw i j l m h=>qU y B _ _ d z A n f (1+(a.cnt+b.cnt)) _ (.inr (.inr ⟨_,by decide,v⟩)) w i j l m h) w i j l m h
      simp only[f]at this;simp only[mW,qh,reduceCtorEq,aT];exact this)
   | (have:=jy y B J K L M N O d z A (e+(a.cnt+b.cnt)) n G _ (.inr ⟨by rw[f];decide,rfl⟩) (1+(a.cnt+b.cnt)) _ (λw i j l m h=>qU y B _ _ d z A n f (1+(a.cnt+b.cnt)) _ (.inr (.inr ⟨_,by decide,v⟩)) w i j l m h) w i j l m h
      simp only[f]at this;simp only[mW,qh,reduceCtorEq,aT];exact this)
   | (have:=jy y B J K L M N O d z A (e+(a.cnt+b.cnt)) n G _ (.inr ⟨by rw[f];decide,rfl⟩) (1+(a.cnt+b.cnt)) _ (λw i j l m h=>qU y B _ _ d z A n f (1+(a.cnt+b.cnt)) _ (.inr (.inr ⟨_,by decide,v⟩)) w i j l m h) w i j l m h
      simp only[f]at this;simp only[mW,qh,reduceCtorEq,aT];exact this)
theorem SD(c B:Nat)(d)(e f:Nat)(g)(h i:Nat)(a:Nat)(j)(l)(t):CH c B d e f g h i a j l t:=by
 induction t using PT.ind with
 |h1 p s=>exact SC c B d e f g h i a j l p s
 |h2 p s=>exact PO c B d e f g h i a j l p s
 |h3 p k m n b o=>exact PQ c B d e f g h i a j l p k m n b o
open Go.Lib (decDigits)
def iY:Vl->MV->MM->MM
 |.n _,_,m=>m
 |.p a b,v,m=>iY b (m.use v).1.b (iY a (m.use v).1.a (m.use v).2)
theorem PR(m:MM)(f:Nat):(m.stop f).cells=m.cells/\(m.stop f).regs=m.regs/\(m.stop f).named=m.named/\(m.stop f).steps=m.steps/\(m.stop f).live=m.live/\(m.stop f).most=m.most:=by unfold MM.stop;split<;>simp
theorem I9(m:MM)(v):(m.use v).2.cells=m.cells/\(m.use v).2.regs=m.regs/\(m.use v).2.named=m.named/\(m.use v).2.steps=m.steps/\(m.use v).2.live=m.live/\(m.use v).2.most=m.most:=by
 unfold MM.use;split
 ·simp
 ·simp only;split
  ·simp
  ·exact PR m 13
theorem zJ:∀(x:Vl)(v:MV)(m:MM),(iY x v m).cells=m.cells/\(iY x v m).regs=m.regs/\(iY x v m).named=m.named/\(iY x v m).steps=m.steps/\(iY x v m).live=m.live/\(iY x v m).most=m.most
 |.n _,_,m=>by simp[iY]
 |.p a b,v,m=>by
  have h1:=I9 m v;have h2:=zJ a (m.use v).1.a (m.use v).2;have h3:=zJ b (m.use v).1.b (iY a (m.use v).1.a (m.use v).2);exact⟨h3.1.trans (h2.1.trans h1.1),h3.2.1.trans (h2.2.1.trans h1.2.1),h3.2.2.1.trans (h2.2.2.1.trans h1.2.2.1),h3.2.2.2.1.trans (h2.2.2.2.1.trans h1.2.2.2.1),h3.2.2.2.2.1.trans (h2.2.2.2.2.1.trans h1.2.2.2.2.1),h3.2.2.2.2.2.trans (h2.2.2.2.2.2.trans h1.2.2.2.2.2)⟩
theorem F8{c:Nat}:∀(x:Vl)(v:MV)(m:MM),ui c m->ui c (iY x v m)
 |.n _,_,_,h=>h
 |.p a b,v,m,h=>by
  exact F8 b _ _ (F8 a _ _ (MM.KJ h v).1)
theorem oC.len{d}:∀{x:Vl}{v:MV},oC d x v->x.txt.length<=7*x.size+4
 |.n k,_,h=>by simp[oC]at h;simp[Vl.txt,Vl.size];have:=nU k h.2.2;omega
 |.p a b,_,h=>by
  obtain⟨_,i,c,_,_,e,f⟩:=h;have:=oC.len e;have:=oC.len f;simp[Vl.txt,Vl.size];omega
theorem oC.use{d}{a b}{v}(h:oC d (.p a b) v)(m:MM)(f:m.cells=d):oC d a (m.use v).1.a/\oC d b (m.use v).1.b:=by
 obtain⟨k,i,c,g,j,l,n⟩:=h;have o:=(ae.1 j).1;have e:(m.use v).1=c:=by
  unfold MM.use;rw[ag (by rw[k,g,f];simp;omega)];rw[g,f,bL,aZ,j];rfl
 rw[e];exact⟨l,n⟩
theorem CI (g B:Nat) (I o) (d:Nat) (D:d<=20000) (Z) (op) (q r t) (f):∀(x:Vl)(v:MV)(w:World)(m:MM),m.cells=f->oC f x v->x.size<=63->v.bd->nJ g w I o d q r t m->ui d m->I5 g B w q r t I o Z op->
  Lib.TabBelow prog B w "internal/strconv.uint64pow10" .u64 Lib.pow10Tab->Calls prog 99 #[ptr g,rC v] w λe J=>e=.returned (.string (bs x.txt))/\fK g g w J q r t q r t/\nJ g J I o d q r t (iY x v m)
 |.n k,v,w,m,Y,E,L,M,hi,F,j,u=>by
  simp only[oC]at E;obtain⟨N,O,hk⟩:=E;obtain⟨vc,vn⟩:=v;simp only at N O;subst N;subst O;have SE:=λW (hW:bg w W)=>rI W (u W (hW.mono j.s)) k W hk fp;simp only[Vl.txt,iY];unfold ptr rC;go_in;go_wp2_with fail;refine ay (SE _ (bV fp _)) ?_;rintro _ K ⟨rfl,hb2⟩;have HB:=(bV (aM _ w) (.cells #[.bool false,.int .i64 k] 171)).trans (hb2.mono (by simp));go_wp2;go_ret;exact⟨rfl,fK.below g g q r t HB,hi.below HB⟩
 |.p a b,v,w,m,Y,E,L,M,hi,F,j,u=>by
  have hl:=E.len;have A:=E.use m Y;simp only[oC]at E;obtain⟨N,i,c,O,_,_,_⟩:=E;simp only[Vl.size]at L;have hla:=A.1.len;have hlb:=A.2.len;have l:=MM.KJ F v;have P:=I9 m v;have z1:(ByteArray.mk #[91]).size=1:=rfl;have z2:(ByteArray.mk #[32]).size=1:=rfl;have z3:(ByteArray.mk #[93]).size=1:=rfl;have zA:(bs a.txt).size<=500:=by rw[eB];omega
  have zB:(bs b.txt).size<=500:=by rw[eB];omega
  have zC:(ByteArray.mk #[91]++bs a.txt).size<=501:=by rw[aX];omega
  have zD:(ByteArray.mk #[91]++bs a.txt++ByteArray.mk #[32]).size<=502:=by rw[aX];omega
  have zE:(ByteArray.mk #[91]++bs a.txt++ByteArray.mk #[32]++bs b.txt).size<=1002:=by rw[aX];omega
  have Q:ByteArray.mk #[91]++bs a.txt++ByteArray.mk #[32]++bs b.txt++ByteArray.mk #[93]=bs (Vl.txt (.p a b)):=by
   rw[show ByteArray.mk #[91]=bs [91] from rfl,show ByteArray.mk #[32]=bs [32] from rfl,show ByteArray.mk #[93]=bs [93] from rfl,eM,eM,eM,eM];simp[Vl.txt]
  have R:=λW (hW:bg w W)=>Ni g W I o d q r t m v F D M (hi.below hW);have HTA:=λW h1 h2 h3=>CI g B I o d D Z op q r t f a (m.use v).1.a W (m.use v).2 (P.1.trans Y) A.1 (by omega) l.2.1 h1 l.1 h2 h3;have Lc:=λW h1 h2 h3=>CI g B I o d D Z op q r t f b (m.use v).1.b W (iY a (m.use v).1.a (m.use v).2) ((zJ a (m.use v).1.a (m.use v).2).1.trans (P.1.trans Y)) A.2 (by omega) l.2.2 h1 (F8 a _ _ l.1) h2 h3;simp only[iY];generalize m.use v=z at*;obtain⟨vc,vn⟩:=v;simp only at N O;subst N;subst O;unfold ptr rC at R;unfold ptr rC;go_in;go_wp2_with fail;refine ay (R _ (bV fp _)) ?_;rintro _ K ⟨rfl,hf2,S⟩;obtain⟨W3,G⟩:=ez (K.alloc (.cells #[.bool z.1.a.c,.int .i64 z.1.a.n,.bool z.1.b.c,.int .i64 z.1.b.n,.int .i64 z.1.home,.int .i64 z.1.lA] 219));have T:bg K W3:=by rw[G];exact bV fp _
  have H:=((fK.below g g q r t (bV (aM _ w) _)).trans hf2).trans (fK.below g g q r t T);have h:=j.on H;have y:=λJ h'=>u J ((j.XA H).trans h');have hs3:Beside g K.heap.size W3 q r t (.cells #[.bool z.1.a.c,.int .i64 z.1.a.n,.bool z.1.b.c,.int .i64 z.1.b.n,.int .i64 z.1.home,.int .i64 z.1.lA] 219):=Beside.new S (by rw[G];exact bD K _) bS;have U:=HTA W3 (S.below T) h y;unfold ptr rC at U;unfold Sl;go_wp2_with fail;rw[<-G];refine ay U ?_;rintro _ w4 ⟨rfl,C,hi4⟩;have V:=hs3.keep C;have X:=Lc w4 hi4 (h.on C) (λJ h'=>y J ((h.XA C).trans h'));have yA:=H.trans C;obtain⟨e0,e1,e2,e3,e4,e5⟩:=qR V.b;have hl4:=aG V.b;unfold ptr rC at X;generalize K.heap.size=p at*;go_wp2_with fail;refine ay X ?_;rintro _ w5 ⟨rfl,I8,KY⟩;have DV:=yA.trans I8;go_wp2;go_ret;exact⟨by rw[<-Q];rfl,DV,KY⟩
theorem yC(w)(c d)(b)(f)(h:ew w c d b f)(j:b.length<=9000):Calls prog 68 #[cG c d] w λv g=>v=.returned (.int .i64 ((b.length:Int)-1))/\bg w g:=by
 obtain⟨a,i,rfl⟩:=cm h.nd;obtain⟨k,e,rfl⟩:=cm h.op;unfold cG;go_in;go_wp2;go_ret;exact⟨rfl,fp.alloc bS _⟩
theorem qB{P:Program}{c:Array Oper}{o:Oper}{a}{K}{Q}{E}(i:o.guard=none)(f)(b)(d:(execOp a.eval o).run P w=.ok (.enter f b) w)(h:Calls P f b w λe g=>∃v,e=.returned v/\K (a.put o.dst v) g):if Region.wanted o (yielded c a.tmps)=true then Oper.wp P o a w K Q else E:=by
 have j:Region.wanted o (yielded c a.tmps)=true:=by simp[Region.wanted,i]
 rw[ah j];unfold Oper.wp;rw[d];refine ay h ?_;rintro e g ⟨v,rfl,k⟩;exact k
theorem PU:(prog.info? 171).map (λi=>(i.zero,i.size,i.bytes))=some (some (.agg #[.bool false,.int .i64 0]),2,16):=by kernel_rfl
theorem PV:prog.underlying 165=some (.slice 171):=by kernel_rfl
def m0(k:Nat):MM:=⟨0,0,List.replicate k v0,[],[],0,0,0⟩
def SF(w:World)(e b:Value)(a k:Nat)(f:Value)(wc:World):Prop:=
 ∃c d,f=.pointer (some ⟨c,0,none⟩)/\nJ c wc e b a d (.slice none 0 0) (.slice none 0 0) (m0 k)/\bg w wc/\w.heap.size<=c/\∀g,d.ownBlock=some g->w.heap.size<=g
def mz:Array Value:=#[.slice none 0 0,.slice none 0 0,.int .i64 0,.int .i64 0,.int .i64 0,.slice none 0 0,.slice none 0 0,.slice none 0 0,.int .i64 0,.int .i64 0,.int .i64 0]
theorem PX(k:Nat):(madeCells #[Value.bool false,Value.int .i64 0] (k*2)).toList=(List.replicate k v0).flatMap Sk:=by
 apply fD;intro i;have a:((List.replicate k v0).flatMap Sk).length=k*2:=by rw[I1 Sk 2 (λ_=>rfl)];simp
 by_cases c:i<k*2
 ·have d:=Nat.div_add_mod' i 2;have b:=qp Sk 2 (λ_=>rfl) (List.replicate k v0) (i / 2) (i%2) (oY _ (by omega));rw[d]at b;rw[b,eQ,ah (by omega)];simp[madeCells];rcases (show i%2=0\/i%2=1 by omega) with h|h
  ·simp[h,c,Sk,v0]
  ·simp[h,c,Sk,v0]
 ·rw[bH (by rw[Array.length_toList,size_madeCells];omega),bH (by rw[a];omega)]
theorem XE(w:World)(A R:Obj):((w.alloc A).alloc R).heap[w.heap.size]?=some A:=cR _ (bD w A)
theorem abb(w:World)(A R O:Obj):(((w.alloc A).alloc R).alloc O).heap[w.heap.size]?=some A:=cR _ (cR _ (bD w A))
theorem SG(w:World)(A R O):(((w.alloc A).alloc R).alloc O).heap[w.heap.size+1+1]?=some O:=by
 have:=bD ((w.alloc A).alloc R) O;simpa using this
theorem SH(h:w.heap[b]?=some (.cells mz 169)):w.cell? ⟨b,0,none⟩=some (.slice none 0 0)/\w.cell? ⟨b,1,none⟩=some (.slice none 0 0)/\w.cell? ⟨b,2,none⟩=some (.int .i64 0)/\w.cell? ⟨b,3,none⟩=some (.int .i64 0)/\w.cell? ⟨b,4,none⟩=some (.int .i64 0)/\w.cell? ⟨b,5,none⟩=some (.slice none 0 0)/\w.cell? ⟨b,6,none⟩=some (.slice none 0 0)/\w.cell? ⟨b,7,none⟩=some (.slice none 0 0)/\w.cell? ⟨b,8,none⟩=some (.int .i64 0)/\w.cell? ⟨b,9,none⟩=some (.int .i64 0)/\w.cell? ⟨b,10,none⟩=some (.int .i64 0):=by
 refine⟨?_,?_,?_,?_,?_,?_,?_,?_,?_,?_,?_⟩<;>(rw[aI h];rfl)
theorem V0(h:w.heap[b]?=some (.cells mz 169)):w.frozen? ⟨b,0,none⟩=false/\w.frozen? ⟨b,1,none⟩=false/\w.frozen? ⟨b,2,none⟩=false/\w.frozen? ⟨b,3,none⟩=false/\w.frozen? ⟨b,4,none⟩=false/\w.frozen? ⟨b,5,none⟩=false/\w.frozen? ⟨b,6,none⟩=false/\w.frozen? ⟨b,7,none⟩=false/\w.frozen? ⟨b,8,none⟩=false/\w.frozen? ⟨b,9,none⟩=false/\w.frozen? ⟨b,10,none⟩=false:=
 ⟨aK h 0,aK h 1,aK h 2,aK h 3,aK h 4,aK h 5,aK h 6,aK h 7,aK h 8,aK h 9,aK h 10⟩
theorem F9{e:Nat}(p:b<=9000)(i:c=.cells (madeCells #[.bool false,.int .i64 0] (b*2)) 171)(j:bg w y)(l:y.heap[v]?=some (.cells #[d,x,.int .i64 a,.int .i64 0,.int .i64 0,.slice (some ⟨e,0,none⟩) b b,.slice none 0 0,.slice none 0 0,.int .i64 0,.int .i64 0,.int .i64 0] 169))(m:y.heap[e]?=some c)(f:e≠v)(h1:w.heap.size<=v)(h2:w.heap.size<=e):SF w d x a b (.pointer (some ⟨v,0,none⟩)) y:=by
 subst i;refine⟨v,.slice (some ⟨e,0,none⟩) b b,rfl,⟨l,?_,wD,wD,?_,by simp[Value.ownBlock],by simp[Value.ownBlock],?_,?_,?_⟩,j,h1,?_⟩
 ·have n:(m0 b).named.length=b:=by simp[m0]
  have h:((m0 b).named.flatMap Sk)=(madeCells #[Value.bool false,Value.int .i64 0] (b*2)).toList:=by rw[PX];rfl
  rw[n,h];refine⟨by simp[madeCells],aE ⟨e,b,_,rfl,ld,m,bS,by unfold maxLen;omega,size_madeCells _ _,?_⟩⟩;rw[cw (by simp[madeCells])]
 ·simp[Value.ownBlock];exact f
 ·intro g _;simp[Value.ownBlock]
 ·intro g _;simp[Value.ownBlock]
 ·intro g _;simp[Value.ownBlock]
 ·intro g o;simp[Value.ownBlock]at o;omega
theorem V1(f:b<=9000)(g:c=.cells (madeCells #[.bool false,.int .i64 0] (b*2)) 171)(e:bg w y):SF w d x a b (.pointer (some ⟨y.heap.size+1,0,none⟩)) ((y.alloc c).alloc (.cells #[d,x,.int .i64 a,.int .i64 0,.int .i64 0,.slice (some ⟨y.heap.size,0,none⟩) b b,.slice none 0 0,.slice none 0 0,.int .i64 0,.int .i64 0,.int .i64 0] 169)):=
 have h:=e.size
 F9 (e:=y.heap.size) f g (bV (bV e _) _) (by have:=bD (y.alloc c) (.cells #[d,x,.int .i64 a,.int .i64 0,.int .i64 0,.slice (some ⟨y.heap.size,0,none⟩) b b,.slice none 0 0,.slice none 0 0,.int .i64 0,.int .i64 0,.int .i64 0] 169);simpa using this) (cR _ (bD y c)) (by omega) (by omega) h
theorem V2(f:b<=9000)(g:c=.cells (madeCells #[.bool false,.int .i64 0] (b*2)) 171)(e:bg w y):SF w d x a b (.pointer (some ⟨y.heap.size,0,none⟩)) ((y.alloc (.cells #[d,x,.int .i64 a,.int .i64 0,.int .i64 0,.slice (some ⟨y.heap.size+1,0,none⟩) b b,.slice none 0 0,.slice none 0 0,.int .i64 0,.int .i64 0,.int .i64 0] 169)).alloc c):=
 have h:=e.size
 F9 (e:=y.heap.size+1) f g (bV (bV e _) _) (cR _ (bD y _)) (by have:=bD (y.alloc (.cells #[d,x,.int .i64 a,.int .i64 0,.int .i64 0,.slice (some ⟨y.heap.size+1,0,none⟩) b b,.slice none 0 0,.slice none 0 0,.int .i64 0,.int .i64 0,.int .i64 0] 169)) c;simpa using this) (by omega) h (by omega)
theorem V3(j:w.heap.size<=v)(l:b<=9000)(m:c=.cells (madeCells #[.bool false,.int .i64 0] (b*2)) 171)(g:bg w y)(h:y.heap[v]?=some (.cells mz 169)):SF w d x a b (.pointer (some ⟨v,0,none⟩)) ((((((((((((y.setCell ⟨v,0,none⟩ (d)).setCell ⟨v,1,none⟩ (x)).setCell ⟨v,2,none⟩ (.int .i64 a)).setCell ⟨v,3,none⟩ (.int .i64 0)).setCell ⟨v,4,none⟩ (.int .i64 0)).setCell ⟨v,5,none⟩ (.slice (some ⟨y.heap.size,0,none⟩) b b)).setCell ⟨v,6,none⟩ (.slice none 0 0)).setCell ⟨v,7,none⟩ (.slice none 0 0)).setCell ⟨v,8,none⟩ (.int .i64 0)).setCell ⟨v,9,none⟩ (.int .i64 0)).setCell ⟨v,10,none⟩ (.int .i64 0)).alloc c):=by
 have u:=aG h;have n:=bu h 0 (d);have h1:=bu n 1 (x);have h2:=bu h1 2 (.int .i64 a);have h3:((((y.setCell ⟨v,0,none⟩ (d)).setCell ⟨v,1,none⟩ (x)).setCell ⟨v,2,none⟩ (.int .i64 a)).setCell ⟨v,3,none⟩ (.int .i64 0)).heap[v]?=some (.cells #[d,x,.int .i64 a,.int .i64 0,.int .i64 0,.slice none 0 0,.slice none 0 0,.slice none 0 0,.int .i64 0,.int .i64 0,.int .i64 0] 169):=bu h2 3 (.int .i64 0);have o:=bu h3 4 (.int .i64 0);have p:=bu o 5 (.slice (some ⟨y.heap.size,0,none⟩) b b);have q:=bu p 6 (.slice none 0 0);have r:=bu q 7 (.slice none 0 0);have s:=bu r 8 (.int .i64 0);have t:=bu s 9 (.int .i64 0);have e:=bu t 10 (.int .i64 0);have i:bg w (((((((((((y.setCell ⟨v,0,none⟩ (d)).setCell ⟨v,1,none⟩ (x)).setCell ⟨v,2,none⟩ (.int .i64 a)).setCell ⟨v,3,none⟩ (.int .i64 0)).setCell ⟨v,4,none⟩ (.int .i64 0)).setCell ⟨v,5,none⟩ (.slice (some ⟨y.heap.size,0,none⟩) b b)).setCell ⟨v,6,none⟩ (.slice none 0 0)).setCell ⟨v,7,none⟩ (.slice none 0 0)).setCell ⟨v,8,none⟩ (.int .i64 0)).setCell ⟨v,9,none⟩ (.int .i64 0)).setCell ⟨v,10,none⟩ (.int .i64 0)):=by
  repeat (first|with_reducible refine ku ?_ _ (by simp only;omega) _)
  exact g
 have f:(((((((((((y.setCell ⟨v,0,none⟩ (d)).setCell ⟨v,1,none⟩ (x)).setCell ⟨v,2,none⟩ (.int .i64 a)).setCell ⟨v,3,none⟩ (.int .i64 0)).setCell ⟨v,4,none⟩ (.int .i64 0)).setCell ⟨v,5,none⟩ (.slice (some ⟨y.heap.size,0,none⟩) b b)).setCell ⟨v,6,none⟩ (.slice none 0 0)).setCell ⟨v,7,none⟩ (.slice none 0 0)).setCell ⟨v,8,none⟩ (.int .i64 0)).setCell ⟨v,9,none⟩ (.int .i64 0)).setCell ⟨v,10,none⟩ (.int .i64 0)).heap.size=y.heap.size:=by simp[World.setCell]
 generalize (((((((((((y.setCell ⟨v,0,none⟩ (d)).setCell ⟨v,1,none⟩ (x)).setCell ⟨v,2,none⟩ (.int .i64 a)).setCell ⟨v,3,none⟩ (.int .i64 0)).setCell ⟨v,4,none⟩ (.int .i64 0)).setCell ⟨v,5,none⟩ (.slice (some ⟨y.heap.size,0,none⟩) b b)).setCell ⟨v,6,none⟩ (.slice none 0 0)).setCell ⟨v,7,none⟩ (.slice none 0 0)).setCell ⟨v,8,none⟩ (.int .i64 0)).setCell ⟨v,9,none⟩ (.int .i64 0)).setCell ⟨v,10,none⟩ (.int .i64 0))=W at e i f⊢;refine F9 (e:=y.heap.size) l m (bV i _) (cR _ e) ?_ (by omega) (by omega) g.size;rw[<-f];exact bD W c
theorem nF:(prog.info? 23).map (·.size)=some 5:=by kernel_rfl
def CJ(m:MM)(X:Vl):Value:=if m.fault≠0 then .agg #[.string ⟨#[]⟩,.int .i64 0,.int .i64 0,.int .i64 0,.int .i64 0] else .agg #[.string (bs X.txt),.int .i64 m.steps,.int .i64 m.cells.length,.int .i64 m.most,.int .i64 m.live]
theorem abc(a k:Nat):ui a (m0 k):=by
 refine⟨by simp[m0],by simp[m0],by simp[m0,qi],by simp[m0,qi],by simp[m0],?_,by simp[m0],by simp[m0],by simp[m0]⟩;intro v b;simp[m0]at b;rw[b.2];exact ye
theorem Np (j) (l o:Nat) (p) (r s:Nat) (a:Nat) (f) (op) (hf:a<=20000) (hl:f.length<=9000) (w) (hT:ew w (.slice j l o) (.slice p r s) f op) (htab:Lib.TabIs prog w "internal/strconv.uint64pow10" .u64 Lib.pow10Tab) (t) (hsh:qV f [] t 0) (hwf:t.wf) (hrg:t.DP) (F:t.cnt=f.length)
  (x:MV×MM) (hx:x=mW a t [] 0 ((m0 f.length).opn (-1))) (X:Vl) (hX:oC x.2.cells X x.1) (hXs:X.size<=63):
  Calls prog 59 #[cG (.slice j l o) (.slice p r s),.int .i64 a] w λe L=>e=.returned (.tuple #[CJ (iY X x.1 x.2) X,.int .i64 (iY X x.1 x.2).fault])/\bg w L:=by
 have hW0:bg w ((w.alloc (.cells #[.slice j l o,.slice p r s] 59)).alloc (.cells #[.string ⟨#[]⟩,.int .i64 0,.int .i64 0,.int .i64 0,.int .i64 0] 23)):=bV (bV fp _) _;have hwk:=SD (B:=w.heap.size) (a:=a) (d:=j) (e:=l) (f:=o) (g:=p) (h:=r) (i:=s) (j:=f) (l:=op) (t:=t);have HWK:Hid (∀i,mC i w.heap.size (.slice j l o) (.slice p r s) a f op ((f.length:Int)-1) t.cnt (λm=>mW a t [] 0 m)):=λi=>by
  have:=hwk i [] 0 hsh (λ_ h=>by simp at h) hwf hrg (by omega) hl hf;rw[bJ,F]at this;rw[F];exact this
 have HT:Hid _:=hT;have abd:Hid (∀L,bg w L->Lib.TabIs prog L "internal/strconv.uint64pow10" .u64 Lib.pow10Tab):=cC htab;refine fw F hx hX λN HX abe=>?_;obtain⟨RV,hRV⟩:=ez (CJ (iY X x.1 x.2) X);obtain⟨FV,hFV⟩:∃FV:Nat,FV=(iY X x.1 x.2).fault:=⟨_,rfl⟩;rw[<-hRV,<-hFV];refine bY hRV hFV λV4 HFV=>?_;clear hFV;clear hwk hsh hwf hrg F hx hX htab hRV;have hle:=λL (h:Below ((w.alloc (.cells #[.slice j l o,.slice p r s] 59)).alloc (.cells #[.string ⟨#[]⟩,.int .i64 0,.int .i64 0,.int .i64 0,.int .i64 0] 23)).heap.size ((w.alloc (.cells #[.slice j l o,.slice p r s] 59)).alloc (.cells #[.string ⟨#[]⟩,.int .i64 0,.int .i64 0,.int .i64 0,.int .i64 0] 23)) L)=>(mY L _ _ f op ((hT.below hW0).below h)).mono (λ_ w'' (hx:_/\bg L w'')=>(⟨hx.1,hx.2,h.trans (hx.2.mono h.size)⟩:_/\_/\Below ((w.alloc (.cells #[.slice j l o,.slice p r s] 59)).alloc (.cells #[.string ⟨#[]⟩,.int .i64 0,.int .i64 0,.int .i64 0,.int .i64 0] 23)).heap.size ((w.alloc (.cells #[.slice j l o,.slice p r s] 59)).alloc (.cells #[.string ⟨#[]⟩,.int .i64 0,.int .i64 0,.int .i64 0,.int .i64 0] 23)) w''));have Uz:Hid _:=hle;obtain⟨i0,hi,hz0,hz1,hz2⟩:=cI PU;obtain⟨M,hM⟩:∃M:Obj,M=.cells (madeCells #[.bool false,.int .i64 0] (f.length*2)) 171:=⟨_,rfl⟩;have hmk:∀W:World,(Instr.makeSlice 165 (.int .i64 f.length) (.int .i64 f.length)).run prog W=.ok (.slice (some ⟨W.heap.size,0,none⟩) f.length f.length) (W.alloc M):=by
  intro W;have hr:=run_make (P:=prog) W 165 171 i0 _ PV hi hz0 .i64 .i64 f.length f.length (by omega) (Int.le_refl _) (by rw[hz2];omega) (by omega);simp only[bL,hz1]at hr;rw[hr,hM];rfl
 have HM:Hid _:=hM;clear hT hle hi hz0 hz1 hz2 hM;obtain⟨k,hk⟩:∃k,f.length=k:=⟨_,rfl⟩;have I:Hid _:=hk;rw[hk]at hl Uz hmk HM HX HWK;clear hk;unfold cG at Uz;unfold cG;go_in;go_upto_region 1 with fail;go_cut [6] from 9 to 14 (λt6 wx=>SF ((w.alloc (.cells #[.slice j l o,.slice p r s] 59)).alloc (.cells #[.string ⟨#[]⟩,.int .i64 0,.int .i64 0,.int .i64 0,.int .i64 0] 23)) (.slice j l o) (.slice p r s) a k t6 wx)
 case first=>
  go_region_law (first
   | (refine qB rfl 93 #[.agg #[.slice j l o,.slice p r s]] (by go_simp) ?_
      refine ay (Uz _ (by repeat (first|with_reducible exact aM _ _|with_reducible refine bV ?_ _|with_reducible refine l6 ?_|with_reducible refine gD ?_))) ?_;rintro e K ⟨rfl,hb2,hBw⟩;have Fx:w.heap.size+1<K.heap.size:=by have:=hb2.size;simp at this;omega
      have hkA:K.heap[w.heap.size]?=some (.cells #[.slice j l o,.slice p r s] 59):=(by rw[hb2.block _ (by simp;omega)];first|exact XE w _ _|exact abb w _ _ _);have hlA:=aG hkA;have a0:K.cell? ⟨w.heap.size,0,none⟩=some (.slice j l o):=(by rw[aI hkA];rfl);have a1:K.cell? ⟨w.heap.size,1,none⟩=some (.slice p r s):=(by rw[aI hkA];rfl)
      try (have hkz:K.heap[w.heap.size+1+1]?=some (.cells mz 169):=(by rw[hb2.block _ (by simp)];exact SG w _ _ _);have hlz:=aG hkz;obtain⟨z0,z1,z2,z3,z4,z5,z6,z7,z8,z9,z10⟩:=SH hkz;obtain⟨f0,f1,f2,f3,f4,f5,f6,f7,f8,f9,f10⟩:=V0 hkz)
      refine⟨_,rfl,?_⟩))
  all_goals (go_wp2_with fail;go_meet)
  all_goals first
   |exact V1 hl HM.out hBw
   |exact V2 hl HM.out hBw
   |exact V3 (by simp) hl HM.out hBw hkz
 case rest=>
  obtain⟨i,nv,rfl,hi,sY,Xq,hnv⟩:=hcut;have RY:=hW0.size;have adh:((w.alloc (.cells #[.slice j l o,.slice p r s] 59)).alloc (.cells #[.string ⟨#[]⟩,.int .i64 0,.int .i64 0,.int .i64 0,.int .i64 0] 23)).heap.size=w.heap.size+1+1:=by simp
  have G:bg w wc:=hW0.trans (sY.mono RY);have hsA:Beside i w.heap.size wc nv (.slice none 0 0) (.slice none 0 0) (.cells #[.slice j l o,.slice p r s] 59):=⟨by rw[sY.block _ (by omega)];exact XE w _ _,by omega,λe=>by have:=hnv _ e;omega,by simp[Value.ownBlock],by simp[Value.ownBlock]⟩;have Sw:Beside i (w.heap.size+1) wc nv (.slice none 0 0) (.slice none 0 0) (.cells #[.string ⟨#[]⟩,.int .i64 0,.int .i64 0,.int .i64 0,.int .i64 0] 23):=⟨by rw[sY.block _ (by omega)];have:=bD (w.alloc (.cells #[.slice j l o,.slice p r s] 59)) (.cells #[.string ⟨#[]⟩,.int .i64 0,.int .i64 0,.int .i64 0,.int .i64 0] 23);simpa using this,by omega,λe=>by have:=hnv _ e;omega,by simp[Value.ownBlock],by simp[Value.ownBlock]⟩;have wN:I5 i w.heap.size wc nv (.slice none 0 0) (.slice none 0 0) (.slice j l o) (.slice p r s) f op:=⟨by omega,G.size,λg hg=>by have:=hnv g hg;omega,λg hg=>by simp[Value.ownBlock]at hg,λg hg=>by simp[Value.ownBlock]at hg,λL hw'=>HT.below (G.trans hw'),by have:=I.out;omega⟩;have hop:=I0 i wc _ _ a nv _ _ (m0 k) (-1) (by simp[m0]) (by simp[m0]) hi;refine pd hop wN hsA Sw G λV5 O Q Nk Nq=>?_;clear hop wN hsA Sw G sY hi hnv Xq adh hW0 RY Uz hmk HM;unfold ptr at V5;go_wp2_with fail;refine ay V5 ?_;rintro _ K ⟨rfl,rv2,z,rR⟩;have A:=O.on z;have SA:=MM.KH (abc a k) (-1) (by omega) (by simp[m0]);have abf:uN i w.heap.size K (.slice j l o) (.slice p r s) a nv (.slice none 0 0) rv2 ((m0 k).opn (-1)) f op t.cnt:=⟨rR,SA,A,by simp[MM.opn],by have:=N.out;have:=I.out;simp[MM.opn,m0];omega,by have:=N.out;have:=I.out;simp only[MM.opn,m0];omega,by have:=I.out;simp[MM.opn,m0];omega,hf⟩;have hro:=yC K _ _ f op (A.tree K fp) A.len;rw[I.out]at hro;refine pd hro abf (Q.out.keep z) (Nk.out.keep z) z λV6 R adi abg yS=>?_;have a0:K.cell? ⟨w.heap.size,0,none⟩=some (.slice j l o):=by rw[aI (Q.out.keep z).b];rfl
  have a1:K.cell? ⟨w.heap.size,1,none⟩=some (.slice p r s):=by rw[aI (Q.out.keep z).b];rfl
  have hlA:=aG (Q.out.keep z).b;have abh:Hid _:=Nq.out.trans (O.out.XA z);clear A SA abf hro z rR V5 O Q Nk Nq;unfold cG at V6;go_wp2_with fail;refine ay V6.out ?_;rintro _ w3 ⟨rfl,hb3⟩;have S:=R.out.below hb3;have hf3:fK i i K w3 nv (.slice none 0 0) rv2 nv (.slice none 0 0) rv2:=fK.below i i _ _ _ hb3;have T:=HWK.out i w3 nv (.slice none 0 0) rv2 _ S;dsimp only at T;rw[<-HX.out]at T;refine pd T.2 T.1 S (abg.out.keep hf3) (abh.out.trans (R.out.env.XA hf3)) λHK3 HKP U SB V7=>?_;clear S hf3 T hb3 V6 R adi abg yS abh a0 a1 hlA;unfold ptr at HK3;go_wp2_with fail;refine ay HK3.out ?_;rintro _ w4 ⟨rfl,BK,Lm,J9,Zm,hi4⟩;obtain⟨W5,QJ⟩:=ez (w4.alloc (.cells #[.bool x.1.c,.int .i64 x.1.n] 171));have Ln:bg w4 W5:=by rw[QJ];exact bV fp _
  have D:=U.out.env.on Zm;have I8:fK i i w4 W5 BK Lm J9 BK Lm J9:=fK.below i i _ _ _ Ln;have E:=D.on I8;have V:=(V7.out.trans (U.out.env.XA Zm)).trans (D.XA I8);have GW:=CI i w.heap.size _ _ a hf f op BK Lm J9 x.2.cells X x.1 W5 x.2 rfl abe.out hXs HKP.out.2.1 (hi4.below Ln) HKP.out.1 E (λL h'=>abd.out L (V.trans h'));refine fT GW ((SB.out.keep Zm).keep I8) V E λHTX yz abj Y=>?_;clear Ln D I8 E V GW Zm hi4 HK3 U SB V7 HKP abe abd;unfold ptr rC at HTX;unfold rC;go_wp2_with fail;rw[<-QJ];refine ay HTX.out ?_;rintro _ w6 ⟨rfl,hf6,Uy⟩;have Z:=yz.out.keep hf6;refine bY (abj.out.trans (Y.out.XA hf6)) Z λH C=>?_;obtain⟨_,y3,y4,_,y6,_,_,y9,y10⟩:=fQ Uy.y;obtain⟨ca,cc,hcv⟩:=cm Uy.cl;rw[hcv]at y6;have aeU:=aG Uy.y;have hq6:=aG Z.b;clear QJ hf6 Uy Z HTX yz abj Y HWK HT N I HX hcv;generalize iY X x.1 x.2=u at*;have HQ:Hid (w.heap.size<=w.heap.size+1):=Nat.le_succ _;generalize w.heap.size+1=q at*;by_cases hz:u.fault=0
  ·rw[hz]at y4;have hrv:RV=.agg #[.string (bs X.txt),.int .i64 u.steps,.int .i64 u.cells.length,.int .i64 u.most,.int .i64 u.live]:=by rw[V4.out];unfold CJ;rw[ag (λh=>h hz)]
   have hfv:FV=0:=by rw[HFV.out];exact hz
   clear V4 HFV hz;subst hrv;subst hfv;have d:=C.out.b;have HNE:Hid (w.heap.size<=q):=HQ.out;go_wp2_with (refine n9 rfl 23 (.tmp 4) (.tmp 37) rfl q #[.string (bs X.txt),.int .i64 u.steps,.int .i64 u.cells.length,.int .i64 u.most,.int .i64 u.live] rfl rfl 23 _ d nF rfl (by simp[Value.oneCell']) ?_;intro W hW W6 hWo hW1 hW2 hW3);have s0:W.cell? ⟨q,0,none⟩=some (.string (bs X.txt)):=by rw[aI hW];rfl
   have s1:W.cell? ⟨q,1,none⟩=some (.int .i64 u.steps):=by rw[aI hW];rfl
   have s2:W.cell? ⟨q,2,none⟩=some (.int .i64 u.cells.length):=by rw[aI hW];rfl
   have s3:W.cell? ⟨q,3,none⟩=some (.int .i64 u.most):=by rw[aI hW];rfl
   have s4:W.cell? ⟨q,4,none⟩=some (.int .i64 u.live):=by rw[aI hW];rfl
   have HBN:Hid _:=j9 H.out HNE.out W6 hWo hW1 hW2 hW3;clear hW W6 hWo hW1 hW2 hW3 H d C y3 y4 y6 y9 y10;go_wp2;refine au (v:=.tuple #[.agg #[.string (bs X.txt),.int .i64 u.steps,.int .i64 u.cells.length,.int .i64 u.most,.int .i64 u.live],.int .i64 0]) (by simp[results,results59,go_sem,s0,s1,s2,s3,s4]) rfl ⟨rfl,HBN.out⟩
  ·have hrv:RV=.agg #[.string ⟨#[]⟩,.int .i64 0,.int .i64 0,.int .i64 0,.int .i64 0]:=by rw[V4.out];unfold CJ;rw[ah hz]
   have hfv:FV=u.fault:=HFV.out;have hne:((u.fault:Int) !=0)=true:=by simpa using hz
   clear V4 HFV hz;subst hrv;subst hfv;have d:=C.out.b;have r0:w6.cell? ⟨q,0,none⟩=some (.string ⟨#[]⟩):=by rw[aI d];rfl
   have r1:w6.cell? ⟨q,1,none⟩=some (.int .i64 0):=by rw[aI d];rfl
   have r2:w6.cell? ⟨q,2,none⟩=some (.int .i64 0):=by rw[aI d];rfl
   have r3:w6.cell? ⟨q,3,none⟩=some (.int .i64 0):=by rw[aI d];rfl
   have r4:w6.cell? ⟨q,4,none⟩=some (.int .i64 0):=by rw[aI d];rfl
   have g0:=aK d 0;have g1:=aK d 1;have g2:=aK d 2;have g3:=aK d 3;have g4:=aK d 4;have hqm:q≠i:=C.out.ne;have hmq:i≠q:=λe=>hqm e.symm;have hN:(((((w6.setCell ⟨q,0,none⟩ (.string ⟨#[]⟩)).setCell ⟨q,1,none⟩ (.int .i64 0)).setCell ⟨q,2,none⟩ (.int .i64 0)).setCell ⟨q,3,none⟩ (.int .i64 0)).setCell ⟨q,4,none⟩ (.int .i64 0)).heap[q]?=some (.cells #[.string ⟨#[]⟩,.int .i64 0,.int .i64 0,.int .i64 0,.int .i64 0] 23):=bu (bu (bu (bu (bu d 0 _) 1 _) 2 _) 3 _) 4 _;have HN:Hid _:=hN;have HBN:Hid (bg w (((((w6.setCell ⟨q,0,none⟩ (.string ⟨#[]⟩)).setCell ⟨q,1,none⟩ (.int .i64 0)).setCell ⟨q,2,none⟩ (.int .i64 0)).setCell ⟨q,3,none⟩ (.int .i64 0)).setCell ⟨q,4,none⟩ (.int .i64 0))):=ku (ku (ku (ku (ku H.out _ HQ.out _) _ HQ.out _) _ HQ.out _) _ HQ.out _) _ HQ.out _;clear d hN C H;go_upto_region 6 with fail;go_region;obtain⟨W7,hE7⟩:=ez ((((((w6.setCell ⟨q,0,none⟩ (.string ⟨#[]⟩)).setCell ⟨q,1,none⟩ (.int .i64 0)).setCell ⟨q,2,none⟩ (.int .i64 0)).setCell ⟨q,3,none⟩ (.int .i64 0)).setCell ⟨q,4,none⟩ (.int .i64 0)).drew);have J:W7.heap[q]?=some (.cells #[.string ⟨#[]⟩,.int .i64 0,.int .i64 0,.int .i64 0,.int .i64 0] 23):=by rw[hE7];exact HN.out
   have Pm:Hid (bg w W7):=by rw[hE7];exact l6 HBN.out
   rw[<-hE7];have s0:W7.cell? ⟨q,0,none⟩=some (.string ⟨#[]⟩):=by rw[aI J];rfl
   have s1:W7.cell? ⟨q,1,none⟩=some (.int .i64 0):=by rw[aI J];rfl
   have s2:W7.cell? ⟨q,2,none⟩=some (.int .i64 0):=by rw[aI J];rfl
   have s3:W7.cell? ⟨q,3,none⟩=some (.int .i64 0):=by rw[aI J];rfl
   have s4:W7.cell? ⟨q,4,none⟩=some (.int .i64 0):=by rw[aI J];rfl
   clear hE7 J HN HBN r0 r1 r2 r3 r4 g0 g1 g2 g3 g4 y3 y4 y6 y9 y10;go_wp2;refine au (v:=.tuple #[.agg #[.string ⟨#[]⟩,.int .i64 0,.int .i64 0,.int .i64 0,.int .i64 0],.int .i64 u.fault]) (by simp[results,results59,go_sem,s0,s1,s2,s3,s4]) rfl ⟨rfl,Pm.out⟩
