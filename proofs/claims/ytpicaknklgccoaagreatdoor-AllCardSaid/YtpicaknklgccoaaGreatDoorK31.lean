import Derived.Test.YtpicaknklgccoaaGreatDoorK30
import Derived.Test.YtpicaknklgccoaaGreatDoorK26
set_option maxHeartbeats 8000000
set_option maxRecDepth 100000
namespace Go.Proofs.YtpicaknklgccoaaGreatDoor
open Tryz
open Go.RowKit
variable {w b L Y:Nat}{a K:World}{c:MM}{d:PT}{x y z v u:Value}{P:Bool}{T:FuncId}{N:List MV}{M:List NR}{R:Obj}
theorem CD{F}{id:Nat}(h:gS a F d id w b):∃i f n g,a.heap[b]?=some (.cells (dJ i d.pl f n g id (id+(d.cnt-1)) w) 82 (0,0)):=by
 cases d with
 |num p s=>simp[gS]at h;exact⟨_,_,_,_,h.2⟩
 |name p s=>simp[gS]at h;exact⟨_,_,_,_,h.2⟩
 |node p k f j c=>
  obtain⟨_,g,l,h1,_⟩:=h;have e:id+((PT.node p k f j c).cnt-1)=id+aU c:=by simp only[PT.cnt];omega
  rw[e];exact⟨_,_,_,_,h1⟩
theorem Pz(n:Nat):(madeCells #[Value.string ⟨#[]⟩] n).toList=(List.replicate n ([]:List UInt8)).map ia:=by
 apply mA
 ·simp[madeCells]
 ·simp[madeCells,Nat.mod_one,ia,bs]
def qo(t:PT):gH:=⟨0,0,List.replicate t.cnt []⟩
theorem vN{cls}(hit:Ek a cls)(H:cls.length<=9000)(t)(I:t.wf)(b:Nat)(F)(C)(w)(S:gS a F t 0 0 b)(T:t.cnt<=9000)(i:bg a w)(U:w.ownsRow a.heap.size 3 1 C cls.length (cls.map λ(k:Nat)=>Value.int .i64 k))(V:t.dn<=cls.length)(J:∃d n c,C=.slice d n c):Calls prog 39 #[ptr b,C] w λv K=>∃W L M Y,v=.returned (ptr W)/\w.heap.size<=K.heap.size/\bg w K/\ja a K W cls C L M Y [] (aV cls t 0 0 [] (qo t)).2:=by
 obtain⟨Z,hi,N,O,P⟩:=cI vw;obtain⟨D,E,G,rfl⟩:=J;obtain⟨op,nm,n,kv,m⟩:=CD S;have WW:=fj t;have hb:=aG m;have Q:=i.size;have sY:b<w.heap.size:=by omega
 have x6:w.cell? ⟨b,6,none⟩=some (.int .i64 (t.cnt-1:Nat)):=by rw[i.cell (p:=⟨b,6,none⟩) hb,aI m,bJ];rfl
 have u:=λg j=>U.lt g j;have HC:w.ownsRow a.heap.size 3 1 (.slice D E G) cls.length (cls.map λ(k:Nat)=>Value.int .i64 k):=U;show Calls _ _ #[Value.pointer (some ⟨b,0,none⟩),_] w _;go_in;go_wp2_with (at_make;go_must (refine ic _ rfl (.tmp 11) (.tmp 11) 68 rfl w.heap.size 9 Z _ 1 oJ hi N O .i64 .i64 _ _ t.cnt rfl rfl ?l1 ?l2 ?m1 ?m2 ?m3 ?_))
 case l1=>omega
 case l2=>omega
 case m1=>rw[P];omega
 case m2=>unfold maxLen;omega
 case m3=>omega
 intro o q l;rw[Pz]at q;have r:bg w o:=⟨l.os,l.tape,l.output,l.size,λk x=>l.block k x (by simp)⟩;have hl2:=(q.lt w.heap.size rfl).2;have R:ja a (o.alloc (.cells (lV (.slice D E G) (.slice none 0 0) (.slice none 0 0) (.slice (some ⟨w.heap.size,0,none⟩) t.cnt t.cnt) 0 0) 115)) o.heap.size cls (.slice D E G) (.slice none 0 0) (.slice none 0 0) (.slice (some ⟨w.heap.size,0,none⟩) t.cnt t.cnt) [] (qo t):=by
  have s:bg o (o.alloc (.cells (lV (.slice D E G) (.slice none 0 0) (.slice none 0 0) (.slice (some ⟨w.heap.size,0,none⟩) t.cnt t.cnt) 0 0) 115)):=fp.alloc bS _;refine⟨(i.trans (r.mono Q)).trans (s.mono (by omega)),by omega,bD _ _,bE (bE HC r) s,wD,wD,?_,?_,by simp[Value.ownBlock],by simp[Value.ownBlock],?_,λg j h=>by simp[Value.ownBlock]at h,λg j h=>by simp[Value.ownBlock]at h,?_,λg j=>by simp[Value.ownBlock]at j,λg j=>by simp[Value.ownBlock]at j,λg j=>by simp[Value.ownBlock]at j⟩
  ·have h:=eA (b:=a.heap.size) (bE q s) (λk x=>by simp only[Value.ownBlock,ai]at x;omega);simp only[qo,jH];exact h
  ·intro e;have:=(u _ e).2;omega
  ·simp only[Value.ownBlock,ne_eq,ai];omega
  ·intro g j h;simp only[Value.ownBlock,ai]at h;have:=(u g j).2;omega
 have y:=Rc (K:=a) (w:=o.heap.size) hit H t I 0 0 b F [] (qo t) _ _ _ _ _ S R (by simp[qo]) (by omega) (by simp) (by simp) (by simp;omega);unfold ptr at y;go_wp2_with fail;refine y.mono ?_;rintro e X ⟨rfl,L,M,z,f⟩;have A:w.heap.size<=X.heap.size:=by have:=z.size;simp at this;omega
 have B:bg w X:=by
  refine⟨f.b0.os.trans i.os.symm,f.b0.tape.trans i.tape.symm,f.b0.output.trans i.output.symm,A,λk x=>?_⟩;rw[z.blk k (by simp;omega) (by omega) (by simp[Value.ownBlock]) (by simp[Value.ownBlock]) (by simp only[Value.ownBlock,ne_eq,ai];omega),cV _ _ _ (by omega),r.block k x]
 go_wp2;go_ret;exact⟨o.heap.size,L,M,_,rfl,A,B,f⟩
mutual
theorem PE.good{a}{i}(d:Hh i)(f:∀t∈i,∀k,t.c=.kw k->t.s=k.bytes)(n:i.length<=9000):∀{l:List Tk}{e:PT}{r:List Tk},PE a l e r->AG i l e r
 |_,_,_,.num (t:=t) (r:=r) h=>by
  refine⟨(PE.used (.num (jf:=a) h)).1,(PE.used (.num (jf:=a) h)).2,⟨t,r,rfl,aD h⟩,⟨1,rfl,by simp⟩,?_⟩;intro gt v cb p j b w q z A m;obtain⟨h1,h2,_⟩:=rM q;have e:(t::r).length-r.length=1:=by simp
  rw[e];exact Om i d n gt v cb p j b t w m h1 h2 (by omega) h
 |_,_,_,.name (t:=t) (r:=r) h=>by
  refine⟨(PE.used (.name (jf:=a) h)).1,(PE.used (.name (jf:=a) h)).2,⟨t,r,rfl,aE (aD h)⟩,⟨1,rfl,by simp⟩,?_⟩;intro gt v cb p j b w q z A m;obtain⟨h1,h2,_⟩:=rM q;have e:(t::r).length-r.length=1:=by simp
  rw[e];exact Kr i n gt v cb p j b t w m h1 h2 (by omega) h
 |_,_,_,.node (t:=t) (u:=u) (k:=k) (r:=G) (r':=B) (nm:=x) (rg:=y) (kids:=g) h1 h2 h3 C=>by
  have H:=PW.good d f n C;have o:PE a (t::u::G) (.node t.at_ k x y g) B:=.node h1 h2 h3 C;refine⟨o.used.1,o.used.2,⟨t,_,rfl,aE (aE h1)⟩,o.drop,?_⟩;intro gt v cb p j b w q z A m;obtain⟨I,M,J⟩:=rM q;obtain⟨D,K,L⟩:=rM J.symm;have E:=Ld i d n a gt v cb p j b t u k w m I D K z A h3 h1 (f u (aq D) k h2) x y g B (by rw[<-L];exact H);rw[q]at E;exact E
theorem PW.good{a}{i}(d:Hh i)(f:∀t∈i,∀k,t.c=.kw k->t.s=k.bytes)(n:i.length<=9000):∀{F:List Wt}{l:List Tk}{x y:List UInt8}{g:List PT}{r:List Tk},PW a F l x y g r->Ed (AG i) F l x y g r
 |_,_,_,_,_,_,.nil=>.nil
 |_,_,_,_,_,_,.close h h1=>.close h (PW.good d f n h1)
 |_,_,_,_,_,_,.name h h1=>.name h (PW.good d f n h1)
 |_,_,_,_,_,_,.region h h1=>.region h (PW.good d f n h1)
 |_,_,_,_,_,_,.e h h1=>.e (PE.good d f n h) (PW.good d f n h1)
end
theorem PA(l):Hh (tokens l):=⟨λ_ h a=>Ra h a,λ_ h a=>Rb h a,λ_ h _=>U6 h⟩
theorem PB(l):∀t∈tokens l,∀k,t.c=.kw k->t.s=k.bytes:=λ_ h _ a=>U7 h a
mutual
theorem PE.wf{a}:∀{l:List Tk}{e:PT}{r:List Tk},PE a l e r->e.wf
 |_,_,_,.num _=>by simp[PT.wf]
 |_,_,_,.name _=>by simp[PT.wf]
 |_,_,_,.node (k:=k) _ _ h3 c=>by
  simp only[PT.wf];refine⟨?_,PW.wfl c⟩;rw[PW.ur c];cases k<;>cases a<;>first|decide|exact absurd rfl h3
theorem PW.wfl{a}:∀{d:List Wt}{l:List Tk}{f g:List UInt8}{b:List PT}{r:List Tk},PW a d l f g b r->rH b
 |_,_,_,_,_,_,.nil=>by simp[rH]
 |_,_,_,_,_,_,.close _ h1=>PW.wfl h1
 |_,_,_,_,_,_,.name _ h1=>PW.wfl h1
 |_,_,_,_,_,_,.region _ h1=>PW.wfl h1
 |_,_,_,_,_,_,.e h h1=>by simp only[rH];exact⟨PE.wf h,PW.wfl h1⟩
end
theorem sI(s)(d)(e)(w)(D:s.size<=9000)(q:PE d (tokens s.data.toList) e []):Calls prog 61 #[.string s] w λv r=>∃b,v=.returned (ptr b)/\bg w r/\gS r (λk=>k<r.heap.size) e 0 0 b:=by
 have i:(tokens s.data.toList).length<=9000:=by
  have:=xT s.data.toList.length 0 s.data.toList;rw[fI]at this;unfold tokens;rw[fI];omega
 have B:=(PE.good (PA _) (PB _) i q).2.2.2.2;have j:=BA s;obtain⟨o,f⟩:=ez (tokens s.data.toList);rw[<-f]at B j;have E:0<o.length:=by
  obtain⟨t,M,h,_⟩:=q.suffix;rw[f,h];simp
 clear f q i;go_in;go_wp2_with fail;refine (j _ D).mono ?_;rintro F p ⟨G,rfl,a,l⟩;obtain⟨gt,m,u⟩:∃gt m,G=.slice (some ⟨gt,0,none⟩) o.length m:=by
  rcases a.2 with⟨_,h⟩|⟨g,H,I,h,_⟩
  ·omega
  ·exact⟨_,_,h⟩
 subst u;have J:=a.lt gt rfl;have x:X0 o gt m p.heap.size 0 0 0 (p.alloc (.cells (fO (.slice (some ⟨gt,0,none⟩) o.length m) 0 0 0) 181)):=
  ⟨by omega,bD _ _,(eA a (λ_ _=>ld)).alloc _⟩
 have n:=B gt m p.heap.size 0 0 0 _ (by simp) bS bS x;have y:bg w p:=l;have K:=l.size;unfold ptr at n;go_wp2_with fail;refine n.mono ?_;rintro F N ⟨b,rfl,L,c,z⟩;unfold ptr;go_wp2;go_ret;have A:=c.size;refine⟨b,rfl,?_,?_⟩
 ·refine y.trans ⟨c.os,c.tape,c.output,by simp at A;omega,λk C=>?_⟩;rw[c.block k (by simp;omega) (λe=>by cases e;omega),cV _ _ _ (by omega)]
 ·exact gS.keep (λk C=>C.2) (λ_ _=>rfl) _ _ _ _ z
theorem xp(s)(w)(c:3000<s.size)(a:s.size<=maxLen):Calls prog 33 #[.string s,.bool false] w λv b=>v=.returned (.tuple #[.pointer none,.pointer none,.int .i64 1,.int .i64 0])/\bg w b:=by
 unfold maxLen at a;go_in;go_wp2;refine au (v:=.tuple #[.pointer none,.pointer none,.int .i64 1,.int .i64 0]) (by simp[results,results33,go_sem]) rfl ⟨rfl,fp⟩
theorem xq(s)(w)(f:s.size<=3000)(q:Nat)(c:jt false s.data.toList=some q):Calls prog 33 #[.string s,.bool false] w λv d=>v=.returned (.tuple #[.pointer none,.pointer none,.int .i64 2,.int .i64 q])/\bg w d:=by
 have a:=λw=>pj s false w (by omega);rw[c]at a;simp only[lT]at a;go_in;go_wp2_with (go_at_call 60;refine (a _).mono ?_;rintro e g ⟨rfl,b⟩);refine au (v:=.tuple #[.pointer none,.pointer none,.int .i64 2,.int .i64 q]) (by simp[results,results33,go_sem]) rfl ⟨rfl,b⟩
theorem AJ{r}(h:isRec a b r):a.cell? ⟨b,1,none⟩=some (.int .i64 r.p):=by
 obtain⟨c,h⟩:=h;rw[aI h];rfl
theorem Sh(e:PT)(r:Rec)(j:Nat)(a:r∈e.du 0 0)(b:r.iw=true)(c:r.site=j):(e.tE[j]?).map (·.1)=some r.p:=by
 obtain⟨_,_,d,h,_⟩:=(oT e 0 0).2.1 r a b;rw[c,kO]at h;rw[h];rfl
theorem gP{s:ByteArray}{e}(a:PE P (tokens s.data.toList) e []):e.cnt<=s.size:=by
 have h1:=a.used.1;have h2:=xT s.data.toList.length 0 s.data.toList;rw[fI]at h2;unfold tokens at h1;simp at h1;omega
theorem xu(s)(w)(N:s.size<=3000)(e)(A:PE false (tokens s.data.toList) e [])(C:jt false s.data.toList=none)(D:100<e.dn):Calls prog 33 #[.string s,.bool false] w λv E=>∃q:Nat,v=.returned (.tuple #[.pointer none,.pointer none,.int .i64 3,.int .i64 q])/\(e.tE[100]?).map (·.1)=some q/\bg w E:=by
 have m:=λw=>pj s false w (by omega);rw[C]at m;simp only[lT]at m;have f:=λw=>sI s false e w (by omega) A;have B:=gP A;have i:=λb F w h=>sF e b F w (by omega) h;have G:=yt e;unfold ptr at f i;go_in;go_wp2_with (first
  |(go_at_call 60;refine (m _).mono ?_;rintro _ O ⟨rfl,c⟩)
  |(go_at_call 61;refine (f _).mono ?_;rintro _ H ⟨b,rfl,j,n⟩))
 refine (i b _ H n).mono ?_;rintro _ o ⟨g,I,P,rfl,k,t,u⟩;obtain⟨x,r,J,a,y,d,l⟩:=u 100 D;have K:o.cell? ⟨g,100,none⟩=some (.pointer (some ⟨x,0,none⟩)):=by rw[t.cellAt 100 (by omega)];exact J
 have Q:o.cell? ⟨x,1,none⟩=some (.int .i64 r.p):=by rw[k.cell (p:=⟨x,1,none⟩) (aG a.choose_spec)];exact AJ a
 have L:bg w o:=c.trans ((j.mono c.size).trans (k.mono (bw c.size j.size)));have z:=Sh e r 100 l y d;have M:=aR _ _ K;go_wp2;go_quiet (fail);go_wp2;refine au (v:=.tuple #[.pointer none,.pointer none,.int .i64 3,.int .i64 r.p]) (by simp[results,results33,go_sem]) rfl ⟨r.p,rfl,z,L.trans ⟨rfl,rfl,rfl,bS,λ_ _=>rfl⟩⟩
theorem IW{n:Nat}{id:Nat}(h:gS a (λk=>k<a.heap.size) d id w b):gS (a.drewN n) (λk=>k<(a.drewN n).heap.size) d id w b:=
 gS.keep (w:=a) (f:=a.drewN n) (F:=λk=>k<a.heap.size) (i:=λk=>k<(a.drewN n).heap.size) (λ_ h=>h) (λ_ _=>rfl) _ _ _ _ h
theorem uM(s)(w)(hs:s.size<=3000)(e)(J:PE false (tokens s.data.toList) e [])(hn:jt false s.data.toList=none)(hm:e.dn<=100):Calls prog 33 #[.string s,.bool false] w λv K=>∃b t:Nat,v=.returned (.tuple #[ptr b,ptr t,.int .i64 (aV (List.range e.dn) e 0 0 [] (qo e)).2.e,.int .i64 (aV (List.range e.dn) e 0 0 [] (qo e)).2.at_])/\bg w K/\gS K (λk=>k<K.heap.size) e 0 0 b:=by
 obtain⟨i0,hi,L,M,N⟩:=cI iJ;have O:=λw=>pj s false w (by omega);rw[hn]at O;simp only[lT]at O;have z:=λw=>sI s false e w (by omega) J;have yx:=gP J;have A:=λb F w h=>sF e b F w (by omega) h;unfold ptr at z A;have P:=J.wf;go_in;go_wp2_with (first
  |(go_at_call 60;refine (O _).mono ?_;rintro _ w1 ⟨rfl,f⟩)
  |(go_at_call 61;refine (z _).mono ?_;rintro _ w2 ⟨b,rfl,B,C⟩))
 refine (A b _ w2 C).mono ?_;rintro _ l ⟨g,cap,vs,rfl,m,zk,hvs⟩;have D:=gS.keep (λk o=>cT o m.size) (λk o=>m.block k o) _ _ _ _ C;have HB:bg w l:=f.trans ((B.mono f.size).trans (m.mono (bw f.size B.size)));have Q:=HB.size;obtain⟨n,p⟩:=ez e.dn;rw[<-p]at hm⊢;go_wp2;go_loopw [12,13] (λv i wr=>∃k:Nat,k<=n/\i=.int .i64 k/\wr.ownsRow l.heap.size 3 1 v k ((List.range k).map λ(x:Nat)=>Value.int .i64 x)/\bg l wr) (λ_ i _=>n-(intOf i).toNat)
 case atStart=>exact⟨0,by omega,rfl,wD,fp⟩
 case round=>
  obtain⟨k,o,rfl,E,a⟩:=hrel;have c:wr.ownsRow l.heap.size 3 1 _ k ((List.range k).map λ(x:Nat)=>Value.int .i64 x):=E;have S:=a.size;by_cases hlt:k<n
  ·go_wp2_with (at_builtin;go_must (refine dG _ rfl (.tmp 56) (.tmp 58) 42 rfl l.heap.size 3 i0 _ 1 8 gM hi L M N rfl (by decide) _ k ((List.range k).map λ(x:Nat)=>Value.int .i64 x) rfl (c.alloc _) ⟨wr.heap.size,0,none⟩ 1 1 [.int .i64 k] rfl rfl ?c1 ?c2 ?c3 ?c4 ?c5 ?_))
   case c1=>
    intro j u hj;rw[<-hj];exact dQ _ _ _ _
   case c2=>intro u hu;simp at hu;subst hu;rfl
   case c3=>unfold maxLen;omega
   case c4=>first|omega|(simp;omega)
   case c5=>first|omega|(simp;omega)
   intro v' w4 q r hnil;have T:bg l w4:=(a.alloc S _).grown r (by simp;omega) (λb hb=>(cA c b hb).1);go_wp2;go_roundw
   case rel=>
    refine⟨k+1,by omega,by go_num,?_,T⟩;have:=q;rw[gZ,bz];exact this
   case measure=>simp[intOf];omega
  ·have U:k=n:=by omega
   have G:(List.range n).length=n:=di;have H:=vN (a:=l) (cls:=List.range n) (um _ _ (λx hx=>by rw[nO]at hx;omega)) (by omega) e P b _ _ wr D (by omega) a (by have h:=c;rw[U]at h;rw[G];exact h) (by rw[G,p];exact bS) (by
    rcases c.2 with⟨h,_⟩|⟨g',cap',cur,h,_⟩
    ·exact⟨_,_,_,h⟩
    ·exact⟨_,_,_,h⟩)
   unfold ptr at H;go_wp2_with fail;refine H.mono ?_;rintro _ I ⟨t,nv,tv,ov,rfl,ac2,V,d⟩;have c4:cg I t 4 (.int .i64 (aV (List.range n) e 0 0 [] (qo e)).2.e):=dR d.y rfl;have c5:cg I t 5 (.int .i64 (aV (List.range n) e 0 0 [] (qo e)).2.at_):=dR d.y rfl;have W:bg w I:=HB.trans ((a.mono Q).trans (V.mono (by omega)));have X:gS I (λk=>k<I.heap.size) e 0 0 b:=gS.keep (λk o=>by omega) (λk o=>d.b0.block k o) _ _ _ _ D;obtain⟨R,Y⟩:=ez ((aV (List.range n) e 0 0 [] (qo e)).2);rw[<-Y]at c4 c5;have Z:Hid (R=(aV (List.range e.dn) e 0 0 [] (qo e)).2):=by rw[<-p];exact Y
   clear Y;go_wp2;go_quiet (fail);go_wp2;refine au (v:=.tuple #[ptr b,ptr t,.int .i64 R.e,.int .i64 R.at_]) (by simp[results,results33,go_sem,ptr]) rfl ⟨b,t,by rw[Z.out],W.trans ⟨rfl,rfl,rfl,bS,λ_ _=>rfl⟩,IW X⟩
def cK(e:PT):Nat×Nat:=
 if 100<e.dn then (3,((e.tE[100]?).map (·.1)).getD 0)
 else ((aV (List.range e.dn) e 0 0 [] (qo e)).2.e,(aV (List.range e.dn) e 0 0 [] (qo e)).2.at_)
theorem Ng(a)(e p:Nat)(b:e≠0):(gY a e p).e=0->(gY a e p).at_=a.at_:=by
 intro h;exact absurd h (yV a e p b)
theorem fin_at(id p:Nat)(x):(fin id p x).2.e=0->x.2.e=0/\(fin id p x).2.at_=x.2.at_:=by
 unfold fin;split
 ·intro h;exact absurd h (yV _ _ _ (by decide))
 ·intro h;exact⟨h,rfl⟩
theorem Si(cls)(k)(p a:Nat)(d)(c):(dz cls k p a d c).2.e=0->(dz cls k p a d c).2.at_=c.at_:=by
 have b:=Ng c 5 p (by decide);unfold dz;split<;>(first|(intro _;rfl)|exact b|(split<;>first|(intro _;rfl)|exact b))
theorem Nh{a b:gH}(h:a.e≠0->b.e=a.e/\b.at_=a.at_)(c:b.e=0):a.e=0:=by
 by_cases e:a.e=0
 ·exact e
 ·exact absurd ((h e).1.symm.trans c) e
mutual
theorem oU(cls):∀(t:PT)(id d:Nat)(f:dc)(g:gH),(aV cls t id d f g).2.e=0->(aV cls t id d f g).2.at_=g.at_
 |.num p s,id,d,f,g=>by
  simp only[aV];intro h;exact (fin_at id p _ h).2
 |.name p s,id,d,f,g=>by
  simp only[aV];intro h;obtain⟨h1,h2⟩:=fin_at id p _ h;rw[h2]
  revert h1
  split
  ·intro _;rfl
  ·exact Ng g 4 p (by decide)
 |.node p k j v i,id,d,f,g=>by
  simp only[aV];intro h;obtain⟨h1,h2⟩:=fin_at id p _ h;rw[h2]
  revert h1
  split
  ·exact Sj cls j i (id+1) d f g
  ·have q:(if k=.loop then df cls j i (id+1) d f g else cP cls i (id+1) (d+if k=.pair then 1 else 0) f g).2.e=0->(if k=.loop then df cls j i (id+1) d f g else cP cls i (id+1) (d+if k=.pair then 1 else 0) f g).2.at_=g.at_:=by
    by_cases u:k=.loop
    ·simp only[ah u];exact PD cls j i _ _ f g
    ·simp only[ag u];exact EH cls i _ _ f g
   generalize (if k=.loop then df cls j i (id+1) d f g else cP cls i (id+1) (d+if k=.pair then 1 else 0) f g)=x at q;split
   ·rename_i n;intro l;exact absurd l n
   ·rename_i n;have l:x.2.e=0:=by simpa using n
    intro h1;rw[Si cls k p d x.1 x.2 h1,q l]
theorem EH(cls):∀(m:List PT)(id d:Nat)(f:dc)(g:gH),(cP cls m id d f g).2.e=0->(cP cls m id d f g).2.at_=g.at_
 |[],_,_,_,g=>by simp[cP]
 |a::r,id,d,f,g=>by
  simp only[cP];intro h;have h2:=EH cls r (id+a.cnt) (d+a.dn) f (aV cls a id d f g).2 h;have l:=Nh (λe=>uJ cls r (id+a.cnt) (d+a.dn) f _ e) h;rw[h2,oU cls a id d f g l]
theorem Sj(cls)(j):∀(m:List PT)(id d:Nat)(f:dc)(g:gH),(gI cls j m id d f g).2.e=0->(gI cls j m id d f g).2.at_=g.at_
 |[a,b],id,d,f,g=>by
  simp only[gI];intro h;have h2:=oU cls b (id+a.cnt) (d+a.dn) (f++[(j,(aV cls a id d f g).1)]) (aV cls a id d f g).2 h;have l:=Nh (λe=>iX cls b (id+a.cnt) (d+a.dn) _ _ e) h;rw[h2,oU cls a id d f g l]
 |[],_,_,_,g=>by simp[gI]
 |[_],_,_,_,g=>by simp[gI]
 |_::_::_::_,_,_,_,g=>by simp[gI]
theorem PD(cls)(j):∀(m:List PT)(id d:Nat)(f:dc)(g:gH),(df cls j m id d f g).2.e=0->(df cls j m id d f g).2.at_=g.at_
 |[a,b,c],id,d,f,g=>by
  simp only[df];intro h;have h3:=oU cls c _ _ _ _ h;have l:=Nh (λe=>iX cls c _ _ _ _ e) h;have h2:=oU cls b _ _ _ _ l;have o:=Nh (λe=>iX cls b _ _ _ _ e) l;rw[h3,h2,oU cls a id d f g o]
 |[],_,_,_,g=>by simp[df]
 |[_],_,_,_,g=>by simp[df]
 |[_,_],_,_,_,g=>by simp[df]
 |_::_::_::_::_,_,_,_,g=>by simp[df]
end
theorem CE{e}(a:NA [] e 0 M):tG M (opn e 0)=cK e:=by
 have b:=zG M e [] 0 M a (λj _=>by rw[bJ]);have c:((opn e 0).filterMap (gf M)).length=e.dn:=by rw[b,aO,lj]
 unfold tG cK ll;rw[c];by_cases d:100<e.dn
 ·simp only[ah d];rw[ah (by decide),b,aC]
 ·simp only[ag d];rw[ag (by decide),R8 M R9];rcases (aaD (List.range e.dn) (λx g=>by rw[nO]at g;omega) e [] M [] (qo e) [] 0 0 a trivial rfl ⟨by simp,by simp⟩) with⟨f,h1,_⟩|⟨_,h1⟩
  ·rw[h1,f,(oU (List.range e.dn) e 0 0 [] (qo e)) f];rfl
  ·exact h1
theorem EI{e}(a:NA [] e 0 M):CA M (opn e 0):=by
 have b:=a.len;refine⟨by rw[tr,b],λx c=>?_⟩;have:=Sa e 0 x c;omega
theorem ko(a:T=31/\L=3000\/T=54/\L=9000)(s)(w)(d:L<s.size)(b:s.size<=maxLen):Calls prog T #[.string s] w λv c=>v=.returned (.tuple #[cG (.slice none 0 0) (.slice none 0 0),.int .i64 1,.int .i64 0])/\bg w c:=by
 unfold maxLen at b;unfold cG;rcases a with⟨rfl,rfl⟩|⟨rfl,rfl⟩
 all_goals
  go_in;go_wp2;refine au (v:=.tuple #[.agg #[.slice none 0 0,.slice none 0 0],.int .i64 1,.int .i64 0]) (by simp[results,results31,results54,go_sem]) rfl ⟨rfl,fp.alloc bS _⟩
theorem pK(b:Below (a.alloc R).heap.size (a.alloc R) K):K.heap[a.heap.size]?=some R:=by
 rw[b.block a.heap.size (by simp)];exact bD a R
theorem lN(b:Below (a.alloc R).heap.size (a.alloc R) K):bg a K:=((aM _ a).alloc bS R).trans (b.mono (by simp))
theorem kr{R:FuncId}(n:T=31/\R=57/\P=false/\L=3000\/T=54/\R=87/\P=true/\L=9000)(s:ByteArray)(w:World)(A:s.size<=L)(q:Nat)(g:jt P s.data.toList=some q):Calls prog T #[.string s] w λv t=>v=.returned (.tuple #[cG (.slice none 0 0) (.slice none 0 0),.int .i64 2,.int .i64 q])/\bg w t:=by
 have d:(mf P s.size (tokens s.data.toList)).fl=some q:=by
  unfold jt at g;rw[fI]at g;exact VI g
 have f:=λw=>og (n.imp (λh=>⟨h.2.1,h.2.2.1⟩) λh=>⟨h.2.1,h.2.2.1⟩) s w (by omega);have b:Hid _:=d;clear d g;unfold cG;rcases n with⟨rfl,rfl,rfl,rfl⟩|⟨rfl,rfl,rfl,rfl⟩
 all_goals
  go_in;go_wp2_with fail;refine (f _).mono ?_;rintro v i ⟨l,u⟩;have c:=pK l;have B:cg i w.heap.size 0 (.slice none 0 0):=dR c rfl;have C:cg i w.heap.size 1 (.slice none 0 0):=dR c rfl;have D:=aK c 0;have E:=aK c 1;have x:=aG c;have o:Hid _:=lN l;rcases u with⟨r,a,rfl⟩|⟨a,_⟩
  ·have e:r=q:=by rw[b.out]at a;cases a;rfl
   subst e;unfold cG;have m:=cR (.cells #[.slice none 0 0,.slice none 0 0] 59) (bu (bu c 0 (.slice none 0 0)) 1 (.slice none 0 0));have j:(((i.setCell ⟨w.heap.size,0,none⟩ (.slice none 0 0)).setCell ⟨w.heap.size,1,none⟩ (.slice none 0 0)).alloc (.cells #[.slice none 0 0,.slice none 0 0] 59)).cell? ⟨w.heap.size,0,none⟩=some (.slice none 0 0):=by rw[aI m];rfl
   have k:(((i.setCell ⟨w.heap.size,0,none⟩ (.slice none 0 0)).setCell ⟨w.heap.size,1,none⟩ (.slice none 0 0)).alloc (.cells #[.slice none 0 0,.slice none 0 0] 59)).cell? ⟨w.heap.size,1,none⟩=some (.slice none 0 0):=by rw[aI m];rfl
   refine bY j k λy z=>?_;clear a l c f b m j k;go_wp2;refine au (v:=.tuple #[.agg #[.slice none 0 0,.slice none 0 0],.int .i64 2,.int .i64 r]) (by have j:=y.out;have k:=z.out;simp[results,results31,results54,go_sem,j,k]) rfl ⟨rfl,?_⟩;exact ((o.out.setCell (p:=⟨w.heap.size,0,none⟩) bS _).setCell (p:=⟨w.heap.size,1,none⟩) bS _).alloc (by have:=o.out.size;simp[World.setCell];omega) _
  ·rw[b.out]at a;cases a
theorem qP(s)(w)(S:s.size<=3000)(e)(z:PE false (tokens s.data.toList) e []):Calls prog 31 #[.string s] w λv H=>∃f I g i J k,v=.returned (.tuple #[cG (.slice f I g) (.slice i J k),.int .i64 (cK e).1,.int .i64 (cK e).2])/\bg w H:=by
 obtain⟨l,a,m⟩:=uI (b:=s.size) z;have C:=gP z;have A:=a.len;have b:=λ(w:World)(o q:Value)(h:ew w o q l (opn e 0))=>uL w o q l (opn e 0) h (EI a) (by omega) (a.small (λ_ h=>by simp at h) (by omega)) (λj n K=>by have:=a.back j n K;simpa using this);rw[CE a]at b;clear z a A;generalize cK e=r at*;go_in;go_wp2_with fail;refine ((λw=>og (.inl ⟨rfl,rfl⟩) s w (by omega)) _).mono ?_;rintro v t ⟨D,L⟩;have E:=pK D;have M:=aG E;have F:=lN D;rcases L with⟨T,u,_⟩|⟨_,o,q,rfl,x⟩
 ·rw[m]at u;cases u
 ·rw[m]at x;simp only at x;obtain⟨f,g,N⟩:=cm x.nd;obtain⟨i,k,O⟩:=cm x.op;have b:=b (t.alloc (.cells #[o,q] 59)) o q (x.below ((aM _ t).alloc bS _));subst N;subst O;unfold cG at b;unfold cG;go_wp2_with fail;refine b.mono ?_;rintro _ y ⟨rfl,d⟩;have G:=pK d;have U:cg y t.heap.size 0 (.slice f l.length g):=dR G rfl;have V:cg y t.heap.size 1 (.slice i (opn e 0).length k):=dR G rfl;have c:y.heap[w.heap.size]?=some (.cells #[.slice none 0 0,.slice none 0 0] 59 (0,0)):=by
   rw[d.block _ (by simp;omega)];exact cR _ E
  have P:cg y w.heap.size 0 (.slice none 0 0):=dR c rfl;have Q:cg y w.heap.size 1 (.slice none 0 0):=dR c rfl;have W:=aK c 0;have X:=aK c 1;have B:=F.trans ((lN d).mono F.size);have R:w.heap.size≠t.heap.size:=by omega
  go_wp2;refine au (v:=.tuple #[.agg #[.slice f l.length g,.slice i (opn e 0).length k],.int .i64 r.1,.int .i64 r.2]) (by simp[results,results31,go_sem,P,Q]) rfl ⟨f,l.length,g,i,(opn e 0).length,k,rfl,?_⟩;exact (B.setCell (p:=⟨w.heap.size,0,none⟩) bS _).setCell (p:=⟨w.heap.size,1,none⟩) bS _
theorem AK(h:w≠0):((w:Int)==0)=false:=by rw[aH];omega
def Sk(v:MV):List Value:=[.bool v.c,.int .i64 v.n]
def rC(v:MV):Value:=.agg #[.bool v.c,.int .i64 v.n]
def PF(c:MC):List Value:=[.bool c.a.c,.int .i64 c.a.n,.bool c.b.c,.int .i64 c.b.n,.int .i64 c.home,.int .i64 c.lA]
def Sl(c:MC):Value:=.agg #[.bool c.a.c,.int .i64 c.a.n,.bool c.b.c,.int .i64 c.b.n,.int .i64 c.home,.int .i64 c.lA]
def F3(r:MR):List Value:=[.int .i64 r.num,.int .i64 r.lA,.int .i64 r.cells]
def vO(c b:Value)(a:Nat)(d e f:Value)(m:MM):Array Value:=#[c,b,.int .i64 a,.int .i64 m.steps,.int .i64 m.fault,d,e,f,.int .i64 m.opened,.int .i64 m.live,.int .i64 m.most]
structure nJ(mb:Nat)(w:World)(tn Sn:Value)(fuel:Nat)(nv cv rv:Value)(m:MM): Prop where
 y:w.heap[mb]?=some (.cells (vO tn Sn fuel nv cv rv m) 169 (0,0))
 nm:w.ownsRow 0 171 2 nv m.named.length (m.named.flatMap Sk)
 cl:w.ownsRow 0 219 6 cv m.cells.length (m.cells.flatMap PF)
 rg:w.ownsRow 0 216 3 rv m.regs.length (m.regs.flatMap F3)
 ny:nv.ownBlock≠some mb
 cy:cv.ownBlock≠some mb
 ry:rv.ownBlock≠some mb
 nc:apart nv cv
 nr:apart nv rv
 cr:apart cv rv
theorem nJ.slt{e}(h:nJ w a x e b z v u c):(∀k,z.ownBlock=some k->k<a.heap.size)/\(∀k,v.ownBlock=some k->k<a.heap.size)/\(∀k,u.ownBlock=some k->k<a.heap.size)/\w<a.heap.size:=
 ⟨λk d=>(h.nm.lt k d).2,λk d=>(h.cl.lt k d).2,λk d=>(h.rg.lt k d).2,aG h.y⟩
theorem nJ.below{d}(h:nJ w a x d b z v u c)(e:bg a K):nJ w K x d b z v u c:=
 ⟨by rw[e.block w h.slt.2.2.2];exact h.y,bE h.nm e,bE h.cl e,bE h.rg e,h.ny,h.cy,h.ry,h.nc,h.nr,h.cr⟩
theorem nJ.PG{f}(h:nJ w a x f b z v u c)(j)(i:Nat)(d)(h1:j.named=c.named)(h2:j.cells=c.cells)(h3:j.regs=c.regs)(n:(vO x f b z v u c).setIfInBounds i d=vO x f b z v u j):fK w w a (a.setCell ⟨w,i,none⟩ d) z v u z v u/\nJ w (a.setCell ⟨w,i,none⟩ d) x f b z v u j:=by
 have l:∀k,k≠w->(a.setCell ⟨w,i,none⟩ d).heap[k]?=a.heap[k]?:=λk g=>lu g;refine⟨⟨rfl,rfl,rfl,by simp only[World.setCell,dB];omega,λk _ o _ _ _ _=>l k o,λ_ h=>aD h,λ_ h=>aD h,λ_ h=>aD h⟩,?_⟩;refine⟨by rw[<-n];exact bu h.y i d,?_,?_,?_,h.ny,h.cy,h.ry,h.nc,h.nr,h.cr⟩
 ·rw[h1];exact bO h.nm (λk g=>l k (λe=>h.ny (by rw[g,e])))
 ·rw[h2];exact bO h.cl (λk g=>l k (λe=>h.cy (by rw[g,e])))
 ·rw[h3];exact bO h.rg (λk g=>l k (λe=>h.ry (by rw[g,e])))
theorem fQ(h:a.heap[w]?=some (.cells (vO x y b z v u c) 169 (0,0))):a.cell? ⟨w,2,none⟩=some (.int .i64 b)/\a.cell? ⟨w,3,none⟩=some (.int .i64 c.steps)/\a.cell? ⟨w,4,none⟩=some (.int .i64 c.fault)/\a.cell? ⟨w,5,none⟩=some z/\a.cell? ⟨w,6,none⟩=some v/\a.cell? ⟨w,7,none⟩=some u/\a.cell? ⟨w,8,none⟩=some (.int .i64 c.opened)/\a.cell? ⟨w,9,none⟩=some (.int .i64 c.live)/\a.cell? ⟨w,10,none⟩=some (.int .i64 c.most):=by
 refine⟨?_,?_,?_,?_,?_,?_,?_,?_,?_⟩<;>(rw[aI h];rfl)
theorem IX(b:Nat)(w)(l c)(a:Nat)(d g i)(m)(f:Nat)(h:nJ b w l c a d g i m):Calls prog 157 #[ptr b,.int .i64 f] w λe n=>e=.returned (.tuple #[])/\fK b b w n d g i d g i/\nJ b n l c a d g i (m.stop f):=by
 obtain⟨_,_,o,_⟩:=fQ h.y;have s:=aK h.y 4;have p:=aG h.y;unfold ptr;by_cases j:m.fault=0
 ·have k:m.stop f={m with fault:=f}:=by unfold MM.stop;rw[ah j]
  rw[k];rw[j]at o;have r:=h.PG {m with fault:=f} 4 (.int .i64 f) rfl rfl rfl rfl;go_in;go_wp2;refine bP (v:=.tuple #[]) (by simp[results,results157,go_sem]) rfl ⟨rfl,r⟩
 ·have k:m.stop f=m:=by unfold MM.stop;rw[ag j]
  rw[k];have q:=AK j;go_in;go_wp2;refine bP (v:=.tuple #[]) (by simp[results,results157,go_sem]) rfl ⟨rfl,fK.refl _ _ _ _ _ _,h⟩
theorem qp{c:Type}(f:c->List Value)(s:Nat)(a:∀x,(f x).length=s):∀(l:List c)(i j:Nat),j<s->(l.flatMap f)[i*s+j]?=(l[i]?).bind (λx=>(f x)[j]?)
 |[],i,j,_=>by simp
 |x::l,0,j,b=>by
  rw[dS,Nat.zero_mul,bJ,ak (by rw[a];exact b)];simp
 |x::l,i+1,j,b=>by
  rw[dS,aw (by rw[a,mU];omega),a,show (i+1)*s+j-s=i*s+j from by rw[mU];omega,qp f s a l i j b];simp
theorem AL(h:a.ownsRow 0 171 2 (.slice (some ⟨w,0,none⟩) N.length b) N.length (N.flatMap Sk))(k:Nat)(e:k<N.length):a.cell? ⟨w,k*2,none⟩=some (.bool N[k].c)/\a.cell? ⟨w,k*2+1,none⟩=some (.int .i64 N[k].n):=by
 have d:∀j,j<2->a.cell? ⟨w,k*2+j,none⟩=(Sk N[k])[j]?:=by
  intro j f;rw[h.cellAt (k*2+j) (by omega),qp Sk 2 (λ_=>rfl) N k j f,aa e];rfl
 exact⟨d 0 (by omega),d 1 (by omega)⟩
theorem Sp(l:Nat)(w)(p d)(a:Nat)(q r s)(m)(i:Int)(z:-10000<=i/\i<=10000)(A:m.named.length<=9000)(h:nJ l w p d a q r s m):Calls prog 158 #[ptr l,.int .i64 i] w λe t=>e=.returned (rC (m.look i))/\bg w t:=by
 obtain⟨_,_,_,B,_⟩:=fQ h.y;have u:=aG h.y;unfold ptr;by_cases b:i<0\/(m.named.length:Int)<=i
 ·have f:m.look i=v0:=by unfold MM.look;rw[ah b]
  rw[f];obtain⟨C,j,rfl⟩:=cm h.nm;unfold rC v0;generalize m.named.length=n at*;rcases b with b|b
  ·go_in;go_wp2;refine au (v:=.agg #[.bool false,.int .i64 0]) (by simp[results,results158,go_sem]) rfl ⟨rfl,fp.alloc bS _⟩
  ·have x:¬i<0:=by omega
   go_in;go_wp2;refine au (v:=.agg #[.bool false,.int .i64 0]) (by simp[results,results158,go_sem]) rfl ⟨rfl,fp.alloc bS _⟩
 ·obtain⟨k,rfl⟩:∃k:Nat,i=k:=⟨i.toNat,by omega⟩;have o:k<m.named.length:=by omega
  obtain⟨g,j,rfl⟩:=gN h.nm (by omega);obtain⟨c0,D⟩:=AL h.nm k o;have E:=(h.nm.lt g rfl).2;have f:m.look k=m.named[k]:=by
   unfold MM.look;rw[ag (by omega)];simp[o]
  rw[f];unfold rC;generalize m.named[k]=v at*;generalize m.named.length=n at*;go_in;go_wp2;refine au (v:=.agg #[.bool v.c,.int .i64 v.n]) (by simp[results,results158,go_sem]) rfl ⟨rfl,fp.alloc bS _⟩
theorem ac3{m:List Value}{f:MV->List Value}{v}(o:m=N.flatMap f)(j:∀x,(f x).length=2)(a b:Value)(p:f v=[a,b])(n:w<N.length):(m.set (w*2) a).set (w*2+1) b=(N.set w v).flatMap f:=by
 subst o;apply fD;intro i;have d:(N.flatMap f).length=N.length*2:=by
  clear n
  induction N with
  |nil=>rfl
  |cons x N q=>simp[j,q];omega
 have g:=qp f 2 j (N.set w v) (i / 2) (i%2) (oY _ (by omega));have c:=qp f 2 j N (i / 2) (i%2) (oY _ (by omega));rw[show i / 2*2+i%2=i from by omega]at g c;rw[g];by_cases h:i / 2=w
 ·rw[h,bh n];simp[p];rcases (show i=w*2\/i=w*2+1 by omega) with rfl|rfl
  ·rw[bI (by omega),bh (by omega)];rw[show w*2%2=0 from by omega];rfl
  ·rw[bh (by rw[cO,d];omega)];rw[show (w*2+1)%2=1 from by omega];rfl
 ·rw[bI (by omega),bI (by omega),c,bI (λe=>h e.symm)]
theorem nJ.ac4{j}{m}(h:nJ w a x j b (.slice (some ⟨L,0,none⟩) m.named.length Y) z v m)(k:Nat)(d)(i:k<m.named.length):fK w w a ((a.setCell ⟨L,k*2,none⟩ (.bool d.c)).setCell ⟨L,k*2+1,none⟩ (.int .i64 d.n)) (.slice (some ⟨L,0,none⟩) m.named.length Y) z v (.slice (some ⟨L,0,none⟩) m.named.length Y) z v/\nJ w ((a.setCell ⟨L,k*2,none⟩ (.bool d.c)).setCell ⟨L,k*2+1,none⟩ (.int .i64 d.n)) x j b (.slice (some ⟨L,0,none⟩) m.named.length Y) z v {m with named:=m.named.set k d}:=by
 have o:L≠w:=λe=>h.ny (by rw[e];rfl);have l:∀f,f≠L->((a.setCell ⟨L,k*2,none⟩ (.bool d.c)).setCell ⟨L,k*2+1,none⟩ (.int .i64 d.n)).heap[f]?=a.heap[f]?:=λf i=>by rw[lu i,lu i]
 have h2:=(((h.nm.stored (k*2) (.bool d.c)).1).stored (k*2+1) (.int .i64 d.n)).1;rw[ac3 (v:=d) rfl (λ_=>rfl) (.bool d.c) (.int .i64 d.n) rfl i]at h2;refine⟨⟨rfl,rfl,rfl,by simp only[World.setCell,dB];omega,λf _ _ _ p _ _=>l f (λe=>p (by rw[e];rfl)),λ_ h=>aD h,λ_ h=>aD h,λ_ h=>aD h⟩,?_⟩;refine⟨by rw[l w (λe=>o e.symm)];exact h.y,by simp;exact h2,bO h.cl (λf i=>l f (λe=>h.nc L rfl (by rw[<-e];exact i))),bO h.rg (λf i=>l f (λe=>h.nr L rfl (by rw[<-e];exact i))),h.ny,h.cy,h.ry,h.nc,h.nr,h.cr⟩
theorem IY(a:Nat)(w)(x d)(b:Nat)(f j l)(m)(i:Int)(v)(H:-10000<=i/\i<=10000)(I:m.named.length<=9000)(h:nJ a w x d b f j l m):Calls prog 183 #[ptr a,.int .i64 i,rC v] w λe z=>e=.returned (.tuple #[])/\fK a a w z f j l f j l/\nJ a z x d b f j l (m.name i v):=by
 obtain⟨B,A⟩:∃B:Obj,B=.cells #[.bool v.c,.int .i64 v.n] 171:=⟨_,rfl⟩;have p:=fK.below a a f j l ((aM _ w).alloc bS B);obtain⟨_,_,_,J,_⟩:=fQ h.y;have D:=aG h.y;unfold ptr rC;by_cases q:0<=i/\i<m.named.length
 ·obtain⟨k,rfl⟩:∃k:Nat,i=k:=⟨i.toNat,by omega⟩;have C:k<m.named.length:=by omega
  have r:m.name k v={m with named:=m.named.set k v}:=by unfold MM.name;rw[ah q];rfl
  rw[r];obtain⟨g,s,rfl⟩:=gN h.nm (by omega);have K:=h.nm.frozenAt (k*2);have L:=h.nm.frozenAt (k*2+1);obtain⟨c0,E⟩:=AL h.nm k C;have M:=(h.nm.lt g rfl).2;have o:=h.ac4 k v C;subst A;generalize m.named[k]=u at c0 E;generalize m.named.length=n at*;go_in;go_wp2;go_region
  all_goals
   go_wp2;refine bP (v:=.tuple #[]) (by simp[results,results183,go_sem]) rfl ⟨rfl,?_⟩;exact⟨o.1.trans (fK.below a a _ _ _ (sD _ _)),o.2.below (sD _ _)⟩
 ·have r:m.name i v=m:=by unfold MM.name;rw[ag q]
  rw[r];obtain⟨N,s,rfl⟩:=cm h.nm;have o:=h.below ((aM _ w).alloc bS B);subst A;have t:i<0\/(0<=i/\(m.named.length:Int)<=i):=by omega
  generalize m.named.length=n at*;rcases t with q|⟨F,G⟩
  all_goals
   go_in;go_wp2;refine bP (v:=.tuple #[]) (by simp[results,results183,go_sem]) rfl ⟨rfl,p,o⟩
theorem tH{l:List MR}(h:a.ownsRow 0 216 3 (.slice (some ⟨w,0,none⟩) l.length b) l.length (l.flatMap F3))(k:Nat)(r:MR)(d:l[k]?=some r):a.cell? ⟨w,k*3,none⟩=some (.int .i64 r.num)/\cg a w (k*3+1) (.int .i64 r.lA)/\a.cell? ⟨w,k*3+2,none⟩=some (.int .i64 r.cells):=by
 have f:=(ae.1 d).1;have c:∀j,j<3->a.cell? ⟨w,k*3+j,none⟩=(F3 r)[j]?:=by
  intro j e;rw[h.cellAt (k*3+j) (by omega),qp F3 3 (λ_=>rfl) l k j e,d];rfl
 exact⟨c 0 (by omega),c 1 (by omega),c 2 (by omega)⟩
theorem IZ{d}{l:List MC}{f:Nat}(h:d.ownsRow 0 219 6 (.slice (some ⟨w,0,none⟩) l.length f) l.length (l.flatMap PF))(k:Nat)(c:MC)(i:l[k]?=some c):d.cell? ⟨w,k*6,none⟩=some (.bool c.a.c)/\cg d w (k*6+1) (.int .i64 c.a.n)/\cg d w (k*6+2) (.bool c.b.c)/\cg d w (k*6+3) (.int .i64 c.b.n)/\cg d w (k*6+4) (.int .i64 c.home)/\d.cell? ⟨w,k*6+5,none⟩=some (.int .i64 c.lA):=by
 have o:=(ae.1 i).1;have e:∀j,j<6->d.cell? ⟨w,k*6+j,none⟩=(PF c)[j]?:=by
  intro j m;rw[h.cellAt (k*6+j) (by omega),qp PF 6 (λ_=>rfl) l k j m,i];rfl
 exact⟨e 0 (by omega),e 1 (by omega),e 2 (by omega),e 3 (by omega),e 4 (by omega),e 5 (by omega)⟩
theorem gD{n:Nat}(h:Below b a K):Below b a (K.drewN n):=h.trans ⟨rfl,rfl,rfl,bS,λ_ _=>rfl⟩
theorem Le(k:Nat)(w)(l f)(a:Nat)(o p q)(m)(c)(A:m.regs.length<=20000)(B:c.home<=20000)(h:nJ k w l f a o p q m):Calls prog 165 #[ptr k,Sl c] w λe s=>e=.returned (.bool (m.nj c))/\bg w s:=by
 obtain⟨_,_,_,_,_,C,_⟩:=fQ h.y;have t:=aG h.y;have u:(0:Int)<=(c.home:Int):=by omega
 unfold ptr Sl;cases d:m.regs[c.home]? with
 |none=>
  have i:m.nj c=false:=by unfold MM.nj;rw[d]
  rw[i];have D:m.regs.length<=c.home:=by simpa using d
  obtain⟨E,j,rfl⟩:=cm h.rg;have v:decide ((c.home:Int)<(m.regs.length:Int))=false:=cd (by omega);have x:decide (c.home<m.regs.length)=false:=cd (by omega);generalize m.regs.length=n at*;go_in;go_wp2;go_quiet (fail);go_wp2;go_ret;exact⟨rfl,gD (fp.alloc bS _)⟩
 |some r=>
  have F:=(ae.1 d).1;obtain⟨g,j,rfl⟩:=gN h.rg (by omega);obtain⟨_,G,_⟩:=tH h.rg c.home r d;have H:=(h.rg.lt g rfl).2;have v:(c.home:Int)<(m.regs.length:Int):=by omega
  obtain⟨b,z⟩:∃b,((r.lA:Int)==(c.lA:Int))=b:=⟨_,rfl⟩;have i:m.nj c=b:=by
   unfold MM.nj;rw[d];simp only;rw[<-z,jd,iQ,iQ];omega
  rw[i];generalize m.regs.length=n at*;go_in;go_wp2;go_quiet (fail);go_wp2;go_ret;exact⟨rfl,gD (fp.alloc bS _)⟩
