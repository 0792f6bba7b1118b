import Derived.Test.YtpicaknklgccoaaGreatDoorK35
import Derived.Test.YtpicaknklgccoaaGreatDoorK19
set_option maxHeartbeats 8000000
set_option maxRecDepth 100000
namespace Go.Proofs.YtpicaknklgccoaaGreatDoor
open Tryz
open Go.RowKit
variable {w:Nat}{a:World}{b c:FuncId}{d:Value}
theorem tJ{c:Nat}{f}{m}(d:Sm c f m):∀(X:Vl)(v:MV),oC m.cells X v->iY X v m=m
 |.n _,_,_=>rfl
 |.p a b,v,h=>by
  have e:=zF d h;simp[iY];rw[e.1,tJ d a _ e.2.1,tJ d b _ e.2.2]
theorem SI(m:MM)(v)(h:m.fault≠0):(m.use v).2=m:=by
 unfold MM.use;split
 ·rfl
 ·simp only;split
  ·rfl
  ·exact qz m 13 h
theorem l8:∀(X:Vl)(v:MV)(m:MM),m.fault≠0->iY X v m=m
 |.n _,_,_,_=>rfl
 |.p a b,v,m,h=>by
  simp[iY];rw[SI m v h,l8 a _ m h,l8 b _ m h]
theorem CK{c:List MC}:∀{X:Vl}{T:Ty},X.has T->X.size=T.size
 |.n _,.n,_=>rfl
 |.p a b,.p _ A B,h=>by
  simp[Vl.size,Ty.size];rw[CK (c:=c) h.1,CK (c:=c) h.2]
 |.n _,.p _ _ _,h=>by simp[Vl.has]at h
 |.p _ _,.n,h=>by simp[Vl.has]at h
def uO(y:Vl×jF):Value:=if y.2.e≠0 then .agg #[.string ⟨#[]⟩,.int .i64 0,.int .i64 0,.int .i64 0,.int .i64 0] else .agg #[.string (bs y.1.txt),.int .i64 y.2.steps,.int .i64 y.2.cells,.int .i64 y.2.cells,.int .i64 y.2.cells]
theorem PY(a k:Nat){t}{T}(i:WT [] t T)(r:T.size<=63)(u:gL t)(p:t.DP)(A:t.cnt<=k):∃X,oC (mW a t [] 0 ((m0 k).opn (-1))).2.cells X (mW a t [] 0 ((m0 k).opn (-1))).1/\X.size<=63/\CJ (iY X (mW a t [] 0 ((m0 k).opn (-1))).1 (mW a t [] 0 ((m0 k).opn (-1))).2) X=uO (ev a t [] ⟨0,0,0⟩)/\(iY X (mW a t [] 0 ((m0 k).opn (-1))).1 (mW a t [] 0 ((m0 k).opn (-1))).2).fault=(ev a t [] ⟨0,0,0⟩).2.e:=by
 have d:((m0 k).opn (-1)).named.length=k:=by simp[m0,MM.opn]
 have j:ER ((m0 k).opn (-1)).named ((m0 k).opn (-1)).cells [] [] [] 0:=λs T h=>by simp[look]at h
 have n:Sm a ⟨0,0,0⟩ ((m0 k).opn (-1)):=⟨rfl,rfl,rfl,ld,rfl,rfl,rfl,rfl,λc v=>by simp[m0,MM.opn]at v⟩;have q:=jr a i [] 0 ((m0 k).opn (-1)) p j.ef (by rw[d];omega);have b:=aaB a i u [] 0 ((m0 k).opn (-1)) [] ⟨0,0,0⟩ p j (by rw[d];omega) n;generalize mW a t [] 0 ((m0 k).opn (-1))=x at q b⊢;generalize ev a t [] ⟨0,0,0⟩=y at b⊢;rcases b with⟨h1,h2,h3⟩|m
 ·refine⟨y.1,h2,by rw[CK (c:=x.2.cells) h3];exact r,?_,?_⟩
  ·rw[tJ h1 y.1 x.1 h2];unfold CJ uO;rw[ag (λh=>h h1.f),ag (λh=>h h1.e),h1.s,h1.c,h1.o,h1.l]
  ·rw[tJ h1 y.1 x.1 h2,h1.f,h1.e]
 ·obtain⟨X,w,z⟩:=A9 q.2;have g:x.2.fault≠0:=by rw[m.2];decide
  refine⟨X,w,by omega,?_,?_⟩
  ·rw[l8 X x.1 x.2 g];unfold CJ uO;rw[ah g,ah (by rw[m.1];decide)]
  ·rw[l8 X x.1 x.2 g,m.1,m.2]
theorem vQ{e}{c:Nat}{n:Nat}{m}(h:a.ownsRow w e c d n m){b:Nat}{i}{t}{o}(p:a.heap[b]?=some (.cells i t o))(q:t≠e):∀k,d.ownBlock=some k->k≠b:=by
 intro k f j;rcases h.2 with⟨h1,_⟩|⟨g,r,s,h1,_,l,_⟩
 ·rw[h1]at f;simp[Value.ownBlock]at f
 ·rw[h1]at f;simp[Value.ownBlock]at f;rw[f,j,p]at l;simp only[ai,dh]at l;exact q l.2.1
theorem yD(s)(w)(Z:s.size<=3000)(e)(G:PE false (tokens s.data.toList) e []):Calls prog 31 #[.string s] w λv L=>∃m M o q N r b,v=.returned (.tuple #[cG (.slice m M o) (.slice q N r),.int .i64 (cK e).1,.int .i64 (cK e).2])/\bg w L/\ew L (.slice m M o) (.slice q N r) b (opn e 0)/\NA [] e 0 b/\(mf false s.size (tokens s.data.toList)).nodes=b:=by
 obtain⟨b,a,l⟩:=uI (b:=s.size) G;have O:=gP G;have H:=a.len;have c:=λ(w:World)(t u:Value)(h:ew w t u b (opn e 0))=>uL w t u b (opn e 0) h (EI a) (by omega) (a.small (λ_ h=>by simp at h) (by omega)) (λj n R=>by have:=a.back j n R;simpa using this);rw[CE a]at c;have y:(mf false s.size (tokens s.data.toList)).nodes=b:=by rw[l]
 have I:=And.intro a y;clear G a H y;generalize cK e=z at*;go_in;go_wp2_with fail;refine ((λw=>og (.inl ⟨rfl,rfl⟩) s w (by omega)) _).mono ?_;rintro v x ⟨P,S⟩;have F:=pK P;have T:=aG F;have Q:=lN P;rcases S with⟨q',A,_⟩|⟨_,t,u,rfl,g⟩
 ·rw[l]at A;cases A
 ·rw[l]at g;simp only at g;obtain⟨m,o,U⟩:=cm g.nd;obtain⟨q,r,V⟩:=cm g.op;have B:=vQ g.nd F (by decide);have C:=vQ g.op F (by decide);have J:=g.below ((aM _ x).alloc bS (.cells #[t,u] 59));have c:=c (x.alloc (.cells #[t,u] 59)) t u (g.below ((aM _ x).alloc bS _));subst U;subst V;unfold cG at c;unfold cG;go_wp2_with fail;refine c.mono ?_;rintro _ D ⟨rfl,d⟩;have E:=J.below d;have i:=pK d;have k0:cg D x.heap.size 0 (.slice m b.length o):=dR i rfl;have k1:cg D x.heap.size 1 (.slice q (opn e 0).length r):=dR i rfl;have f:D.heap[w.heap.size]?=some (.cells #[.slice none 0 0,.slice none 0 0] 59 (0,0)):=by
   rw[d.block _ (by simp;omega)];exact cR _ F
  have W:cg D w.heap.size 0 (.slice none 0 0):=dR f rfl;have X:cg D w.heap.size 1 (.slice none 0 0):=dR f rfl;have f0:=aK f 0;have f1:=aK f 1;have K:=Q.trans ((lN d).mono Q.size);have Y:w.heap.size≠x.heap.size:=by omega
  go_wp2;refine au (v:=.tuple #[.agg #[.slice m b.length o,.slice q (opn e 0).length r],.int .i64 z.1,.int .i64 z.2]) (by simp[results,results31,go_sem,W,X]) rfl ⟨m,b.length,o,q,(opn e 0).length,r,b,rfl,?_,⟨bO E.nd (λk i=>by rw[lu (B k i),lu (B k i)]),bO E.op (λk i=>by rw[lu (C k i),lu (C k i)])⟩,I⟩;exact (K.setCell (p:=⟨w.heap.size,0,none⟩) bS _).setCell (p:=⟨w.heap.size,1,none⟩) bS _
theorem uP(s)(w)(j:s.size<=3000)(e)(k:PE false (tokens s.data.toList) e []):Calls prog 31 #[.string s] w λv i=>∃a b c d f g h,v=.returned (.tuple #[cG (.slice a b c) (.slice d f g),.int .i64 (cK e).1,.int .i64 (cK e).2])/\bg w i/\ew i (.slice a b c) (.slice d f g) h (opn e 0)/\NA [] e 0 h:=
 (yD s w j e k).mono λ_ _ ⟨a,b,c,d,f,g,h,h1,h2,h3,l,_⟩=>⟨a,b,c,d,f,g,h,h1,h2,h3,l⟩
theorem gQ{S}{e b c d:Int}(h:a.heap[w]?=some (.cells #[.string S,.int .i64 e,.int .i64 b,.int .i64 c,.int .i64 d] 23)):a.cell? ⟨w,0,none⟩=some (.string S)/\a.cell? ⟨w,1,none⟩=some (.int .i64 e)/\a.cell? ⟨w,2,none⟩=some (.int .i64 b)/\a.cell? ⟨w,3,none⟩=some (.int .i64 c)/\a.cell? ⟨w,4,none⟩=some (.int .i64 d):=by
 refine⟨?_,?_,?_,?_,?_⟩<;>(rw[aI h];rfl)
theorem Nr(w)(c)(d f:Nat)(g)(h i:Nat)(a:Int)(b:a<0\/20000<a):Calls prog 32 #[cG (.slice c d f) (.slice g h i),.int .i64 a] w λe j=>e=.returned (.tuple #[.agg #[.string ⟨#[]⟩,.int .i64 0,.int .i64 0,.int .i64 0,.int .i64 0],.int .i64 11])/\bg w j:=by
 unfold cG;rcases b with b|b
 ·go_in;go_wp2;refine au (v:=.tuple #[.agg #[.string ⟨#[]⟩,.int .i64 0,.int .i64 0,.int .i64 0,.int .i64 0],.int .i64 11]) (by simp[results,results32,go_sem]) rfl ⟨rfl,bV (bV fp _) _⟩
 ·have k:¬a<0:=by omega
  go_in;go_wp2;refine au (v:=.tuple #[.agg #[.string ⟨#[]⟩,.int .i64 0,.int .i64 0,.int .i64 0,.int .i64 0],.int .i64 11]) (by simp[results,results32,go_sem]) rfl ⟨rfl,bV (bV fp _) _⟩
theorem SJ(w)(j)(k l:Nat)(m)(n o:Nat)(f:Nat)(K:f<=20000)(S)(a b c d E:Int)(g:∀h,bg w h->Calls prog 59 #[cG (.slice j k l) (.slice m n o),.int .i64 f] h λe p=>e=.returned (.tuple #[.agg #[.string S,.int .i64 a,.int .i64 b,.int .i64 c,.int .i64 d],.int .i64 E])/\bg h p):Calls prog 32 #[cG (.slice j k l) (.slice m n o),.int .i64 f] w λe h=>e=.returned (.tuple #[.agg #[.string S,.int .i64 a,.int .i64 b,.int .i64 c,.int .i64 d],.int .i64 E])/\bg w h:=by
 unfold cG at g;unfold cG;go_in;go_wp2_with fail;refine ay (g _ (bV (bV fp _) _)) ?_;rintro _ A ⟨rfl,i⟩;have B:A.heap[w.heap.size+1]?=some (.cells #[.string ⟨#[]⟩,.int .i64 0,.int .i64 0,.int .i64 0,.int .i64 0] 23):=by
  rw[i.block _ (by simp)];have:=bD (w.alloc (.cells #[.slice j k l,.slice m n o] 59)) (.cells #[.string ⟨#[]⟩,.int .i64 0,.int .i64 0,.int .i64 0,.int .i64 0] 23);simpa using this
 have C:=(bV (bV (aM _ w) (.cells #[.slice j k l,.slice m n o] 59)) (.cells #[.string ⟨#[]⟩,.int .i64 0,.int .i64 0,.int .i64 0,.int .i64 0] 23)).trans (i.mono (by simp;omega));have r:w.heap.size<=w.heap.size+1:=by omega
 generalize w.heap.size+1=q at*;go_wp2_with (refine n9 rfl 23 (.tmp 4) (.tmp 16) rfl q #[.string S,.int .i64 a,.int .i64 b,.int .i64 c,.int .i64 d] rfl rfl 23 _ B nF rfl (by simp[Value.oneCell']) ?_;intro W D s t u x y);obtain⟨F,G,H,I,J⟩:=gQ D;have z:=j9 C r s t u x y;go_wp2;refine au (v:=.tuple #[.agg #[.string S,.int .i64 a,.int .i64 b,.int .i64 c,.int .i64 d],.int .i64 E]) (by simp[results,results32,go_sem,F,G,H,I,J]) rfl ⟨rfl,z⟩
theorem kY(G:b=12/\c=31\/b=18/\c=42)(s)(d:Int)(w)(x y:Nat)(M:x≠0)(a:∀w,Calls prog c #[.string s] w λv t=>∃l m n o p r,v=.returned (.tuple #[cG (.slice l m n) (.slice o p r),.int .i64 x,.int .i64 y])/\bg w t):Calls prog b #[.string s,.int .i64 d] w λv t=>v=.returned (.tuple #[.agg #[.string ⟨#[]⟩,.int .i64 0,.int .i64 0,.int .i64 0,.int .i64 0],.int .i64 x])/\bg w t:=by
 unfold cG at a;have q:((x:Int) !=0)=true:=by simp;omega
 have A:Hid _:=a;clear a;rcases G with⟨rfl,rfl⟩|⟨rfl,rfl⟩
 all_goals
  go_in;go_wp2_with fail;refine (A.out _).mono ?_;rintro _ B ⟨l,m,n,o,p,r,rfl,u⟩;have C:B.heap[w.heap.size]?=some (.cells #[.string ⟨#[]⟩,.int .i64 0,.int .i64 0,.int .i64 0,.int .i64 0] 23):=pK u;have D:Hid _:=lN u;clear u A;have e:=cR (.cells #[.slice l m n,.slice o p r] 59) C;have f:Hid (bg w (B.alloc (.cells #[.slice l m n,.slice o p r] 59))):=bV D.out _;clear C D;go_wp2_with (refine n9 rfl 23 (.tmp 4) (.tmp 17) rfl w.heap.size #[.string ⟨#[]⟩,.int .i64 0,.int .i64 0,.int .i64 0,.int .i64 0] rfl rfl 23 _ e nF rfl (by simp[Value.oneCell']) ?_;intro W E g h i j k);obtain⟨H,I,J,K,L⟩:=gQ E;have z:Hid _:=j9 f.out bS g h i j k;clear E g h i j k f e;go_wp2;refine au (v:=.tuple #[.agg #[.string ⟨#[]⟩,.int .i64 0,.int .i64 0,.int .i64 0,.int .i64 0],.int .i64 x]) (by simp[results,results12,results18,go_sem,H,I,J,K,L]) rfl ⟨rfl,z.out⟩
theorem qq(hF:b=12/\c=31\/b=18/\c=42)(s)(j:Int)(w)(e)(y:Nat)(S)(a f g d E:Int)(r:∀w,Calls prog c #[.string s] w λv i=>∃k l m n o p t,v=.returned (.tuple #[cG (.slice k l m) (.slice n o p),.int .i64 0,.int .i64 y])/\bg w i/\ew i (.slice k l m) (.slice n o p) t (opn e 0)/\NA [] e 0 t)(u:∀(i:World)(k:Option Addr)(l m:Nat)(n:Option Addr)(o p:Nat)(t:List NR),bg w i->ew i (.slice k l m) (.slice n o p) t (opn e 0)->NA [] e 0 t->Calls prog 32 #[cG (.slice k l m) (.slice n o p),.int .i64 j] i λv P=>v=.returned (.tuple #[.agg #[.string S,.int .i64 a,.int .i64 f,.int .i64 g,.int .i64 d],.int .i64 E])/\bg i P):Calls prog b #[.string s,.int .i64 j] w λv i=>v=.returned (.tuple #[.agg #[.string S,.int .i64 a,.int .i64 f,.int .i64 g,.int .i64 d],.int .i64 E])/\bg w i:=by
 unfold cG at r u;refine bY r u λX Y=>?_;clear r u;rcases hF with⟨rfl,rfl⟩|⟨rfl,rfl⟩
 all_goals
  go_in;go_wp2_with fail;refine (X.out _).mono ?_;rintro _ Q ⟨k,l,m,n,o,p,t,rfl,T,Z,C⟩;have U:Q.heap[w.heap.size]?=some (.cells #[.string ⟨#[]⟩,.int .i64 0,.int .i64 0,.int .i64 0,.int .i64 0] 23):=pK T;have D:=lN T;obtain⟨O,x⟩:=ez (Q.alloc (.cells #[.slice k l m,.slice n o p] 59));have h:bg Q O:=by rw[x];exact bV fp _
  have q:=Y.out O k l m n o p t (D.trans (h.mono D.size)) (Z.below h) C;refine bY q (D.trans (h.mono D.size)) λG z=>?_;have A:Hid (O.heap[w.heap.size]?=some (.cells #[.string ⟨#[]⟩,.int .i64 0,.int .i64 0,.int .i64 0,.int .i64 0] 23)):=by
   show O.heap[w.heap.size]?=_;rw[h.block _ (aG U)];exact U
  clear T Z C U D h q X Y;go_wp2_with fail;rw[<-x];refine ay G.out ?_;rintro _ w3 ⟨rfl,B⟩;have H:w3.heap[w.heap.size]?=some (.cells #[.string ⟨#[]⟩,.int .i64 0,.int .i64 0,.int .i64 0,.int .i64 0] 23):=by rw[B.block _ (aG A.out)];exact A.out
  have I:Hid _:=z.out.trans (B.mono z.out.size);clear B G z A x;go_wp2_with (refine n9 rfl 23 (.tmp 4) (.tmp 22) rfl w.heap.size #[.string S,.int .i64 a,.int .i64 f,.int .i64 g,.int .i64 d] rfl rfl 23 _ H nF rfl (by simp[Value.oneCell']) ?_;intro W hW J K L M N);obtain⟨s0,s1,s2,s3,s4⟩:=gQ hW;have V:Hid _:=j9 I.out bS J K L M N;clear hW J K L M N I H;go_wp2;refine au (v:=.tuple #[.agg #[.string S,.int .i64 a,.int .i64 f,.int .i64 g,.int .i64 d],.int .i64 E]) (by simp[results,results12,results18,go_sem,s0,s1,s2,s3,s4]) rfl ⟨rfl,V.out⟩
def qW(R:RV×RS):List UInt8×RS:=if R.2.e=0 then iF R.1 R.2 else ([],R.2)
abbrev CL:Value:=.agg #[.string ⟨#[]⟩,.int .i64 0,.int .i64 0,.int .i64 0,.int .i64 0]
def sK(x:List UInt8×RS):Value:=if x.2.e≠0 then CL else .agg #[.string (bs x.1),.int .i64 x.2.steps,.int .i64 x.2.cells,.int .i64 (ig (0,0) x.2.dq).2,.int .i64 (ig (0,0) x.2.dq).1]
def xx:RS:=⟨0,0,0,[],[],[],[]⟩
theorem Ns(a:RS)(v):a.used v=a\/a.used v={a with e:=13}:=by
 unfold RS.used;split
 ·exact aD rfl
 ·split
  ·exact aE rfl
  ·exact aD rfl
theorem uQ:∀(v:RV)(c:RS),(iF v c).2=c\/(iF v c).2={c with e:=13}
 |.n _,c=>aD rfl
 |.p a b h,c=>by
  unfold iF;split
  ·exact Ns c (.p a b h)
  ·rename_i f;have d:c.used (.p a b h)=c:=by
    rcases Ns c (.p a b h) with d|d
    ·exact d
    ·rw[d]at f;simp at f
   rw[d];rcases uQ a c with h1|h1
   ·rw[h1];exact uQ b c
   ·rw[h1];rcases uQ b {c with e:=13} with h2|h2
    ·exact aE h2
    ·exact aE h2
theorem PZ(R):(qW R).2.steps=R.2.steps/\(qW R).2.cells=R.2.cells/\(qW R).2.dq=R.2.dq:=by
 unfold qW;split
 ·rcases uQ R.1 R.2 with h|h<;>rw[h]<;>exact⟨rfl,rfl,rfl⟩
 ·exact⟨rfl,rfl,rfl⟩
theorem Ja:∀(l:List Int)(p:Int×Int),(∀x∈l,-20000<=x/\x<=1)->p.1-20000*l.length<=(ig p l).1/\(ig p l).1<=p.1+l.length/\p.2<=(ig p l).2/\∀M,p.2<=M->p.1+l.length<=M->(ig p l).2<=M
 |[],p,_=>⟨by simp[ig],by simp[ig],by simp[ig],λM h _=>h⟩
 |x::r,p,h=>by
  have f:=h x (by simp);simp[ig];obtain⟨h1,h2,h3,c⟩:=Ja r (p.1+x,if p.2<p.1+x then p.1+x else p.2) (λy d=>h y (by simp[d]));refine⟨by omega,by omega,?_,λM a b=>?_⟩
  ·have e:p.2<=(if p.2<p.1+x then p.1+x else p.2):=by split<;>omega
   exact Int.le_trans e h3
  ·refine c M ?_ (by omega);split<;>omega
theorem xy(s)(a:Int)(w)(x:Nat)(A:x≠0)(c:∀b,bg w b->Calls prog 33 #[.string s,.bool true] b λv d=>∃p q y,v=.returned (.tuple #[.pointer p,.pointer q,.int .i64 x,.int .i64 y])/\bg b d):Calls prog 19 #[.string s,.int .i64 a] w λv d=>v=.returned (.tuple #[CL,.int .i64 x])/\bg w d:=by
 have B:((x:Int) !=0)=true:=by simp;omega
 go_in;go_wp2_with fail;refine (c _ ((aM _ w).alloc bS _)).mono ?_;rintro _ b ⟨p,q,y,rfl,k⟩;have l:=pK k;have m:=lN k;go_wp2_with (refine n9 rfl 23 (.tmp 4) (.tmp 25) rfl w.heap.size #[.string ⟨#[]⟩,.int .i64 0,.int .i64 0,.int .i64 0,.int .i64 0] rfl rfl 23 _ l nF rfl (by simp[Value.oneCell']) ?_;intro W n e f g h i);obtain⟨o,r,t,u,z⟩:=gQ n;have j:=j9 m bS e f g h i;go_wp2;refine au (v:=.tuple #[CL,.int .i64 x]) (by simp[results,results19,go_sem,o,r,t,u,z]) rfl ⟨rfl,j⟩
theorem Lp(s)(a:Int)(w)(t:a<0\/20000<a)(b:∀c,bg w c->Calls prog 33 #[.string s,.bool true] c λv i=>∃p q y,v=.returned (.tuple #[.pointer p,.pointer q,.int .i64 0,.int .i64 y])/\bg c i):Calls prog 19 #[.string s,.int .i64 a] w λv i=>v=.returned (.tuple #[CL,.int .i64 11])/\bg w i:=by
 have m:Hid _:=b;clear b;obtain⟨D,j⟩:=ez (decide (a<0));by_cases E:a<0
 all_goals
  first|(have u:20000<a:=by omega)|(skip)
  clear t j;go_in;go_wp2_with fail;refine (m.out _ ((aM _ w).alloc bS _)).mono ?_;rintro _ c ⟨p,q,y,rfl,k⟩;have n:c.heap[w.heap.size]?=some (.cells #[.string ⟨#[]⟩,.int .i64 0,.int .i64 0,.int .i64 0,.int .i64 0] 23):=pK k;have o:Hid _:=lN k;clear k m;go_wp2_with (refine n9 rfl 23 (.tmp 4) (.tmp 33) rfl w.heap.size #[.string ⟨#[]⟩,.int .i64 0,.int .i64 0,.int .i64 0,.int .i64 0] rfl rfl 23 _ n nF rfl (by simp[Value.oneCell']) ?_;intro W r d e f g h);obtain⟨x,z,A,B,C⟩:=gQ r;have l:Hid _:=j9 o.out bS d e f g h;clear r d e f g h o n;go_wp2;refine au (v:=.tuple #[CL,.int .i64 11]) (by simp[results,results19,go_sem,x,z,A,B,C]) rfl ⟨rfl,l.out⟩
theorem V8{i W}{f b c g e}{B C D E}(j:i.heap[w]?=some (.cells #[d,B,C,D,E] 23 (0,0)))(k:bg a i)(h:a.heap.size<=w)(l:(((((i.setCell ⟨w,0,none⟩ f).setCell ⟨w,1,none⟩ b).setCell ⟨w,2,none⟩ c).setCell ⟨w,3,none⟩ g).setCell ⟨w,4,none⟩ e).drew=W):W.heap[w]?=some (.cells #[f,b,c,g,e] 23 (0,0))/\bg a W:=by
 subst l;exact⟨(bu (bu (bu (bu (bu j 0 _) 1 _) 2 _) 3 _) 4 _).trans (by simp),l6 (ku (ku (ku (ku (ku k _ h _) _ h _) _ h _) _ h _) _ h _)⟩
theorem P0(s)(d:Nat)(w)(hfu:d<=20000)(e)(D:∀l,bg w l->Calls prog 33 #[.string s,.bool true] l λv w'=>∃b q y,v=.returned (.tuple #[ptr b,.pointer q,.int .i64 0,.int .i64 y])/\bg l w'/\gS w' (λk=>k<w'.heap.size) e 0 0 b)(hwk:∀l pb,oA l pb d e [])(hit:∀l,bg w l->nV l)(hwf:e.wf)(yx:e.cnt<=9000)(T)(hTs:T.size<=63)(R)(hR:R=rW d e [] xx)(hty:R.2.e=0->R.1.has T):Calls prog 19 #[.string s,.int .i64 d] w λv w'=>v=.returned (.tuple #[sK (qW R),.int .i64 (qW R).2.e])/\bg w w':=by
 have H:RS.cb xx:=⟨λi o h=>by simp[xx]at h,λx h=>by simp[xx]at h⟩;have DQ:=p5 d e [] xx H;have F:=p4 d e [] xx hwf rfl ld;rw[<-hR]at DQ F;have hes:=PZ R;have GR:R.2.cells<=20000:=by
  have h1:=F.cells;have h2:=F.steps;have h3:xx.cells=0:=rfl;have h4:xx.steps=0:=rfl;omega
 have htl:R.2.dq.length<=400000000:=by
  have h1:=F.dq;have h2:=F.steps;have h3:xx.dq=[]:=rfl;have h4:xx.steps=0:=rfl;rw[h3,h4]at h1;have h6:yc R.2.e<=1:=by unfold yc;split<;>omega
  have h7:e.cnt*(R.2.steps-0+yc R.2.e)<=9000*20001:=Nat.mul_le_mul yx (by omega);simp only[bn]at h1;omega
 have Nd:∀x∈R.2.dq,-20000<=x/\x<=1:=λx hx=>by have:=DQ.t x hx;omega
 refine fT hwk hR hit hty λHW HR SE VQ=>?_;unfold ptr at D;refine bY D H λA adj=>?_;obtain⟨V,hV⟩:=ez (sK (qW R));obtain⟨E,hE⟩:∃E:Nat,E=(qW R).2.e:=⟨_,rfl⟩;rw[<-hV,<-hE];refine fT hV hE hes Nd λHV HE HES Lc=>?_;clear hwk hR D hit hty H DQ F hV hE hes Nd hwf;go_in;go_wp2_with fail;refine ay (A _ ((aM _ w).alloc bS _)) ?_;rintro _ l ⟨b,q,y,rfl,hb0,hT⟩;have hq0:=pK hb0;have hb:=lN hb0;have hql:=aG hq0;have hin:fP l (l.alloc (.cells (nS (.slice none 0 0) (.slice none 0 0) (.slice none 0 0) d xx) 88)) l.heap.size (.slice none 0 0) (.slice none 0 0) (.slice none 0 0) [] d xx:=
  ⟨fp.alloc bS _,bS,bD _ _,wD,wD,wD,λg hg=>by simp[Value.ownBlock]at hg,rfl,λi b o h=>by simp at h,λi j b h=>by simp at h,⟨λi h=>by simp[xx]at h,λi h=>by simp[xx]at h⟩⟩
 have hok:DD d e.cnt xx:=⟨hfu,ld,bS,bS,by show 0+e.cnt<=9000;omega,by
  show 0+e.cnt*(d-0+1)<=400000000;have:e.cnt*(d-0+1)<=9000*20001:=Nat.mul_le_mul yx (by omega);omega,adj⟩
 have hc:=HW l l.heap.size 0 0 b _ [] none xx _ _ _ [] _ hT hin (by simp[BC]) (λ_ s U h=>by simp[look]at h) (λ_=>hok);rw[<-HR.out]at hc;refine fw hb hq0 (SE l hb) λHB I adk=>?_;clear hb hb0 hT A HW hin hq0 hok SE;unfold ptr nS xx at hc;go_wp2_with fail;refine hc.mono ?_;rintro _ w2 ⟨vb,YG,wv2,OG,adl,rfl,QC,BH,rR,W⟩;have e6:=W.c.2.2.2.1;have Kx:=W.c.2.2.2.2;refine bY W QC λJ HV2=>?_;clear hc QC BH rR W;by_cases he:R.2.e=0
 ·have qe:((R.2.e:Int)==0)=true:=by rw[he];rfl
  have X:=Cr adk l.heap.size d YG wv2 OG adl R.1 T R.2 vb w2 (VQ he) hTs HV2 J;have m:iF R.1 R.2=qW R:=by unfold qW;rw[ah he]
  rw[m]at X;unfold ptr at X;clear m he J HV2;go_wp2_with fail;refine X.mono ?_;rintro _ w3 ⟨rfl,J6,f⟩;clear J6 X e6 qe;have n:w3.heap[w.heap.size]?=some (.cells #[.string ⟨#[]⟩,.int .i64 0,.int .i64 0,.int .i64 0,.int .i64 0] 23):=by rw[f.b0.block _ hql];exact I
  have B:Hid (bg w w3):=HB.trans (f.b0.mono HB.size);obtain⟨Q,hQ⟩:=ez (qW R);have K:=HES;rw[<-hQ]at f K⊢;have Y:Hid (V=sK Q):=by rw[hQ];exact HV
  have Z:Hid (E=Q.2.e):=by rw[hQ];exact HE
  have e6:=f.c.2.2.2.1;have e5:=f.c.2.2.1;have e4:=f.c.2.1;have UZ:=f.c.2.2.2.2;by_cases G:Q.2.e=0
  ·have qe:((Q.2.e:Int) !=0)=false:=by rw[G];rfl
   have L:Hid (E=0):=by rw[Z.out,G];exact rfl
   have M:Hid (V=.agg #[.string (bs Q.1),.int .i64 Q.2.steps,.int .i64 Q.2.cells,.int .i64 (ig (0,0) Q.2.dq).2,.int .i64 (ig (0,0) Q.2.dq).1]):=by rw[Y.out];unfold sK;rw[ag (λh=>h G)];exact rfl
   obtain⟨ta,tc,N⟩:=rsl f.t;have aeV:Q.2.dq.length<=400000000:=by rw[K.2.2];exact htl
   have abk:∀x∈Q.2.dq,-20000<=x/\x<=1:=by rw[K.2.2];exact Lc
   have e2:w3.cell? ⟨l.heap.size,2,none⟩=some (.slice ta Q.2.dq.length tc):=by rw[aI f.y,<-N];rfl
   have Na:Hid (∀(j:Nat)(hj:j<Q.2.dq.length),∃g,ta=some ⟨g,0,none⟩/\g<w3.heap.size/\cg w3 g j (.int .i64 Q.2.dq[j])):=by
    intro j hj;obtain⟨g,cap,hsl⟩:=rsg f.t (by omega);have hrow:=f.t;rw[hsl]at hrow N;simp only[bN]at N;have hc:w3.cell? ⟨g,j,none⟩=some (.int .i64 Q.2.dq[j]):=by rw[hrow.cellAt j (by omega),aC,aa hj];rfl
    exact⟨g,N.1.symm,aR _ _ hc,hc⟩
   refine bY abk n λO HQ=>?_;clear f N hQ K abk G Lc HES VQ HE HV Z Y n;go_wp2;go_loopw [13,14,15] (λa b i wr=>∃(j:Nat),j<=Q.2.dq.length/\i=.int .i64 j/\w3=wr/\a=.int .i64 (ig (0,0) (Q.2.dq.take j)).1/\b=.int .i64 (ig (0,0) (Q.2.dq.take j)).2) (λ_ _ i _=>Q.2.dq.length-(intOf i).toNat)
   case atStart=>exact⟨0,ld,rfl,rfl,rfl,rfl⟩
   case round=>
    obtain⟨j,hj,rfl,rfl,rfl,rfl⟩:=hrel;have C:=Ja (Q.2.dq.take j) (0,0) (λx hx=>O x (List.mem_of_mem_take hx));have FN:(Q.2.dq.take j).length<=400000000:=by rw[cS];omega
    simp only at C;have hb1:=C.1;have hb2:=C.2.1;have hb3:=C.2.2.1;have hb4:=C.2.2.2 400000000 (by omega) (by omega);by_cases hlt:j<Q.2.dq.length
    ·obtain⟨g,hg,hgl,hcj⟩:=Na j hlt;have hx:=O Q.2.dq[j] (bZ hlt);have D:ig (0,0) (Q.2.dq.take (j+1))=((ig (0,0) (Q.2.dq.take j)).1+Q.2.dq[j],if (ig (0,0) (Q.2.dq.take j)).2<(ig (0,0) (Q.2.dq.take j)).1+Q.2.dq[j] then (ig (0,0) (Q.2.dq.take j)).1+Q.2.dq[j] else (ig (0,0) (Q.2.dq.take j)).2):=by
      rw[bQ hlt,oR]
     subst hg;generalize Q.2.dq[j]=xj at*;have A:Hid _:=D;generalize ig (0,0) (Q.2.dq.take j)=tf at*;clear C D;by_cases hgt:tf.2<tf.1+xj
     ·have P:Hid (ig (0,0) (Q.2.dq.take (j+1))=(tf.1+xj,tf.1+xj)):=by rw[A.out,ah hgt];exact rfl
      clear A;go_wp2;go_roundw
      case rel=>exact⟨j+1,by omega,by go_num,by first|rfl|trivial,by rw[P.out],by rw[P.out]⟩
      case measure=>simp[intOf];omega
     ·have P:Hid (ig (0,0) (Q.2.dq.take (j+1))=(tf.1+xj,tf.2)):=by rw[A.out,ag hgt];exact rfl
      clear A;go_wp2;go_roundw
      case rel=>exact⟨j+1,by omega,by go_num,by first|rfl|trivial,by rw[P.out],by rw[P.out]⟩
      case measure=>simp[intOf];omega
    ·have hje:Q.2.dq.take j=Q.2.dq:=cw (by omega);rw[hje]at hb1 hb2 hb3 hb4⊢;have n:=HQ;have hjl:j=Q.2.dq.length:=by omega
     subst hjl;generalize ig (0,0) Q.2.dq=tf at*;clear C hje FN hj hlt Na O HQ I;obtain⟨r0,r1,r2,r3,r4⟩:=gQ n;have g:=aK n;have hqy:w.heap.size≠l.heap.size:=by omega
     have hyq:l.heap.size≠w.heap.size:=by omega
     have abl:=aG n;have p:Hid _:=n;clear n;go_wp2;go_region;generalize r:World.drew _=W7;obtain⟨u,z⟩:=V8 p.out B.out bS r;have S:Hid _:=z;obtain⟨s0,s1,s2,s3,s4⟩:=gQ u;clear r u z p B r0 r1 r2 r3 r4 g;go_wp2;refine au (v:=.tuple #[.agg #[.string (bs Q.1),.int .i64 Q.2.steps,.int .i64 Q.2.cells,.int .i64 tf.2,.int .i64 tf.1],.int .i64 0]) (by simp[results,results19,go_sem,s0,s1,s2,s3,s4]) rfl ⟨by rw[M.out,L.out];rfl,S⟩
  ·have qe:((Q.2.e:Int) !=0)=true:=by simp;omega
   have L:Hid _:=Z;have M:Hid (V=CL):=by rw[Y.out];unfold sK;rw[ah G];exact rfl
   clear f hQ K G Lc HES VQ HE HV Z Y I;generalize Q.2.e=er at*;obtain⟨r0,r1,r2,r3,r4⟩:=gQ n;have g:=aK n;have hqy:w.heap.size≠l.heap.size:=by omega
   have hyq:l.heap.size≠w.heap.size:=by omega
   have abl:=aG n;have p:Hid _:=n;clear n;go_wp2;go_region;generalize r:World.drew _=W7;obtain⟨u,z⟩:=V8 p.out B.out bS r;have S:Hid _:=z;obtain⟨s0,s1,s2,s3,s4⟩:=gQ u;clear r u z p B r0 r1 r2 r3 r4 g;go_wp2;refine au (v:=.tuple #[.agg #[.string ⟨#[]⟩,.int .i64 0,.int .i64 0,.int .i64 0,.int .i64 0],.int .i64 er]) (by simp[results,results19,go_sem,s0,s1,s2,s3,s4]) rfl ⟨by rw[M.out,L.out],S⟩
 ·have qe:((R.2.e:Int)==0)=false:=by rw[aH];omega
  have qe2:((R.2.e:Int) !=0)=true:=by simp;omega
  have m:qW R=([],R.2):=by unfold qW;rw[ag he]
  have L:Hid (E=R.2.e):=by rw[HE.out,m];exact rfl
  have M:Hid (V=CL):=by rw[HV.out,m];unfold sK;rw[ah he];exact rfl
  have n:w2.heap[w.heap.size]?=some (.cells #[.string ⟨#[]⟩,.int .i64 0,.int .i64 0,.int .i64 0,.int .i64 0] 23):=by rw[J.out.b0.block _ hql];exact I
  have B:Hid (bg w w2):=HB.trans (J.b0.mono HB.size);clear m J HV2 I he;generalize R.2.e=er at*;obtain⟨r0,r1,r2,r3,r4⟩:=gQ n;have g:=aK n;have hqy:w.heap.size≠l.heap.size:=by omega
  have hyq:l.heap.size≠w.heap.size:=by omega
  have abl:=aG n;have p:Hid _:=n;clear n;go_wp2;go_region;generalize r:World.drew _=W7;obtain⟨u,z⟩:=V8 p.out B.out bS r;have S:Hid _:=z;obtain⟨s0,s1,s2,s3,s4⟩:=gQ u;clear r u z p B r0 r1 r2 r3 r4 g;go_wp2;refine au (v:=.tuple #[.agg #[.string ⟨#[]⟩,.int .i64 0,.int .i64 0,.int .i64 0,.int .i64 0],.int .i64 er]) (by simp[results,results19,go_sem,s0,s1,s2,s3,s4]) rfl ⟨by rw[M.out,L.out],S⟩
