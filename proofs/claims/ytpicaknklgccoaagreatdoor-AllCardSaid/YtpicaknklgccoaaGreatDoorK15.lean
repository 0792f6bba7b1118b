import Derived.Test.YtpicaknklgccoaaGreatDoorK14
import Derived.Laws.Tables
set_option maxHeartbeats 4000000
set_option maxRecDepth 100000
namespace Go.Proofs.YtpicaknklgccoaaGreatDoor
open Tryz
open Go.RowKit
variable {w d x:World}{a:Kw}{b c:Nat}
abbrev o5:=@setRow_heap
def FI(i:World)(j a p:Nat)(k:Kw)(n l:List UInt8)(c:List PT)(G:dc):Prop:=
 ∀(id g b:Nat)(F:Nat->Prop)(d:kz)(m:Option Addr)(h:RS)(o q r:Value)(f:List Nat)(w:World),gS i F (.node p k n l c) id g b->fP i w j o q r f a h->BC w f d m->qf d G->DD a (1+aU c) h->h.e=0->
  Calls prog 74 #[ptr j,ptr b,.pointer m] w (rB i j a w f (mI a k (aQ l) c d h))
theorem nD(n:Int)(h:-1000000<=n/\n<=1000000):IntKind.i64.wrap n=n:=by
 have e:IntKind.i64.wrap n=(n+9223372036854775808)%18446744073709551616-9223372036854775808:=by simp[IntKind.wrap,IntKind.bits,IntKind.signed];omega
 rw[e];omega
theorem rB.grow{a}{f}{r}{e:Ending}(h:rB d b c w f r e x)(i:bg x a):rB d b c w f r e a:=by
 obtain⟨j,k,l,m,g,h1,h2,h3,n,o⟩:=h;exact⟨j,k,l,m,g,h1,h2.keep (mK.below i) uf,h3,n.trans (mK.below i),o.grow i⟩
theorem Ic(w):bg w w.drew:=⟨rfl,rfl,rfl,bS,λ_ _=>rfl⟩
theorem YA{a:RS}{v}(h:(a.used v).e=0):a.e=0:=(FA a v).2.2.2.2.2.2 h
theorem rL(t d p:Nat)(k)(u o)(g)(G:dc)(B:k≠.new)(h1:k≠.dV)(h2:k≠.lv)(h3:k≠.loop)(H:FI w t d p k u o g G):Yp w t d (.node p k u o g) G:=by
 intro id q b F j v n I J K x a C i L r l z D;obtain⟨X,Y,⟨M,Z,g4⟩,N,_⟩:=lL C;have O:=by have:=i.pq;omega
 simp only[PT.cnt]at l;have A:rW d (.node p k u o g) j n=mI d k (aQ o) g j {n with steps:=n.steps+1}:=by
  conv=>lhs;unfold rW
  rw[ag B,sB z D,ag h1,ag h2,ag h3]
 rw[A];have E:=λm=>H id q b F j v {n with steps:=n.steps+1} I J K x _ C (i.drew m).OQ (L.keep (i.ym m) uf) r (l.step D) z;have x0:=(i.b0.cell (p:=⟨b,0,none⟩) N).trans M;have qn:((bs k.bytes).toList==[110,101,119])=false:=by rw[bo];cases k<;>first|decide|exact absurd rfl B
 have q0:((bs k.bytes).toList==[110,117,109,98,101,114])=false:=by rw[bo];cases k<;>decide
 have q1:((bs k.bytes).toList==[110,97,109,101])=false:=by rw[bo];cases k<;>decide
 have q2:((bs k.bytes).toList==[108,101,116])=false:=by rw[bo];cases k<;>first|decide|exact absurd rfl h1
 have q3:((bs k.bytes).toList==[105,102])=false:=by rw[bo];cases k<;>first|decide|exact absurd rfl h2
 have q4:((bs k.bytes).toList==[108,111,111,112])=false:=by rw[bo];cases k<;>first|decide|exact absurd rfl h3
 have y3:=i.c.1;have y4:=i.c.2.1;have P:=i.c.2.2.2.2;have y6:=i.c6 z;have f4:=aK i.y 4;have Q:=by have:=i.b0.size;omega
 have q9:((n.steps:Int)==(d:Int))=false:=by rw[aH];omega
 have S:=l.s;have T:=l.f;have U:=λm=>i.ym m;generalize mI d k (aQ o) g j {n with steps:=n.steps+1}=R at*;unfold ptr at E;show Calls _ _ #[Value.pointer (some ⟨t,0,none⟩),Value.pointer (some ⟨b,0,none⟩),_] a _;go_in;go_wp2_with fail;go_quiet (fail);go_wp2_with fail;refine ay (E _) (λe w3 h=>?_);obtain⟨V,rfl,W⟩:=(h.pre (U _) uf).two;go_wp2;go_ret;exact W
theorem Pa(q f p:Nat)(y m)(a)(G:dc)(t:∀(id j b:Nat)(F:Nat->Prop)(g:kz)(t:Option Addr)(k:RS)(u v x:Value)(i:List Nat)(d:World),gS w F (.node p .new y m [a]) id j b->fP w d q u v x i f k->BC d i g t->qf g G->DD f (1+a.cnt) k->k.e=0->Calls prog 73 #[ptr q,ptr b,.pointer t] d (rB w q f d i (tX f (aQ m) [a] g k))):oA w q f (.node p .new y m [a]) G:=by
 intro id j b F g r k u v x i d B n D s z;by_cases o:k.e=0
 ·obtain⟨M,N,⟨E,O,P⟩,H,_⟩:=lL B;have l:=z o;simp only[PT.cnt,aU,az]at l;have A:rW f (.node p .new y m [a]) g k=tX f (aQ m) [a] g k:=by
   conv=>lhs;unfold rW
   rw[ah rfl,ag (by simpa using o)]
  rw[A];have C:=t id j b F g r k u v x i d B n D (s o) l o;have Q:=(n.b0.cell (p:=⟨b,0,none⟩) H).trans E;have S:((bs Kw.new.bytes).toList==[110,101,119])=true:=by rw[bo];decide
  have T:=n.c6 o;have I:=n.c.2.2.2.2;have J:=by have:=n.b0.size;omega
  unfold ptr at C;generalize tX f (aQ m) [a] g k=R at*;show Calls _ _ #[Value.pointer (some ⟨q,0,none⟩),Value.pointer (some ⟨b,0,none⟩),_] d _;go_in;go_wp2_with fail;refine ay C (λe U h=>?_);obtain⟨K,rfl,L⟩:=h.two;go_wp2;go_ret;exact L
 ·exact Et b r g k u v x i d n o
theorem Pb(P f p:Nat)(hk:a=.add\/a=.sub\/a=.less)(nm rg)(x y)(G:dc)(hwx:WT G x .n)(Xi:WT G y .n)(GW:x.eO)(hty:y.eO)(hfx:x.wf)(Pc:oA w P f x G)(KS:oA w P f y G):FI w P f p a nm rg [x,y] G:=by
 intro id site b F l hp E ov wv tv GS d hT hP hH r H he;obtain⟨gk,vc,bx,bb,FH,Q,KQ,S,t,rA,s6⟩:=Vo hT;have hne:b≠P:=by have:=hP.pq;have:=t.hb;omega
 have QF:gk≠P:=by have:=hP.pq;have:=t.hg;omega
 simp only[aU]at H;have hr1:=th f hwx l E GW (λ_=>r);have h1:=Pc FH Q bx F l hp E ov wv tv GS _ rA hP hH (λ_=>r) (λ_=>H.le (by omega));have O:=λe=>H.on x l hfx he (by omega) e;have yT:mI f a (aQ rg) [x,y] l E=if (rW f y l (rW f x l E).2).2.e≠0 then (.n 0,(rW f y l (rW f x l E).2).2) else (.n (oH a (rW f x l E).1.num (rW f y l (rW f x l E).2).1.num),(rW f y l (rW f x l E).2).2):=by rcases hk with rfl|rfl|rfl<;>simp only[mI,reduceCtorEq,aT]
 rw[yT];generalize rW f x l E=r1 at*;have xO:=th f Xi l r1.2 hty (λ_=>r);have h2:=λI J K s w2 (u:fP w w2 P I J K s f r1.2) (hH2:BC w2 s l hp)=>KS KQ S bb F l hp r1.2 I J K s w2 s6 u hH2 (λ_=>r) (λe=>(O e).le (by omega));generalize rW f y l r1.2=z at*;obtain⟨i,hi,hi0,hi9⟩:=su hr1;obtain⟨j,hj,WZ,hj9⟩:=su xO;obtain⟨R,hR⟩:∃R,R=if z.2.e≠0 then (RV.n 0,z.2) else (RV.n (oH a r1.1.num z.1.num),z.2):=⟨_,rfl⟩;rw[<-hR];have T:Hid (z.2.e=0->R=(RV.n (oH a i j),z.2)):=λh=>by rw[hR,ag (λg=>g h),hi,hj];rfl
 have U:Hid (z.2.e≠0->R=(RV.n 0,z.2)):=λh=>by rw[hR,ah h]
 have o:=t.on hP.b0;have x4:=o.c4;have ML:=o.ck 0 bx rfl;have Rp:=o.hb;have Rq:=o.hg;refine fT (kwq a) hk t hH λHQ hkk HK HH=>?_;have V:Hid _:=And.intro hi hj;unfold ptr at h1 h2;refine bY h1 h2 λH1 H2=>?_;clear hk t o hT hP hH r H he yT rA s6 Pc KS h1 h2 hR hr1 xO O hi hj;show Calls _ _ #[Value.pointer (some ⟨P,0,none⟩),Value.pointer (some ⟨b,0,none⟩),_] d _;go_in;go_wp2_with fail;refine ay H1.out ?_;rintro _ w2 ⟨va,I,J,K,s,rfl,W,X,Y,u⟩;have o:=HK.out.on u.b0;have z0:=o.c0;have z4:=o.c4;have QG:=o.ck 1 bb rfl;have Rs:=o.hb;have Ut:=o.hg;have hc2:=H2.out I J K s w2 u (HH.out.keep Y X);rw[V.out.1]at W;have HV:Hid (w2.heap[va]?=some (.cells (Fv i none none none) 132 (0,0))):=W;refine bY X Y λHO HI=>?_;clear W X Y u o H1 H2 HH x4 ML;go_wp2_with fail;refine hc2.mono ?_;rintro _ Z ⟨vb,ov3,wv3,DK,Ru,rfl,A,zk,J6,B⟩;have e6:=B.c.2.2.2.1;have ul:=B.c.2.2.2.2;have o:=HK.out.on B.b0;have u0:=o.c0;have u4:=o.c4;have ul1:=o.hb;rw[V.out.2]at A;simp only[zm]at A;have QH:=J6.v _ _ HV.out;have a0:cg Z va 0 (.int .i64 i):=dR QH rfl;have b0:cg Z vb 0 (.int .i64 j):=dR A rfl;have al:=aG QH;have bl:=aG A;refine fw (HI.out.trans J6) (eD HO.out zk) B λL M N=>?_;clear A zk J6 B o QH HK HV HI HO hc2 V z0 z4 QG;by_cases C:z.2.e=0
 ·have qe:((z.2.e:Int) !=0)=false:=by rw[C];rfl
  have D:Hid _:=T.out C;have q:=HQ.out;clear C T U;rcases hkk.out with rfl|rfl|rfl
  ·have hw1:IntKind.i64.wrap (i+j)=i+j:=nD _ (by omega);have HA:Hid (oH .add i j=(i+j)%10000):=by unfold oH;rw[ah rfl,dD (by omega)];exact rfl
   have HZ:Hid _:=((zeroV N.out ((i+j)%10000) Z.heap.size rfl).pre L.out M.out).grow (Ic _);go_wp2;go_region
   all_goals (go_wp2;go_ret;rw[D.out,HA.out];exact HZ.out)
  ·have hw1:IntKind.i64.wrap (i+10000)=i+10000:=nD _ (by omega);have hw2:IntKind.i64.wrap (i+10000-j)=i+10000-j:=nD _ (by omega);have HA:Hid (oH .sub i j=(i+10000-j)%10000):=by unfold oH;simp only[reduceCtorEq,aT,bT];rw[dD (by omega)];exact rfl
   have HZ:Hid _:=((zeroV N.out ((i+10000-j)%10000) Z.heap.size rfl).pre L.out M.out).grow (Ic _);go_wp2;go_region
   all_goals (go_wp2;go_ret;rw[D.out,HA.out];exact HZ.out)
  ·have HZ:Hid _:=λ(a:Int) m=>(zeroV (N.out.drew m) a Z.heap.size rfl).pre (L.out.trans (mK.below (dW Z m))) M.out;have HA:Hid (oH .less i j=if i<j then 1 else 0):=rfl;by_cases hlt:i<j
   all_goals
    go_wp2;go_quiet (fail);go_wp2;go_ret;rw[D.out,HA.out]
    first|rw[ah hlt]|rw[ag (by omega)]
    exact HZ.out _ _
 ·have qe:((z.2.e:Int) !=0)=true:=by simp;omega
  refine bY (U.out C) ((zeroV N.out 0 Z.heap.size rfl).pre L.out M.out) λD HZ=>?_;clear C T U;have q:=HQ.out;rcases hkk.out with rfl|rfl|rfl<;>(go_wp2;go_ret;rw[D.out];exact HZ.out)
theorem Ce(T i p:Nat)(hk:a=.fst\/a=.snd)(nm rg)(x)(G:dc)(A B)(hwx:WT G x (.p 0 A B))(GW:x.eO)(U:oA w T i x G):FI w T i p a nm rg [x] G:=by
 intro id site b F m hp v ov wv tv GS d hT V hH y H he;obtain⟨gk,vc,bx,FH,I,z,W⟩:=Yy hT;have hne:b≠T:=by have:=V.pq;have:=z.hb;omega
 have QF:gk≠T:=by have:=V.pq;have:=z.hg;omega
 simp only[aU]at H;have X:=th i hwx m v GW (λ_=>y);have h1:=U FH I bx F m hp v ov wv tv GS _ W V hH (λ_=>y) (λ_=>H.le (by omega));have Y:mI i a (aQ rg) [x] m v=if ((rW i x m v).2.used (rW i x m v).1).e≠0 then (.n 0,(rW i x m v).2.used (rW i x m v).1) else (if a=.fst then (rW i x m v).1.fst else (rW i x m v).1.snd,(rW i x m v).2.used (rW i x m v).1):=by rcases hk with rfl|rfl<;>simp only[mI,reduceCtorEq,bT,aT]
 rw[Y];generalize rW i x m v=j at*;obtain⟨R,hR⟩:∃R,R=if (j.2.used j.1).e≠0 then (RV.n 0,j.2.used j.1) else (if a=.fst then j.1.fst else j.1.snd,j.2.used j.1):=⟨_,rfl⟩;rw[<-hR];have J:Hid ((j.2.used j.1).e=0->R=(if a=.fst then j.1.fst else j.1.snd,j.2.used j.1)):=λh=>by rw[hR,ag (λg=>g h)]
 have K:Hid ((j.2.used j.1).e≠0->R=(RV.n 0,j.2.used j.1)):=λh=>by rw[hR,ah h]
 have HL:Hid ((j.2.used j.1).e=0->∃f b h,j.1=.p f b h):=λe=>by
  obtain⟨f,b,c,h,_⟩:=sr (X.1 (YA e)).2;exact⟨f,b,c,h⟩
 have l:=z.on V.b0;have x4:=l.c4;have ML:=l.ck 0 bx rfl;have Rp:=l.hb;have Rq:=l.hg;have q:=kwq a;have HK:Hid _:=z;unfold ptr at h1;have H1:Hid _:=h1;clear z l hT V hH y H he Y W U h1 hR X;rcases hk with rfl|rfl
 all_goals
  show Calls _ _ #[Value.pointer (some ⟨T,0,none⟩),Value.pointer (some ⟨b,0,none⟩),_] d _;go_in;go_wp2_with fail;refine ay H1.out ?_;rintro _ w2 ⟨va,L,M,N,r,rfl,O,Z,rR,P⟩;have l:=HK.out.on P.b0;have z0:=l.c0;have z4:=l.c4;have Rs:=l.hb;have D:=Hx T i L M N r j.2 w2 j.1 va P O;refine fw O Z rR λHV HO HI=>?_;unfold ptr at D;clear O Z rR P l H1 x4 ML;go_wp2_with fail;refine D.mono ?_;rintro _ w3 ⟨rfl,C,s⟩;have e6:=s.c.2.2.2.1;have ul:=s.c.2.2.2.2;have l:=HK.out.on s.b0;have u0:=l.c0;have ul1:=l.hb;by_cases u:(j.2.used j.1).e=0
  ·have qe:(((j.2.used j.1).e:Int) !=0)=false:=by rw[u];rfl
   obtain⟨f,b',hh,E⟩:=HL.out u;have Q:=HV.out.keep C uf;rw[E]at Q;simp only[zm]at Q;obtain⟨ba,bb,o,t,_,QH,hvb⟩:=Q;have a1:cg w3 va 1 (.pointer (some ⟨ba,0,none⟩)):=dR t rfl;have a2:cg w3 va 2 (.pointer (some ⟨bb,0,none⟩)):=dR t rfl;have al:=aG t;have MN:=J.out u;refine bY (HI.out.trans C) s λHI3 HP3=>?_;have HVA:Hid (zm w3 r j.1.fst ba):=by rw[E];exact QH
   have HVB:Hid (zm w3 r j.1.snd bb):=by rw[E];exact hvb
   clear C s u E t QH hvb l HK HL J K HV D z0 z4;have S:Hid _:=MN;clear MN;go_wp2;go_ret;rw[S.out]
   first|exact⟨ba,L,M,N,r,rfl,HVA.out,HO.out,HI3.out,HP3.out⟩|exact⟨bb,L,M,N,r,rfl,HVB.out,HO.out,HI3.out,HP3.out⟩
  ·have qe:(((j.2.used j.1).e:Int) !=0)=true:=by simp;omega
   refine bY (K.out u) ((zeroV s 0 w3.heap.size rfl).pre (HI.out.trans C) HO.out) λS HZ=>?_;clear C s u l HK HL J K HV D z0 z4;go_wp2;go_ret;rw[S.out];exact HZ.out
def bA(s:ByteArray)(a:Nat):UInt8:=if h:a<s.size then s[a] else 0
theorem Cf(s:ByteArray)(a:Nat)(h:a<s.size):bA s a=s[a]:=by unfold bA;rw[dif_pos h]
theorem Rv(s)(a:Nat)(h:s.size<=a):bA s a=0:=by unfold bA;rw[dif_neg (by omega)]
theorem qK(s)(a:Nat)(w)(c:a<=10000):Calls prog 192 #[.string s,.int .i64 a] w λe b=>e=.returned (.int .u8 ((bA s a).toNat:Int))/\b=w:=by
 by_cases h:a<s.size
 ·rw[Cf s a h];go_in;go_wp2;go_ret;exact⟨rfl,rfl⟩
 ·rw[Rv s a (by omega)];go_in;go_wp2;go_ret;exact⟨rfl,rfl⟩
theorem yo(c)(w):Calls prog 193 #[.int .u8 (c.toNat:Int)] w λe a=>e=.returned (.bool (ug 97 122 c))/\a=w:=by
 have b:=c.toNat_lt;unfold ug;go_in;go_wp2
 all_goals go_ret
 ·refine⟨kP ?_,rfl⟩;have h1:(97:Int)<=(c.toNat:Int):=by assumption
  simp[h1]
 ·refine⟨kP ?_,rfl⟩;have h1:¬(97:Int)<=(c.toNat:Int):=by omega
  simp[h1]
theorem Ay(c)(w):Calls prog 195 #[.int .u8 (c.toNat:Int)] w λe a=>e=.returned (.bool (ug 48 57 c))/\a=w:=by
 have b:=c.toNat_lt;unfold ug;go_in;go_wp2
 all_goals go_ret
 ·refine⟨kP ?_,rfl⟩;have h1:(48:Int)<=(c.toNat:Int):=by assumption
  simp[h1]
 ·refine⟨kP ?_,rfl⟩;have h1:¬(48:Int)<=(c.toNat:Int):=by omega
  simp[h1]
theorem Az(c)(w):Calls prog 202 #[.int .u8 (c.toNat:Int)] w λe a=>e=.returned (.bool (jJ c))/\a=w:=by
 have b:((c.toNat:Int)==32)=(c==32):=jD c 32;have d:((c.toNat:Int)==10)=(c==10):=jD c 10;unfold jJ;rw[<-b,<-d];go_in;go_wp2
 all_goals go_ret
 all_goals
  refine⟨kP ?_,rfl⟩
  simp_all
def A0:List UInt8->Nat
 |[]=>0
 |c::r=>if jJ c then A0 r+1 else 0
theorem Rw(l):A0 l<=l.length:=by
 induction l with
 |nil=>simp[A0]
 |cons c r a=>simp[A0];split<;>simp<;>omega
theorem Cg(s)(a:Nat)(w)(q:s.size<=9000)(o:a<=s.size):Calls prog 191 #[.string s,.int .i64 a] w λe f=>e=.returned (.int .i64 ((a+A0 (s.data.toList.drop a):Nat):Int))/\f=w:=by
 have g:=λk (h:k<=10000) w=>qK s k w h;go_in;go_wp2;go_loop [5] (λi=>∃k:Nat,k<=s.size/\i=.int .i64 k/\a+A0 (s.data.toList.drop a)=k+A0 (s.data.toList.drop k)) (λi=>s.size-(intOf i).toNat)
 case atStart=>exact⟨a,o,rfl,rfl⟩
 case round=>
  obtain⟨k,r,rfl,m⟩:=hrel;by_cases d:k<s.size
  ·by_cases n:jJ s[k]=true
   ·have j:A0 (s.data.toList.drop k)=A0 (s.data.toList.drop (k+1))+1:=by rw[drop_cons s k d];simp[A0,n]
    have p:=j;have b:=λw=>Az s[k] w;rw[n]at b;have c:=g k (by omega);rw[Cf s k d]at c;go_wp2_with (first
     |(go_at_call 192;refine (c _).mono ?_;rintro e f ⟨rfl,rfl⟩)
     |(go_at_call 202;refine (b _).mono ?_;rintro e f ⟨rfl,rfl⟩))
    go_round
    case rel=>exact⟨k+1,by omega,by go_num,by rw[m,p];omega⟩
    case measure=>simp[intOf];omega
   ·have l:jJ s[k]=false:=by simpa using n
    have j:A0 (s.data.toList.drop k)=0:=by rw[drop_cons s k d];simp[A0,l]
    have b:=λw=>Az s[k] w;rw[l]at b;have c:=g k (by omega);rw[Cf s k d]at c;go_wp2_with (first
     |(go_at_call 192;refine (c _).mono ?_;rintro e f ⟨rfl,rfl⟩)
     |(go_at_call 202;refine (b _).mono ?_;rintro e f ⟨rfl,rfl⟩))
    go_ret;exact⟨gj (by have h1:=m;have h2:=j;omega),rfl⟩
  ·have j:A0 (s.data.toList.drop k)=0:=by rw[nQ s k (by omega)];rfl
   go_wp2;go_ret;exact⟨gj (by have h1:=m;have h2:=j;omega),rfl⟩
theorem Ie(s)(a n b:Nat)(w)(G:s.size<=9000)(d:b=a+n)(H:b<=s.size)(I:n<=5)(x:∀c∈(s.data.toList.drop a).take n,c≠35):Calls prog 205 #[.string s,.int .i64 a,.int .i64 b] w λe u=>e=.returned (.int .i64 (aQ ((s.data.toList.drop a).take n)))/\u=w:=by
 go_in;go_wp2;go_loop [7,8] (λv i=>∃k j:Nat,k<=n/\j=a+k/\i=.int .i64 j/\v=.int .i64 (aQ ((s.data.toList.drop a).take k))) (λ_ i=>b-(intOf i).toNat)
 case atStart=>exact⟨0,a,by omega,rfl,rfl,rfl⟩
 case round=>
  obtain⟨k,j,J,o,rfl,rfl⟩:=hrel;have y:=Ec ((s.data.toList.drop a).take k);have K:=UM ((s.data.toList.drop a).take k).length (by simp;omega);obtain⟨m,f⟩:=ez (aQ ((s.data.toList.drop a).take k));rw[<-f]at y;obtain⟨z,A⟩:-3000000<=m/\m<=3000000:=by omega
  by_cases B:k<n
  ·have p:j<s.size:=by omega
   have q:aQ ((s.data.toList.drop a).take (k+1))=10*m+(s[j].toNat:Int)-48:=by
    have e:(s.data.toList.drop a).take (k+1)=(s.data.toList.drop a).take k++[s[j]]:=by
     subst o;rw[bQ (by simp;omega),List.getElem_drop];rfl
    have r:s[j]≠35:=by
     apply x;have:s[j]∈(s.data.toList.drop a).take (k+1):=by rw[e];simp
     rw[show (s.data.toList.drop a).take (k+1)=((s.data.toList.drop a).take n).take (k+1) from by rw[nN,dL (by omega)]]at this;exact List.mem_of_mem_take this
    rw[e,Ah,ag r,f]
   have g:=s[j].toNat_lt;have C:Hid _:=g;have l:=(λk (h:k<=10000) w=>qK s k w h) j (by omega);rw[Cf s j p]at l;clear g;rw[<-f];have L:Hid _:=f;clear f;have D:Hid (j=a+k):=o;have E:j<b:=by omega
   have F:Hid (b=a+n):=d;clear o d;go_wp2_with fail;refine (l _).mono ?_;rintro e u ⟨rfl,rfl⟩;go_wp2;go_round
   case rel=>
    have:=D.out;refine⟨k+1,j+1,by omega,by omega,by go_num,?_⟩;rw[q];have:=C.out;rw[dI (s[j].toNat:Int) (by omega),dI (m*10+(s[j].toNat:Int)) (by omega),dI _ (by omega),Int.mul_comm m 10]
   case measure=>simp[intOf];omega
  ·have t:k=n:=by omega
   subst t;go_wp2;go_ret;exact⟨rfl,rfl⟩
theorem Vs(s)(a b:Nat)(w)(d:a<=b)(f:b<=s.size):Calls prog 203 #[.string s,.int .i64 a,.int .i64 b] w λe c=>e=.returned (.string (s.extract a b))/\c=w:=by
 go_in;go_wp2;go_ret;exact⟨rfl,rfl⟩
theorem rS(s:ByteArray)(k):(s.toList==k.bytes)=decide (xS s.data.toList=some k):=by
 rw[bR];by_cases h:xS s.data.toList=some k
 ·rw[dZ h,r8 h];simp
 ·rw[cd h,aH];intro e;rw[e,Br]at h;exact h rfl
theorem KT(s)(w):Calls prog 204 #[.string s] w λe n=>e=.returned (.int .i64 ((fJ (js s.data.toList 0):Nat):Int))/\n=w:=by
 have b:=rS s .dV;have c:=rS s .pair;have d:=rS s .fst;have f:=rS s .snd;have g:=rS s .lv;have h:=rS s .add;have i:=rS s .sub;have j:=rS s .less;have l:=rS s .loop;have a:=rS s .new;simp only[Kw.bytes]at b c d f g h i j l a;unfold js;cases m:xS s.data.toList with
 |none=>
  rw[m]at b c d f g h i j l a;simp only[reduceCtorEq,jc]at b c d f g h i j l a;go_in;go_wp2;go_ret;exact⟨rfl,rfl⟩
 |some k=>
  rw[m]at b c d f g h i j l a;cases k
  all_goals
   simp only[ai,reduceCtorEq,jc,mG]at b c d f g h i j l a;go_in;go_wp2;go_ret;exact⟨rfl,rfl⟩
def n8(t:TN):Value:=.agg #[.int .i64 t.kind,.int .i64 t.at_,.int .i64 t.dH,.string (bs t.word),.int .i64 t.num]
theorem Rx(s)(k:Nat)(a b:Int)(d:0<a):(ug a b (bA s k)=true/\k<s.size/\run a b (s.data.toList.drop k)=run a b (s.data.toList.drop (k+1))+1)\/(ug a b (bA s k)=false/\run a b (s.data.toList.drop k)=0):=by
 by_cases h:k<s.size
 ·rw[Cf s k h,drop_cons s k h];cases c:ug a b s[k] with
  |true=>left;exact⟨rfl,h,by simp[run,c]⟩
  |false=>right;exact⟨rfl,by simp[run,c]⟩
 ·right;rw[Rv s k (by omega),nQ s k (by omega)];refine⟨?_,rfl⟩;unfold ug;have e:((0:UInt8).toNat:Int)=0:=rfl;rw[e,cd (by omega:¬a<=0)];rfl
theorem FJ(l)(n:Nat)(h:n<=8):js l n=js l 0:=by
 unfold js;cases xS l<;>simp[h]
theorem Ch(l)(h:8<l.length):js l l.length=.bad:=by
 unfold js;cases a:xS l with
 |none=>simp;omega
 |some k=>
  have:=r8 a;rw[this]at h
  revert h
  cases k<;>simp[Kw.bytes]
theorem FK(s)(a n:Nat)(w)(E:s.size<=9000)(y:n=run 97 122 (s.data.toList.drop a))(F:a+n<=s.size):Calls prog 194 #[.string s,.int .i64 a] w λe c=>e=.returned (n8 ⟨fJ (js ((s.data.toList.drop a).take n) n),a,a+n,if n<=8 then (s.data.toList.drop a).take n else [],0⟩)/\bg w c:=by
 have A:Hid _:=y;clear y;go_in;go_wp2;go_loop [5] (λi=>∃k j:Nat,k<=n/\Hid (j=a+k)/\j<=s.size/\i=.int .i64 j/\Hid (n=k+run 97 122 (s.data.toList.drop j))) (λi=>s.size-(intOf i).toNat)
 case atStart=>exact⟨0,a,by omega,(rfl:a=a+0),by omega,rfl,(by rw[<-A.out];omega:n=0+run 97 122 (s.data.toList.drop a))⟩
 case round=>
  obtain⟨k,j,B,r,t,rfl,u⟩:=hrel;have d:=(λk (h:k<=10000) w=>qK s k w h) j (by omega);have b:=λw=>yo (bA s j) w;rcases Rx s j 97 122 (by decide) with⟨h1,h2,h3⟩|⟨h1,h2⟩
  ·rw[h1]at b;go_wp2_with (first
    |(go_at_call 192;refine (d _).mono ?_;rintro e c ⟨rfl,rfl⟩)
    |(go_at_call 193;refine (b _).mono ?_;rintro e c ⟨rfl,rfl⟩))
   go_round
   case rel=>exact⟨k+1,j+1,by have h:=u.out;rw[h3]at h;omega,(by have h:=r.out;omega:j+1=a+(k+1)),by omega,by go_num,(by have h:=u.out;rw[h3]at h;omega:n=(k+1)+run 97 122 (s.data.toList.drop (j+1)))⟩
   case measure=>simp[intOf];omega
  ·rw[h1]at b;have l:k=n:=by have h:=u.out;rw[h2]at h;omega
   have f:j=a+n:=by rw[<-l];exact r
   have m:=λw=>KT (s.extract a j) w;have g:(s.extract a j).data.toList=(s.data.toList.drop a).take n:=by rw[f,wL]
   rw[g]at m;have x:Hid _:=Bx g;have o:Hid (j=a+n):=f;have C:(j:Int)-(a:Int)=(n:Int):=by omega
   clear g f l r B;by_cases z:n<=8
   ·have q:n<=8:=z;go_wp2_with (first
     |(go_at_call 192;refine (d _).mono ?_;rintro e c ⟨rfl,rfl⟩)
     |(go_at_call 193;refine (b _).mono ?_;rintro e c ⟨rfl,rfl⟩)
     |(go_at_call 203;refine ((λw=>Vs s a j w (by omega) t) _).mono ?_;rintro e c ⟨rfl,rfl⟩)
     |(go_at_call 204;refine (m _).mono ?_;rintro e c ⟨rfl,rfl⟩))
    refine au (v:=.agg #[.int .i64 ((fJ (js ((s.data.toList.drop a).take n) 0):Nat):Int),.int .i64 a,.int .i64 j,.string (s.extract a j),.int .i64 0]) (by simp[results,results194,go_sem]) rfl ⟨?_,fp.alloc bS _⟩;rw[x.out,o.out,FJ _ _ q];first|rfl|(rw[ah q];rfl)
   ·have q:¬n<=8:=z;have p:((s.data.toList.drop a).take n).length=n:=by simp;omega
    have D:Hid (js ((s.data.toList.drop a).take n) n=.bad):=by
     have:=Ch ((s.data.toList.drop a).take n) (by omega);rw[p]at this;exact this
    go_wp2_with (first
     |(go_at_call 192;refine (d _).mono ?_;rintro e c ⟨rfl,rfl⟩)
     |(go_at_call 193;refine (b _).mono ?_;rintro e c ⟨rfl,rfl⟩))
    refine au (v:=.agg #[.int .i64 1,.int .i64 a,.int .i64 j,.string ⟨#[]⟩,.int .i64 0]) (by simp[results,results194,go_sem]) rfl ⟨?_,fp.alloc bS _⟩;rw[D.out,o.out];first|rfl|(rw[ag q];rfl)
theorem Vt(a b:Int)(l:List UInt8):∀c∈l.take (run a b l),ug a b c=true:=by
 induction l with
 |nil=>simp
 |cons c r e=>
  simp[run];by_cases h:ug a b c=true
  ·rw[ah h,cY];intro x d;rcases bf.1 d with rfl|d
   ·exact h
   ·exact e x d
  ·rw[ag h];simp
def qL(l:List UInt8)(b c a d n:Nat):TN:=if fk (l.take n) b then ⟨c,a,d+n,[],aQ (l.take n)⟩ else ⟨1,a,d+n,[],0⟩
theorem uE(s)(a d n b f:Nat)(w)(R:s.size<=9000)(L:n=run 48 57 (s.data.toList.drop d))(Y:d+n<=s.size)(Z:3<=b/\b<=4):Calls prog 196 #[.string s,.int .i64 a,.int .i64 d,.int .i64 b,.int .i64 f] w λe g=>e=.returned (n8 (qL (s.data.toList.drop d) b f a d n))/\bg w g:=by
 have E:=λk (h:k<=10000) w=>qK s k w h;have F:∀c∈(s.data.toList.drop d).take n,c≠35:=by
  rw[L];intro c S e;have:=Vt 48 57 _ c S;rw[e]at this;revert this;decide
 have T:Hid _:=L;have x:((s.data.toList.drop d).take n).length=n:=by simp;omega
 have z:0<n->((s.data.toList.drop d).take n).head?=some (bA s d):=by
  intro h0;rw[Cf s d (by omega),drop_cons s d (by omega)];obtain⟨m,rfl⟩:∃m,n=m+1:=⟨n-1,by omega⟩;simp
 have l:fk ((s.data.toList.drop d).take n) b=(decide (0<n)&&decide (n<=b)&&(decide (n=1)||(((s.data.toList.drop d).take n).head? !=some 48))):=by unfold fk;rw[x]
 clear L x;go_in;go_wp2;go_loop [11] (λi=>∃k j:Nat,k<=n/\Hid (j=d+k)/\j<=s.size/\i=.int .i64 j/\Hid (n=k+run 48 57 (s.data.toList.drop j))) (λi=>s.size-(intOf i).toNat)
 case atStart=>exact⟨0,d,by omega,(rfl:d=d+0),by omega,rfl,(by rw[<-T.out];omega:n=0+run 48 57 (s.data.toList.drop d))⟩
 case round=>
  obtain⟨k,j,U,M,N,rfl,K⟩:=hrel;have p:=E j (by omega);have o:=λw=>Ay (bA s j) w;rcases Rx s j 48 57 (by decide) with⟨h1,h2,h3⟩|⟨h1,h2⟩
  ·rw[h1]at o;have P:Hid _:=h3;clear h1 h3;go_wp2_with (first
    |(go_at_call 192;refine (p _).mono ?_;rintro e g ⟨rfl,rfl⟩)
    |(go_at_call 195;refine (o _).mono ?_;rintro e g ⟨rfl,rfl⟩))
   go_round
   case rel=>exact⟨k+1,j+1,by have h:=K.out;rw[P.out]at h;omega,(by have h:=M.out;omega:j+1=d+(k+1)),by omega,by go_num,(by have h:=K.out;rw[P.out]at h;omega:n=(k+1)+run 48 57 (s.data.toList.drop (j+1)))⟩
   case measure=>simp[intOf];omega
  ·rw[h1]at o;have G:k=n:=by have h:=K.out;rw[h2]at h;omega
   have H:j=d+n:=by rw[<-G];exact M
   clear h1 h2 K;have q:Hid (j=d+n):=H;have V:(j:Int)-(d:Int)=(n:Int):=by omega
   have r:=E d (by omega);have I:(((bA s d).toNat:Int)==48)=(bA s d==48):=jD (bA s d) 48;have y:Hid _:=I;clear H G M U I;by_cases c0:n=0
   ·have W:((n:Int)==0)=true:=by rw[c0];rfl
    have u:Hid (qL (s.data.toList.drop d) b f a d n=⟨1,a,d+n,[],0⟩):=by
     have:fk ((s.data.toList.drop d).take n) b=false:=by rw[l];simp[c0]
     unfold qL;rw[this];rfl
    have X:n<1:=by omega
    clear c0;go_wp2_with (first
     |(go_at_call_of 192 (Value.int IntKind.i64 (j:Int));refine (p _).mono ?_;rintro e g ⟨rfl,rfl⟩)
     |(go_at_call_of 192 (Value.int IntKind.i64 (d:Int));refine (r _).mono ?_;rintro e g ⟨rfl,rfl⟩)
     |(go_at_call 195;refine (o _).mono ?_;rintro e g ⟨rfl,rfl⟩)
     |(go_at_call 205;refine (t _).mono ?_;rintro e g ⟨rfl,rfl⟩))
    refine au (v:=.agg #[.int .i64 1,.int .i64 a,.int .i64 j,.string ⟨#[]⟩,.int .i64 0]) (by simp[results,results196,go_sem]) rfl ⟨?_,fp.alloc bS _⟩;rw[u.out,q.out];rfl
   ·have W:((n:Int)==0)=false:=by rw[aH];omega
    have c1:1<=n:=by omega
    have C:=z (by omega);by_cases Q:n<=b
    ·have t:=λw=>Ie s d n j w R q N (by omega) F;by_cases J:n=1
     ·have u:Hid (qL (s.data.toList.drop d) b f a d n=⟨f,a,d+n,[],aQ ((s.data.toList.drop d).take n)⟩):=by
       have:fk ((s.data.toList.drop d).take n) b=true:=by rw[l];simp[J];omega
       unfold qL;rw[this];rfl
      have A:n<2:=by omega
      clear J C c0;go_wp2_with (first
       |(go_at_call_of 192 (Value.int IntKind.i64 (j:Int));refine (p _).mono ?_;rintro e g ⟨rfl,rfl⟩)
       |(go_at_call_of 192 (Value.int IntKind.i64 (d:Int));refine (r _).mono ?_;rintro e g ⟨rfl,rfl⟩)
       |(go_at_call 195;refine (o _).mono ?_;rintro e g ⟨rfl,rfl⟩)
       |(go_at_call 205;refine (t _).mono ?_;rintro e g ⟨rfl,rfl⟩))
      refine au (v:=.agg #[.int .i64 f,.int .i64 a,.int .i64 j,.string ⟨#[]⟩,.int .i64 (aQ ((s.data.toList.drop d).take n))]) (by simp[results,results196,go_sem]) rfl ⟨?_,fp.alloc bS _⟩;rw[u.out,q.out];rfl
     ·cases D:(bA s d==48) with
      |true=>
       have O:(((bA s d).toNat:Int)==48)=true:=by rw[y.out];exact D
       have u:Hid (qL (s.data.toList.drop d) b f a d n=⟨1,a,d+n,[],0⟩):=by
        have B:bA s d=48:=by simpa using D
        have:fk ((s.data.toList.drop d).take n) b=false:=by rw[l,C,B];simp[J]
        unfold qL;rw[this];rfl
       have A:1<n:=by omega
       clear J C c0 D;go_wp2_with (first
        |(go_at_call_of 192 (Value.int IntKind.i64 (j:Int));refine (p _).mono ?_;rintro e g ⟨rfl,rfl⟩)
        |(go_at_call_of 192 (Value.int IntKind.i64 (d:Int));refine (r _).mono ?_;rintro e g ⟨rfl,rfl⟩)
        |(go_at_call 195;refine (o _).mono ?_;rintro e g ⟨rfl,rfl⟩)
        |(go_at_call 205;refine (t _).mono ?_;rintro e g ⟨rfl,rfl⟩))
       refine au (v:=.agg #[.int .i64 1,.int .i64 a,.int .i64 j,.string ⟨#[]⟩,.int .i64 0]) (by simp[results,results196,go_sem]) rfl ⟨?_,fp.alloc bS _⟩;rw[u.out,q.out];rfl
      |false=>
       have O:(((bA s d).toNat:Int)==48)=false:=by rw[y.out];exact D
       have u:Hid (qL (s.data.toList.drop d) b f a d n=⟨f,a,d+n,[],aQ ((s.data.toList.drop d).take n)⟩):=by
        have B:bA s d≠48:=by simpa using D
        have:fk ((s.data.toList.drop d).take n) b=true:=by rw[l,C];simp[B,Q];omega
        unfold qL;rw[this];rfl
       have A:1<n:=by omega
       clear J C c0 D;go_wp2_with (first
        |(go_at_call_of 192 (Value.int IntKind.i64 (j:Int));refine (p _).mono ?_;rintro e g ⟨rfl,rfl⟩)
        |(go_at_call_of 192 (Value.int IntKind.i64 (d:Int));refine (r _).mono ?_;rintro e g ⟨rfl,rfl⟩)
        |(go_at_call 195;refine (o _).mono ?_;rintro e g ⟨rfl,rfl⟩)
        |(go_at_call 205;refine (t _).mono ?_;rintro e g ⟨rfl,rfl⟩))
       refine au (v:=.agg #[.int .i64 f,.int .i64 a,.int .i64 j,.string ⟨#[]⟩,.int .i64 (aQ ((s.data.toList.drop d).take n))]) (by simp[results,results196,go_sem]) rfl ⟨?_,fp.alloc bS _⟩;rw[u.out,q.out];rfl
    ·have u:Hid (qL (s.data.toList.drop d) b f a d n=⟨1,a,d+n,[],0⟩):=by
      have:fk ((s.data.toList.drop d).take n) b=false:=by rw[l];simp[Q]
      unfold qL;rw[this];rfl
     have A:1<n:=by omega
     clear C c0;go_wp2_with (first
      |(go_at_call_of 192 (Value.int IntKind.i64 (j:Int));refine (p _).mono ?_;rintro e g ⟨rfl,rfl⟩)
      |(go_at_call_of 192 (Value.int IntKind.i64 (d:Int));refine (r _).mono ?_;rintro e g ⟨rfl,rfl⟩)
      |(go_at_call 195;refine (o _).mono ?_;rintro e g ⟨rfl,rfl⟩)
      |(go_at_call 205;refine (t _).mono ?_;rintro e g ⟨rfl,rfl⟩))
     refine au (v:=.agg #[.int .i64 1,.int .i64 a,.int .i64 j,.string ⟨#[]⟩,.int .i64 0]) (by simp[results,results196,go_sem]) rfl ⟨?_,fp.alloc bS _⟩;rw[u.out,q.out];rfl
theorem n9{P:Program}{d:Array Oper}{rest:List Oper}{o:Oper}{a}{Q}(f:o.guard=none)(i)(x y:Operand)(l:o.op=.store i x y)(g:Nat)(b)(m:a.eval x=.pointer (some ⟨g,0,none⟩))(n:a.eval y=.agg b)(t)(c)(j:w.heap[g]?=some (.cells c t (0,0)))(p:(P.info? i).map (·.size)=some b.size)(e:c.size=b.size)(h1:b.all (·.oneCell')=true)(h:∀W:World,W.heap[g]?=some (.cells b t (0,0))->W.heap.size=w.heap.size->(∀k,k≠g->W.heap[k]?=w.heap[k]?)->W.os=w.os->W.tape=w.tape->W.output=w.output->wpList P d Q rest (a.put o.dst undef) W):wpList P d Q (o::rest) a w:=by
 refine wpList_store_row f i x y l g b m n t c j p e h1 ?_;exact h _ (o5 w g c b t (0,0) j) (by simp) (λk q=>setRow_other w g k b q) rfl rfl rfl
theorem j9(a:Below b d w)(m:b<=c)(e:x.heap.size=w.heap.size)(f:∀k,k≠c->x.heap[k]?=w.heap[k]?)(h:x.os=w.os)(i:x.tape=w.tape)(j:x.output=w.output):Below b d x:=
 ⟨h.trans a.os,i.trans a.tape,j.trans a.output,by rw[e];exact a.size,λk l=>by rw[f k (by omega)];exact a.block k l⟩
