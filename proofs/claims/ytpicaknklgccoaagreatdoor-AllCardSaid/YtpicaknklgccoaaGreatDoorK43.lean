import Derived.Test.YtpicaknklgccoaaGreatDoorK42
set_option maxHeartbeats 8000000
set_option maxRecDepth 100000
namespace Go.Proofs.YtpicaknklgccoaaGreatDoor
open Tryz
open Go.RowKit
open Go.Lib (decDigits)
variable {w:Ty}{a:World}{b:dc}{c:Kw}{d:PT}
def Gd(l:World)(j a p:Nat)(k:Kw)(q r:List UInt8)(c:List PT)(G:dc):Prop:=
 ∀(id f b:Nat)(F:Nat->Prop)(d:ni)(g:jF)(m n:Value)(w:World),gS l F (.node p k q r c) id f b->kL l w j m n d a g->wZ d G->g.e=0->d.length+aU c+1<=9000->Ia a g->
  Calls prog 64 #[ptr j,ptr b] w λe o=>e=.returned (.string (bs (tz a k c d g).1.txt))/\
   ∃h i,Fr w o j m n (.slice none 0 0) h i/\kL l o j h i d a (tz a k c d g).2
theorem SV(a b:Nat):Int.tmod ((a:Int)+(b:Int)) 10000=(((a+b)%10000:Nat):Int):=by
 rw[<-ng];exact (Int.ofNat_tmod (a+b) 10000).symm
theorem SW(a b:Nat)(h:b<=9999):((a:Int)+10000-(b:Int))%10000=(((a+10000-b)%10000:Nat):Int):=by omega
theorem We:bs (Vl.n 1).txt=⟨#[49]⟩:=by
 simp[Vl.txt];rw[decDigits,dif_pos (by omega)];rfl
theorem tL(i c p:Nat)(k)(r t)(d)(G:dc)(h1:k≠.dV)(h2:k≠.lv)(h3:k≠.loop)(I:Gd a i c p k r t d G):Yw a i c (.node p k r t d) G:=by
 intro id j b F g h B C w D e l n u v E;obtain⟨Q,S,⟨J,T,U⟩,K,_⟩:=lL D;have L:=by have:=e.hyb;omega
 simp only[PT.cnt]at n;have x:ev c (.node p k r t d) g h=tz c k d g {h with steps:=h.steps+1}:=by
  rw[uC c p k r t d g h h1 h2 h3,sx v E]
 rw[x];have H:=λm=>I id j b F g {h with steps:=h.steps+1} B C _ D (e.step m) l v (by omega) (u.step E);have V:=(e.b0.cell (p:=⟨b,0,none⟩) K).trans J;have W:((bs k.bytes).toList==[110,117,109,98,101,114])=false:=by rw[bo];cases k<;>decide
 have X:((bs k.bytes).toList==[110,97,109,101])=false:=by rw[bo];cases k<;>decide
 have Y:((bs k.bytes).toList==[108,101,116])=false:=by rw[bo];cases k<;>first|decide|exact absurd rfl h1
 have Z:((bs k.bytes).toList==[105,102])=false:=by rw[bo];cases k<;>first|decide|exact absurd rfl h2
 have q4:((bs k.bytes).toList==[108,111,111,112])=false:=by rw[bo];cases k<;>first|decide|exact absurd rfl h3
 have y2:cg w i 2 (.int .i64 c):=dR e.y rfl;have y3:cg w i 3 (.int .i64 h.steps):=dR e.y rfl;have y5:=e.e0 v;have f3:=aK e.y 3;have M:=aG e.y;have N:=by have:=e.b0.size;omega
 have q9:((h.steps:Int)==(c:Int))=false:=by rw[aH];omega
 have O:=u.s;have P:=u.f;generalize tz c k d g {h with steps:=h.steps+1}=R at*;unfold ptr at H;show Calls _ _ #[Value.pointer (some ⟨i,0,none⟩),Value.pointer (some ⟨b,0,none⟩)] w _;go_in;go_wp2_with fail;go_quiet (fail);go_wp2_with fail;refine ay (H _) ?_;rintro _ w2 ⟨rfl,z,A,o,q⟩;go_wp2;go_ret;exact⟨rfl,z,A,(Fr.setAt w i B C _ 3 _).trans o,q⟩
theorem EM(hit:nV a)(I m p:Nat){k}(nm rg)(x y)(G:dc){B}(hk:k=.pair/\w.size+B.size<=63\/w=.n/\B=.n/\(k=.add\/k=.sub\/k=.less))(hwx:WT G x w)(Xi:WT G y B)(GW:x.eO)(hty:y.eO)(J5:gL x)(hny:gL y)(Pc:rK a I m x G)(KS:rK a I m y G):Gd a I m p k nm rg [x,y] G:=by
 intro id site b F r st nv tv d hT J v he hlen hs;obtain⟨gk,vc,bx,bb,FH,Z,KQ,Cq,K,rA,s6⟩:=Vo hT;have hne:b≠I:=by have:=J.hyb;have:=K.hb;omega
 have QF:gk≠I:=by have:=J.hyb;have:=K.hg;omega
 simp only[aU]at hlen;rw[FG];have hr1:=uD m hwx r st GW J5 (λ_=>v);have h1:=Pc FH Z bx F r st nv tv _ rA J (λ_=>v) (by omega) hs;have hs2:=hs.on x r;generalize ev m x r st=E at*;have xO:=uD m Xi r E.2 hty hny (λ_=>v);have h2:=λP Q w2 (z:kL a w2 I P Q r m E.2)=>KS KQ Cq bb F r E.2 P Q w2 s6 z (λ_=>v) (by omega) hs2;have S:=hs2.on y r;generalize ev m y r E.2=l at*;obtain⟨R,hR⟩:∃R,R=if l.2.e≠0 then (Vl.n 0,l.2) else mM k [E.1,l.1] l.2:=⟨_,rfl⟩;rw[<-hR];have HRN:Hid (l.2.e=0->R=mM k [E.1,l.1] l.2):=λh=>by rw[hR,ag (λg=>g h)]
 have YL:Hid (l.2.e≠0->R=(Vl.n 0,l.2)):=λh=>by rw[hR,ah h]
 clear hR;have j:=K.on J.b0;have x4:=j.c4;have ML:=j.ck 0 bx rfl;have Rp:=j.hb;have Rq:=j.hg;refine bY (kwq k) K λq HK=>?_;unfold ptr at h1 h2;refine bY h1 h2 λH1 H2=>?_;have GR:=S.c;have hcs:=S.s;have hcf:=S.f;clear K j hT J v hs he rA s6 Pc KS hs2 h1 h2;refine fw hr1 xO hk λUC OI hkk=>?_;clear hr1 xO S hk hwx Xi;show Calls _ _ #[Value.pointer (some ⟨I,0,none⟩),Value.pointer (some ⟨b,0,none⟩)] d _;go_in;go_wp2_with fail;refine ay H1.out ?_;rintro _ w2 ⟨rfl,P,Q,V,z⟩;have j:=HK.out.on z.b0;have z4:=j.c4;have QG:=j.ck 1 bb rfl;have Rs:=j.hb;have Ut:=j.hg;have hc2:=H2.out P Q w2 z;have yS:Hid _:=V;clear V z j H1 H2;go_wp2_with fail;refine hc2.mono ?_;rintro _ H ⟨rfl,L,M,W,o⟩;refine bY (yS.out.trans W) o λN C=>?_;have j:=HK.out.on o.b0;have u0:=j.c0;have ul1:=j.hb;have e5:cg H I 5 (.int .i64 l.2.e):=dR o.y rfl;have e4:cg H I 4 (.int .i64 l.2.cells):=dR o.y rfl;have f4:H.frozen? ⟨I,4,none⟩=false:=aK o.y 4;have ul:=aG o.y;clear W o hc2 yS j HK;by_cases D:l.2.e=0
 ·have qe:((l.2.e:Int) !=0)=false:=by rw[D];rfl
  have t:=HRN.out D;have q:=q.out;rcases hkk.out with⟨rfl,hsz⟩|⟨rfl,rfl,hk⟩
  ·have i:=OI.out.1 D;have b:=UC.out.1 i.1;have l2:=Vl.yd i.2;have l1:=Vl.yd b.2;have z1:(ByteArray.mk #[91]).size=1:=rfl;have z0:(bs E.1.txt).size<=1000:=by rw[eB];omega
   have z2:(ByteArray.mk #[91]++bs E.1.txt).size<=1001:=by rw[aX,z1];omega
   have z3:(ByteArray.mk #[32]).size=1:=rfl;have z4':(ByteArray.mk #[91]++bs E.1.txt++ByteArray.mk #[32]).size<=1002:=by rw[aX,z3];omega
   have z5:(bs l.1.txt).size<=1000:=by rw[eB];omega
   have z6:(ByteArray.mk #[91]++bs E.1.txt++ByteArray.mk #[32]++bs l.1.txt).size<=2002:=by rw[aX];omega
   have z7:(ByteArray.mk #[93]).size=1:=rfl;have hm:mM .pair [E.1,l.1] l.2=(.p E.1 l.1,{l.2 with cells:=l.2.cells+1}):=rfl;have u:Hid _:=t.trans hm;have X:=C.out.set 4 (.int .i64 ((l.2.cells:Int)+1)) (st':={l.2 with cells:=l.2.cells+1}) (by simp[o4]);have ado:Hid _:=X;clear X hm D t;go_wp2;go_ret;rw[u.out];refine⟨?_,L,M,N.out.trans (Fr.grown (nR H ⟨I,4,none⟩ _) _ _ _),ado.out⟩;have e:(ByteArray.mk #[91]++bs E.1.txt++ByteArray.mk #[32]++bs l.1.txt++ByteArray.mk #[93])=bs (Vl.p E.1 l.1).txt:=by
    rw[show ByteArray.mk #[91]=bs [91] from rfl,show ByteArray.mk #[32]=bs [32] from rfl,show ByteArray.mk #[93]=bs [93] from rfl,eM,eM,eM,eM];simp[Vl.txt]
   rw[<-e];rfl
  obtain⟨T,hk1,adp⟩:=Ba UC.out;obtain⟨U,hk2,Y⟩:=Ba OI.out;rw[hk1,hk2]at t⊢;have hn1:=λd=>tj T d adp;have J4:=λd=>tj U d Y;clear D hk1 hk2;rcases hk with rfl|rfl|rfl
  ·have u:Hid (R=(.n ((T+U)%10000),l.2)):=t;have hi:=hit ((T+U)%10000) H (by omega) C.out.b0;rw[<-SV T U]at hi;clear t;go_wp2_with fail;refine (hn1 _).mono ?_;rintro _ H ⟨rfl,rfl⟩;go_wp2_with fail;refine (J4 _).mono ?_;rintro _ H ⟨rfl,rfl⟩;go_wp2_with fail;refine hi.mono ?_;rintro _ w4 ⟨rfl,O⟩;go_wp2;go_ret;rw[u.out];exact⟨by simp only[Vl.txt];rfl,L,M,N.out.trans (Fr.below O _ _ _ _),C.out.grow O⟩
  ·have u:Hid (R=(.n ((T+10000-U)%10000),l.2)):=t;have hi:=hit ((T+10000-U)%10000) H (by omega) C.out.b0;rw[<-SW T U Y]at hi;clear t;go_wp2_with fail;refine (hn1 _).mono ?_;rintro _ H ⟨rfl,rfl⟩;go_wp2_with fail;refine (J4 _).mono ?_;rintro _ H ⟨rfl,rfl⟩;go_wp2_with fail;refine hi.mono ?_;rintro _ w4 ⟨rfl,O⟩;go_wp2;go_ret;rw[u.out];exact⟨by simp only[Vl.txt];rfl,L,M,N.out.trans (Fr.below O _ _ _ _),C.out.grow O⟩
  ·have u:Hid (R=(.n (if T<U then 1 else 0),l.2)):=t;clear t;by_cases hlt:T<U
   all_goals
    go_wp2_with fail;refine (hn1 _).mono ?_;rintro _ H ⟨rfl,rfl⟩;go_wp2_with fail;refine (J4 _).mono ?_;rintro _ H ⟨rfl,rfl⟩;go_wp2;go_ret;rw[u.out];simp only[hlt,bT,aT];exact⟨by first|(rw[We];rfl)|(rw[sA];rfl),L,M,N.out,C.out⟩
 ·have qe:((l.2.e:Int) !=0)=true:=by simp;omega
  have u:Hid _:=YL.out D;clear D;go_wp2;go_ret;rw[u.out];exact⟨by rw[sA];rfl,L,M,N.out,C.out⟩
theorem EN(H l p:Nat)(hk:c=.fst\/c=.snd)(nm rg)(x)(G:dc)(A B)(S:WT G x (.p 0 A B))(hsz:(Ty.p 0 A B).size<=63)(T:x.eO)(U:gL x)(I:rK a H l x G):Gd a H l p c nm rg [x] G:=by
 intro id site b F t V nv tv w hT o r he J W;obtain⟨gk,vc,bx,X,C,s,K⟩:=Yy hT;have hne:b≠H:=by have:=o.hyb;have:=s.hb;omega
 have QF:gk≠H:=by have:=o.hyb;have:=s.hg;omega
 simp only[aU]at J;rw[FE];have L:=uD l S t V T U (λ_=>r);have h1:=I X C bx F t V nv tv _ K o (λ_=>r) (by omega) W;have Y:=W.on x t;generalize ev l x t V=j at*;obtain⟨R,Q⟩:∃R,R=if j.2.e≠0 then (Vl.n 0,j.2) else mM c [j.1] j.2:=⟨_,rfl⟩;rw[<-Q];have Z:Hid (j.2.e=0->R=mM c [j.1] j.2):=λh=>by rw[Q,ag (λg=>g h)]
 have YL:Hid (j.2.e≠0->R=(Vl.n 0,j.2)):=λh=>by rw[Q,ah h]
 clear Q;have f:=s.on o.b0;have x4:=f.c4;have ML:=f.ck 0 bx rfl;have Rp:=f.hb;have Rq:=f.hg;have q:=kwq c;refine bY hk s λhkk HK=>?_;unfold ptr at h1;have H1:Hid _:=h1;have HL:Hid (j.2.e=0->∃d b,j.1=.p d b/\(Vl.p d b).txt.length<=1000):=λe=>by
  have d:=(L.1 e).2;have hl:=Vl.yd d;cases hv:j.1 with
  |n c=>rw[hv]at d;simp[Vl.has]at d
  |p u v=>rw[hv]at hl;exact⟨u,v,rfl,by omega⟩
 clear s f hT o r W he K I Y h1;clear L hk;have HQ:Hid _:=q;clear q;show Calls _ _ #[Value.pointer (some ⟨H,0,none⟩),Value.pointer (some ⟨b,0,none⟩)] w _;go_in;go_wp2_with fail;refine ay H1.out ?_;rintro _ w2 ⟨rfl,M,N,z,i⟩;refine bY z i λO P=>?_;have f:=HK.out.on i.b0;have u0:=f.c0;have u4:=f.c4;have ul1:=f.hb;have e5:cg w2 H 5 (.int .i64 j.2.e):=dR i.y rfl;have ul:=aG i.y;clear z i f HK H1;by_cases m:j.2.e=0
 ·have qe:((j.2.e:Int) !=0)=false:=by rw[m];rfl
  have D:=Z.out m;obtain⟨d,b',hab,hl⟩:=HL.out m;have hsp:=λw=>Vg d b' w (by omega);have q:=HQ.out;rw[hab]at D;clear m HL;rcases hkk.out with rfl|rfl
  all_goals
   have E:Hid _:=D.trans rfl;clear D;go_wp2_with fail;refine (hsp _).mono ?_;rintro _ w4 ⟨rfl,n4,rfl⟩;go_wp2;go_ret;rw[E.out];exact⟨rfl,M,N,O.out.trans (Fr.below (dW w2 n4) _ _ _ _),P.out.drew n4⟩
 ·have qe:((j.2.e:Int) !=0)=true:=by simp;omega
  have E:Hid _:=YL.out m;clear m;go_wp2;go_ret;rw[E.out];exact⟨by rw[sA];rfl,M,N,O.out,P.out⟩
def CT(G:dc):Prop:=∀s U,look G s=some U->U.size<=63
theorem CT.snoc{nm}(h:CT b)(c:w.size<=63):CT (b++[(nm,w)]):=by
 intro s U a;rw[vC]at a;split at a
 ·cases a;exact c
 ·exact h s U a
theorem WT.small(h:WT b d w):CT b->w.size<=63:=by
 induction h with
 |num=>intro _;simp[Ty.size]
 |name k=>intro e;exact e _ _ k
 |dV f g a c=>intro e;exact c (e.snoc (a e))
 |pair f g i a c=>intro _;exact i
 |fst f a=>intro e;have:=a e;simp[Ty.size]at this;omega
 |snd f a=>intro e;have:=a e;simp[Ty.size]at this;omega
 |lv f g l a c j=>intro e;exact c e
 |two m f g a c=>intro _;simp[Ty.size]
 |loop f g l a c j=>intro e;exact c e
 |new f a=>intro e;exact a e
theorem SX(hit:nV a)(l c:Nat)(h:WT b d w):CT b->d.eO->gL d->rK a l c d b:=by
 induction h with
 |num=>intro _ e _;exact qj (Rn hit l c _ _ _ e)
 |name u=>intro _ _ _;exact qj (O8 l c _ _ _)
 |dV k m g j=>
  intro i e f;simp only[PT.eO,gJ]at e;exact qj (Ro l c _ _ _ _ _ _ _ k e.2.1 (f.uB _ (by simp)) (g i e.2.1 (f.uB _ (by simp))) (j (i.snoc (k.small i)) e.2.2.1 (f.uB _ (by simp))))
 |pair k m o g j=>
  intro i e f;simp only[PT.eO,gJ]at e;exact qj (tL l c _ _ _ _ _ _ (by decide) (by decide) (by decide) (EM hit l c _ _ _ _ _ _ (.inl ⟨rfl,by simp only[Ty.size]at o;omega⟩) k m e.2.1 e.2.2.1 (f.uB _ (by simp)) (f.uB _ (by simp)) (g i e.2.1 (f.uB _ (by simp))) (j i e.2.2.1 (f.uB _ (by simp)))))
 |fst k g=>
  intro i e f;simp only[PT.eO,gJ]at e;exact qj (tL l c _ _ _ _ _ _ (by decide) (by decide) (by decide) (EN l c _ (.inl rfl) _ _ _ _ _ _ k (k.small i) e.2.1 (f.uB _ (by simp)) (g i e.2.1 (f.uB _ (by simp)))))
 |snd k g=>
  intro i e f;simp only[PT.eO,gJ]at e;exact qj (tL l c _ _ _ _ _ _ (by decide) (by decide) (by decide) (EN l c _ (.inr rfl) _ _ _ _ _ _ k (k.small i) e.2.1 (f.uB _ (by simp)) (g i e.2.1 (f.uB _ (by simp)))))
 |lv k m p g j n=>
  intro i e f;simp only[PT.eO,gJ]at e;exact qj (Vq l c _ _ _ _ _ _ _ k e.2.1 (f.uB _ (by simp)) (g i e.2.1 (f.uB _ (by simp))) (j i e.2.2.1 (f.uB _ (by simp))) (n i e.2.2.2.1 (f.uB _ (by simp))))
 |two q k m g j=>
  intro i e f;simp only[PT.eO,gJ]at e;have r:=g i e.2.1 (f.uB _ (by simp));have s:=j i e.2.2.1 (f.uB _ (by simp));rcases q with rfl|rfl|rfl<;>exact qj (tL l c _ _ _ _ _ _ (by decide) (by decide) (by decide) (EM hit l c _ _ _ _ _ _ (.inr ⟨rfl,rfl,by simp⟩) k m e.2.1 e.2.2.1 (f.uB _ (by simp)) (f.uB _ (by simp)) r s))
 |loop k m p g j n=>
  intro i e f;simp only[PT.eO,gJ]at e;exact qj (P7 l c _ _ _ _ _ _ _ _ k m p e.2.1 e.2.2.1 e.2.2.2.1 (f.uB _ (by simp)) (f.uB _ (by simp)) (f.uB _ (by simp)) (g i e.2.1 (f.uB _ (by simp))) (j i e.2.2.1 (f.uB _ (by simp))) (n (i.snoc (m.small i)) e.2.2.2.1 (f.uB _ (by simp))))
 |new k g=>intro _ _ f;exact absurd rfl f.kw
abbrev Jg:Value:=.agg #[.string ⟨#[]⟩,.int .i64 0,.int .i64 0,.int .i64 0,.int .i64 0]
theorem uV(s)(a:Int)(w)(x:Nat)(z:x≠0)(b:∀w,Calls prog 33 #[.string s,.bool false] w λv c=>∃p q y,v=.returned (.tuple #[.pointer p,.pointer q,.int .i64 x,.int .i64 y])/\bg w c):Calls prog 13 #[.string s,.int .i64 a] w λv c=>v=.returned (.tuple #[Jg,.int .i64 x])/\bg w c:=by
 have A:((x:Int) !=0)=true:=by simp;omega
 go_in;go_wp2_with fail;refine (b _).mono ?_;rintro _ B ⟨p,q,y,rfl,j⟩;have k:=pK j;have l:=lN j;go_wp2_with (refine n9 rfl 23 (.tmp 4) (.tmp 21) rfl w.heap.size #[.string ⟨#[]⟩,.int .i64 0,.int .i64 0,.int .i64 0,.int .i64 0] rfl rfl 23 _ k nF rfl (by simp[Value.oneCell']) ?_;intro W m d e f g h);obtain⟨n,o,r,t,u⟩:=gQ m;have i:=j9 l bS d e f g h;go_wp2;refine au (v:=.tuple #[Jg,.int .i64 x]) (by simp[results,results13,go_sem,n,o,r,t,u]) rfl ⟨rfl,i⟩
theorem Jh(s)(a:Int)(w)(r:a<0\/20000<a)(b:∀w,Calls prog 33 #[.string s,.bool false] w λv h=>∃p q y,v=.returned (.tuple #[.pointer p,.pointer q,.int .i64 0,.int .i64 y])/\bg w h):Calls prog 13 #[.string s,.int .i64 a] w λv h=>v=.returned (.tuple #[Jg,.int .i64 11])/\bg w h:=by
 have l:Hid _:=b;clear b;obtain⟨D,i⟩:=ez (decide (a<0));by_cases E:a<0
 all_goals
  first|(have t:20000<a:=by omega)|(skip)
  clear r i;go_in;go_wp2_with fail;refine (l.out _).mono ?_;rintro _ u ⟨p,q,y,rfl,j⟩;have m:u.heap[w.heap.size]?=some (.cells #[.string ⟨#[]⟩,.int .i64 0,.int .i64 0,.int .i64 0,.int .i64 0] 23):=pK j;have n:Hid _:=lN j;clear j l;go_wp2_with (refine n9 rfl 23 (.tmp 4) (.tmp 29) rfl w.heap.size #[.string ⟨#[]⟩,.int .i64 0,.int .i64 0,.int .i64 0,.int .i64 0] rfl rfl 23 _ m nF rfl (by simp[Value.oneCell']) ?_;intro W o c d e f g);obtain⟨x,z,A,B,C⟩:=gQ o;have k:Hid _:=j9 n.out bS c d e f g;clear o c d e f g n m;go_wp2;refine au (v:=.tuple #[Jg,.int .i64 11]) (by simp[results,results13,go_sem,x,z,A,B,C]) rfl ⟨rfl,k.out⟩
theorem Lv(s)(c:Nat)(w)(B:c<=20000)(e)(f:∀w,Calls prog 33 #[.string s,.bool false] w λv l=>∃b q y,v=.returned (.tuple #[ptr b,.pointer q,.int .i64 0,.int .i64 y])/\bg w l/\gS l (λk=>k<l.heap.size) e 0 0 b)(m:∀d,bg w d->∀T,rK d T c e [])(n:e.cnt<=9000)(R)(K:R=ev c e [] ⟨0,0,0⟩):Calls prog 13 #[.string s,.int .i64 c] w λv l=>v=.returned (.tuple #[uO R,.int .i64 R.2.e])/\bg w l:=by
 refine bY m K λL V=>?_;unfold ptr at f;have o:Hid _:=f;clear m K f;go_in;go_wp2_with fail;refine ay (o.out _) ?_;rintro _ d ⟨b,q,y,rfl,i,M⟩;have j:d.heap[w.heap.size]?=some (.cells #[.string ⟨#[]⟩,.int .i64 0,.int .i64 0,.int .i64 0,.int .i64 0] 23):=pK i;have C:=lN i;have D:=aG j;have p:kL d (d.alloc (.cells (o4 (.slice none 0 0) (.slice none 0 0) c ⟨0,0,0⟩) 70)) d.heap.size (.slice none 0 0) (.slice none 0 0) [] c ⟨0,0,0⟩:=
  ⟨fp.alloc bS _,bS,bD _ _,wD,wD,by simp[Value.ownBlock],by simp[Value.ownBlock],λg W=>by simp[Value.ownBlock]at W⟩
 have A:=L.out d C d.heap.size 0 0 b _ [] ⟨0,0,0⟩ _ _ _ M p (λ_ s U h=>by simp[look]at h) (by simpa using n) ⟨B,ld,bS⟩;rw[<-V.out]at A;refine bY C j λE r=>?_;clear C i M o L p j;unfold ptr o4 at A;go_wp2_with fail;refine A.mono ?_;rintro _ t ⟨rfl,X,Y,F,a⟩;have Z:=aG a.y;have y3:cg t d.heap.size 3 (.int .i64 R.2.steps):=dR a.y rfl;have y4:cg t d.heap.size 4 (.int .i64 R.2.cells):=dR a.y rfl;have y5:cg t d.heap.size 5 (.int .i64 R.2.e):=dR a.y rfl;have u:t.heap[w.heap.size]?=some (.cells #[.string ⟨#[]⟩,.int .i64 0,.int .i64 0,.int .i64 0,.int .i64 0] 23):=by rw[a.b0.block _ D];exact r.out
 have x:Hid (bg w t):=E.out.trans (a.b0.mono E.out.size);clear F a A E r;obtain⟨r0,r1,r2,r3,r4⟩:=gQ u;have g:=aK u;have hqy:w.heap.size≠d.heap.size:=by omega
 have hyq:d.heap.size≠w.heap.size:=by omega
 have N:=aG u;have O:Hid _:=u;have hd:((R.2.e:Int) !=0)=false/\(R.2.e:Int)=0/\uO R=.agg #[.string (bs R.1.txt),.int .i64 R.2.steps,.int .i64 R.2.cells,.int .i64 R.2.cells,.int .i64 R.2.cells]\/((R.2.e:Int) !=0)=true/\(R.2.e:Int)=R.2.e/\uO R=Jg:=by
  unfold uO;by_cases G:R.2.e=0
  ·rw[ag (by simpa using G),G];exact .inl ⟨rfl,rfl,rfl⟩
  ·rw[ah G];exact .inr ⟨by simp;omega,rfl,rfl⟩
 clear u;rcases hd with⟨qe,H,I⟩|⟨qe,H,I⟩
 all_goals
  refine bY I H λP HE=>?_;clear I H;go_wp2;go_region;generalize z:World.drew _=W7;obtain⟨Q,S⟩:=V8 O.out x.out bS z;have J:Hid _:=S;obtain⟨s0,s1,s2,s3,s4⟩:=gQ Q;clear z Q S r0 r1 r2 r3 r4 g y3 y4 y5 O x;go_wp2;exact au (v:=.tuple #[uO R,.int .i64 R.2.e]) (by (first|rw[P.out,HE.out]|rw[P.out]);simp[results,results13,go_sem,s0,s1,s2,s3,s4]) rfl ⟨rfl,J.out⟩
theorem P8 (s) (f:Int) (w) (o:s.size<=maxLen) (j:Lib.TabIs prog w "internal/strconv.uint64pow10" .u64 Lib.pow10Tab):Calls prog 3 #[.string s,.int .i64 f] w λv m=>v=.returned (.bool true)/\bg w m:=by
 by_cases C:3000<s.size
 ·exact o7 (.inr ⟨rfl,rfl,rfl⟩) s f w ⟨#[]⟩ 0 0 0 0 1 (kY (.inl ⟨rfl,rfl⟩) s f w 1 0 (by omega) (λw=>(ko (.inl ⟨rfl,rfl⟩) s w C o).mono λ_ _ ⟨h,g⟩=>⟨_,_,_,_,_,_,h,g⟩)) (λw _=>uV s f w 1 (by omega) (λw=>(xp s w C o).mono λ_ _ ⟨h,g⟩=>⟨_,_,_,h,g⟩))
 ·cases p:jt false s.data.toList with
  |some q=>exact o7 (.inr ⟨rfl,rfl,rfl⟩) s f w ⟨#[]⟩ 0 0 0 0 2 (kY (.inl ⟨rfl,rfl⟩) s f w 2 q (by omega) (λw=>(kr (.inl ⟨rfl,rfl,rfl,rfl⟩) s w (by omega) q p).mono λ_ _ ⟨h,g⟩=>⟨_,_,_,_,_,_,h,g⟩)) (λw _=>uV s f w 2 (by omega) (λw=>(xq s w (by omega) q p).mono λ_ _ ⟨h,g⟩=>⟨_,_,_,h,g⟩))
  |none=>
   obtain⟨e,i⟩:=qv p;by_cases l:(cK e).1=0
   ·have r:e.dn<=100:=by
     unfold cK at l;split at l
     ·simp at l
     ·omega
    have t:∀w,Calls prog 33 #[.string s,.bool false] w λv m=>∃b q y,v=.returned (.tuple #[ptr b,.pointer q,.int .i64 0,.int .i64 y])/\bg w m/\gS m (λk=>k<m.heap.size) e 0 0 b:=by
     intro w;have L:(aV (List.range e.dn) e 0 0 [] (qo e)).2.e=0:=by
      have h:=l;unfold cK at h;rw[ag (by omega)]at h;exact h
     refine (uM s w (by omega) e i p r).mono λ_ _ ⟨b,u,h,g,D⟩=>⟨b,some ⟨u,0,none⟩,((aV (List.range e.dn) e 0 0 [] (qo e)).2.at_:Int),?_,g,D⟩;rw[h,L];rfl
    by_cases x:f<0\/20000<f
    ·exact o7 (.inr ⟨rfl,rfl,rfl⟩) s f w ⟨#[]⟩ 0 0 0 0 11 (DY s w (by omega) e i l f x) (λw _=>Jh s f w x (λw=>(t w).mono λ_ _ ⟨b,q,y,h,g,_⟩=>⟨_,q,y,h,g⟩))
    ·obtain⟨n,rfl⟩:∃n:Nat,f=n:=⟨f.toNat,by omega⟩;have E:n<=20000:=by omega
     obtain⟨T,A,D⟩:=zN i.wf l;have F:=gP i;obtain⟨S,a,b,c,d,G⟩:=EK (ev n e [] ⟨0,0,0⟩);have H:=CS s w (by omega) j e i l n E;rw[G]at H;refine o7 (.inr ⟨rfl,rfl,rfl⟩) s n w S a b c d _ H (λm z=>?_);have I:=Lv s n m E e t (λJ B u=>SX (rI J (cC j J (z.trans (B.mono z.size)))) u n A (λs U h=>by simp[look]at h) ((i.eO (iy _)).1) ((i.plain (iy _)).1).2) (by omega) _ rfl;rw[G]at I;exact I
   ·have K:=l;refine o7 (.inr ⟨rfl,rfl,rfl⟩) s f w ⟨#[]⟩ 0 0 0 0 (cK e).1 (kY (.inl ⟨rfl,rfl⟩) s f w (cK e).1 (cK e).2 K (λw=>qP s w (by omega) e i)) (λw _=>uV s f w (cK e).1 K (λw=>?_));by_cases o:100<e.dn
    ·have h3:(cK e).1=3:=by unfold cK;rw[ah o]
     rw[h3];exact (xu s w (by omega) e i p o).mono λ_ _ ⟨q,h,_,g⟩=>⟨_,_,_,h,g⟩
    ·have h3:(cK e).1=(aV (List.range e.dn) e 0 0 [] (qo e)).2.e:=by unfold cK;rw[ag o]
     rw[h3];exact (uM s w (by omega) e i p (by omega)).mono λ_ _ ⟨b,u,h,g,_⟩=>⟨some ⟨b,0,none⟩,some ⟨u,0,none⟩,_,h,g⟩
theorem Lw(s)(w)(b:3000<s.size)(c:s.size<=maxLen):Calls prog 76 #[.string s] w λv d=>v=.returned (.tuple #[.int .i64 1,.int .i64 0])/\bg w d:=by
 go_in;go_wp2_with (go_at_call 33;refine ((λw=>xp s w b c) _).mono ?_;rintro e f ⟨rfl,a⟩);refine au (v:=.tuple #[.int .i64 1,.int .i64 0]) (by simp[results,results76,go_sem]) rfl ⟨rfl,a⟩
theorem Lx(s)(w)(b:s.size<=3000)(q:Nat)(c:jt false s.data.toList=some q):Calls prog 76 #[.string s] w λv d=>v=.returned (.tuple #[.int .i64 2,.int .i64 q])/\bg w d:=by
 go_in;go_wp2_with (go_at_call 33;refine ((λw=>xq s w b q c) _).mono ?_;rintro e f ⟨rfl,a⟩);refine au (v:=.tuple #[.int .i64 2,.int .i64 q]) (by simp[results,results76,go_sem]) rfl ⟨rfl,a⟩
theorem Lz(s)(w)(g:s.size<=3000)(e)(h:PE false (tokens s.data.toList) e [])(i:jt false s.data.toList=none):Calls prog 76 #[.string s] w λv j=>v=.returned (.tuple #[.int .i64 (cK e).1,.int .i64 (cK e).2])/\bg w j:=by
 by_cases f:100<e.dn
 ·have a:=λw=>xu s w g e h i f;have d:Hid (cK e=(3,((e.tE[100]?).map (·.1)).getD 0)):=by unfold cK;rw[ah f];exact rfl
  go_in;go_wp2_with (go_at_call 33;refine (a _).mono ?_;rintro e k ⟨q,rfl,l,c⟩);refine au (v:=.tuple #[.int .i64 3,.int .i64 q]) (by simp[results,results76,go_sem]) rfl ⟨?_,c⟩;rw[d.out,l];rfl
 ·have a:=λw=>uM s w g e h i (by omega);have d:Hid (cK e=((aV (List.range e.dn) e 0 0 [] (qo e)).2.e,(aV (List.range e.dn) e 0 0 [] (qo e)).2.at_)):=by unfold cK;rw[ag f];exact rfl
  generalize (aV (List.range e.dn) e 0 0 [] (qo e)).2=R at a d;unfold ptr at a;go_in;go_wp2_with (go_at_call 33;refine (a _).mono ?_;rintro e k ⟨b,m,rfl,c,_⟩);refine au (v:=.tuple #[.int .i64 R.e,.int .i64 R.at_]) (by simp[results,results76,go_sem]) rfl ⟨?_,c⟩;rw[d.out]
