import Derived.Test.YtpicaknklgccoaaGreatDoorK12
import Derived.Deep.LoopGhost
set_option maxHeartbeats 2000000
set_option maxRecDepth 100000
namespace Go.Proofs.YtpicaknklgccoaaGreatDoor
open Tryz
open Go.RowKit
variable {w b:Nat}{a d:World}{c:RS}{x:List Nat}{y:List UInt8}
theorem rB.two{g}{r}{e:Ending}(h:rB a w b d x r e g):∃c:Nat,e=.returned (.pointer (some ⟨c,0,none⟩))/\Hid (rB a w b d x r (.returned (.pointer (some ⟨c,0,none⟩))) g):=by
 obtain⟨c,i,j,k,f,h1,h2⟩:=h;exact⟨c,h1,⟨c,i,j,k,f,rfl,h2⟩⟩
theorem Xh{F}{p:Nat}{k}{d}{c}{id:Nat}(e:gS a F (.node p k y d c) id w b):a.cell? ⟨b,3,none⟩=some (.int .i64 (aQ d)):=by
 obtain⟨_,g,h,f,_⟩:=e;rw[aI f];rfl
theorem sB{f}(a:c.e=0)(h:c.steps≠w):jg w c f=f {c with steps:=c.steps+1}:=by unfold jg;rw[ag (by simpa using a),ag h]
theorem DD.step{a n:Nat}{d}(h:DD a n d)(e:d.steps≠a):DD a n {d with steps:=d.steps+1}:=by
 have h1:=h.s;have h2:=h.c;have h3:=h.t;refine⟨h.f,by show d.steps+1<=a;omega,by show d.cells<=d.steps+1;omega,h.w,h.o,?_,⟨h.b.o,h.b.t⟩⟩;show d.dq.length+n*(a-(d.steps+1)+1)<=_;have:n*(a-(d.steps+1)+1)<=n*(a-d.steps+1):=lW (by omega);omega
theorem DD.le{a n m:Nat}{d}(h:DD a n d)(e:m<=n):DD a m d:=by
 have h3:=h.t;have g:=h.o;have:m*(a-d.steps+1)<=n*(a-d.steps+1):=eV _ e;exact⟨h.f,h.s,h.c,h.w,by omega,by omega,h.b⟩
theorem DD.on{a n:Nat}{g}(h:DD a n g)(t)(d:kz)(l:t.wf)(m:g.e=0)(p:t.cnt<=n)(j:(rW a t d g).2.e=0):DD a n (rW a t d g).2:=by
 have r:=p4 a t d g l m h.s;have k:=iM a t d g;have cb:=p5 a t d g h.b;generalize (rW a t d g).2=i at*;have q:=r.dq;rw[Ap j,az]at q;have u:=r.steps;have v:=r.cells;have x:=r.ky;have y:=h.c;have z:=h.w;have A:=h.o;have B:=h.t;refine⟨h.f,u.2,by omega,by omega,by rw[k.opn];omega,?_,cb⟩;have C:t.cnt*(i.steps-g.steps)<=n*(i.steps-g.steps):=eV _ p;have D:n*(i.steps-g.steps)+n*(a-i.steps+1)=n*(a-g.steps+1):=by rw[<-Nat.mul_add];congr 1;omega
 omega
theorem fP.ym{e f g}(h:fP a d w e f g x b c)(m:Nat):mK d ((d.drewN m).setCell ⟨w,4,none⟩ (.int .i64 ((c.steps:Int)+1))):=(mK.below (dW d m)).trans ((h.drew m).FC 4 _)
theorem Ib{b:kz}{c}{v}{n:Nat}(g:BC a x b c)(h:zm a x v w)(e:bg a d/\d.heap[n]?=some (.cells (Q3 y w c) 134 (0,0))):BC d x ((y,v)::b) (some ⟨n,0,none⟩):=by
 have f:=mK.below e.1;exact⟨n,w,c,rfl,e.2,h.keep f uf,g.keep f uf⟩
theorem yn{A}(h:d.heap=a.heap.push A)(b:d.os=a.os)(c:d.tape=a.tape)(e:d.output=a.output):bg a d/\d.heap[a.heap.size]?=some A:=by
 refine⟨⟨b,c,e,by rw[h];simp,λk f=>?_⟩,by rw[h];simp⟩;rw[h,Array.getElem?_push,ag (by omega)]
theorem KR(K i:Nat)(p:Nat)(s)(G:dc):Yp a K i (.name p s) G:=by
 intro id R b F j hp B ov wv tv C w D l S E t L T;simp only[gS]at D;have H:=aG D.2;have u:=(l.b0.block b H).trans D.2;have x0:cg w b 0 (.string (bs jE)):=dR u rfl;have q0:((bs jE).toList==[110,101,119])=false:=by rw[bo];decide
 have q1:((bs jE).toList==[110,117,109,98,101,114])=false:=by rw[bo];decide
 have q2:((bs jE).toList==[110,97,109,101])=true:=by rw[bo];decide
 have y3:=l.c.1;have y4:=l.c.2.1;have hpl:=l.c.2.2.2.2;have y6:=l.c6 L;have f4:=aK l.y 4;have sY:=aG u;have hne:=by have:=l.pq;omega
 have q9:((B.steps:Int)==(i:Int))=false:=by rw[aH];omega
 have Yx:=t.s;have Xg:=t.f;have I:rW i (.name p s) j B=(qG j s,{B with steps:=B.steps+1}):=by unfold rW;rw[sB L T]
 rw[I];have U:=λm=>(l.drew m).OQ;have V:=λm=>l.ym m;have X:=D.2;clear D l E t L T I u;show Calls _ _ #[Value.pointer (some ⟨K,0,none⟩),Value.pointer (some ⟨b,0,none⟩),_] w _;go_in;go_wp2;go_quiet (fail);go_wp2;obtain⟨W,Y⟩:=ez ((w.drewN nq).setCell ⟨K,4,none⟩ (.int .i64 ((B.steps:Int)+1)));have n:=U nq;have o:=V nq;rw[<-Y]at n o⊢;have M:=S.keep o uf;have x:=(n.b0.block b H).trans X;have X2:cg W b 2 (.string (bs s)):=dR x rfl;have Z:=aG x;clear x Y U V S X y3 y4 y6 f4 x0;go_loopg [7] j.length (λk v wr=>∃(e:kz)(z:Option Addr)(m:Nat),e.length<=k/\v=.pointer z/\wr=W.drewN m/\BC W C e z/\qG j s=qG e s)
 case atStart=>exact⟨j,hp,0,bS,rfl,rfl,M,rfl⟩
 case round=>
  obtain⟨e,z,m,N,rfl,rfl,h,A⟩:=hrel;cases e with
  |nil=>
   simp only[BC]at h;subst h;have HZ:=zeroV (n.drew m) 0 W.heap.size rfl;go_wp2;go_ret;rw[A];exact rB.pre (o.trans (mK.below (dW W m))) uf HZ
  |cons d r=>
   simp only[BC]at h;obtain⟨O,bv,q,rfl,g,hv,h⟩:=h;have Z0:cg W O 0 (.string (bs d.1)):=dR g rfl;have Z1:cg W O 1 (.pointer (some ⟨bv,0,none⟩)):=dR g rfl;have Z2:cg W O 2 (.pointer q):=dR g rfl;have hhl:=aG g;simp only[aF]at N;by_cases J:d.1=s
   ·have qs:((bs d.1).toList==(bs s).toList)=true:=by rw[bo,bR];have:(d.1==s)=true:=(by simpa using J);exact this
    have P:Hid (qG (d::r) s=d.2):=by simp only[qG];rw[ah J];exact rfl
    go_wp2;go_quiet (fail);go_wp2;go_ret;rw[A,P.out];exact⟨bv,ov,wv,tv,C,rfl,hv.keep (mK.below (dW W _)) uf,uf,o.trans (mK.below (dW W _)),n.drew _⟩
   ·have Q:(d.1==s)=false:=by simpa using J
    have qs:((bs d.1).toList==(bs s).toList)=false:=by rw[bo,bR];exact Q
    have P:Hid (qG (d::r) s=qG r s):=by simp only[qG];rw[ag J];exact rfl
    go_wp2;go_quiet (fail);go_wp2;go_roundg r.length
    case measure=>omega
    case rel=>exact⟨r,q,_,bS,rfl,rfl,h,by rw[A,P.out]⟩
theorem Rt(J d:Nat)(p:Nat)(nm rg)(x y z)(G:dc)(W:WT G x .n)(X:x.eO)(Y:x.wf)(Z:oA a J d x G)(KS:oA a J d y G)(ihz:oA a J d z G):Yp a J d (.node p .lv nm rg [x,y,z]) G:=by
 intro id site b F i U v ov wv tv GS w hT D hH A K he hq;obtain⟨gk,vc,bx,bb,bc,FH,O,KQ,P,Yz,Q,E,rA,s6,Vr⟩:=Vp hT;have hne:b≠J:=by have:=D.pq;have:=E.hb;omega
 have QF:=by have:=D.pq;have:=E.hg;omega
 simp only[PT.cnt,aU]at K;have yT:rW d (.node p .lv nm rg [x,y,z]) i v=if (rW d x i {v with steps:=v.steps+1}).1.num≠0 then rW d y i (rW d x i {v with steps:=v.steps+1}).2 else rW d z i (rW d x i {v with steps:=v.steps+1}).2:=by
  conv=>lhs;unfold rW
  rw[ag (by simp),sB he hq];simp only[reduceCtorEq,aT,bT,Hd]
 rw[yT];have M:=K.step hq;have hr1:=th d W i {v with steps:=v.steps+1} X (λ_=>A);have h1:=λm=>Z FH O bx F i U {v with steps:=v.steps+1} ov wv tv GS _ rA (D.drew m).OQ (hH.keep (D.ym m) uf) (λ_=>A) (λ_=>M.le (by omega));have N:=λe=>M.on x i Y he (by omega) e;generalize rW d x i {v with steps:=v.steps+1}=L at*;obtain⟨k,V,hk0,hk9⟩:=su hr1;obtain⟨R,hR⟩:∃R,R=if L.1.num≠0 then rW d y i L.2 else rW d z i L.2:=⟨_,rfl⟩;rw[<-hR];have HRz:k=0->R=rW d z i L.2:=λh=>by rw[hR,V];exact ag (λg=>g h)
 have HRy:k≠0->R=rW d y i L.2:=λh=>by rw[hR,V];exact ah h
 have h2:=λo q r j C (t:fP a C J o q r j d L.2) (S:BC C j i U)=>KS KQ P bb F i U L.2 o q r j C s6 t S (λ_=>A) (λe=>(N e).le (by omega));have h3:=λo q r j C (t:fP a C J o q r j d L.2) (S:BC C j i U)=>ihz Yz Q bc F i U L.2 o q r j C Vr t S (λ_=>A) (λe=>(N e).le (by omega));have l:=E.on D.b0;have x0:=l.c0;have x4:=l.c4;have ML:=l.ck 0 bx rfl;have Rp:=l.hb;have Rq:=l.hg;have qn:((bs Kw.lv.bytes).toList==[110,101,119])=false:=by rw[bo];decide
 have q0:((bs Kw.lv.bytes).toList==[110,117,109,98,101,114])=false:=by rw[bo];decide
 have q1:((bs Kw.lv.bytes).toList==[110,97,109,101])=false:=by rw[bo];decide
 have q2:((bs Kw.lv.bytes).toList==[108,101,116])=false:=by rw[bo];decide
 have q3:((bs Kw.lv.bytes).toList==[105,102])=true:=by rw[bo];decide
 have y3:=D.c.1;have y4:=D.c.2.1;have hpl:=D.c.2.2.2.2;have y6:=D.c6 he;have f4:=aK D.y 4;have q9:((v.steps:Int)==(d:Int))=false:=by rw[aH];omega
 have Yx:=K.s;have Xg:=K.f;have HI:=λm=>D.ym m;unfold ptr at h1 h2 h3;by_cases B:k=0
 ·have qk:(k !=0)=false:=by subst B;rfl
  rw[HRz B];show Calls _ _ #[Value.pointer (some ⟨J,0,none⟩),Value.pointer (some ⟨b,0,none⟩),_] w _;go_in;go_wp2_with fail;go_quiet (fail);go_wp2_with fail;refine ay (h1 _) ?_;rintro _ C ⟨vb,o,q,r,j,rfl,u,H,T,t⟩;have I:=(HI _).trans T;have l:=E.on t.b0;have z4:=l.c4;have QG:=l.ck 1 bb rfl;have zk2:=l.ck 2 bc rfl;have Rs:=l.hb;have Ut:=l.hg;rw[V]at u;simp only[zm]at u;have v0':cg C vb 0 (.int .i64 k):=dR u rfl;have hvl:=aG u;have hc:=h3 o q r j C t (hH.keep I H);have HIW:=I;have HO2:=H;go_wp2_with fail;refine ay hc (λe w3 h=>?_);obtain⟨vb3,rfl,HO⟩:=(h.pre HIW HO2).two;go_wp2;go_ret;exact HO
 ·have qk:(k !=0)=true:=by simpa using B
  rw[HRy B];show Calls _ _ #[Value.pointer (some ⟨J,0,none⟩),Value.pointer (some ⟨b,0,none⟩),_] w _;go_in;go_wp2_with fail;go_quiet (fail);go_wp2_with fail;refine ay (h1 _) ?_;rintro _ C ⟨vb,o,q,r,j,rfl,u,H,T,t⟩;have I:=(HI _).trans T;have l:=E.on t.b0;have z4:=l.c4;have QG:=l.ck 1 bb rfl;have zk2:=l.ck 2 bc rfl;have Rs:=l.hb;have Ut:=l.hg;rw[V]at u;simp only[zm]at u;have v0':cg C vb 0 (.int .i64 k):=dR u rfl;have hvl:=aG u;have hc:=h2 o q r j C t (hH.keep I H);go_wp2_with fail;refine ay hc (λe w3 h=>?_);obtain⟨vb3,rfl,HO⟩:=(h.pre I H).two;go_wp2;go_ret;exact HO
theorem O9(z d:Nat)(p:Nat)(B rg)(x y)(G:dc)(A)(O:WT G x A)(P:x.eO)(Q:x.wf)(S:oA a z d x G)(T:oA a z d y (G++[(B,A)])):Yp a z d (.node p .dV B rg [x,y]) G:=by
 intro id site b F g hp k ov wv tv J w hT l hH n o U hq;obtain⟨gk,vc,bx,V,X,D,Y,E,q,Z,s6⟩:=Vo hT;have hne:b≠z:=by have:=l.pq;have:=q.hb;omega
 have QF:=by have:=l.pq;have:=q.hg;omega
 simp only[PT.cnt,aU]at o;have yT:rW d (.node p .dV B rg [x,y]) g k=rW d y ((B,(rW d x g {k with steps:=k.steps+1}).1)::g) (rW d x g {k with steps:=k.steps+1}).2:=by
  conv=>lhs;unfold rW
  rw[ag (by simp),sB U hq];simp only[bT,xU]
 rw[yT];have C:=o.step hq;have hr1:=th d O g {k with steps:=k.steps+1} P (λ_=>n);have h1:=λm=>S X D bx F g hp {k with steps:=k.steps+1} ov wv tv J _ Z (l.drew m).OQ (hH.keep (l.ym m) uf) (λ_=>n) (λ_=>C.le (by omega));have K:=λe=>C.on x g Q U (by omega) e;generalize rW d x g {k with steps:=k.steps+1}=I at*;have h2:=λL r t u j H (v:fP a H z r t u j d I.2) (hH2:BC H j ((B,I.1)::g) L)=>T Y E V F ((B,I.1)::g) L I.2 r t u j H s6 v hH2 (λe=>n.snoc (hr1.1 e).2) (λe=>(K e).le (by omega));have i:=q.on l.b0;have x0:=i.c0;have x4:=i.c4;have ML:=i.ck 0 bx rfl;have Rp:=i.hb;have Rq:=i.hg;have qn:((bs Kw.dV.bytes).toList==[110,101,119])=false:=by rw[bo];decide
 have q0:((bs Kw.dV.bytes).toList==[110,117,109,98,101,114])=false:=by rw[bo];decide
 have q1:((bs Kw.dV.bytes).toList==[110,97,109,101])=false:=by rw[bo];decide
 have q2:((bs Kw.dV.bytes).toList==[108,101,116])=true:=by rw[bo];decide
 have y3:=l.c.1;have y4:=l.c.2.1;have hpl:=l.c.2.2.2.2;have y6:=l.c6 U;have f4:=aK l.y 4;have q9:((k.steps:Int)==(d:Int))=false:=by rw[aH];omega
 have Yx:=o.s;have Xg:=o.f;have HI:=λm=>l.ym m;unfold ptr at h1 h2;generalize rW d y ((B,I.1)::g) I.2=R at*;show Calls _ _ #[Value.pointer (some ⟨z,0,none⟩),Value.pointer (some ⟨b,0,none⟩),_] w _;go_in;go_wp2_with fail;go_quiet (fail);go_wp2_with fail;refine ay (h1 _) ?_;rintro _ H ⟨vb,r,t,u,j,rfl,QC,M,rR,v⟩;have N:=(HI _).trans rR;have i:=q.on v.b0;have z2:=i.c2;have z4:=i.c4;have QG:=i.ck 1 V rfl;have Rs:=i.hb;have Ut:=i.hg;have hun:∀W,bg H W/\W.heap[H.heap.size]?=some (.cells #[.string (bs B),.pointer (some ⟨vb,0,none⟩),.pointer hp] 134 (0,0))->Calls prog 43 #[.pointer (some ⟨z,0,none⟩),.pointer (some ⟨V,0,none⟩),.pointer (some ⟨H.heap.size,0,none⟩)] W (rB a z d w J R):=by
  intro W hW;refine (h2 _ r t u j W (v.grow hW.1) (Ib (hH.keep N M) QC hW)).mono (λe w' h=>?_);exact h.pre (N.trans (mK.below hW.1)) M
 go_wp2;go_region_with (go_at_call 43;refine (hun _ ?_).mono ?_;exact yn rfl rfl rfl rfl;intro e w3 h3;obtain⟨vb3,rfl,HO⟩:=h3.two;clear h3)
 all_goals (go_wp2_with fail;go_ret;exact HO.out)
