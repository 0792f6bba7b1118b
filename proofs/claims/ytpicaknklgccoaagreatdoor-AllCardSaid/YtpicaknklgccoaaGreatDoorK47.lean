import Derived.Test.YtpicaknklgccoaaGreatDoorK46
set_option maxHeartbeats 8000000
set_option maxRecDepth 100000
namespace Go.Proofs.YtpicaknklgccoaaGreatDoor
open Tryz
open Go.RowKit
open Go.Lib (decDigits)
variable {w a b K:Nat}{c:List NR}{d:PT}{x:Bool}{y:List Nat}{z:List TP}{v u:List Ty}{L:List (Rec × NR)}{P:List PT}{T:List Tk}{N:PS -> Int × PS}
theorem Gk:∀(T U:Ty)(x y:List UInt8),T.txt++x=U.txt++y->T=U/\x=y
 |.n,.n,x,y,h=>by simp[Ty.txt]at h;exact⟨rfl,h⟩
 |.n,.p _ _ _,x,y,h=>by simp[Ty.txt]at h
 |.p _ _ _,.n,x,y,h=>by simp[Ty.txt]at h
 |.p r a b,.p e f g,x,y,h=>by
  simp only[Ty.txt,aS,aB,dP,fC]at h;have h1:=congrArg (λl=>l.takeWhile (λc=>c !=58)) h;simp[CZ]at h1;have i:r=e:=by
   have:=congrArg wm h1;rw[uw,uw]at this;omega
  subst i;have h2:=List.append_cancel_left h;simp only[dP,fC]at h2;obtain⟨j,h3⟩:=Gk a f _ _ h2;obtain⟨k,d⟩:=Gk b g _ _ h3;simp at d;exact⟨by rw[j,k],d⟩
theorem Gl{T U:Ty}(h:T.txt=U.txt):T=U:=(Gk T U [] [] (by rw[h])).1
def iP(a:List Ty)(k:Nat):Ty:=(a[k]?).getD .n
def jO(c:List Ty):PT×Nat×Nat->Nat
 |(.node _ k _ _ [a,b,_],id,_)=>if (k=.lv\/k=.loop)/\iP c (id+1+a.cnt)≠iP c (id+1+a.cnt+b.cnt) then 9 else 0
 |(.node _ k _ d [_],id,_)=>if k=.new/\(iP c (id+1)).has (aQ d)=true then 10 else 0
 |_=>0
def PT.UD:PT->Nat
 |.num p _=>p
 |.name p _=>p
 |.node p _ _ _ _=>p
def pN(a:List Ty):List (PT×Nat×Nat)->Nat×Nat
 |[]=>(0,0)
 |x::r=>if jO a x≠0 then (jO a x,x.1.UD) else pN a r
def o8(e:PT)(a:List Ty):Nat×Nat:=if (gR (e.du 0 0)).1≠0 then gR (e.du 0 0) else pN a (e.subs 0 0)
mutual
theorem Bi:∀(t:PT)(id a:Nat),t.wf->∀x∈t.subs id a,x.1.wf
 |.num _ _,id,a,h,x,b=>by simp only[PT.subs,ax]at b;subst b;exact h
 |.name _ _,id,a,h,x,b=>by simp only[PT.subs,ax]at b;subst b;exact h
 |.node p k e f c,id,a,h,x,b=>by
  simp only[PT.subs,aA,ax]at b;rcases b with b|b
  ·simp only[PT.wf]at h;exact Jr c _ _ h.2 x b
  ·subst b;exact h
theorem Jr:∀(d:List PT)(id a:Nat),rH d->∀x∈fG d id a,x.1.wf
 |[],_,_,_,x,b=>by simp[fG]at b
 |t::r,id,a,h,x,b=>by
  simp only[rH]at h;simp only[fG,aA]at b;rcases b with b|b
  ·exact Bi t _ _ h.1 x b
  ·exact Jr r _ _ h.2 x b
end
mutual
theorem mS:∀(t:PT)(id a:Nat),∀x∈t.subs id a,id<=x.2.1/\x.2.1+x.1.cnt<=id+t.cnt
 |.num _ _,id,a,x,b=>by simp only[PT.subs,ax]at b;subst b;simp[PT.cnt]
 |.name _ _,id,a,x,b=>by simp only[PT.subs,ax]at b;subst b;simp[PT.cnt]
 |.node p k e f c,id,a,x,b=>by
  simp only[PT.subs,aA,ax]at b;rcases b with b|b
  ·have:=qC c _ _ x b;simp only[PT.cnt];omega
  ·subst b;simp
theorem qC:∀(d:List PT)(id a:Nat),∀x∈fG d id a,id<=x.2.1/\x.2.1+x.1.cnt<=id+aU d
 |[],_,_,x,b=>by simp[fG]at b
 |t::r,id,a,x,b=>by
  simp only[fG,aA]at b;rcases b with b|b
  ·have:=mS t _ _ x b;simp only[aU];omega
  ·have:=qC r _ _ x b;simp only[aU];omega
end
theorem NB{a}{F}{p:Nat}{k}{y z}{id:Nat}(A:gS a F (.node p k y z P) id w b):∃d j,a.cell? ⟨b,4,none⟩=some (.slice d P.length j)/\∀i x,P[i]?=some x->∃c l,d=some ⟨c,0,none⟩/\c<a.heap.size/\cg a c i (.pointer (some ⟨l,0,none⟩))/\l<a.heap.size/\a.cell? ⟨l,5,none⟩=some (.int .i64 ((id+1+aU (P.take i):Nat):Int)):=by
 obtain⟨B,C,D,E,J,e,o⟩:=A;obtain⟨d,j,f⟩:∃d j,C=.slice d P.length j:=by
  rcases e.2 with⟨h,u⟩|⟨g,q,r,h,_⟩
  ·exact⟨none,0,by rw[h,u]⟩
  ·exact⟨_,_,h⟩
 refine⟨d,j,by rw[aI E,<-f];rfl,?_⟩;intro i x v;obtain⟨l,s,t⟩:=fZ.at _ _ _ _ o i x v;have G:=(ae.1 v).1;obtain⟨c,m⟩:∃c,d=some ⟨c,0,none⟩:=by
  have h:=e.2;rw[f]at h;rcases h with⟨h,u⟩|⟨g,q,r,h,_⟩
  ·omega
  ·simp at h;exact⟨_,h.1⟩
 have n:a.cell? ⟨c,i,none⟩=some (ptr l):=by
  have h:a.ownsRow 0 63 1 (.slice (some ⟨c,0,none⟩) P.length j) P.length (D.map ptr):=by rw[<-m,<-f];exact e
  rw[h.cellAt i (by omega)];simp[s]
 obtain⟨_,_,_,H,_,I⟩:=gF (vB t);refine⟨c,l,m,aR _ _ n,n,I,?_⟩;rw[H];cases x<;>rfl
theorem abz(i)(x)(m:x.1.wf):(((dA x).op=[105,102]\/(dA x).op=[108,111,111,112])/\∃p k j g a b c,x.1=.node p k j g [a,b,c]/\jO i x=if iP i (x.2.1+1+a.cnt)≠iP i (x.2.1+1+a.cnt+b.cnt) then 9 else 0)\/((dA x).op=[110,101,119]/\∃p j g a,x.1=.node p .new j g [a]/\jO i x=if (iP i (x.2.1+1)).has (dA x).n=true then 10 else 0)\/((dA x).op≠[105,102]/\(dA x).op≠[108,111,111,112]/\(dA x).op≠[110,101,119]/\jO i x=0):=by
 obtain⟨t,id,l⟩:=x;cases t with
 |num p s=>exact .inr (.inr ⟨by simp[dA,rz],by simp[dA,rz],by simp[dA,rz],rfl⟩)
 |name p s=>exact .inr (.inr ⟨by simp[dA,jE],by simp[dA,jE],by simp[dA,jE],rfl⟩)
 |node p k j g e=>
  have f:=m.1;cases k
  case lv=>
   left
   match e,f with
   |[a,b,c],_=>exact⟨.inl rfl,p,_,j,g,a,b,c,rfl,by simp[jO]⟩
  case loop=>
   left
   match e,f with
   |[a,b,c],_=>exact⟨.inr rfl,p,_,j,g,a,b,c,rfl,by simp[jO]⟩
  case new=>
   right;left
   match e,f with
   |[a],_=>exact⟨rfl,p,j,g,a,rfl,by by_cases h:(iP i (id+1)).has (aQ g)=true<;>simp[jO,dA,h]⟩
  all_goals
   right;right;refine⟨by simp[dA,Kw.bytes],by simp[dA,Kw.bytes],by simp[dA,Kw.bytes],?_⟩;rcases e with _|⟨a,_|⟨b,_|⟨c,_|⟨d,r⟩⟩⟩⟩<;>simp[jO]
structure XL(w1 w':World)(e:PT)(TY:List Ty)(b yb:Nat): Prop where
 bl:bg w1 w'
 t:gS w' (λk=>k<w'.heap.size) e 0 0 b
 yl:yb<w'.heap.size
 o:∃go oc,w'.cell? ⟨yb,3,none⟩=some (.slice (some ⟨go,0,none⟩) TY.length oc)/\go<w'.heap.size/\∀(k:Nat)(T:Ty),TY[k]?=some T->cg w' go k (.string (bs T.txt))
theorem Qf(s)(w)(e)(a)(hfit:∀T∈a,T.fit)(yx:e.cnt<=9000)(hlen:a.length=e.cnt)(hwf:e.wf)(hpos:∀r∈e.du 0 0,r.p<=9000)(hst:∀w1,bg w w1->Calls prog 33 #[.string s,.bool true] w1 λv l=>∃b yb y,v=.returned (.tuple #[.pointer (some ⟨b,0,none⟩),.pointer (some ⟨yb,0,none⟩),.int .i64 0,.int .i64 y])/\XL w1 l e a b yb):Calls prog 78 #[.string s] w λv l=>v=.returned (.tuple #[.int .i64 (o8 e a).1,.int .i64 (o8 e a).2])/\bg w l:=by
 refine pd hfit hst hwf hpos hlen λQg vL Us adv ub=>?_;obtain⟨P,Q⟩:=ez (o8 e a);rw[<-Q];have D:Hid _:=Q;clear hfit hst hwf hpos Q hlen;go_in;go_wp2_with fail;refine (vL _ fp).mono ?_;rintro _ w1 ⟨b,yb,y,rfl,ho⟩;have HO:Hid _:=ho;have R:=xY e 0 0 b _ w1 yx ho.t w1 fp;unfold ptr at R;clear ho vL;go_wp2_with fail;refine R.mono ?_;rintro _ w2 ⟨g,cap,bl,rfl,hb2,B,hts⟩;have hbl:bl.length=e.cnt:=by rw[hts.len,cU]
 have S:∀(i:Nat)(x:PT×Nat×Nat),(e.subs 0 0)[i]?=some x->∃d,w2.cell? ⟨g,i,none⟩=some (.pointer (some ⟨d,0,none⟩))/\gS w1 (λk=>k<w1.heap.size) x.1 x.2.1 x.2.2 d:=by
  intro i x H;obtain⟨d,h1,h2⟩:=hts.at i x H;refine⟨d,?_,h2⟩;rw[B.cellAt i (by have:=(ae.1 h1).1;omega),aC,h1];rfl
 have hgl:=(B.lt g rfl).2;have hLI:XK w2 g (e.du 0 0):=by
  refine⟨hgl,?_,?_⟩
  ·intro i r hr;rw[gO,aC]at hr;cases H:(e.subs 0 0)[i]? with
   |none=>rw[H]at hr;simp at hr
   |some x=>
    rw[H]at hr;simp only[cf,ai]at hr;obtain⟨d,h1,h2⟩:=S i x H;obtain⟨kv,h3⟩:=vB h2;refine⟨d,h1,kv,?_⟩;rw[<-hr,hb2.block d (aG h3)];exact h3
  ·intro r hr;have hp:=adv r hr;rw[gO,cM]at hr;obtain⟨x,H,rfl⟩:=hr;have:=mS e 0 0 x H;obtain⟨t,id,site⟩:=x;cases t with
   |num p s=>simp only[dA,PT.cnt]at*;omega
   |name p s=>simp only[dA,PT.cnt]at*;omega
   |node p k nm rg q=>simp only[dA,PT.cnt]at*;omega
 have hrl:(e.du 0 0).length=bl.length:=by rw[gA,hbl]
 have hsc:=LM w2 g cap (e.du 0 0) hLI (by rw[gA];omega);rw[hrl]at hsc;refine fw S hb2 hbl λWk U HBL=>?_;have adw:bl.length<=9000:=by omega
 clear R B hts S hLI hb2 hrl hbl;go_wp2_with fail;refine hsc.mono ?_;rintro _ w3 ⟨m3,rfl,rfl⟩;clear hsc;by_cases V:(gR (e.du 0 0)).1=0
 ·have q0:(((gR (e.du 0 0)).1:Int) !=0)=false:=by rw[V];rfl
  have HA:Hid (P=pN a (e.subs 0 0)):=by rw[D.out];unfold o8;rw[ag (by simpa using V)];exact rfl
  generalize gR (e.du 0 0)=sa at*;clear V D;go_wp2;have Py:=U.trans ((dW w2 m3).mono U.size);obtain⟨w5,U5⟩:=ez (w2.drewN m3);rw[<-U5]at Py⊢;have abA:Hid (∀(i:Nat)(x:PT×Nat×Nat),(e.subs 0 0)[i]?=some x->∃d,w5.cell? ⟨g,i,none⟩=some (.pointer (some ⟨d,0,none⟩))/\gS w1 (λk=>k<w1.heap.size) x.1 x.2.1 x.2.2 d):=by rw[U5];exact Wk
  have adx:g<w5.heap.size:=by rw[U5];exact hgl
  have QL:Hid _:=Py;clear U5 Py Wk U hgl;go_loopw [9] (λi wr=>∃k:Nat,k<=bl.length/\i=.int .i64 k/\bg w5 wr/\pN a (e.subs 0 0)=pN a ((e.subs 0 0).drop k)) (λi _=>bl.length-(intOf i).toNat)
  case atStart=>exact⟨0,ld,rfl,fp,rfl⟩
  case round=>
   obtain⟨k,hk,rfl,C,hvl⟩:=hrel;refine bY hvl C λHV I=>?_;have hgr:=by have:=C.size;omega
   by_cases hlt:k<bl.length
   ·have hkl:k<(e.subs 0 0).length:=by rw[cU,<-HBL.out];exact hlt
    obtain⟨x,H⟩:∃x,(e.subs 0 0)[k]?=some x:=⟨_,aa hkl⟩;obtain⟨d,c1,W⟩:=abA k x H;have c:=QL.trans (C.mono QL.size);have c1r:=(C.cell (p:=⟨g,k,none⟩) adx).trans c1;obtain⟨a0,a1,a3,a5,_,z⟩:=gF (vB W);have a0r:=(c.cell (p:=⟨d,0,none⟩) z).trans a0;have a1r:=(c.cell (p:=⟨d,1,none⟩) z).trans a1;have a3r:=(c.cell (p:=⟨d,3,none⟩) z).trans a3;have E:d<wr.heap.size:=by have:=c.size;omega
    have hxd:(e.subs 0 0).drop k=x::(e.subs 0 0).drop (k+1):=by
     rw[aW hkl];rw[aa hkl]at H;rw[dx H]
    have hvs:pN a ((e.subs 0 0).drop k)=if jO a x≠0 then (jO a x,x.1.UD) else pN a ((e.subs 0 0).drop (k+1)):=by rw[hxd];rfl
    have hxm:=aq H;have hxw:=Bi e 0 0 Us x hxm;have hxi:=mS e 0 0 x hxm;obtain⟨go,oc,o3,hgo,XM⟩:=HO.o;have o3r:=(c.cell (p:=⟨yb,3,none⟩) HO.yl).trans o3;have Wd:yb<wr.heap.size:=by have:=c.size;have:=HO.yl;omega
    have ady:go<wr.heap.size:=by have:=c.size;omega
    have HOA:Hid (∀(k:Nat),k<a.length->cg wr go k (.string (bs (iP a k).txt))/\(iP a k).fit):=by
     intro k hk;have hg:=aa hk;have hat:iP a k=a[k]:=by unfold iP;rw[hg];rfl
     rw[hat];exact⟨(c.cell (p:=⟨go,k,none⟩) hgo).trans (XM k _ hg),Qg _ (bZ hk)⟩
    have Wl:Hid (∀p kw nm rg q,x.1=.node p kw nm rg q->∃va vc,wr.cell? ⟨d,4,none⟩=some (.slice va q.length vc)/\∀i y,q[i]?=some y->∃F bx,va=some ⟨F,0,none⟩/\F<wr.heap.size/\cg wr F i (.pointer (some ⟨bx,0,none⟩))/\bx<wr.heap.size/\cg wr bx 5 (.int .i64 ((x.2.1+1+aU (q.take i):Nat):Int))):=by
     intro p kw nm rg q f;rw[f]at W;obtain⟨va,vc,h4,hk4⟩:=NB W;refine⟨va,vc,(c.cell (p:=⟨d,4,none⟩) z).trans h4,?_⟩;intro i y hy;obtain⟨F,bx,e1,e2,e3,e4,e5⟩:=hk4 i y hy;have hsz:=c.size;exact⟨F,bx,e1,by omega,(c.cell (p:=⟨F,i,none⟩) e2).trans e3,by omega,(c.cell (p:=⟨bx,5,none⟩) e4).trans e5⟩
    have X:Hid _:=hvs;have Nq:Hid (bg w wr):=(HO.bl).trans (c.mono HO.bl.size);have aeY:(dA x).p=x.1.UD:=by obtain⟨t,u,i2⟩:=x;cases t<;>rfl
    clear H c1 W c a0 a1 a3 a5 hxd hvs C hvl o3 hgo XM z;have J:((bs (dA x).op).toList==[105,102])=((dA x).op==[105,102]):=bo _ _;have K:((bs (dA x).op).toList==[108,111,111,112])=((dA x).op==[108,111,111,112]):=bo _ _;have L:((bs (dA x).op).toList==[110,101,119])=((dA x).op==[110,101,119]):=bo _ _;have Y:x.2.1+x.1.cnt<=a.length:=by rw[ub.out];omega
    have abB:a.length<=9000:=by rw[ub.out];exact yx
    rcases abz a x hxw with⟨A,p0,k0,nm,rg,ka,kb,kc,f,m⟩|⟨A,p0,nm,rg,ka,f,m⟩|⟨h1,h2,h3,m⟩
    ·obtain⟨va,vc,c4,M⟩:=Wl _ _ _ _ _ f;obtain⟨F,b1,rfl,hgk,d1,hb1,e1⟩:=M 1 kb rfl;obtain⟨gk',b2,ZA,_,d2,Fy,e2⟩:=M 2 kc rfl;have ZB:F=gk':=by injection ZA with h;injection h
     subst ZB;simp only[List.take,aU,az,aF,bn,bJ]at e1 e2 c4;have Mx:x.1.cnt=1+(ka.cnt+(kb.cnt+(kc.cnt+0))):=by rw[f];simp only[PT.cnt,aU]
     have Z:0<kc.cnt:=fj kc;obtain⟨u,N⟩:=ez (x.2.1+1+ka.cnt);obtain⟨i2,rR⟩:=ez (u+kb.cnt);rw[<-N]at e1;have abC:x.2.1+1+(ka.cnt+kb.cnt)=i2:=by omega
     rw[abC]at e2;rw[<-N,<-rR]at m;have hl1:u<a.length:=by omega
     have hl2:i2<a.length:=by omega
     obtain⟨t1,_⟩:=HOA u hl1;obtain⟨t2,_⟩:=HOA i2 hl2;have G:((bs (iP a u).txt).toList==(bs (iP a i2).txt).toList)=decide (iP a u=iP a i2):=by
      rw[bo,bR];by_cases h:iP a u=iP a i2
      ·rw[h];simp[bs]
      ·have:(iP a u).txt≠(iP a i2).txt:=λe=>h (Gl e);simp[bs,h,this]
     have hg:(((bs (dA x).op).toList==[105,102])=true)\/(((bs (dA x).op).toList==[105,102])=false/\((bs (dA x).op).toList==[108,111,111,112])=true):=by
      rw[J,K];rcases A with h|h<;>rw[h]<;>simp
     have hgn:((bs (dA x).op).toList==[110,101,119])=false:=by
      rw[L];rcases A with h|h<;>rw[h]<;>rfl
     refine bY m f λO HXE=>?_;generalize rA:iP a u=T1 at*;generalize s6:iP a i2=T2 at*;clear J K L A M f m Mx Z N rR abC hxi Y rA s6;by_cases W:T1=T2
     ·have hc:((bs T1.txt).toList==(bs T2.txt).toList)=true:=by rw[G];simpa using W
      have HN:Hid (pN a (e.subs 0 0)=pN a ((e.subs 0 0).drop (k+1))):=(show _=_ by rw[HV.out,X.out,O.out];simp[W]);clear G W;rcases hg with hg|⟨hg,hg'⟩
      all_goals
       go_wp2;go_quiet (fail);go_wp2;go_quiet (fail);go_wp2;go_roundw
       case rel=>exact⟨k+1,by omega,by go_num,(I.out).trans ((dW wr _).mono I.out.size),HN.out⟩
       case measure=>simp[intOf];omega
     ·have hc:((bs T1.txt).toList==(bs T2.txt).toList)=false:=by rw[G];simpa using W
      have HN:Hid (P=(9,x.1.UD)):=(show _=_ by rw[HA.out,HV.out,X.out,O.out];simp[W]);clear G W;rcases hg with hg|⟨hg,hg'⟩
      all_goals
       go_wp2;go_quiet (fail);go_wp2;go_quiet (fail);go_wp2;refine au (v:=.tuple #[.int .i64 9,.int .i64 x.1.UD]) (by simp[results,results78,go_sem]) rfl ⟨by rw[HN.out];rfl,Nq.trans ⟨rfl,rfl,rfl,bS,λ_ _=>rfl⟩⟩
    ·obtain⟨va,vc,c4,M⟩:=Wl _ _ _ _ _ f;obtain⟨F,b1,rfl,hgk,d1,hb1,e1⟩:=M 0 ka rfl;simp only[List.take,aU,az,aF,bn,bJ]at e1 c4;have Mx:x.1.cnt=1+(ka.cnt+0):=by rw[f];simp only[PT.cnt,aU]
     have Z:0<ka.cnt:=fj ka;obtain⟨u,N⟩:=ez (x.2.1+1);rw[<-N]at e1 m;have hl1:u<a.length:=by omega
     obtain⟨t1,hf1⟩:=HOA u hl1;have hg1:((bs (dA x).op).toList==[105,102])=false:=by rw[J,A];rfl
     have Ov:((bs (dA x).op).toList==[108,111,111,112])=false:=by rw[K,A];rfl
     have hgn:((bs (dA x).op).toList==[110,101,119])=true:=by rw[L,A];rfl
     have hme:=λw=>yK (iP a u) hf1 (dA x).n w;generalize rA:iP a u=T1 at*;refine fw m f hme λO HXE XN=>?_;clear J K L A M f m Mx Z N hxi Y rA hf1 hme;obtain⟨hv,hhv⟩:=ez (T1.has (dA x).n);rw[<-hhv]at XN O;have HS:Hid (∀l,bg wr l->cg l d 0 (.string (bs (dA x).op))/\cg l d 3 (.int .i64 (dA x).n)/\cg l yb 3 (.slice (some ⟨go,0,none⟩) a.length oc)/\cg l d 4 (.slice (some ⟨F,0,none⟩) 1 vc)/\cg l F 0 (.pointer (some ⟨b1,0,none⟩))/\cg l b1 5 (.int .i64 (u:Nat))/\cg l go u (.string (bs T1.txt))):=by
      intro l hb;exact⟨(hb.cell (p:=⟨d,0,none⟩) E).trans a0r,(hb.cell (p:=⟨d,3,none⟩) E).trans a3r,(hb.cell (p:=⟨yb,3,none⟩) Wd).trans o3r,(hb.cell (p:=⟨d,4,none⟩) E).trans c4,(hb.cell (p:=⟨F,0,none⟩) hgk).trans d1,(hb.cell (p:=⟨b1,5,none⟩) hb1).trans e1,(hb.cell (p:=⟨go,u,none⟩) ady).trans t1⟩
     clear hhv;go_wp2;go_quiet (fail);go_wp2;clear a3r o3r c4 d1 e1 t1;go_region_held3 (λl=>l.cell? ⟨d,0,none⟩=some (.string (bs (dA x).op))/\cg l d 3 (.int .i64 (dA x).n)/\cg l yb 3 (.slice (some ⟨go,0,none⟩) a.length oc)/\cg l d 4 (.slice (some ⟨F,0,none⟩) 1 vc)/\cg l F 0 (.pointer (some ⟨b1,0,none⟩))/\cg l b1 5 (.int .i64 (u:Nat))/\cg l go u (.string (bs T1.txt))) (first|exact HS _ ⟨rfl,rfl,rfl,bS,λ_ _=>rfl⟩|exact HS _ ⟨j.os,j.tape,j.output,j.size,λk hk=>j.block k hk⟩) (first|(go_at_call 72;refine (XN _).mono ?_;rintro e w7 ⟨rfl,j⟩))
     all_goals
      have ZC:bg wr w7:=⟨j.os,j.tape,j.output,j.size,λk hk=>j.block k hk⟩;have Pm:Hid _:=ZC;have a1s:cg w7 d 1 (.int .i64 (dA x).p):=(ZC.cell (p:=⟨d,1,none⟩) E).trans a1r;have aeZ:d<w7.heap.size:=by have:=ZC.size;omega
      clear j ZC;cases hv with
      |true=>
       have HN:Hid (P=(10,x.1.UD)):=(show _=_ by rw[HA.out,HV.out,X.out,O.out];simp);go_wp2;go_quiet (fail);go_wp2;refine au (v:=.tuple #[.int .i64 10,.int .i64 x.1.UD]) (by simp[results,results78,go_sem]) rfl ⟨by rw[HN.out];rfl,Nq.trans ((Pm.trans ((dW w7 _).mono Pm.size)).mono Nq.size)⟩
      |false=>
       have HN:Hid (pN a (e.subs 0 0)=pN a ((e.subs 0 0).drop (k+1))):=(show _=_ by rw[HV.out,X.out,O.out];simp);go_wp2;go_roundw
       case rel=>exact⟨k+1,by omega,by go_num,I.out.trans (Pm.out.mono I.out.size),HN.out⟩
       case measure=>simp[intOf];omega
    ·have hg1:((bs (dA x).op).toList==[105,102])=false:=by rw[J];simpa using h1
     have Ov:((bs (dA x).op).toList==[108,111,111,112])=false:=by rw[K];simpa using h2
     have hgn:((bs (dA x).op).toList==[110,101,119])=false:=by rw[L];simpa using h3
     have HN:Hid (pN a (e.subs 0 0)=pN a ((e.subs 0 0).drop (k+1))):=(show _=_ by rw[HV.out,X.out,m];simp);clear J K L h1 h2 h3 m hxi Y;go_wp2;go_quiet (fail);go_wp2;go_quiet (fail);go_wp2;go_roundw
     case rel=>exact⟨k+1,by omega,by go_num,(I.out).trans ((dW wr _).mono I.out.size),HN.out⟩
     case measure=>simp[intOf];omega
   ·have hnil:(e.subs 0 0).drop k=[]:=bF (by rw[cU,<-HBL.out];omega);have HF:Hid (P=(0,0)):=by rw[HA.out,HV.out,hnil];exact rfl
    have HBF:Hid (bg w wr):=HO.bl.trans ((QL.trans (C.mono QL.size)).mono HO.bl.size);clear hnil C hvl;go_wp2;refine au (v:=.tuple #[.int .i64 0,.int .i64 0]) (by simp[results,results78,go_sem]) rfl ⟨by rw[HF.out];rfl,HBF⟩
 ·have q0:(((gR (e.du 0 0)).1:Int) !=0)=true:=by simp;omega
  have HA:Hid (P=gR (e.du 0 0)):=by rw[D.out];unfold o8;rw[ah V];exact rfl
  have GZ:Hid (bg w (w2.drewN m3)):=HO.bl.trans ((U.trans ((dW w2 m3).mono U.size)).mono HO.bl.size);generalize gR (e.du 0 0)=sa at*;clear V D;go_wp2;refine au (v:=.tuple #[.int .i64 sa.1,.int .i64 sa.2]) (by simp[results,results78,go_sem]) rfl ⟨by rw[HA.out],GZ⟩
def posOf(a:Nat):List Tk->Nat
 |[]=>a
 |t::_=>t.at_
theorem jn(a:Nat)(t)(r):posOf a (t::r)=t.at_:=rfl
theorem ES(a:Nat):posOf a []=a:=rfl
def pW(a:Nat):List Tk->Prop
 |[]=>True
 |t::r=>0<t.s.length/\t.at_+t.s.length<=posOf a r/\pW a r
theorem C3(a:Nat):∀(f p:Nat)(l:List UInt8),p+l.length=a->pW a (toks f p l)/\p<=posOf a (toks f p l)
 |0,p,l,h=>by simp[toks,pW,ES];omega
 |f+1,p,[],h=>by simp[toks,pW,ES];simp at h;omega
 |f+1,p,c::r,h=>by
  simp at h;simp[toks];split
  ·have:=C3 a f (p+1) r (by omega);exact⟨this.1,by omega⟩
  ·have d:=nC (c::r);have b:=sS (c::r) (by simp);simp at b;have:=C3 a f (p+(bX (c::r)).1) ((c::r).drop (bX (c::r)).1) (by simp;omega);simp only[pW,jn,cS,aF];exact⟨⟨by omega,by omega,this.1⟩,bS⟩
theorem xD(l):pW l.length (tokens l):=(C3 l.length l.length 0 l (by omega)).1
mutual
def fo:PT->List NR->Nat->Nat->Prop
 |.num p _,b,d,e=>∃n,b=[n]/\n.at_=p/\d<=p/\p<n.dH/\n.dH<=e
 |.name p _,b,d,e=>∃n,b=[n]/\n.at_=p/\d<=p/\p<n.dH/\n.dH<=e
 |.node p _ _ _ f,b,d,e=>∃h n,b=h++[n]/\n.at_=p/\d<=p/\eG f h (p+1) n.dH/\p<n.dH/\n.dH<=e
def eG:List PT->List NR->Nat->Nat->Prop
 |[],b,d,e=>b=[]/\d<=e
 |t::r,b,d,e=>∃a c g,b=a++c/\fo t a d g/\eG r c g e
end
theorem fo.lo(h:fo d c w b)(i:a<=w):fo d c a b:=by
 cases d with
 |num p s=>simp[fo]at h⊢;obtain⟨n,h1,h2,h3,e⟩:=h;exact⟨n,h1,h2,by omega,e⟩
 |name p s=>simp[fo]at h⊢;obtain⟨n,h1,h2,h3,e⟩:=h;exact⟨n,h1,h2,by omega,e⟩
 |node p k j l f=>simp[fo]at h⊢;obtain⟨g,n,h1,h2,h3,e⟩:=h;exact⟨g,n,h1,h2,by omega,e⟩
theorem eG.lo(h:eG P c w b)(g:a<=w):eG P c a b:=by
 cases P with
 |nil=>simp[eG]at h⊢;exact⟨h.1,by omega⟩
 |cons t r=>simp[eG]at h⊢;obtain⟨d,e,f,h1,h2,h3⟩:=h;exact⟨d,e,f,h1,h2.lo g,h3⟩
theorem eG.hi:∀{e:List PT}{f:List NR}{g i b:Nat},eG e f g i->i<=b->eG e f g b
 |[],_,_,_,_,h,j=>by simp[eG]at h⊢;exact⟨h.1,by omega⟩
 |t::r,_,_,_,_,h,j=>by simp[eG]at h⊢;obtain⟨a,c,d,h1,h2,h3⟩:=h;exact⟨a,c,d,h1,h2,h3.hi j⟩
theorem fo.lt(h:fo d c w a):w<a:=by
 cases d with
 |num p s=>simp[fo]at h;obtain⟨n,h1,h2,h3,b⟩:=h;omega
 |name p s=>simp[fo]at h;obtain⟨n,h1,h2,h3,b⟩:=h;omega
 |node p k f g e=>simp[fo]at h;obtain⟨i,n,h1,h2,h3,b⟩:=h;omega
theorem eG.le:∀{e:List PT}{f:List NR}{b d:Nat},eG e f b d->b<=d
 |[],_,_,_,h=>by simp[eG]at h;exact h.2
 |t::r,_,_,_,h=>by simp[eG]at h;obtain⟨a,c,g,h1,h2,h3⟩:=h;have:=h2.lt;have:=h3.le;omega
def ZE(a:Bool)(b:Nat)(f:PS->Int×PS)(m:Nat):Prop:=∀(l:List Tk)(e:PT)(r:List Tk),PE a l e r->l.length<=m->pW b l->∀c:PS,c.l=l->c.fl=none->
 ∃d,(f c).2.nodes=c.nodes++d/\fo e d (posOf b l) (posOf b r)
theorem Th(g:ZE x w N a)(b)(d:Int){e}{r}(h:PE x T e r)(i:T.length<=a)(j:pW w T)(c)(k:c.l=T)(n:c.fl=none):∃f,(kR N b d c).2.nodes=c.nodes++f/\fo e f (posOf w T) (posOf w r):=g T e r h i j {c with scope:=c.scope++[(b,d)]} k n
mutual
theorem PE.Gm{c}{d:Nat}:∀{l:List Tk}{e:PT}{r:List Tk},PE c l e r->pW d l->pW d r/\posOf d l<=posOf d r
 |_,_,_,.num _,h=>by simp only[pW]at h;exact⟨h.2.2,by simp only[jn];omega⟩
 |_,_,_,.name _,h=>by simp only[pW]at h;exact⟨h.2.2,by simp only[jn];omega⟩
 |_,_,_,.node _ _ _ g,h=>by
  simp only[pW]at h;have:=PW.Gm g h.2.2.2.2;have h1:=h.2.1;simp only[jn]at h1⊢;exact⟨this.1,by omega⟩
theorem PW.Gm{c}{d:Nat}:∀{i:List Wt}{l:List Tk}{j k:List UInt8}{f:List PT}{r:List Tk},PW c i l j k f r->pW d l->pW d r/\posOf d l<=posOf d r
 |_,_,_,_,_,_,.nil,h=>⟨h,bS⟩
 |_,_,_,_,_,_,.close _ h1,h=>by simp only[pW]at h;have:=PW.Gm h1 h.2.2;simp only[jn];exact⟨this.1,by omega⟩
 |_,_,_,_,_,_,.name _ h1,h=>by simp only[pW]at h;have:=PW.Gm h1 h.2.2;simp only[jn];exact⟨this.1,by omega⟩
 |_,_,_,_,_,_,.region _ h1,h=>by simp only[pW]at h;have:=PW.Gm h1 h.2.2;simp only[jn];exact⟨this.1,by omega⟩
 |_,_,_,_,_,_,.e m h1,h=>by have a:=PE.Gm m h;have b:=PW.Gm h1 a.1;exact⟨b.1,by omega⟩
end
theorem Wm(a:Nat)(R:Ri x N w)(S:ZE x a N w):∀(E:List BZ)(l:List Tk)(F G:List UInt8)(c:List PT)(r:List Tk),PW x (E.map BZ.wt++[.close]) l F G c r->l.length<=w->pW a l->∀(b:PS)(d:FS),b.l=l->b.fl=none->∃t j,(nG a N E d b).2.l=t::r/\(nG a N E d b).2.nodes=b.nodes++j/\eG c j (posOf a l) t.at_/\0<t.s.length/\t.at_+t.s.length<=posOf a r:=by
 intro E
 induction E with
 |nil=>
  intro l F G c r h z k b d u v;cases h with
  |close H h1=>
   cases h1;refine⟨_,[],by simp[nG];exact u,by simp[nG],?_,k.1,k.2.1⟩;simp only[eG,jn,fC];exact bS
 |cons i E I=>
  intro l F G c r h z k b d u v;cases i with
  |name=>
   cases h with
   |name H h1=>
    rename_i t g J;simp at z;simp[pW]at k;have K:(kQ a b.l).kind=4:=by rw[u];exact (sw _).2 H
    have n:b.expect a 4={b with l:=g}:=by
     unfold PS.expect;rw[ag (by simp[K])];simp[PS.tail,u]
    obtain⟨A,j,h2,h3,B,C⟩:=I g J G c r h1 (by omega) k.2.2 {b with l:=g} {d with word:=(kQ a b.l).word} rfl v;refine⟨A,j,?_,?_,B.lo (by simp[jn];omega),C⟩
    ·simp[nG];rw[n];exact h2
    ·simp[nG];rw[n];exact h3
  |region=>
   cases h with
   |region H h1=>
    rename_i t g L;simp at z;simp[pW]at k;have K:(kQ a b.l).kind=6:=by rw[u];exact (vH _).2 H
    have n:b.expect a 6={b with l:=g}:=by
     unfold PS.expect;rw[ag (by simp[K])];simp[PS.tail,u]
    obtain⟨A,j,h2,h3,B,C⟩:=I g F L c r h1 (by omega) k.2.2 {b with l:=g} {d with region:=(kQ a b.l).num} rfl v;refine⟨A,j,?_,?_,B.lo (by simp[jn];omega),C⟩
    ·simp[nG];rw[n];exact h2
    ·simp[nG];rw[n];exact h3
  |e=>
   cases h with
   |e y h1=>
    rename_i e g f;have M:=y.len;have O:=y.Gm k;obtain⟨P,Q,o⟩:=R l e g y z b u v;obtain⟨p,D,q⟩:=S l e g y z k b u v;obtain⟨A,j,h2,h3,B,C⟩:=I g F G f r h1 (by omega) O.1 (N b).2 {d with parts:=d.parts++[(N b).1]} (by rw[o]) (by rw[o];exact v);refine⟨A,p++j,?_,?_,?_,C⟩
    ·simp[nG];exact h2
    ·simp[nG];rw[h3,D,aB]
    ·simp only[eG];exact⟨p,j,_,rfl,q,B⟩
  |body=>
   cases h with
   |e y h1=>
    rename_i e g f;have M:=y.len;obtain⟨P,Q,o⟩:=B0 R d.word (d.parts.getLastD (-1)) y z b u v;obtain⟨p,D,q⟩:=Th S d.word (d.parts.getLastD (-1)) y z k b u v;obtain⟨A,j,h2,h3,B,C⟩:=I g F G f r h1 (by omega) (y.Gm k).1 (kR N d.word (d.parts.getLastD (-1)) b).2 {d with parts:=d.parts++[(kR N d.word (d.parts.getLastD (-1)) b).1]} (by rw[o]) (by rw[o];exact v);refine⟨A,p++j,?_,?_,?_,C⟩
    ·simp only[nG];exact h2
    ·simp only[nG];rw[h3,D,aB]
    ·simp only[eG];exact⟨p,j,_,rfl,q,B⟩
theorem Ti(a)(b:Nat):∀n:Nat,ZE a b (nY a b n) n:=by
 intro n
 induction n with
 |zero=>
  intro l e r h o;obtain⟨t,U,N,_⟩:=h.suffix;rw[N]at o;simp at o
 |succ m O=>
  intro l e r h o g d A x;cases h with
  |num q=>
   rename_i t;simp[pW]at g;obtain⟨y,v,B⟩:=(qN a b (m+1)).1 _ _ _ (PE.num q) o d A x;subst v;refine⟨_,by rw[B],⟨_,rfl,rfl,bS,?_⟩⟩;simp only;exact⟨by omega,g.2.1⟩
  |name q=>
   rename_i t;simp[pW]at g;obtain⟨y,v,B⟩:=(qN a b (m+1)).1 _ _ _ (PE.name q) o d A x;subst v;refine⟨_,by rw[B],⟨_,rfl,rfl,bS,?_⟩⟩;simp only;exact⟨by omega,g.2.1⟩
  |node q L C z=>
   rename_i t u k p D M f;have E:¬(iW (fJ u.c)=0\/(iW (fJ u.c)=12/\a=false)):=by
    rw[tC,L];exact C
   rw[tq k a C]at z;simp at o;simp[pW]at g;obtain⟨c,y,h1,h2,h3,V,P⟩:=Wm b (qN a b m).1 O (wU k a) p D M f r z (by omega) g.2.2.2.2 {d with opened:=d.opened++[-1],l:=p} ⟨[],[],0⟩ rfl x
   obtain ⟨Q,R,F,_,G⟩:=MH b (qN a b m).1 (wU k a) p D M f r z (MG k a) (by omega)
     {d with opened:=d.opened++[-1],l:=p} ⟨[],[],0⟩ D rfl x (λe=>absurd e (ED k a)) (by
      split
      ·rfl
      ·rename_i v;have:Wt.name∉(wU k a).map BZ.wt++[.close]:=by
        intro w;rcases aA.1 w with w|w
        ·obtain⟨i,S,e⟩:=cM.1 w;cases i with
         |name=>exact v (by simpa using S)
         |_=>cases e
        ·simp at w
       exact (PW.wK z this).symm)
   have H:c=Q:=by rw[G]at h1;simp only at h1;cases h1;rfl
   subst H;have I:=g.2.1;simp[jn]at I;refine⟨y++[{NR.filled ⟨dX k,t.at_,t.at_+t.s.length,0,[],0,-1,-1,-1,-1⟩ (nG b (nY a b m) (wU k a) ⟨[],[],0⟩ {d with opened:=d.opened++[-1],l:=p}).1 with dH:=c.at_+c.s.length}],?_,⟨y,_,rfl,rfl,bS,?_,?_,P⟩⟩
   ·show (p8 (nX b (mP a b (nY a b m))) d).2.nodes=_;unfold p8;rw[Cu b _ {d with opened:=d.opened++[-1]} A q];unfold mP;have J:kQ b (u::p)=mN u:=rfl;simp[J];rw[ag (by simpa [mN] using E)];have j:iW (mN u).kind=dX k:=by simp[mN,L,dX]
    rw[j,zw a b _ k C];simp[PS.tail];have K:(kQ b (c::r)).kind=3:=(zu _).2 F;simp only[PS.expect,h1,K];rw[ag (by simp)];simp[PS.tail,PS.add,h2];rfl
   ·exact (h3.lo (by omega)).hi (by show c.at_<=c.at_+c.s.length;omega)
   ·have T:=h3.le;show t.at_<c.at_+c.s.length;omega
theorem LN(a:Nat)(b:PS):(b.fail a).nodes=b.nodes:=by unfold PS.fail;split<;>rfl
theorem Gn(a k:Nat)(b:PS):(b.expect a k).nodes=b.nodes:=by
 unfold PS.expect;split
 ·rw[LN];rfl
 ·rfl
theorem C4{e}(h:PE x T e [])(a:pW w T):fo e (mf x w T).nodes (posOf w T) w:=by
 obtain⟨b,h1,h2⟩:=Ti x w T.length T e [] h bS a (ps0 T) rfl rfl;unfold mf;rw[Gn,h1];exact h2
structure sN(X:List (Rec×NR))(id c lo hi:Nat): Prop where
 a:∀x∈X,id<=x.1.id/\x.1.id<=x.1.last/\x.1.last<id+c/\lo<=x.2.at_/\x.2.at_<x.2.dH/\x.2.dH<=hi
 b:∀x∈X,∀y∈X,(x.1.id<y.1.id↔x.2.at_<y.2.at_)/\(y.1.id<=x.1.last↔y.2.at_<x.2.dH)
theorem sN.app{Y}{id d i j:Nat}(g:sN L id w i K)(h:sN Y (id+w) d K j)(h1:i<=K)(h2:K<=j):sN (L++Y) id (w+d) i j:=by
 refine⟨λx e=>?_,λx e y f=>?_⟩
 ·rcases aA.1 e with e|e
  ·have:=g.a x e;omega
  ·have:=h.a x e;omega
 ·rcases aA.1 e with e|e
  ·rcases aA.1 f with f|f
   ·exact g.b x e y f
   ·have k:=g.a x e;have l:=h.a y f;exact⟨⟨λ_=>by omega,λ_=>by omega⟩,⟨λ_=>by omega,λ_=>by omega⟩⟩
  ·rcases aA.1 f with f|f
   ·have k:=h.a x e;have l:=g.a y f;exact⟨⟨λ_=>by omega,λ_=>by omega⟩,⟨λ_=>by omega,λ_=>by omega⟩⟩
   ·exact h.b x e y f
theorem sN.root{id g h:Nat}{r}{n}(f:sN L (id+1) w (n.at_+1) n.dH)(h1:r.id=id)(h2:r.last=id+w)(h3:g<=n.at_)(j:n.at_<n.dH)(k:n.dH<=h):sN (L++[(r,n)]) id (1+w) g h:=by
 refine⟨λx d=>?_,λx d y e=>?_⟩
 ·rcases aA.1 d with d|d
  ·have:=f.a x d;omega
  ·rw[ax]at d;subst d;simp only;omega
 ·rcases aA.1 d with d|d
  ·rcases aA.1 e with e|e
   ·exact f.b x d y e
   ·rw[ax]at e;subst e;have i:=f.a x d;simp only;exact⟨⟨λ_=>by omega,λ_=>by omega⟩,⟨λ_=>by omega,λ_=>by omega⟩⟩
  ·rw[ax]at d;subst d;rcases aA.1 e with e|e
   ·have i:=f.a y e;simp only;exact⟨⟨λ_=>by omega,λ_=>by omega⟩,⟨λ_=>by omega,λ_=>by omega⟩⟩
   ·rw[ax]at e;subst e;simp only;exact⟨⟨λ_=>by omega,λ_=>by omega⟩,⟨λ_=>by omega,λ_=>by omega⟩⟩
mutual
theorem fo.good:∀{t:PT}{d:List NR}{e f:Nat},fo t d e f->∀(id b:Nat),d.length=t.cnt/\sN ((t.du id b).zip d) id t.cnt e f
 |.num p s,d,e,f,h,id,b=>by
  simp only[fo]at h;obtain⟨n,rfl,h1,h2,h3,g⟩:=h;refine⟨rfl,?_⟩;simp only[PT.du,fV,gz,PT.cnt];exact sN.root (L:=[]) (w:=0) ⟨by simp,by simp⟩ rfl rfl (by omega) (by omega) g
 |.name p s,d,e,f,h,id,b=>by
  simp only[fo]at h;obtain⟨n,rfl,h1,h2,h3,g⟩:=h;refine⟨rfl,?_⟩;simp only[PT.du,fV,gz,PT.cnt];exact sN.root (L:=[]) (w:=0) ⟨by simp,by simp⟩ rfl rfl (by omega) (by omega) g
 |.node p k w x m,d,e,f,h,id,b=>by
  simp only[fo]at h;obtain⟨y,n,rfl,h1,h2,h3,g,q⟩:=h;have j:=eG.good h3 (id+1) (b+if k=.pair then 1 else 0);refine⟨by simp only[aj,bG,PT.cnt,j.1];omega,?_⟩;simp only[PT.du,PT.cnt];rw[kD (by rw[oK,j.1])];simp only[fV,gz];subst h1;exact sN.root j.2 rfl rfl h2 g q
theorem eG.good:∀{i:List PT}{d:List NR}{e f:Nat},eG i d e f->∀(id b:Nat),d.length=aU i/\sN ((jZ i id b).zip d) id (aU i) e f
 |[],d,e,f,h,id,b=>by
  simp only[eG]at h;rw[h.1];exact⟨rfl,⟨by simp[jZ],by simp[jZ]⟩⟩
 |t::r,d,e,f,h,id,b=>by
  simp only[eG]at h;obtain⟨a,c,u,rfl,h1,h2⟩:=h;have l:=fo.good h1 id b;have o:=eG.good h2 (id+t.cnt) (b+t.dn);refine⟨by simp only[aj,aU,l.1,o.1],?_⟩;simp only[jZ,aU];rw[kD (by rw[gA,l.1])];have z:=h1.lt;have v:=h2.le;exact sN.app l.2 o.2 (by omega) v
end
structure Bri(r:Rec)(n:NR): Prop where
 p:r.p=n.at_
 nw:n.form=12↔r.op=Kw.new.bytes
 pr:n.form=4↔r.op=Kw.pair.bytes
 rg:n.form=12\/n.form=4->n.region=r.n
 il:(n.form=7\/n.form=11)↔(r.op=Kw.lv.bytes\/r.op=Kw.loop.bytes)
theorem Tj(k):(dX k=12↔k.bytes=Kw.new.bytes)/\(dX k=4↔k.bytes=Kw.pair.bytes)/\((dX k=7\/dX k=11)↔(k.bytes=Kw.lv.bytes\/k.bytes=Kw.loop.bytes)):=by cases k<;>decide
theorem Bri.node(k)(p:Nat)(nm rg)(a b c d:Nat)(e f g h num:Int):Bri ⟨k.bytes,p,nm,aQ rg,a,b,c⟩ ⟨dX k,p,d,num,nm,aQ rg,e,f,g,h⟩:=
 ⟨rfl,(Tj k).1,(Tj k).2.1,λ_=>rfl,(Tj k).2.2⟩
mutual
theorem NA.XO:∀{f:Sc}{t:PT}{g:Nat}{i:List NR},NA f t g i->∀(id d:Nat),∀x∈(t.du id d).zip i,Bri x.1 x.2
 |_,.num p s,_,_,h,id,d,x,e=>by
  simp only[NA]at h;subst h;simp only[PT.du,fV,gz,ax]at e;subst e;exact⟨rfl,by simp only;decide,by simp only;decide,λh=>by simp at h,by simp only;decide⟩
 |_,.name p s,_,_,h,id,d,x,e=>by
  simp only[NA]at h;subst h;simp only[PT.du,fV,gz,ax]at e;subst e;exact⟨rfl,by simp only;decide,by simp only;decide,λh=>by simp at h,by simp only;decide⟩
 |_,.node p k j o m,g,_,h,id,d,x,e=>by
  simp only[NA]at h;obtain⟨u,q,h1,rfl⟩:=h;have l:=h1.len;simp only[PT.du]at e;rw[kD (by rw[oK,l])]at e;rcases aA.1 e with e|e
  ·exact j6.XO h1 _ _ x e
  ·simp only[fV,gz,ax]at e;subst e;exact Bri.node k p j o _ _ _ _ _ _ _ _ _
theorem j6.XO:∀{f:Sc}{j:List UInt8}{n:List PT}{bs:List Bool}{g:Nat}{i:List NR},j6 f j n bs g i->∀(id d:Nat),∀x∈(jZ n id d).zip i,Bri x.1 x.2
 |_,_,[],_,_,_,h,id,d,x,e=>by simp[jZ]at e
 |_,_,_::_,[],_,_,h,_,_,_,_=>by simp[j6]at h
 |_,_,t::r,b::bs,_,_,h,id,d,x,e=>by
  simp only[j6]at h;obtain⟨a,c,h1,h2,rfl⟩:=h;have l:=h1.len;simp only[jZ]at e;rw[kD (by rw[gA,l])]at e;rcases aA.1 e with e|e
  ·exact NA.XO h1 _ _ x e
  ·exact j6.XO h2 _ _ x e
end
mutual
theorem vT:∀(t:PT)(a id b k:Nat),k<t.cnt->∃(j:Nat)(r:Rec),(opn t a)[k]?=some ((a+j:Nat):Int)/\(t.du id b)[j]?=some r/\r.id=id+k
 |.num p s,a,id,b,k,h=>by
  simp only[PT.cnt]at h;have:k=0:=by omega
  subst this;exact⟨0,_,rfl,rfl,rfl⟩
 |.name p s,a,id,b,k,h=>by
  simp only[PT.cnt]at h;have:k=0:=by omega
  subst this;exact⟨0,_,rfl,rfl,rfl⟩
 |.node p kw f g c,a,id,b,k,h=>by
  simp only[PT.cnt]at h;cases k with
  |zero=>
   refine⟨aU c,⟨kw.bytes,p,f,aQ g,id,id+aU c,b⟩,rfl,?_,rfl⟩;simp only[PT.du];rw[aw (by rw[oK];exact bS),oK,cx];rfl
  |succ k=>
   obtain⟨j,r,h1,h2,h3⟩:=Js c a (id+1) (b+if kw=.pair then 1 else 0) k (by omega);refine⟨j,r,?_,?_,by omega⟩
   ·simp only[opn,cE];exact h1
   ·simp only[PT.du];rw[ak (ae.1 h2).1];exact h2
theorem Js:∀(d:List PT)(a id b k:Nat),k<aU d->∃(j:Nat)(r:Rec),(pF d a)[k]?=some ((a+j:Nat):Int)/\(jZ d id b)[j]?=some r/\r.id=id+k
 |[],_,_,_,k,h=>by simp[aU]at h
 |t::r,a,id,b,k,h=>by
  simp only[aU]at h;simp only[pF,jZ];by_cases e:k<t.cnt
  ·obtain⟨j,x,h1,h2,h3⟩:=vT t a id b k e;refine⟨j,x,?_,?_,h3⟩
   ·rw[ak (by rw[tr];exact e)];exact h1
   ·rw[ak (ae.1 h2).1];exact h2
  ·obtain⟨j,x,h1,h2,h3⟩:=Js r (a+t.cnt) (id+t.cnt) (b+t.dn) (k-t.cnt) (by omega);refine⟨t.cnt+j,x,?_,?_,by omega⟩
   ·rw[aw (by rw[tr];omega),tr,h1]
    congr 2;omega
   ·rw[aw (by rw[gA];omega),gA];rw[show t.cnt+j-t.cnt=j by omega];exact h2
end
def LO:NR:=⟨0,0,0,0,[],0,0,0,0,0⟩
def pX(l:List NR)(a:Int):Option NR:=l.find? (λn=>n.region==a)
theorem Qh(l:List NR)(a:Int)(k:Nat)(b:k<l.length):pX (l.drop k) a=if l[k].region==a then some l[k] else pX (l.drop (k+1)) a:=by
 rw[aW b];unfold pX;rw[dw];cases l[k].region==a<;>rfl
theorem ET(w)(A)(l)(b:Int)(j:Nat)(h:w.ownsRow j 160 10 A l.length (l.flatMap xd))(C:l.length<=9000):Calls prog 121 #[A,.int .i64 b] w λv r=>v=.returned (.tuple #[dK ((pX l b).getD LO),.bool (pX l b).isSome])/\bg w r:=by
 have p:=eA h (λk s=>ld);obtain⟨c,e⟩:=ez (pX l b);rw[<-e];have d:Hid _:=e;rcases p.2 with⟨t,q⟩|⟨g,D,E,t,F⟩
 ·subst t;have G:c=none:=by rw[d.out,dE.1 q];rfl
  subst G;show Calls _ _ _ _ (λv r=>v=.returned (.tuple #[dK LO,.bool false])/\bg w r);unfold dK LO;go_in;go_wp2;go_loopw [6] (λi wr=>i=.int .i64 0/\bg w wr/\wr=w.alloc (gG LO)) (λ_ _=>0)
  case atStart=>exact⟨rfl,(aM _ w).alloc bS _,rfl⟩
  case round=>
   obtain⟨rfl,T,rfl⟩:=hrel;unfold gG DS LO;go_wp2;refine au (v:=.tuple #[.agg #[.int .i64 0,.int .i64 0,.int .i64 0,.int .i64 0,.string (bs []),.int .i64 0,.int .i64 0,.int .i64 0,.int .i64 0,.int .i64 0],.bool false]) (by simp[results,results121,go_sem];rfl) rfl ⟨rfl,?_⟩;exact (aM _ w).alloc bS _
 ·subst t;have a:=λk s=>Cz p k s;have H:=(p.lt g rfl).2;obtain⟨m,u⟩:=ez l.length;have I:Hid _:=a;rw[<-u]at C⊢;clear a p F;unfold dK;go_in;go_wp2;go_loopw [6] (λi wr=>∃k:Nat,k<=m/\i=.int .i64 k/\wr=w.alloc (gG LO)/\Hid (pX l b=pX (l.drop k) b)) (λi _=>m-(intOf i).toNat)
  case atStart=>exact⟨0,ld,rfl,rfl,(rfl:pX l b=pX (l.drop 0) b)⟩
  case round=>
   obtain⟨k,s,rfl,rfl,x⟩:=hrel;unfold gG DS LO;by_cases J:k<m
   ·have o:k<l.length:=by have:=u;omega
    obtain⟨c0,K,L,M,N,O,P,Q,R,S⟩:=I k o;have f:=Qh l b k o;obtain⟨n,q⟩:=ez (l[k]);rw[<-q]at c0 K L M N O P Q R S f;clear q;cases B:(n.region==b) with
    |true=>
     have y:c=some n:=(show c=some n by rw[d.out,x.out,f,ah B]);go_wp2;refine au (v:=.tuple #[.agg #[.int .i64 n.form,.int .i64 n.at_,.int .i64 n.dH,.int .i64 n.num,.string (bs n.word),.int .i64 n.region,.int .i64 n.source,.int .i64 n.p0,.int .i64 n.p1,.int .i64 n.p2],.bool true]) (by simp[results,results121,go_sem]) rfl ⟨by rw[y];rfl,?_⟩;exact (aM _ w).alloc bS _
    |false=>
     have z:pX l b=pX (l.drop (k+1)) b:=(show pX l b=_ by rw[x.out,f,ag (by rw[B];simp)]);go_wp2;go_roundw
     case rel=>exact⟨k+1,by omega,by go_num,rfl,z⟩
     case measure=>simp[intOf];omega
   ·have y:c=none:=(show c=none by rw[d.out,x.out,bF (by have:=u;omega)];rfl);go_wp2;refine au (v:=.tuple #[.agg #[.int .i64 0,.int .i64 0,.int .i64 0,.int .i64 0,.string (bs []),.int .i64 0,.int .i64 0,.int .i64 0,.int .i64 0,.int .i64 0],.bool false]) (by simp[results,results121,go_sem];rfl) rfl ⟨by rw[y];rfl,?_⟩;exact (aM _ w).alloc bS _
def iZ:List NR->List NR->List NR×Nat×Nat
 |[],l=>(l,0,0)
 |n::r,l=>if n.form=12 then (if (pX l n.region).isSome=true then (l,7,n.at_) else iZ r (l++[n])) else iZ r l
def fe(a:List NR)(b:List Int):List NR:=b.map (λx=>(a[x.toNat]?).getD LO)
theorem pO(b)(a):(fe b a).length=a.length:=aO _
theorem Gp{a}(e:CA c a)(k:Nat)(f:k<c.length):∃(i:Nat)(n:NR),a[k]?=some (i:Int)/\c[i]?=some n/\(fe c a).drop k=n::(fe c a).drop (k+1)/\n∈fe c a:=by
 have b:k<a.length:=by rw[e.1];exact f
 obtain⟨g,h⟩:=e.2 a[k] (bZ b);have d:=aa h;refine⟨a[k].toNat,c[a[k].toNat],by rw[aa b,iR g],d,?_,?_⟩
 ·rw[aW (by rw[pO];exact b)]
  congr 1
  unfold fe;rw[jS,d];rfl
 ·unfold fe;rw[cM];exact⟨a[k],bZ b,by rw[d];rfl⟩
theorem LP(w)(nv ov)(ns)(op)(h:ew w nv ov ns op)(ho:CA ns op)(hl:ns.length<=9000):Calls prog 88 #[cG nv ov] w λv w'=>∃vv,v=.returned (.tuple #[vv,.int .i64 (iZ (fe ns op) []).2.1,.int .i64 (iZ (fe ns op) []).2.2])/\w'.ownsRow w.heap.size 160 10 vv (iZ (fe ns op) []).1.length ((iZ (fe ns op) []).1.flatMap xd)/\bg w w':=by
 obtain⟨i0,hi0,hz0,hz1,hz2⟩:=cI Cm;refine fT hi0 hz0 hz1 hz2 λHI y8 za ze=>?_;clear hi0 hz0 hz1 hz2;have hlen:=λ(w':World)(hb:bg w w')=>mY w' nv ov ns op (h.below hb);have afn:=λ(w':World)(hb:bg w w')(k i:Nat)(n:NR)(hk:op[k]?=some (i:Int))(hi:ns[i]?=some n)=>tF w' nv ov ns op (h.below hb) k i n hk hi hl (by rw[ho.1];omega);obtain⟨a0,acR,e0⟩:=cm h.nd;obtain⟨a1,X4,e1⟩:=cm h.op;rw[ho.1]at e1;obtain⟨m,hm⟩:=ez ns.length;rw[<-hm]at e0 e1 hl;subst e0;subst e1;refine bY ho hm λHO HM=>?_;unfold cG at hlen afn;unfold cG;unfold dK at afn;rw[<-hm]at hlen;refine bY hlen afn λub ZF=>?_;obtain⟨ans,afq⟩:=ez (iZ (fe ns op) []);rw[<-afq];have La:Hid _:=afq;clear hlen afn ho h hm afq;have Lb:bg w (w.alloc (.cells #[.slice a0 m acR,.slice a1 m X4] 59)):=(aM _ w).alloc bS _;have VP:Hid _:=Lb;clear Lb;go_in;go_wp2;obtain⟨WB,hWB⟩:=ez (w.alloc (.cells #[.slice a0 m acR,.slice a1 m X4] 59));have afp:Hid (WB.heap.size=w.heap.size+1):=(show WB.heap.size=w.heap.size+1 by rw[hWB];simp);have TH:Hid (∀wr,bg WB wr->cg wr w.heap.size 0 (.slice a0 m acR)/\cg wr w.heap.size 1 (.slice a1 m X4)/\w.heap.size<wr.heap.size):=by
  intro wr hb;rw[hWB]at hb;exact jb hb
 rw[<-hWB]at VP⊢;have HWB:Hid _:=hWB;clear hWB;go_loopw [5,6,7,8,9] (λv5 i _ _ _ wr=>∃(k:Nat)(l:List NR)(vv:Value),k<=m/\i=.int .i64 k/\v5=vv/\l.length<=k/\wr.ownsRow WB.heap.size 160 10 vv l.length (l.flatMap xd)/\Hid (iZ (fe ns op) []=iZ ((fe ns op).drop k) l)/\bg WB wr) (λ_ i _ _ _ _=>m-(intOf i).toNat)
 case atStart=>
  refine⟨0,[],_,ld,rfl,rfl,bS,⟨rfl,aE ⟨w.heap.size+1,0,#[],rfl,by rw[afp.out];exact bS,?_,bS,by unfold maxLen;omega,rfl,rfl⟩⟩,(rfl:iZ (fe ns op) []=iZ ((fe ns op).drop 0) []),(aM _ WB).alloc bS _⟩;rw[<-afp.out];exact bD _ _
 case round=>
  obtain⟨k,l,_,hk,rfl,rfl,hlk,hown,HF,hbr⟩:=hrel;obtain⟨b0,b1,bl⟩:=TH _ hbr;have sY:=VP.trans (hbr.mono VP.size);have FN:=ub _ sY;have ab6:=hbr.size;by_cases hlt:k<m
  ·obtain⟨i,n,hop,hni,xQ,_⟩:=Gp HO k (by have:=HM.out;omega);have hst:=HF;rw[xQ]at hst;simp only[iZ]at hst;refine pd hst hop hni hown hbr λvL V5 HNI tY Ps=>?_;clear hop hni xQ hst hown HF;go_wp2_with fail;refine FN.mono ?_;rintro _ w1 ⟨rfl,hb1⟩;have afr:=hbr.trans (hb1.mono ab6);obtain⟨d0,d1,dl⟩:=TH _ afr;have afn:=ZF w1 (VP.trans (afr.mono VP.size)) k i n V5 HNI;have DU:Hid _:=hb1;clear afr hb1 FN b0 b1 hbr;go_wp2_with fail;refine afn.mono ?_;rintro _ w2 ⟨rfl,hb2⟩;have xO:bg wr w2:=DU.trans (hb2.mono DU.size);have hW3:bg wr (w2.alloc (gG n)):=xO.alloc xO.size (gG n);have hnb:(w2.alloc (gG n)).heap[w2.heap.size]?=some (gG n):=bD _ _;have hnw:=ET (w2.alloc (gG n)) u5 l n.region WB.heap.size (bE tY hW3) (by omega);refine bY hW3 hnb λHW3 Xv=>?_;clear hb2 xO hW3 hnb afn d0 d1;by_cases h12:n.form=12
   ·have q12:((n.form:Int)==12)=true:=cL (x:=12) h12;have hst:=vL;rw[ah h12]at hst;have afo:Hid _:=hst;clear hst vL h12;obtain⟨x,hx⟩:=ez (pX l n.region);rw[<-hx]at hnw afo;obtain⟨y,hy⟩:=ez (x.getD LO);rw[<-hy]at hnw;unfold dK at hnw;unfold gG DS at hnw;clear hx hy;go_wp2_with fail;refine hnw.mono ?_;rintro _ w4 ⟨rfl,hb4⟩;have afs:w4.heap[w2.heap.size]?=some (gG n):=by rw[hb4.block _ (by simp)];exact Xv
    obtain⟨d0,d1,d2,d3,d4,d5,d6,d7,d8,d9⟩:=cD afs;have xP:=aG afs;have hW4:bg wr w4:=HW3.trans (hb4.mono HW3.size);have HW4:Hid _:=hW4;clear hb4 afs hnw hW4;cases x with
    |some z=>
     have HA:Hid (ans=(l,7,n.at_)):=(show ans=_ by rw[La.out,afo.out];rfl);have IU:Hid (bg WB (w4.alloc (gG y))):=by
      have:=Ps.trans (HW4.mono ab6);exact this.alloc this.size _
     have HO4:Hid ((w4.alloc (gG y)).ownsRow WB.heap.size 160 10 u5 l.length (l.flatMap xd)):=(bE tY HW4).alloc _;go_wp2;go_quiet (fail);go_wp2;refine au (v:=.tuple #[u5,.int .i64 7,.int .i64 n.at_]) (by simp[results,results88,go_sem]) rfl ⟨u5,by rw[HA.out];rfl,?_,?_⟩
     ·rw[HA.out];exact eA HO4 (λk hk=>by have:=afp.out;have:=(cA HO4 k hk).1;omega)
     ·exact (VP.trans (IU.mono VP.size)).trans ⟨rfl,rfl,rfl,bS,λ_ _=>rfl⟩
    |none=>
     have HN:Hid (iZ (fe ns op) []=iZ ((fe ns op).drop (k+1)) (l++[n])):=(show _=_ by rw[afo.out];rfl);have HW5:Hid (bg WB ((w4.alloc (gG y)).alloc (gG n))):=by
      have:=Ps.trans (HW4.mono ab6);have h2:=this.alloc this.size (gG y);exact h2.alloc h2.size _
     have RI:Hid (((w4.alloc (gG y)).alloc (gG n)).ownsRow WB.heap.size 160 10 u5 l.length (l.flatMap xd)):=((bE tY HW4).alloc _).alloc _;have h45:(w4.alloc (gG y)).heap.size=w4.heap.size+1:=by simp
     have Pk:Hid (∀(j:Nat)(u:Value),(xd n)[j]?=some u->((w4.alloc (gG y)).alloc (gG n)).cell? ((⟨w4.heap.size+1,0,none⟩:Addr).add j)=some u):=by
      intro j u hj;have hq:=dQ (w4.alloc (gG y)) (xd n) 160 j;rw[h45]at hq;rw[<-hj,<-hq];rfl
     unfold gG DS at RI Pk HW5;clear h45;go_wp2_with (at_builtin;go_must (refine dG _ rfl (.tmp 34) (.tmp 36) 57 rfl WB.heap.size 160 i0 _ 10 88 Cn HI y8 za ze rfl (by decide) u5 l.length (l.flatMap xd) rfl RI ⟨w4.heap.size+1,0,none⟩ 1 1 (xd n) rfl rfl Pk (RF n) ?c3 ?c4 ?c5 ?_))
     case c3=>unfold maxLen;omega
     case c4=>omega
     case c5=>have:=HW4.out.size;first|omega|(simp;omega)
     intro v' w6 hown' hgrow hnil;have Qd:Hid (bg WB w6):=(HW5).grown hgrow HW5.size (λb hb=>(cA RI b hb).1);have RL:Hid (w6.ownsRow WB.heap.size 160 10 v' (l++[n]).length ((l++[n]).flatMap xd)):=by
      show w6.ownsRow WB.heap.size 160 10 v' (l++[n]).length ((l++[n]).flatMap xd);rw[aj,kH];simpa using hown'
     clear hown' hgrow hnil;go_wp2;go_roundw
     case rel=>exact⟨k+1,l++[n],_,by omega,by go_num,rfl,by simp;omega,RL.out,HN.out,Qd.out⟩
     case measure=>simp[intOf];omega
   ·have q12:((n.form:Int)==12)=false:=aJ (x:=12) h12;have hst:=vL.out;rw[ag h12]at hst;have afo:Hid _:=hst;have GZ:Hid (bg WB (w2.alloc (gG n))):=Ps.out.trans (HW3.out.mono ab6);have AZ:Hid ((w2.alloc (gG n)).ownsRow WB.heap.size 160 10 u5 l.length (l.flatMap xd)):=bE tY.out HW3.out;unfold gG DS at GZ AZ;clear hst vL h12 hnw;go_wp2;go_roundw
    case rel=>exact⟨k+1,l,_,by omega,by go_num,rfl,by omega,AZ.out,afo.out,GZ.out⟩
    case measure=>simp[intOf];omega
  ·have HA:Hid (ans=(l,0,0)):=by
    have M7:(fe ns op).drop k=[]:=bF (by rw[pO];have:=HO.out.1;have:=HM.out;omega);rw[La.out,HF.out,M7];exact rfl
   refine bY hbr hown λPs tY=>?_;clear hbr hown;go_wp2_with fail;refine FN.mono ?_;rintro _ w1 ⟨rfl,hb1⟩;refine bY (VP.out.trans ((Ps.out.trans (hb1.mono ab6)).mono VP.out.size)) (bE tY.out hb1) λDU MB=>?_;clear hb1 FN;go_wp2;refine au (v:=.tuple #[u5,.int .i64 0,.int .i64 0]) (by simp[results,results88,go_sem]) rfl ⟨u5,by rw[HA.out];rfl,?_,DU.out⟩;rw[HA.out];exact eA MB.out (λk hk=>by have:=afp.out;have:=(cA MB.out k hk).1;omega)
def rX(l:List NR):List NR->Nat×Nat
 |[]=>(0,0)
 | n::r=>if n.form=4 then (match pX l n.region with
   |some o=>if n.at_<o.at_\/o.dH<=n.at_ then (8,n.at_) else rX l r
   |none=>rX l r) else rX l r
theorem Jt(w)(nv ov vv)(f)(g)(l)(K:Nat)(h:ew w nv ov f g)(ho:CA f g)(hl:f.length<=9000)(L:w.ownsRow K 160 10 vv l.length (l.flatMap xd))(X:l.length<=9000):Calls prog 89 #[cG nv ov,vv] w λv F=>v=.returned (.tuple #[.int .i64 (rX l (fe f g)).1,.int .i64 (rX l (fe f g)).2])/\bg w F:=by
 have q:=λ(F:World)(M:bg w F)=>mY F nv ov f g (h.below M);have e:=λ(F:World)(M:bg w F)(k i:Nat)(n:NR)(hk:g[k]?=some (i:Int))(hi:f[i]?=some n)=>tF F nv ov f g (h.below M) k i n hk hi hl (by rw[ho.1];omega);have N:=λ(F:World)(M:bg w F)(rg:Int)=>ET F vv l rg K (bE L M) X;obtain⟨a0,s,e0⟩:=cm h.nd;obtain⟨a1,t,e1⟩:=cm h.op;rw[ho.1]at e1;obtain⟨m,hm⟩:=ez f.length;rw[<-hm]at e0 e1 hl;subst e0;subst e1;refine bY ho hm λHO HM=>?_;unfold cG at q e;unfold cG;unfold dK at e;rw[<-hm]at q;refine fw q e N λY Z adz=>?_;obtain⟨u,A⟩:=ez (rX l (fe f g));rw[<-A];have B:Hid _:=A;clear q e N ho h hm A L X;have Lb:bg w (w.alloc (.cells #[.slice a0 m s,.slice a1 m t] 59)):=(aM _ w).alloc bS _;have a:Hid _:=Lb;clear Lb;go_in;go_wp2;obtain⟨WB,P⟩:=ez (w.alloc (.cells #[.slice a0 m s,.slice a1 m t] 59));have O:Hid (∀wr,bg WB wr->cg wr w.heap.size 0 (.slice a0 m s)/\cg wr w.heap.size 1 (.slice a1 m t)/\w.heap.size<wr.heap.size):=by
  intro wr M;rw[P]at M;exact jb M
 rw[<-P]at a⊢;clear P;go_loopw [6,7,8,9] (λi _ _ _ wr=>∃(k:Nat),k<=m/\i=.int .i64 k/\Hid (rX l (fe f g)=rX l ((fe f g).drop k))/\bg WB wr) (λi _ _ _ _=>m-(intOf i).toNat)
 case atStart=>exact⟨0,ld,rfl,(rfl:rX l (fe f g)=rX l ((fe f g).drop 0)),fp⟩
 case round=>
  obtain⟨k,hk,rfl,HF,j⟩:=hrel;obtain⟨b0,b1,bl⟩:=O _ j;have sY:=a.trans (j.mono a.size);have G:=Y _ sY;have o:=j.size;by_cases hlt:k<m
  ·obtain⟨i,n,hop,hni,xQ,_⟩:=Gp HO k (by have:=HM.out;omega);have d:=HF;rw[xQ]at d;simp only[rX]at d;refine fT d hop hni j λH V5 HNI C=>?_;clear hop hni xQ d HF;go_wp2_with fail;refine G.mono ?_;rintro _ w1 ⟨rfl,r⟩;have D:=j.trans (r.mono o);obtain⟨d0,d1,dl⟩:=O _ D;have e:=Z w1 (a.trans (D.mono a.size)) k i n V5 HNI;have I:Hid _:=r;clear D r G b0 b1 j;go_wp2_with fail;refine e.mono ?_;rintro _ Q ⟨rfl,hb2⟩;have R:bg wr Q:=I.trans (hb2.mono I.size);have S:bg wr (Q.alloc (gG n)):=R.alloc R.size (gG n);have hnb:(Q.alloc (gG n)).heap[Q.heap.size]?=some (gG n):=bD _ _;have p:=adz (Q.alloc (gG n)) (a.trans ((C.trans (S.mono o)).mono a.size)) n.region;refine bY S hnb λT Xv=>?_;clear hb2 R S hnb e d0 d1;by_cases W:n.form=4
   ·have q4:((n.form:Int)==4)=true:=cL (x:=4) W;have d:=H;rw[ah W]at d;have c:Hid _:=d;clear d H W;obtain⟨x,hx⟩:=ez (pX l n.region);rw[<-hx]at p c;obtain⟨y,hy⟩:=ez (x.getD LO);rw[<-hy]at p;have HY:Hid _:=hy;unfold dK at p;unfold gG DS at p;clear hx hy;go_wp2_with fail;refine p.mono ?_;rintro _ w4 ⟨rfl,U⟩;have E:w4.heap[Q.heap.size]?=some (gG n):=by rw[U.block _ (by simp)];exact Xv
    obtain⟨d0,d1,d2,d3,d4,d5,d6,d7,d8,d9⟩:=cD E;have xP:=aG E;have V:bg wr w4:=T.trans (U.mono T.size);have HW4:Hid _:=V;have J:Hid (bg WB (w4.alloc (gG y))):=by
     have:=C.trans (V.mono o);exact this.alloc this.size _
    clear U E p V;cases x with
    |some z=>
     have hyz:y=z:=HY;subst hyz;clear HY;by_cases h1:n.at_<y.at_
     ·have HA:Hid (u=(8,n.at_)):=(show u=_ by rw[B.out,c.out];simp[h1]);have hz:(n.at_:Int)<(y.at_:Int):=by omega
      have hzd:decide ((n.at_:Int)<(y.at_:Int))=true:=by simpa using hz
      go_wp2;go_quiet (fail);go_wp2;refine au (v:=.tuple #[.int .i64 8,.int .i64 n.at_]) (by simp[results,results89,go_sem]) rfl ⟨by rw[HA.out];rfl,?_⟩;exact (a.trans (J.mono a.size)).trans ⟨rfl,rfl,rfl,bS,λ_ _=>rfl⟩
     ·have hz:¬(n.at_:Int)<(y.at_:Int):=by omega
      have hzd:decide ((n.at_:Int)<(y.at_:Int))=false:=by simpa using hz
      by_cases h2:y.dH<=n.at_
      ·have HA:Hid (u=(8,n.at_)):=(show u=_ by rw[B.out,c.out];simp[h2]);have hz2:(y.dH:Int)<=(n.at_:Int):=by omega
       go_wp2;go_quiet (fail);go_wp2;refine au (v:=.tuple #[.int .i64 8,.int .i64 n.at_]) (by simp[results,results89,go_sem]) rfl ⟨by rw[HA.out];rfl,?_⟩;exact (a.trans (J.mono a.size)).trans ⟨rfl,rfl,rfl,bS,λ_ _=>rfl⟩
      ·have HN:Hid (rX l (fe f g)=rX l ((fe f g).drop (k+1))):=(show _=_ by rw[c.out];simp[h1,h2]);have hz2:¬(y.dH:Int)<=(n.at_:Int):=by omega
       have ae0:decide ((y.dH:Int)<=(n.at_:Int))=false:=by simpa using hz2
       clear c;go_wp2;go_roundw
       case rel=>exact⟨k+1,by omega,by go_num,HN.out,J.out⟩
       case measure=>simp[intOf];omega
    |none=>
     have HN:Hid (rX l (fe f g)=rX l ((fe f g).drop (k+1))):=(show _=_ by rw[c.out]);go_wp2;go_roundw
     case rel=>exact⟨k+1,by omega,by go_num,HN.out,J.out⟩
     case measure=>simp[intOf];omega
   ·have q4:((n.form:Int)==4)=false:=aJ (x:=4) W;have d:=H;rw[ag W]at d;have c:Hid _:=d;have GZ:Hid (bg WB (Q.alloc (gG n))):=C.trans (T.mono o);unfold gG DS at GZ;clear d H W p;go_wp2;go_roundw
    case rel=>exact⟨k+1,by omega,by go_num,c.out,GZ.out⟩
    case measure=>simp[intOf];omega
  ·have HA:Hid (u=(0,0)):=by
    have M7:(fe f g).drop k=[]:=bF (by rw[pO];have:=HO.1;have:=HM.out;omega);rw[B.out,HF.out,M7];exact rfl
   have C:Hid _:=j;clear j;go_wp2_with fail;refine G.mono ?_;rintro _ w1 ⟨rfl,r⟩;have I:Hid _:=a.out.trans ((C.out.trans (r.mono o)).mono a.out.size);clear r G;go_wp2;refine au (v:=.tuple #[.int .i64 0,.int .i64 0]) (by simp[results,results89,go_sem]) rfl ⟨by rw[HA.out];rfl,I.out⟩
def oo(c:List TP):Nat->Nat->Int->Bool
 |0,_,_=>false
 |f+1,k,d=>if k=0\/c.length<k then false else (((lB c k).r:Int)==d)||oo c f (lB c k).a d||oo c f (lB c k).b d
def Low(c:List TP):Prop:=∀k,(lB c (k+1)).a<=k/\(lB c (k+1)).b<=k
theorem wH(cb o:Nat)(N)(c)(hl:c.length<=9000)(n:Low c)(d:Int):∀(f k:Nat),k<f->k<=10000->∀(w:World),w.cell? ⟨cb,o,none⟩=some N->w.ownsRow 0 212 4 N c.length (c.flatMap GX)->Calls prog 151 #[.pointer (some ⟨cb,o,none⟩),.int .i64 k,.int .i64 d] w λv q=>v=.returned (.bool (oo c f k d))/\bg w q:=by
 intro f
 induction f with
 |zero=>intro k V;omega
 |succ f O=>
  intro k W V w P s;show Calls _ _ #[Value.pointer (some ⟨cb,o,none⟩),_,_] w _;by_cases t:k=0\/c.length<k
  ·have e:oo c (f+1) k d=false:=by simp only[oo];rw[ah t]
   rw[e];obtain⟨a,G,rfl⟩:=cm s;generalize c.length=m at*;rcases t with t|t
   ·have X:k<1:=by omega
    go_in;go_wp2;go_ret;exact⟨rfl,fp⟩
   ·have h1:1<=k:=by omega
    go_in;go_wp2;go_ret;exact⟨rfl,fp⟩
  ·have h:∀(x:Nat),x<k->∀q,bg w q->Calls prog 151 #[.pointer (some ⟨cb,o,none⟩),.int .i64 x,.int .i64 d] q λv H=>v=.returned (.bool (oo c f x d))/\bg q H:=by
    intro x Y q Q;exact O x (by omega) (by omega) q (by rw[Q.cell (p:=⟨cb,o,none⟩) (aR _ _ P)];exact P) (bE s Q)
   have u:oo c (f+1) k d=((((lB c k).r:Int)==d)||oo c f (lB c k).a d||oo c f (lB c k).b d):=by simp only[oo];rw[ag t]
   obtain⟨g,G,rfl⟩:=gN s (by omega);obtain⟨j,rfl⟩:∃j,k=j+1:=⟨k-1,by omega⟩;have Z:j<c.length:=by omega
   obtain⟨p,I⟩:∃p,c[j]?=some p:=⟨c[j],aa Z⟩;have e:lB c (j+1)=p:=by unfold lB;rw[ag (by omega),fB,I];rfl
   have y:=n j;rw[e]at u y;obtain⟨c0,c1,c2,c3⟩:=CB s j p I;have hg:=(s.lt g rfl).2;have ej:((j+1:Nat):Int)=(j:Int)+1:=by omega
   have ej2:(j:Int)+1-1=(j:Int):=by omega
   have z:=h p.a (by omega);have A:=h p.b (by omega);obtain⟨ma,B⟩:=ez (oo c f p.a d);obtain⟨S,C⟩:=ez (oo c f p.b d);rw[<-B]at z u;rw[<-C]at A u;obtain⟨R,T⟩:=ez (oo c (f+1) (j+1) d);rw[<-T]at u⊢;generalize c.length=m at*;have i:bg w (w.alloc (.cells #[.int .i64 p.r,.int .i64 p.a,.int .i64 p.b,.int .i64 p.sz] 212)):=fp.alloc bS _;have J:Hid _:=u;clear s e I t h O n B C T u y;rw[ej];cases K:((p.r:Int)==d) with
   |true=>
    have D:Hid (R=true):=(show R=true by rw[J.out,K];rfl);go_in;go_wp2;go_ret;exact⟨by rw[D.out];first|done|rfl,i⟩
   |false=>
    go_in;go_wp2_with fail;refine (z _ i).mono ?_;rintro _ U ⟨rfl,E⟩;have F:U.heap[w.heap.size]?=some (.cells #[.int .i64 p.r,.int .i64 p.a,.int .i64 p.b,.int .i64 p.sz] 212 (0,0)):=by rw[E.block _ (by simp)];exact bD _ _
    have d2:cg U w.heap.size 2 (.int .i64 p.b):=dR F rfl;have hpl:=aG F;have l:=i.trans (E.mono i.size);cases ma with
    |true=>
     have D:R=true:=(show R=true by rw[J.out,K];rfl);go_wp2;go_ret;exact⟨by rw[D];first|done|rfl,l⟩
    |false=>
     have D:R=S:=(show R=S by rw[J.out,K];rfl);go_wp2_with fail;refine (A _ l).mono ?_;rintro _ w3 ⟨rfl,L⟩;have M:bg w w3:=l.trans (L.mono l.size);go_wp2;go_ret;exact⟨by rw[D];first|done|rfl,M⟩
theorem Gq(cb:Nat)(c)(a)(e:a.length<=9000)(b:Low a)(d:Int):∀(f k:Nat),k<f->k<=10000->∀(w:World),w.cell? ⟨cb,0,none⟩=some c->w.ownsRow 0 212 4 c a.length (a.flatMap GX)->Calls prog 151 #[ptr cb,.int .i64 k,.int .i64 d] w λv g=>v=.returned (.bool (oo a f k d))/\bg w g:=
 wH cb 0 c a e b d
def vfK(a:List TP)(K:List Nat)(n:NR):Nat:=
 if n.form=7\/n.form=11 then (if bt K n.p1=bt K n.p2 then 0 else 9)
 else if n.form=12 then (if oo a (a.length+1) (bt K n.p0) n.region=true then 10 else 0)
 else 0
theorem Gt(w)(cb:Nat)(x F)(c)(K)(n)(h:FU cb w x F c K)(z:Low c)(V:c.length<=9000)(J:K.length<=9000)(L:bt K n.p0<=c.length)(M:-10<=n.p0/\n.p0<=10000)(N:-10<=n.p1/\n.p1<=10000)(O:-10<=n.p2/\n.p2<=10000):Calls prog 122 #[dK n,ptr cb] w λv G=>v=.returned (.int .i64 (vfK c K n))/\bg w G:=by
 have f:bg w (w.alloc (gG n)):=fp.alloc bS _;have d:=h.below f;have g:=qA (w.alloc (gG n)) cb x F c K n.p0 d J M;have i:=qA (w.alloc (gG n)) cb x F c K n.p1 d J N;have j:=qA (w.alloc (gG n)) cb x F c K n.p2 d J O;have q:=aG d.y;have A:=λ(G:World)(Q:Below (w.alloc (gG n)).heap.size (w.alloc (gG n)) G)=>Gq cb x c V z n.region (c.length+1) (bt K n.p0) (by omega) (by omega) G (by rw[Q.cell (p:=⟨cb,0,none⟩) q,aI d.y];rfl) (bE d.p Q);have a:Hid (vfK c K n=if n.form=7\/n.form=11 then (if bt K n.p1=bt K n.p2 then 0 else 9)
  else if n.form=12 then (if oo c (c.length+1) (bt K n.p0) n.region=true then 10 else 0) else 0):=rfl
 obtain⟨R,S⟩:=ez (vfK c K n);rw[<-S]at a⊢;obtain⟨T,B⟩:=ez (oo c (c.length+1) (bt K n.p0) n.region);rw[<-B]at a A;clear S h d B;unfold ptr at g i j A;unfold dK;unfold gG DS at g i j A f;have r:Hid _:=A;have U:cb<w.heap.size+1:=by simpa using q
 clear A L q;generalize bt K n.p0=Z at*;generalize bt K n.p1=H at*;generalize bt K n.p2=I at*;show Calls _ _ #[_,Value.pointer (some ⟨cb,0,none⟩)] w _;by_cases s:n.form=7\/n.form=11
 ·have t:Hid (R=if H=I then 0 else 9):=(show R=_ by rw[a.out,ah s]);have u:((n.form:Int)==7)=true\/(((n.form:Int)==7)=false/\((n.form:Int)==11)=true):=by
   rcases s with h|h
   ·exact .inl (cL (x:=7) h)
   ·exact .inr ⟨aJ (x:=7) (by omega),cL (x:=11) h⟩
  clear a s r;by_cases C:H=I
  ·have W:((H:Int)==(I:Int))=true:=by rw[C];simp
   have o:Hid (R=0):=by rw[t.out,ah C];exact rfl
   clear C t;rcases u with u|⟨u,D⟩
   all_goals
    go_in;go_wp2_with fail;refine ay g ?_;rintro _ _ ⟨rfl,rfl⟩;go_wp2_with fail;refine ay i ?_;rintro _ _ ⟨rfl,rfl⟩;go_wp2_with fail;refine ay j ?_;rintro _ _ ⟨rfl,rfl⟩;go_wp2;go_ret;exact⟨by rw[o.out];first|done|rfl,f⟩
  ·have W:((H:Int)==(I:Int))=false:=by rw[aH];omega
   have o:Hid (R=9):=by rw[t.out,ag C];exact rfl
   clear C t;rcases u with u|⟨u,D⟩
   all_goals
    go_in;go_wp2_with fail;refine ay g ?_;rintro _ _ ⟨rfl,rfl⟩;go_wp2_with fail;refine ay i ?_;rintro _ _ ⟨rfl,rfl⟩;go_wp2_with fail;refine ay j ?_;rintro _ _ ⟨rfl,rfl⟩;go_wp2;go_ret;exact⟨by rw[o.out];first|done|rfl,f⟩
 ·have u:((n.form:Int)==7)=false:=aJ (x:=7) (by omega);have D:((n.form:Int)==11)=false:=aJ (x:=11) (by omega);by_cases l:n.form=12
  ·have P:=cL (x:=12) l;have t:Hid (R=if T=true then 10 else 0):=(show R=_ by rw[a.out,ag s,ah l]);clear a s l;go_in;go_wp2_with fail;refine ay g ?_;rintro _ _ ⟨rfl,rfl⟩;go_wp2_with fail;refine ay i ?_;rintro _ _ ⟨rfl,rfl⟩;go_wp2_with fail;refine ay j ?_;rintro _ _ ⟨rfl,rfl⟩;go_wp2;go_region_with (go_at_call 151;refine (r _ ?_).mono ?_;exact⟨rfl,rfl,rfl,bS,λ_ _=>rfl⟩;rintro e X ⟨rfl,m⟩)
   all_goals
    have E:Hid (bg w X):=f.trans (⟨m.os,m.tape,m.output,m.size,λk Y=>m.block k (by have h2:k<w.heap.size:=Y;simp[World.drew]at*;omega)⟩);clear m;cases T with
    |true=>
     have o:Hid (R=10):=(show R=10 by rw[t.out];rfl);go_wp2;go_ret;exact⟨by rw[o.out];first|done|rfl,E⟩
    |false=>
     have o:Hid (R=0):=(show R=0 by rw[t.out];rfl);go_wp2;go_ret;exact⟨by rw[o.out];first|done|rfl,E⟩
  ·have P:=aJ (x:=12) l;have o:Hid (R=0):=(show R=0 by rw[a.out,ag s,ag l]);clear a s l r;go_in;go_wp2_with fail;refine ay g ?_;rintro _ _ ⟨rfl,rfl⟩;go_wp2_with fail;refine ay i ?_;rintro _ _ ⟨rfl,rfl⟩;go_wp2_with fail;refine ay j ?_;rintro _ _ ⟨rfl,rfl⟩;go_wp2;go_ret;exact⟨by rw[o.out];first|done|rfl,f⟩
def D3:Ty->Ty
 |.n=>.n
 |.p _ a _=>a
def D4:Ty->Ty
 |.n=>.n
 |.p _ _ b=>b
def iz(T:List Ty)(n:NR):Ty:=
 if n.form=2 then aP T n.source
 else if n.form=12 then aP T n.p0
 else if n.form=3 then aP T n.p1
 else if n.form=7 then aP T n.p1
 else if n.form=11 then aP T n.p1
 else if n.form=4 then .p n.region.toNat (aP T n.p0) (aP T n.p1)
 else if n.form=5 then D3 (aP T n.p0)
 else if n.form=6 then D4 (aP T n.p0)
 else .n
theorem Tl(t):(D3 t).size<=t.size:=by cases t<;>simp[D3,Ty.size];omega
theorem Tm(t):(D4 t).size<=t.size:=by cases t<;>simp[D4,Ty.size];omega
theorem Tn(h:Rel z v y u)(n)(w:n.form=4->(Ty.p 0 (aP u n.p0) (aP u n.p1)).size<=63):∃g,Rel (nI z y n n.region.toNat).2 g (y++[(nI z y n n.region.toNat).1]) (u++[iz u n]):=by
 obtain⟨f,x,A⟩:=h.known n.p0;obtain⟨c,j,l⟩:=h.known n.p1;obtain⟨B,C,E⟩:=h.known n.source;have push:∀k,k<=z.length->(jm v k).size<=63->∃g,Rel z g (y++[k]) (u++[jm v k]):=λk m w=>⟨v,h.push k m w⟩;have F:=push 0 ld (by simp[jm,Ty.size]);have G:=Tl (aP u n.p0);have H:=Tm (aP u n.p0);have part:D3 (aP u n.p0)=jm v (lB z (bt y n.p0)).a/\D4 (aP u n.p0)=jm v (lB z (bt y n.p0)).b/\(lB z (bt y n.p0)).a<=z.length/\(lB z (bt y n.p0)).b<=z.length:=by
  by_cases m:bt y n.p0=0
  ·rw[f,m];refine⟨rfl,rfl,?_,?_⟩<;>simp[lB]
  ·obtain⟨p,L,I,M,N,J⟩:=h.pair (bt y n.p0) m x;rw[f,I,J];exact⟨rfl,rfl,by omega,by omega⟩
 unfold nI iz;by_cases o:n.form=2
 ·rw[ah o,ah o,B];exact push _ C (by rw[<-B];exact E)
 rw[ag o,ag o];by_cases d:n.form=12
 ·rw[ah d,ah d,f];exact push _ x (by rw[<-f];exact A)
 rw[ag d,ag d];by_cases q:n.form=3
 ·rw[ah q,ah q,c];exact push _ j (by rw[<-c];exact l)
 rw[ag q,ag q];by_cases r:n.form=7
 ·rw[ah r,ah r,c];exact push _ j (by rw[<-c];exact l)
 rw[ag r,ag r];by_cases e:n.form=11
 ·rw[ah e,ah e,c];exact push _ j (by rw[<-c];exact l)
 rw[ag e,ag e];by_cases i:n.form=4
 ·rw[ah i,ah i];obtain⟨g,h1,h2,h3,_⟩:=h.Xt n.region.toNat (bt y n.p0) (bt y n.p1) x j (by rw[<-f];exact A) (by rw[<-c];exact l);refine⟨g,?_⟩;have:=h1.push _ h3 (by rw[h2,<-f,<-c];simpa [Ty.size] using (w i));rw[h2,<-f,<-c]at this;exact this
 rw[ag i,ag i];by_cases s:n.form=5
 ·rw[ah s,ah s,part.1];exact push _ part.2.2.1 (by rw[<-part.1];omega)
 rw[ag s,ag s];by_cases t:n.form=6
 ·rw[ah t,ah t,part.2.1];exact push _ part.2.2.2 (by rw[<-part.2.1];omega)
 rw[ag t,ag t];exact F
theorem abD(r:Nat)(a b)(c:Int):(Ty.p r a b).has c=(((r:Int)==c)||a.has c||b.has c):=by
 unfold Ty.has;simp[Ty.pM,Bool.or_assoc]
theorem Bj{d}{D}{K}{T}(h:Rel d D K T)(c:Int):∀(f k:Nat),k<f->k<=d.length->oo d f k c=(jm D k).has c
 |0,k,h1,_=>by omega
 |f+1,k,h1,h2=>by
  simp only[oo];by_cases e:k=0
  ·rw[ah (.inl e),e];rfl
  ·rw[ag (by omega)];obtain⟨p,j,g,l,m,i⟩:=h.pair k e h2;rw[i,g,abD,Bj h c f p.a (by omega) (by omega),Bj h c f p.b (by omega) (by omega)]
theorem Rel.low(h:Rel z v y u):Low z:=by
 intro k;by_cases b:k<z.length
 ·obtain⟨p,c,d,e,f,a⟩:=h.pair (k+1) (by omega) (by omega);rw[a];omega
 ·unfold lB;rw[ag (by omega),bH (by omega)];exact⟨ld,ld⟩
def DE(T:List Ty)(n:NR):Nat:=
 if n.form=7\/n.form=11 then (if aP T n.p1=aP T n.p2 then 0 else 9)
 else if n.form=12 then (if (aP T n.p0).has n.region=true then 10 else 0)
 else 0
theorem ZG(h:Rel z v y u)(n):vfK z y n=DE u n:=by
 obtain⟨b,c,i⟩:=h.known n.p0;obtain⟨d,e,j⟩:=h.known n.p1;obtain⟨f,g,k⟩:=h.known n.p2;unfold vfK DE;have a:aP u n.p1=aP u n.p2↔bt y n.p1=bt y n.p2:=by rw[d,f];exact h.YV e g
 rw[Bj h n.region _ _ (by omega) c,<-b];simp[a]
def DF:List Ty->List NR->Nat×Nat
 |_,[]=>(0,0)
 |T,n::r=>if DE (T++[iz T n]) n≠0 then (DE (T++[iz T n]) n,n.at_) else DF (T++[iz T n]) r
def oV:List Ty->List NR->Prop
 |_,[]=>True
 |T,n::r=>(n.form=4->(Ty.p 0 (aP T n.p0) (aP T n.p1)).size<=63)/\oV (T++[iz T n]) r
def eE:List Ty->List NR->List Ty
 |T,[]=>T
 |T,n::r=>eE (T++[iz T n]) r
theorem zV:∀(a b:List NR)(T:List Ty),eE T (a++b)=eE (eE T a) b
 |[],_,_=>rfl
 |n::r,b,T=>by simp[eE];exact zV r b _
theorem C6:∀(a b:List NR)(T:List Ty),oV T a->oV (eE T a) b->oV T (a++b)
 |[],_,_,_,h=>h
 |n::r,b,T,h,c=>by
  exact⟨h.1,C6 r b _ h.2 c⟩
theorem Gu:∀(a b:List NR)(T:List Ty),DF T (a++b)=if (DF T a).1≠0 then DF T a else DF (eE T a) b
 |[],_,_=>by simp[DF,eE]
 |n::r,b,T=>by
  have c:DF T (n::(r++b))=if DE (T++[iz T n]) n≠0 then (DE (T++[iz T n]) n,n.at_) else DF (T++[iz T n]) (r++b):=rfl
  have d:DF T (n::r)=if DE (T++[iz T n]) n≠0 then (DE (T++[iz T n]) n,n.at_) else DF (T++[iz T n]) r:=rfl
  by_cases h:DE (T++[iz T n]) n≠0
  ·rw[ah h]at c d;rw[aS,c,d,ah h]
  ·rw[ag h]at c d;rw[aS,c,d,Gu r b];rfl
