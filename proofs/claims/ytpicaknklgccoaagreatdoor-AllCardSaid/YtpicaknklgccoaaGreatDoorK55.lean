import Derived.Test.YtpicaknklgccoaaGreatDoorK53
import Derived.Test.YtpicaknklgccoaaGreatDoorK54
set_option maxHeartbeats 16000000
set_option maxRecDepth 100000
namespace Go.Proofs.YtpicaknklgccoaaGreatDoor
open Tryz
open Go.RowKit
variable {w c M:Nat}{a P T:List NR}{b O:List Ty}{d:PT}{x:List (List Nat)}{y:List Nat}{z:NR}{u:Ty}{K L:List Int}{N:List Value}{Y Q:World}{R:Int}{I G:List (PT × Nat × Nat)}{B:dc}
def mn(T:List Ty)(b:List NR)(a:NR)(c:Nat):List Int:=(List.range c).map λr=>ju T r (jo T r b 0 a.dH a.at_).1 (jo T r b 0 a.dH a.at_).2 b 0
theorem Ds(T)(b)(a)(c:Nat):mn T b a (c+1)=mn T b a c++[ju T c (jo T c b 0 a.dH a.at_).1 (jo T c b 0 a.dH a.at_).2 b 0]:=by
 unfold mn;rw[gZ,bz];rfl
theorem JM(w)(x1)(n1 c1:Nat)(x2)(n2 c2:Nat)(a)(op)(hT:ew w (.slice x1 n1 c1) (.slice x2 n2 c2) a op)(hl:a.length<=9000)(FZ:∀n∈a,n.small)(x)(h0:a[a.length-1]?=some x)(rv)(o)(S:w.ownsRow 0 3 1 rv o.length (mi o))(hrl:o.length=a.length)(c:Nat)(hc:c<=9000)(f)(h2:∀(k:Nat) n r,a[k]?=some n->o[k]?=some r->f.drop k=ox n r::f.drop (k+1)/\(n.form=4->0<=r))(h2l:f.length=a.length)(hsz:oV [] f):Calls prog 66 #[cG (.slice x1 n1 c1) (.slice x2 n2 c2),rv,.int .i64 c] w λe t=>∃av,e=.returned av/\t.ownsRow w.heap.size 3 1 av c (mi (mn (eE [] f) a x c))/\bg w t:=by
 obtain⟨i0,hi,hz0,hz1,hz2⟩:=cI iJ;refine fT hi hz0 hz1 hz2 λHI y8 za ze=>?_;have H:=λ(t:World)(z:bg w t)=>mY t _ _ a op (hT.below z);have I:=λ(t:World)(z:bg w t)(k:Nat)(n:NR)(hk:a[k]?=some n)=>kS t _ _ a op (hT.below z) k n hk hl;obtain⟨m,hm⟩:=ez a.length;have hm1:1<=m:=by have:=(ae.1 h0).1;omega
 rw[<-hm]at hrl H h2l;rw[hrl]at S;obtain⟨rg,afd,adV⟩:=gN S (by omega);subst adV;have Zt:rg<w.heap.size:=(S.lt rg rfl).2;have hrc:∀(k:Nat)(r:Int),o[k]?=some r->w.cell? ⟨rg,k,none⟩=some (.int .i64 r):=λk r hk=>by
  rw[S.cellAt k (by have:=(ae.1 hk).1;omega)];unfold mi;rw[aC,hk];rfl
 have hTB:=λ(t:World)(z:bg w t)=>hT.below z;refine xW hm hrc hrl hTB FZ h2 h2l hsz h0 λHM HRC VS Lc Nc HH2 H2L HSZ HH0=>?_;unfold cG at H I;unfold dK at I;refine bY H I λub K9=>?_;have hl9:m<=9000:=by omega
 clear hi hz0 hz1 hz2 H I hm hrl S hrc hT hTB FZ h2 h2l hsz h0;obtain⟨l,U⟩:=ez (w.alloc (.cells #[.slice x1 n1 c1,.slice x2 n2 c2] 59));have V:Hid (bg w l):=(show bg w l by rw[U];exact bV fp _);have TH:Hid (∀wr,bg l wr->wr.cell? ⟨w.heap.size,0,none⟩=some (.slice x1 n1 c1)/\wr.cell? ⟨w.heap.size,1,none⟩=some (.slice x2 n2 c2)/\w.heap.size<wr.heap.size):=by
  intro wr z;rw[U]at z;exact jb z
 have HC0:Hid (lM l.heap.size 2 #[.slice x1 n1 c1,.slice x2 n2 c2,.slice none 0 0,.slice none 0 0] 191 (l.alloc (.cells #[.slice x1 n1 c1,.slice x2 n2 c2,.slice none 0 0,.slice none 0 0] 191)) (.slice none 0 0) (.slice none 0 0) [] []):=⟨bD _ _,rfl,rfl,wD,wD,by simp[Value.ownBlock],by simp[Value.ownBlock],λg hg=>by simp[Value.ownBlock]at hg⟩;have RY:w.heap.size<=l.heap.size:=V.size;have HWB:Hid _:=U;have HWS:Hid (w.heap.size+1=l.heap.size):=(show w.heap.size+1=l.heap.size by rw[U];simp);clear U;unfold cG;go_in;go_wp2;rw[<-HWB.out,HWS.out];go_loopw [8,9] (λi _ wr=>∃(k:Nat)(pv tv:Value)(R:List TP)(D:List Ty)(K:List Nat)(T:List Ty),k<=m/\i=.int .i64 k/\lM l.heap.size 2 #[.slice x1 n1 c1,.slice x2 n2 c2,pv,tv] 191 wr pv tv R K/\Rel R D K T/\K.length=k/\R.length<=k/\Hid (eE [] f=eE T (f.drop k))/\oV T (f.drop k)/\bg l wr/\l.heap.size<wr.heap.size/\(∀g,pv.ownBlock=some g->l.heap.size<=g)/\(∀g,tv.ownBlock=some g->l.heap.size<=g)) (λi _ _=>m-(intOf i).toNat)
 case atStart=>exact⟨0,_,_,[],[],[],[],ld,rfl,HC0.out,R9,rfl,bS,(rfl:eE [] f=eE [] (f.drop 0)),HSZ.out,(aM _ l).alloc bS _,by simp,by simp[Value.ownBlock],by simp[Value.ownBlock]⟩
 case round=>
  obtain⟨k,pv,tv,R,D,K,T,hk,rfl,hC,q,K8,htl,HF,O,C,hbs,pq,Nd⟩:=hrel;have J:bg w wr:=V.trans (C.mono RY);obtain⟨b0,b1,bl⟩:=TH _ C;have FN:=ub wr J;have UF:=C.size;by_cases hlt:k<m
  ·have hkl:k<a.length:=by have:=HM.out;omega
   obtain⟨n,hn⟩:∃n,a[k]?=some n:=⟨a[k],aa hkl⟩;obtain⟨r,hr⟩:∃r,o[k]?=some r:=⟨o[k]'(by have:=VS.out;omega),aa _⟩;obtain⟨xQ,hr4⟩:=HH2 k n r hn hr;have d:=Nc n (aq hn);have E:=HF;rw[xQ]at E O;simp only[eE]at E;simp only[oV]at O;obtain⟨D',W⟩:=Tn q (ox n r) O.1;have Y:Rel (nI R K n r.toNat).2 D' (K++[(nI R K n r.toNat).1]) (T++[iz T (ox n r)]):=W;have hok:YU R K n:=⟨by omega,by omega,λi=>by have:=(q.known i).2.1;omega,λj=>by have:=q.M8 j;omega,⟨by have:=d.1;omega,by have:=d.1;omega⟩,⟨by have:=d.2.1;omega,by have:=d.2.1;omega⟩,⟨by have:=d.2.2.1;omega,by have:=d.2.2.1;omega⟩,⟨by have:=d.2.2.2;omega,by have:=d.2.2.2;omega⟩⟩;have TG:(nI R K n r.toNat).2.length<=k+1:=by
    have hpl:=sG R r.toNat (bt K n.p0) (bt K n.p1);unfold nI
    repeat' split
    all_goals first|(simp only;omega)|omega
   have hadd:=λ(t:World)(z:bg wr t)=>CC t l.heap.size 2 _ _ pv tv R K n r r.toNat (λh=>by have:=hr4 h;omega) (hC.below z) hok;have Z:∀t,bg w t->t.cell? ⟨rg,k,none⟩=some (.int .i64 r):=λt z=>by rw[z.cell (p:=⟨rg,k,none⟩) Zt];exact HRC k r hr
   refine xW hadd Z E O.2 Y hn C hC pq λVO HCR vL ZH adW HN P HC Xj=>?_;refine fw Nd K8 TG λadX HKL HTL=>?_;unfold dK at VO;clear hn hr xQ hr4 d E O W Y hok TG hadd Z HF hC q K8 htl C pq Nd hkl J;generalize nI R K n r.toNat=X at*;generalize T++[iz T (ox n r)]=T' at*;go_wp2_with fail;refine FN.mono ?_;rintro _ A ⟨rfl,F⟩;have s:=P.trans (F.mono UF);clear b0 b1 bl;obtain⟨b0,b1,bl⟩:=TH _ s;have hno:=K9 A (V.trans (s.mono RY)) k n HN;have DU:Hid _:=F;clear F s FN;go_wp2_with fail;refine hno.mono ?_;rintro _ w2 ⟨rfl,hb2⟩;have xO:bg wr w2:=DU.trans (hb2.mono DU.size);have J7:=xO.alloc xO.size (gG n);have Z:=HCR _ (V.trans ((P.trans (J7.mono UF)).mono RY));have hnb:=bD w2 (gG n);obtain⟨d0,d1,d2,d3,d4,d5,d6,d7,d8,d9⟩:=cD hnb;have xP:=aG hnb;obtain⟨W3,hW3⟩:=ez (w2.alloc (gG n));have afe:rg<W3.heap.size:=by rw[hW3];have:=xO.size;have:=P.size;simp;omega
   rw[<-hW3]at J7 Z hnb xP d0 d1 d2 d3 d4 d5 d6 d7 d8 d9;refine bY J7 hW3 λQB HW3=>?_;unfold gG DS at HW3;clear hb2 xO J7 hno b0 b1 bl hnb hW3;go_upto_region 6 with fail;rw[<-HW3.out]
   go_region_law (refine qB rfl 95 #[.pointer (some ⟨l.heap.size,2,none⟩),.agg #[.int .i64 n.form,.int .i64 n.at_,.int .i64 n.dH,.int .i64 n.num,.string (bs n.word),.int .i64 n.region,.int .i64 n.source,.int .i64 n.p0,.int .i64 n.p1,.int .i64 n.p2],.int .i64 r] ?_ ?_
                  ·go_simp
                  refine ay (VO _ ?_) ?_
                  ·repeat (first|with_reducible exact QB.out|with_reducible refine l6 ?_|with_reducible refine gD ?_)
                  rintro e w4 ⟨rfl,pv4,Ym,LG,YZ⟩;refine⟨_,rfl,?_⟩)
   all_goals
    have Py:bg l W3:=P.out.trans (QB.out.mono UF);have ab1:l.heap.size<=W3.heap.size:=Py.size;obtain⟨g1,g2,g3⟩:=LG.toBelow (B:=l.heap.size) (w0:=l) (by repeat (first|with_reducible exact Py|with_reducible refine l6 ?_|with_reducible refine gD ?_)) bS (by exact ab1) Xj.out adX.out;have YY:=LG.size;have adY:l.heap.size<w4.heap.size:=by have:=aG YZ.y;exact this
    have HC4:Hid (lM l.heap.size 2 #[.slice x1 n1 c1,.slice x2 n2 c2,pv4,Ym] 191 w4 pv4 Ym X.2 (K++[X.1])):=YZ;refine fw g1 g2 g3 λOw HG2 YX=>?_;clear LG YZ g1 g2 g3 Py Z d0 d1 d2 d3 d4 d5 d6 d7 d8 d9 xP YY;go_wp2;go_roundw
    case rel=>exact⟨k+1,pv4,Ym,X.2,D',_,T',by omega,by go_num,HC4.out,adW.out,by simp[HKL.out],HTL.out,vL.out,ZH.out,Ow.out,adY,HG2.out,YX.out⟩
    case measure=>simp[intOf];omega
  ·have HTT:Hid (eE [] f=T):=by
    have hd:f.drop k=[]:=bF (by have:=H2L.out;omega);have E:=HF.out;rw[hd]at E;exact E
   refine fw hC q C λHC ab8 P=>?_;have Wv:=J;clear hC q HF O C pq Nd;go_wp2_with fail;refine FN.mono ?_;rintro _ A ⟨rfl,F⟩;have s:bg l A:=P.out.trans (F.mono UF);have hC1:=HC.out.below F;have L:bg w A:=V.out.trans (s.mono RY);have rA:=Lc.out A L;have hab:∀wx,bg A wx->∀r:Nat,Calls prog 108 #[.pointer (some ⟨l.heap.size,0,none⟩),.int .i64 r] wx λv t=>v=.returned (.int .i64 (ju T r (jo T r a 0 x.dH x.at_).1 (jo T r a 0 x.dH x.at_).2 a 0))/\bg wx t:=λwx z r=>Qp l.heap.size wx x1 n1 c1 x2 n2 c2 pv tv R K a op D T ⟨hC1.below z,rA.below z⟩ ab8.out (by omega) (by omega) (by have:=HM.out;omega) r x HH0.out;refine bY hab L λHAB V7=>?_;have adZ:=L.size;clear F s hC1 rA hab L FN b0 b1 bl J HC ab8 K8 htl Wv;go_wp2;go_loopw [10,11,12] (λv10 i _ wx=>∃(j:Nat),j<=c/\i=.int .i64 j/\wx.ownsRow A.heap.size 3 1 v10 j (mi (mn T a x j))/\bg A wx) (λ_ i _ _=>c-(intOf i).toNat)
   case atStart=>
    refine⟨0,ld,rfl,⟨rfl,aE ⟨A.heap.size,0,#[],rfl,bS,?_,bS,by unfold maxLen;omega,rfl,rfl⟩⟩,(aM _ A).alloc bS _⟩;exact bD _ _
   case round=>
    obtain⟨j,hj,rfl,M,Q⟩:=hrel;have hxs:=Q.size;by_cases Fx:j<c
    ·have hac:=HAB.out _ Q j;have hsn:=Ds T a x j;generalize ju T j (jo T j a 0 x.dH x.at_).1 (jo T j a 0 x.dH x.at_).2 a 0=RG at*;refine fw hsn M Q λJ3 N ZZ=>?_;clear hsn M Q;go_wp2_with fail;refine hac.mono ?_;rintro _ w5 ⟨rfl,GY⟩;have hB5:bg A w5:=ZZ.out.trans (GY.mono hxs);have Qd:Hid (bg A (w5.alloc (.cells #[.int .i64 RG] 3))):=hB5.alloc hB5.size _;have RL:Hid ((w5.alloc (.cells #[.int .i64 RG] 3)).ownsRow A.heap.size 3 1 u10 j (mi (mn T a x j))):=bE (bE N.out GY) (bV fp _);have Pk:Hid (∀(i:Nat)(u:Value),([.int .i64 RG]:List Value)[i]?=some u->(w5.alloc (.cells #[.int .i64 RG] 3)).cell? ((⟨w5.heap.size,0,none⟩:Addr).add i)=some u):=by
      intro i u hi;have hq:=dQ w5 [.int .i64 RG] 3 i;rw[<-hi,<-hq];first|done|rfl
     have GU:Hid (∀u∈([.int .i64 RG]:List Value),u.oneCell'=true):=by intro v hv;simp only[ax]at hv;subst hv;rfl
     have U5:=hB5.size;clear hac GY hB5;go_wp2_with (at_builtin;go_must (refine dG _ rfl (.tmp 45) (.tmp 47) 42 rfl A.heap.size 3 i0 _ 1 8 gM HI.out y8.out za.out ze.out rfl (by decide) u10 j (mi (mn T a x j)) rfl RL.out ⟨w5.heap.size,0,none⟩ 1 1 [.int .i64 RG] rfl rfl Pk.out GU.out ?c3 ?c4 ?c5 ?_))
     case c3=>unfold maxLen;omega
     case c4=>omega
     case c5=>first|omega|(simp;omega)
     intro v' w7 G hgrow hnil;have Pm:Hid (bg A w7):=(Qd.out).grown hgrow Qd.out.size (λb z=>(cA RL.out b z).1);have ZQ:Hid (w7.ownsRow A.heap.size 3 1 v' (j+1) (mi (mn T a x (j+1)))):=by
      show w7.ownsRow A.heap.size 3 1 v' (j+1) (mi (mn T a x (j+1)));rw[J3.out];unfold mi at G⊢;rw[bz];exact G
     clear G hgrow hnil;go_wp2;go_roundw
     case rel=>exact⟨j+1,by omega,by go_num,ZQ.out,Pm.out⟩
     case measure=>simp[intOf];omega
    ·have hjc:j=c:=by omega
     subst hjc;refine bY M Q λN ZZ=>?_;clear M Q;go_wp2;go_ret;refine⟨_,rfl,?_,V7.out.trans (ZZ.out.mono adZ)⟩;rw[HTT.out];exact eA N.out (λk hk=>by have:=(cA N.out k hk).1;omega)
theorem GA(w)(i)(j l:Nat)(o)(p q:Nat)(a)(J)(hT:ew w (.slice i j l) (.slice o p q) a J)(ho:CA a J)(hl:a.length<=9000)(K:∀n∈a,n.small)(s)(h0:a[a.length-1]?=some s)(hB:s.dH<=9000)(X:∀n∈a,n.at_<s.dH)(Y:oV [] (a.map atR))(E c)(hE:E=xH [] (List.range s.dH) a)(L:c=dY E (fe a J))(b)(h2:∀(k:Nat) n r,a[k]?=some n->(jP E c a)[k]?=some r->b.drop k=ox n r::b.drop (k+1)/\(n.form=4->0<=r))(Z:b.length=a.length)(M:oV [] b):Calls prog 35 #[cG (.slice i j l) (.slice o p q)] w λe w'=>∃y m1 z A m2 B,e=.returned (.agg #[.slice y m1 z,.slice A m2 B])/\CX w' ⟨.slice y m1 z,.slice A m2 B,jP E c a,mn (eE [] b) a s c.length⟩/\bg w w':=by
 have N:(jP E c a).length=a.length:=by unfold jP;rw[aO]
 have xP:(mn (eE [] b) a s c.length).length=c.length:=by unfold mn;rw[aO,di]
 have hfl:c.length<=9000:=by have:=vf E (fe a J);rw[pO,ho.1]at this;rw[L];omega
 have O:=λ(W:World)(hb:bg w W)=>D9 W i j l o p q a J (hT.below hb) ho hl K s h0 hB X Y E c hE L;have P:=λ(W:World)(hb:bg w W)(Q:Value)(C:W.ownsRow 0 3 1 Q (jP E c a).length (mi (jP E c a)))=>JM W i j l o p q a J (hT.below hb) hl K s h0 Q (jP E c a) C N c.length hfl b h2 Z M;unfold cG at O P;unfold cG;generalize mn (eE [] b) a s c.length=news at*;generalize jP E c a=u at*;generalize c.length=T at*;generalize a.length=m at*;obtain⟨U,t⟩:=ez ((w.alloc (.cells #[.slice i j l,.slice o p q] 59)).alloc (.cells #[.slice none 0 0,.slice none 0 0] 73));have f:bg w U:=by rw[t];exact bV (bV fp _) _
 have R:U.heap[w.heap.size]?=some (.cells #[.slice i j l,.slice o p q] 59 (0,0)):=by
  rw[t,(bV (aM (w.alloc (.cells #[.slice i j l,.slice o p q] 59)).heap.size (w.alloc (.cells #[.slice i j l,.slice o p q] 59))) (.cells #[.slice none 0 0,.slice none 0 0] 73)).block _ (by simp)];exact bD _ _
 have D:U.heap[w.heap.size+1]?=some (.cells #[.slice none 0 0,.slice none 0 0] 73 (0,0)):=by
  have:=bD (w.alloc (.cells #[.slice i j l,.slice o p q] 59)) (.cells #[.slice none 0 0,.slice none 0 0] 73 (0,0));rw[t];simpa using this
 have W6:=aG D;go_in;go_wp2_with fail;rw[<-t];refine ay (O U f) ?_;rintro _ V ⟨Q,rfl,F,g⟩;have G:=(g.block _ (aG R)).trans R;have a0:cg V w.heap.size 0 (.slice i j l):=dR G rfl;have a1:cg V w.heap.size 1 (.slice o p q):=dR G rfl;have al:=aG G;have x:V.ownsRow 0 3 1 Q u.length (mi u):=by rw[N];exact eA F (λ_ _=>ld)
 have hnc:=P V (f.trans (g.mono f.size)) Q x;obtain⟨y,z,C⟩:=cm F;subst C;go_wp2_with fail;refine ay hnc ?_;rintro _ w2 ⟨av,rfl,H,I⟩;have OI:=bE x I;have S:=g.trans (I.mono g.size);have d:=(S.block _ (aG D)).trans D;have r0:cg w2 (w.heap.size+1) 0 (.slice none 0 0):=dR d rfl;have r1:cg w2 (w.heap.size+1) 1 (.slice none 0 0):=dR d rfl;have f0:=aK d 0;have f1:=aK d 1;have rl:=aG d;obtain⟨A,B,hav⟩:=cm H;subst hav;have xN:=f.trans (S.mono f.size);have VK:=I.size;have hW1:=g.size;go_wp2;obtain⟨WF,h⟩:=ez ((w2.setCell ⟨w.heap.size+1,0,none⟩ (.slice y m z)).setCell ⟨w.heap.size+1,1,none⟩ (.slice A T B));have hF:WF.heap[w.heap.size+1]?=some (.cells #[.slice y m z,.slice A T B] 73 (0,0)):=by rw[h];exact bu (bu d 0 _) 1 _
 have u0:cg WF (w.heap.size+1) 0 (.slice y m z):=dR hF rfl;have u1:cg WF (w.heap.size+1) 1 (.slice A T B):=dR hF rfl;rw[<-h];refine au (v:=.agg #[.slice y m z,.slice A T B]) (by simp[results,results35,go_sem,u0,u1]) rfl ⟨_,_,_,_,_,_,rfl,⟨?_,?_⟩,?_⟩
 ·rw[h];refine bO OI (λk G=>?_);have h1:=(cA F k G).1;rw[cX _ _ (by simp only;omega),cX _ _ (by simp only;omega)]
 ·rw[h];simp only;rw[xP];refine bO (eA H (b:=0) (λ_ _=>ld)) (λk G=>?_);have h1:=(cA H k G).1;rw[cX _ _ (by simp only;omega),cX _ _ (by simp only;omega)]
 ·rw[h];exact xN.trans (gV (gV fp (by omega)) (by omega))
open Go.Lib (decDigits)
structure Z3(regs news:List Int)(ns:List NR)(T2:List Ty): Prop where
 ty:∀i n,ns[i]?=some n->aP T2 (i:Nat)=iz T2 (ox n (rU regs i))
 pr:LyT regs ns
 one:∀(i:Nat) n,ns[i]?=some n->n.form=7\/n.form=11->aP T2 n.p1=aP T2 n.p2
 nw:∀r i:Nat,news[r]?=some (i:Int)->(aP T2 i).has r=false
theorem at_root{b}{n}(h:a=P++((T++[n])++b)):a[P.length+T.length]?=some n:=by
 rw[h];exact tI P _ b T.length n (by rw[aw bS,cx];rfl)
theorem gW(b c:Nat):(((b+(1+c):Nat):Int)-1)=((b+c:Nat):Int):=by omega
theorem fM{p:Int}(h:p<b.length):aP (b++O) p=aP b p:=by
 unfold aP;split
 ·rw[ak (by omega)]
 ·rfl
theorem vZ:∀(a:List NR)(T:List Ty),∃X,eE T a=T++X/\X.length=a.length
 |[],T=>⟨[],by simp[eE],rfl⟩
 |n::r,T=>by
  obtain⟨X,h1,h2⟩:=vZ r (T++[iz T n]);exact⟨iz T n::X,by simp only[eE,h1,aB,cQ],by simp[h2]⟩
def oG(k:Nat)(n:NR):Prop:=n.p0<k/\n.p1<k/\n.p2<k/\n.source<k
theorem Ww{n}(h:oG b.length n):iz (b++O) n=iz b n:=by
 unfold iz;rw[fM h.1,fM h.2.1,fM h.2.2.2]
theorem Bq:∀(a:List NR)(T:List Ty),(∀(i:Nat) n,a[i]?=some n->oG (T.length+i) n)->∀(i:Nat) n,a[i]?=some n->aP (eE T a) ((T.length+i:Nat):Int)=iz (eE T a) n
 |[],_,_,i,n,h=>by simp at h
 |m::r,T,c,i,n,h=>by
  simp only[eE];cases i with
  |zero=>
   simp only[aL,ai]at h;subst h;obtain⟨X,h1,_⟩:=vZ r (T++[iz T m]);have b:oG T.length m:=by simpa using c 0 m (by simp)
   rw[h1,aB,Ww b];unfold aP;rw[ah (by omega),bL,az,aw bS,cx];rfl
  |succ j=>
   have:=Bq r (T++[iz T m]) (λk x d=>by have:=c (k+1) x (by simpa using d);rw[aj,bG];rwa [show T.length+1+k=T.length+(k+1) by omega]) j n (by simpa using h);rw[aj,bG,show T.length+1+j=T.length+(j+1) by omega]at this;exact this
theorem Ab:∀(b:List NR)(T:List Ty),(∀(i:Nat) n,b[i]?=some n->oG (T.length+i) n)->(∀(i:Nat) n,b[i]?=some n->n.form=7\/n.form=11->(aP (eE T b) n.p1).bare=(aP (eE T b) n.p2).bare)->Dm T b
 |[],_,_,_=>trivial
 |m::r,T,d,e=>by
  obtain⟨X,h1,_⟩:=vZ r (T++[iz T m]);have a:oG T.length m:=by simpa using d 0 m (by simp)
  refine⟨λf=>?_,Ab r _ (λk x c=>?_) (λk x c=>?_)⟩
  ·have:=e 0 m (by simp) f;simp[eE]at this;rw[h1,aB,fM a.2.1,fM a.2.2.1]at this;rw[fM a.2.1,fM a.2.2.1];exact this
  ·have:=d (k+1) x (by simpa using c);rw[aj,bG,show T.length+1+k=T.length+(k+1) by omega];exact this
  ·have:=e (k+1) x (by simpa using c);simp[eE]at this;exact this
theorem GD(c):∀(b:List NR)(T:List Ty),(∀(i:Nat) n,b[i]?=some n->oG (T.length+i) n)->Qm c T b->∀(i:Nat) n,b[i]?=some n->n.form=7\/n.form=11->fH c (aP (eE T b) n.p1)=fH c (aP (eE T b) n.p2)
 |[],_,_,_,i,n,h=>by simp at h
 |m::r,T,d,e,i,n,h=>by
  obtain⟨X,h1,_⟩:=vZ r (T++[iz T m]);have a:oG T.length m:=by simpa using d 0 m (by simp)
  simp[eE];cases i with
  |zero=>
   simp only[aL,ai]at h;subst h;intro f;have:=e.1 f;rw[fM a.2.1,fM a.2.2.1]at this;rw[h1,aB,fM a.2.1,fM a.2.2.1];exact this
  |succ j=>
   exact GD c r _ (λk x g=>by have:=d (k+1) x (by simpa using g);rw[aj,bG,show T.length+1+k=T.length+(k+1) by omega];exact this) e.2 j n (by simpa using h)
theorem GF:∀(a:List NR)(T:List Ty),(∀(i:Nat) n,a[i]?=some n->oG (T.length+i) n)->(∀(i:Nat) n,a[i]?=some n->n.form=4->(Ty.p 0 (aP (eE T a) n.p0) (aP (eE T a) n.p1)).size<=63)->oV T a
 |[],_,_,_=>trivial
 |m::r,T,d,e=>by
  obtain⟨X,h1,_⟩:=vZ r (T++[iz T m]);have b:oG T.length m:=by simpa using d 0 m (by simp)
  refine⟨λf=>?_,GF r _ (λk x c=>?_) (λk x c=>?_)⟩
  ·have:=e 0 m (by simp) f;simp[eE]at this;rw[h1,aB,fM b.1,fM b.2.1]at this;exact this
  ·have:=d (k+1) x (by simpa using c);rw[aj,bG,show T.length+1+k=T.length+(k+1) by omega];exact this
  ·have:=e (k+1) x (by simpa using c);simp[eE]at this;exact this
def Wx(T:List Ty)(G:dc)(a:Sc):Prop:=∀s U,look G s=some U->∃i:Nat,gb a s=(i:Int)/\(aP T i).bare=U
theorem Wx.snoc{c}{nm}(h:Wx b B c)(d:0<=R)(f:(aP b R).bare=u):Wx b (B++[(nm,u)]) (c++[(nm,R)]):=λs V a=>by
 rw[Dp]at a;rw[qJ];by_cases e:nm=s
 ·rw[ah e]at a⊢;simp at a;subst a;exact⟨R.toNat,by omega,by rw[iR d];exact f⟩
 ·rw[ag e]at a⊢;exact h s V a
def vg(T:List Ty)(a:List NR)(b c:Nat):Prop:=∀(i:Nat) n,b<=i->i<c->a[i]?=some n->(n.form=7\/n.form=11->(aP T n.p1).bare=(aP T n.p2).bare)/\(n.form=4->(Ty.p 0 (aP T n.p0) (aP T n.p1)).size<=63)
theorem vg.join(h:vg b a w M)(g:vg b a M c):vg b a w c:=λi n h1 h2 d=>by
 by_cases e:i<M
 ·exact h i n h1 e d
 ·exact g i n (by omega) h2 d
theorem vg.root{n}(f:a[w]?=some n)(h1:n.form=7\/n.form=11->(aP b n.p1).bare=(aP b n.p2).bare)(h2:n.form=4->(Ty.p 0 (aP b n.p0) (aP b n.p1)).size<=63):vg b a w (w+1):=λi m c d e=>by
 have:i=w:=by omega
 subst this;rw[f]at e;simp at e;subst e;exact⟨h1,h2⟩
theorem GG(b:Nat)(t:PT):(0:Int)<=((b+t.cnt:Nat):Int)-1:=by have:=fj t;omega
theorem Dt{ρ:Nat->Int}(H:∀i n,a[i]?=some n->aP b (i:Nat)=iz b (ox n (ρ i))){e}(h:WT B e u):∀(C:Sc)(d:Nat)(q N m:List NR),NA C e d N->a=q++(N++m)->q.length=d->Wx b B C->(aP b (((d+e.cnt:Nat):Int)-1)).bare=u/\vg b a d (d+e.cnt):=by
 induction h with
 |@num B p s=>
  intro C d q N m w l S D;subst w;have Q:=at_root (T:=[]) l;rw[S]at Q;have x:=H _ _ Q;simp at Q x;simp only[PT.cnt,show (((d+1:Nat):Int)-1)=(d:Int) by omega];rw[x];exact⟨by simp[iz,ox,Ty.bare],vg.root Q (by simp) (by simp)⟩
 |@name B p s u hs=>
  intro C d q N m w l S D;subst w;have Q:=at_root (T:=[]) l;rw[S]at Q;have x:=H _ _ Q;simp at Q x;obtain⟨i,h1,h2⟩:=D _ _ hs;simp only[PT.cnt,show (((d+1:Nat):Int)-1)=(d:Int) by omega];rw[x];exact⟨by simp[iz,ox,h1,h2],vg.root Q (by simp) (by simp)⟩
 |@dV B p V W f d UA UB X S y J=>
  intro C bs q N m w l o D;obtain⟨Y,L,⟨F,Z,t,⟨K,c2,z,⟨_,rfl⟩,rfl⟩,rfl⟩,rfl⟩:=w;rw[aN]at l;have I:=NA.len t;have O:=NA.len z;have j:=at_root l;rw[o,aj,I,O]at j;have x:=H _ _ j;obtain⟨A,M⟩:=y C bs q F (K++([_]++m)) t (by rw[l];simp;rfl) o D;obtain⟨E,R⟩:=J _ (bs+f.cnt) (q++F) K ([_]++m) z (by rw[l];simp;rfl) (by rw[aj,o,I]) (D.snoc (GG bs f) A);simp only[PT.cnt,aU,az,gW];refine⟨?_,?_⟩
  ·rw[x];simp only[iz,ox,Dg,cz,bM,bB];simpa using E
  ·have:=(M.join R).join (vg.root (by rw[aY];exact j) (by simp[Dg]) (by simp[Dg]))
   rwa [show bs+f.cnt+d.cnt+1=bs+(1+(f.cnt+d.cnt)) by omega]at this
 |@pair B p V W f d UA UB X S hsz y J=>
  intro C bs q N m w l o D;obtain⟨Y,L,⟨F,Z,t,⟨K,c2,z,⟨_,rfl⟩,rfl⟩,rfl⟩,rfl⟩:=w;rw[aN]at l;have I:=NA.len t;have O:=NA.len z;have j:=at_root l;rw[o,aj,I,O]at j;have x:=H _ _ j;obtain⟨A,M⟩:=y C bs q F (K++([_]++m)) t (by rw[l];simp;rfl) o D;obtain⟨E,R⟩:=J C (bs+f.cnt) (q++F) K ([_]++m) z (by rw[l];simp;rfl) (by rw[aj,o,I]) D;simp only[PT.cnt,aU,az,gW];refine⟨?_,?_⟩
  ·rw[x];simp only[iz,ox,yN,cz,bM,bB];simp only[Nat.reduceEqDiff,aT,bT,Ty.bare,A,E]
  ·have hs2:(Ty.p 0 (aP b (((bs+f.cnt:Nat):Int)-1)) (aP b (((bs+f.cnt+d.cnt:Nat):Int)-1))).size<=63:=by
    rw[<-gq];simp only[Ty.bare,A,E];exact hsz
   have:=(M.join R).join (vg.root (by rw[aY];exact j) (by simp[yN]) (λ_=>by simpa only[cz,bM,bB] using hs2))
   rwa [show bs+f.cnt+d.cnt+1=bs+(1+(f.cnt+d.cnt)) by omega]at this
 |@fst B p V W f UA UB X y=>
  intro C bs q N m w l o D;obtain⟨Y,L,⟨F,Z,t,⟨_,rfl⟩,rfl⟩,rfl⟩:=w;rw[aN]at l;have I:=NA.len t;have j:=at_root l;rw[o,I]at j;have x:=H _ _ j;obtain⟨A,M⟩:=y C bs q F ([_]++m) t (by rw[l];simp;rfl) o D;simp only[PT.cnt,aU,az,gW];obtain⟨r,g,v,hp,hu,hv⟩:=qE A;refine⟨?_,?_⟩
  ·rw[x];simp only[iz,ox,Dh,cz,bM,bB];rw[hp];exact hu
  ·have:=M.join (vg.root j (by simp[Dh]) (by simp[Dh]))
   rwa [show bs+f.cnt+1=bs+(1+f.cnt) by omega]at this
 |@snd B p V W f UA UB X y=>
  intro C bs q N m w l o D;obtain⟨Y,L,⟨F,Z,t,⟨_,rfl⟩,rfl⟩,rfl⟩:=w;rw[aN]at l;have I:=NA.len t;have j:=at_root l;rw[o,I]at j;have x:=H _ _ j;obtain⟨A,M⟩:=y C bs q F ([_]++m) t (by rw[l];simp;rfl) o D;simp only[PT.cnt,aU,az,gW];obtain⟨r,g,v,hp,hu,hv⟩:=qE A;refine⟨?_,?_⟩
  ·rw[x];simp only[iz,ox,Di,cz,bM,bB];rw[hp];exact hv
  ·have:=M.join (vg.root j (by simp[Di]) (by simp[Di]))
   rwa [show bs+f.cnt+1=bs+(1+f.cnt) by omega]at this
 |@lv B p V W f d c u X S hc y J Zo=>
  intro C bs q N m w l o D;obtain⟨Y,L,⟨F,Z,t,⟨K,c2,z,⟨a3,c3,P,⟨_,rfl⟩,rfl⟩,rfl⟩,rfl⟩,rfl⟩:=w;rw[aN]at l;have I:=NA.len t;have O:=NA.len z;have lc:=NA.len P;have j:=at_root l;rw[o,aj,aj,I,O,lc]at j;have x:=H _ _ j;obtain⟨A,M⟩:=y C bs q F (K++(a3++([_]++m))) t (by rw[l];simp;rfl) o D;obtain⟨E,R⟩:=J C (bs+f.cnt) (q++F) K (a3++([_]++m)) z (by rw[l];simp;rfl) (by rw[aj,o,I]) D;obtain⟨hbc,oc⟩:=Zo C (bs+f.cnt+d.cnt) (q++F++K) a3 ([_]++m) P (by rw[l];simp;rfl) (by rw[aj,aj,o,I,O]) D;simp only[PT.cnt,aU,az,gW];refine⟨?_,?_⟩
  ·rw[x];simp only[iz,ox,EV,cz,bM,bB];simpa using E
  ·have:=((M.join R).join oc).join (vg.root (by rw[aY,aY];exact j) (λ_=>by simp only[cz,bM,bB];rw[E,hbc]) (by simp[EV]))
   rwa [show bs+f.cnt+d.cnt+c.cnt+1=bs+(1+(f.cnt+(d.cnt+c.cnt))) by omega]at this
 |@two B p k V W f d hkk X S y J=>
  intro C bs q N m w l o D;have hkb:j5 k=[false,false]:=by rcases hkk with rfl|rfl|rfl<;>rfl
  have hkf:dX k=8\/dX k=9\/dX k=10:=by rcases hkk with rfl|rfl|rfl<;>decide
  simp only[NA,hkb,j6,cH,aT]at w;obtain⟨Y,L,⟨F,Z,t,⟨K,c2,z,⟨_,rfl⟩,rfl⟩,rfl⟩,rfl⟩:=w;rw[aN]at l;have I:=NA.len t;have O:=NA.len z;have j:=at_root l;rw[o,aj,I,O]at j;have x:=H _ _ j;obtain⟨A,M⟩:=y C bs q F (K++([_]++m)) t (by rw[l];simp;rfl) o D;obtain⟨E,R⟩:=J C (bs+f.cnt) (q++F) K ([_]++m) z (by rw[l];simp;rfl) (by rw[aj,o,I]) D;simp only[PT.cnt,aU,az,gW];refine⟨?_,?_⟩
  ·rw[x];simp[iz,ox];rcases hkf with h|h|h<;>simp[h,Ty.bare]
  ·have:=(M.join R).join (vg.root (by rw[aY];exact j) (λh=>by simp only at h;omega) (λh=>by simp only at h;omega))
   rwa [show bs+f.cnt+d.cnt+1=bs+(1+(f.cnt+d.cnt)) by omega]at this
 |@loop B p V W f d c u X S hc y J Zo=>
  intro C bs q N m w l o D;obtain⟨Y,L,⟨F,Z,t,⟨K,c2,z,⟨a3,c3,P,⟨_,rfl⟩,rfl⟩,rfl⟩,rfl⟩,rfl⟩:=w;rw[aN]at l;have I:=NA.len t;have O:=NA.len z;have j:=at_root l;rw[o,aj,aj,I,O,NA.len P]at j;have x:=H _ _ j;obtain⟨A,M⟩:=y C bs q F (K++(a3++([_]++m))) t (by rw[l];simp;rfl) o D;obtain⟨E,R⟩:=J C (bs+f.cnt) (q++F) K (a3++([_]++m)) z (by rw[l];simp;rfl) (by rw[aj,o,I]) D;obtain⟨hbc,oc⟩:=Zo _ (bs+f.cnt+d.cnt) (q++F++K) a3 ([_]++m) P (by rw[l];simp;rfl) (by rw[aj,aj,o,I,O]) (D.snoc (GG (bs+f.cnt) d) E);simp only[PT.cnt,aU,az,gW];refine⟨?_,?_⟩
  ·rw[x];simp only[iz,ox,vV,cz,bM,bB];simpa using E
  ·have:=((M.join R).join oc).join (vg.root (by rw[aY,aY];exact j) (λ_=>by simp only[cz,bM,bB];rw[E,hbc]) (by simp[vV]))
   rwa [show bs+f.cnt+d.cnt+c.cnt+1=bs+(1+(f.cnt+(d.cnt+c.cnt))) by omega]at this
 |@new B p V W f u X y=>
  intro C bs q N m w l o D;obtain⟨Y,L,⟨F,Z,t,⟨_,rfl⟩,rfl⟩,rfl⟩:=w;rw[aN]at l;have j:=at_root l;rw[o,NA.len t]at j;have hf:dX .new=12:=by decide
  obtain⟨A,M⟩:=y C bs q F ([_]++m) t (by rw[l];simp;rfl) o D;simp only[PT.cnt,aU,az,gW];refine⟨?_,?_⟩
  ·rw[H _ _ j];simp only[iz,ox,hf,cz,bB];simpa using A
  ·have:=M.join (vg.root j (by simp[hf]) (by simp[hf]))
   rwa [show bs+f.cnt+1=bs+(1+f.cnt) by omega]at this
theorem Ac(E a)(b)(i:Nat)(n)(h:b[i]?=some n):rU (jP E a b) i=if n.form=4 then ot a (cZ E n.at_) else -1:=by
 unfold rU jP;rw[aC,h];rfl
def rp(E a:List Nat)(b:List NR):List NR:=b.map (λn=>ox n (if n.form=4 then ot a (cZ E n.at_) else -1))
theorem E2(T)(c a b:Nat):∀(l:List NR)(k i:Nat),ju T c a b l k=(i:Int)->(aP T i).has c=false
 |[],_,i,h=>by simp only[ju]at h;omega
 |n::r,k,i,h=>by
  simp[ju]at h;split at h
  ·rename_i d;have:k=i:=by omega
   rw[<-this];exact d.2.2
  ·exact E2 T c a b r (k+1) i h
mutual
theorem NA.src:∀{e:Sc}{t:PT}{d:Nat}{i:List NR},NA e t d i->(∀x∈e,x.2<(d:Int))->∀(j:Nat)(n:NR),i[j]?=some n->n.source<((d+j:Nat):Int)
 |_,.num p s,d,i,h,_,j,n,f=>by
  simp only[NA]at h;subst h;have l:j=0:=by have:=(ae.1 f).1;simp at this;omega
  subst l;simp only[aL,ai]at f;subst f;simp only;omega
 |e,.name p s,d,i,h,m,j,n,f=>by
  simp only[NA]at h;subst h;have l:j=0:=by have:=(ae.1 f).1;simp at this;omega
  subst l;simp only[aL,ai]at f;subst f;simp only[az];unfold gb;split
  ·rename_i x g;exact m x (by have:=dU g;simpa using this)
  ·omega
 |e,.node p k o A u,d,i,h,m,j,n,f=>by
  simp only[NA]at h;obtain⟨v,w,h1,rfl⟩:=h;by_cases l:j<v.length
  ·rw[ak l]at f;exact j6.src h1 m j n f
  ·have q:j=v.length:=by have:=(ae.1 f).1;simp at this;omega
   rw[aw (by omega),q,cx]at f;simp only[aL,ai]at f;subst f;simp only;omega
theorem j6.src:∀{e:Sc}{o:List UInt8}{y:List PT}{bs:List Bool}{d:Nat}{i:List NR},j6 e o y bs d i->(∀x∈e,x.2<(d:Int))->∀(j:Nat)(n:NR),i[j]?=some n->n.source<((d+j:Nat):Int)
 |_,_,[],_,_,_,h,_,j,n,f=>by simp only[j6]at h;rw[h.2]at f;simp at f
 |_,_,_::_,[],_,_,h,_,_,_,_=>by simp[j6]at h
 |e,o,t::r,b::bs,d,i,h,m,j,n,f=>by
  simp only[j6]at h;obtain⟨a,c,h1,h2,rfl⟩:=h;have z:=NA.len h1;by_cases l:j<a.length
  ·rw[ak l]at f;refine NA.src h1 (λx g=>?_) j n f;cases b with
   |false=>exact m x (by simpa using g)
   |true=>
    simp only[bT,aA,ax]at g;rcases g with g|g
    ·exact m x g
    ·rw[g];simp only;omega
  ·rw[aw (by omega)]at f;have:=j6.src h2 (λx g=>by have:=m x g;omega) (j-a.length) n f;rw[z]at this l;rw[show d+t.cnt+(j-t.cnt)=d+j from by omega]at this;exact this
end
theorem NQ(h:NA [] d 0 a)(i:Nat)(n)(b:a[i]?=some n):oG i n:=by
 have h1:=h.back i n b;have h2:=h.src (λx c=>by simp at c) i n b;rw[bJ]at h1 h2;exact⟨h1.1,h1.2.1,h1.2.2,h2⟩
mutual
theorem NS:∀(t:PT)(a i:Nat),a<=i->i<a+t.cnt->(i:Int)∈opn t a
 |.num _ _,a,i,h1,h2=>by simp only[PT.cnt]at h2;simp only[opn,ax];omega
 |.name _ _,a,i,h1,h2=>by simp only[PT.cnt]at h2;simp only[opn,ax];omega
 |.node _ _ _ _ b,a,i,h1,h2=>by
  simp only[PT.cnt]at h2;simp only[opn,bf];by_cases h:i=a+aU b
  ·exact aD (by rw[h])
  ·exact aE (JN b a i h1 (by omega))
theorem JN:∀(c:List PT)(a i:Nat),a<=i->i<a+aU c->(i:Int)∈pF c a
 |[],a,i,h1,h2=>by simp only[aU]at h2;omega
 |t::r,a,i,h1,h2=>by
  simp only[aU]at h2;simp only[pF,aA];by_cases h:i<a+t.cnt
  ·exact aD (NS t a i h1 h)
  ·exact aE (JN r (a+t.cnt) i (by omega) (by omega))
end
def vh(P:Nat->Prop)(t:Ty):Prop:=∀r∈t.pM,P r
theorem vh.p{P}{b}(h:vh P (.p w u b)):P w/\vh P u/\vh P b:=
 ⟨h w (by simp[Ty.pM]),λx c=>h x (by simp[Ty.pM,c]),λx c=>h x (by simp[Ty.pM,c])⟩
def Du(P:Nat->Prop)(E:List Nat):Prop:=∀i,P i->P (cZ E i)
theorem Qr{P}(b:∀i,P i->i<y.length)(h:Du P y)(x a:Nat)(c:P x)(d:P a):Du P (oq y x a):=λi f=>by
 rw[sP y x a (b x c) (b a d)];unfold UE;split
 ·have h1:=h x c;rcases Nat.le_total (cZ y x) (cZ y a) with e|e
  ·rw[dL e];exact h1
  ·rw[iL e];exact h a d
 ·exact h i f
theorem xK{P}:∀(a b:Ty)(E:List Nat),(∀i,P i->i<E.length)->Du P E->vh P a->vh P b->Du P (gu E a b)
 |.n,_,_,_,h,_,_=>by simp[gu];exact h
 |.p _ _ _,.n,_,_,h,_,_=>by simp[gu];exact h
 |.p r a b,.p s c d,E,e,h,h1,h2=>by
  simp[gu];split
  ·exact h
  ·obtain⟨f,g,j⟩:=h1.p;obtain⟨k,l,m⟩:=h2.p;refine xK b d _ (by rw[fL,iG];exact e) (xK a c _ (by rw[iG];exact e) (Qr e h r s f k) g l) j m
theorem oX{P}(h:∀t∈b,vh P t)(i:Int):vh P (aP b i):=by
 unfold aP;split
 ·cases e:b[i.toNat]? with
  |none=>intro r a;simp[Ty.pM]at a
  |some t=>exact h t (aq e)
 ·intro r a;simp[Ty.pM]at a
theorem JO{P}(h:∀t∈b,vh P t)(m)(i:m.form=4->P m.region.toNat):vh P (iz b m):=by
 have f:=oX h m.p0;have h1:=oX h m.p1;have g:vh P .n:=λr d=>by simp[Ty.pM]at d
 unfold iz;split
 ·exact oX h m.source
 split
 ·exact f
 split
 ·exact h1
 split
 ·exact h1
 split
 ·exact h1
 split
 ·rename_i j;intro r d;simp[Ty.pM]at d;rcases d with d|d|d
  ·rw[d];exact i j
  ·exact f r d
  ·exact h1 r d
 split
 ·cases e:aP b m.p0 with
  |n=>exact g
  |p r a c=>rw[e]at f;exact f.p.2.1
 split
 ·cases e:aP b m.p0 with
  |n=>exact g
  |p r a c=>rw[e]at f;exact f.p.2.2
 ·exact g
theorem yP{P}:∀(f:List NR)(T:List Ty)(E:List Nat),(∀i,P i->i<E.length)->Du P E->(∀t∈T,vh P t)->(∀n∈f,n.form=4->P n.at_)->Du P (xH T E f)
 |[],_,_,_,h,_,_=>h
 |n::r,T,E,c,h,g,d=>by
  have b:∀t∈T++[iz T (atR n)],vh P t:=λt a=>by
   rcases aA.1 a with a|a
   ·exact g t a
   ·simp only[ax]at a;subst a;exact JO g _ (λj=>by simpa [atR] using d n (by simp) j)
  simp[xH];split
  ·exact yP r _ _ (by rw[fL];exact c) (xK _ _ E c h (oX b _) (oX b _)) b (λm e=>d m (by simp[e]))
  ·exact yP r _ _ c h b (λm e=>d m (by simp[e]))
theorem Ad(B i:Nat):cZ (List.range B) i=i:=by
 rw[mT];cases h:(List.range B)[i]? with
 |none=>rfl
 |some x=>
  have:=ae.1 h;obtain⟨_,h2⟩:=this;simp at h2;simp only;rw[ag (by omega)]
theorem TI(h:w∈y):∃i:Nat,ot y w=(i:Int)/\i<y.length:=by
 unfold ot;cases e:y.findIdx? (·==w) with
 |some i=>exact⟨i,rfl,(dC.1 e).1⟩
 |none=>
  rw[fS]at e;have:=e w h;simp at this
theorem NT{e}(h:NA [] e 0 a)(n)(c:n∈a):n∈fe a (opn e 0):=by
 obtain⟨i,b⟩:=cB c;have d:=(ae.1 b).1;have:=NS e 0 i ld (by have:=h.len;omega);unfold fe;rw[cM];exact⟨(i:Int),this,by rw[bL,b];rfl⟩
theorem Wy{e}(G:WT [] e u)(_hnn:gL e)(o:NA [] e 0 a)(H:∀n∈a,n.at_<z.dH)(hfs:(dY (xH [] (List.range z.dH) a) (fe a (opn e 0))).length<=1000):Z3 (jP (xH [] (List.range z.dH) a) (dY (xH [] (List.range z.dH) a) (fe a (opn e 0))) a) (mn (eE [] (rp (xH [] (List.range z.dH) a) (dY (xH [] (List.range z.dH) a) (fe a (opn e 0))) a)) a z (dY (xH [] (List.range z.dH) a) (fe a (opn e 0))).length) a (eE [] (rp (xH [] (List.range z.dH) a) (dY (xH [] (List.range z.dH) a) (fe a (opn e 0))) a))/\oV [] (a.map atR)/\oV [] (rp (xH [] (List.range z.dH) a) (dY (xH [] (List.range z.dH) a) (fe a (opn e 0))) a):=by
 have I:=λi n d=>NQ o i n d;have A:∀(i:Nat) n,(a.map atR)[i]?=some n->oG (([]:List Ty).length+i) n:=λi n d=>by
  rw[aC]at d;obtain⟨m,g,rfl⟩:=bU.1 d;simpa [oG,atR] using I i m g
 have C:∀i n,a[i]?=some n->aP (eE [] (a.map atR)) (i:Nat)=iz (eE [] (a.map atR)) (ox n (((a[i]?).map (λm=>(m.at_:Int))).getD 0)):=λi n d=>by
  have:=Bq (a.map atR) [] A i (atR n) (by rw[aC,d];rfl);rw[bn,bJ]at this;rw[this,d];rfl
 obtain⟨_,q⟩:=Dt (ρ:=λi=>((a[i]?).map (λm=>(m.at_:Int))).getD 0) C G [] 0 [] a [] o (by simp) rfl (λs u h=>by simp[look]at h);rw[bJ,<-o.len]at q;have J:Dm [] (a.map atR):=Ab _ _ A (λi n d F=>by
  rw[aC]at d;obtain⟨m,g,rfl⟩:=bU.1 d;exact (q i m ld (ae.1 g).1 g).1 F)
 have K:oV [] (a.map atR):=GF _ _ A (λi n d F=>by
  rw[aC]at d;obtain⟨m,g,rfl⟩:=bU.1 d;exact (q i m ld (ae.1 g).1 g).2 F)
 have L:=Bn a [] (List.range z.dH) (λt h=>by simp at h) (by rw[di];exact H) J;have D:Du (λx=>∃n∈a,n.form=4/\n.at_=x) (xH [] (List.range z.dH) a):=
  yP a [] (List.range z.dH) (λi ⟨n,d,_,he⟩=>by rw[di,<-he];exact H n d) (λi hi=>by rw[Ad];exact hi) (λt h=>by simp at h) (λn d y=>⟨n,d,y,rfl⟩)
 generalize xH [] (List.range z.dH) a=E at*;have M:∀n∈a,n.form=4->cZ E n.at_∈dY E (fe a (opn e 0)):=λn d y=>by
  obtain⟨m,g,m4,N⟩:=D n.at_ ⟨n,d,y,rfl⟩;unfold dY;rw[cM];refine⟨m,kF.2 ⟨NT o m g,?_⟩,N⟩;rw[N,rf];simp[m4]
 generalize dY E (fe a (opn e 0))=p at*;obtain⟨f,F⟩:∃f:Nat->Nat,f=λx=>(ot p (cZ E x)).toNat:=⟨_,rfl⟩;have Q:∀(l:List NR)(T:List Ty),eE (T.map (fH f)) (rp E p l)=(eE T (l.map atR)).map (fH f):=λl=>by
  induction l with
  |nil=>intro T;simp[rp,eE]
  |cons n r ih=>
   intro T;have e1:iz (T.map (fH f)) (ox n (if n.form=4 then ot p (cZ E n.at_) else -1))=fH f (iz T (atR n)):=NJ f T (atR n) _ rfl (λy=>by
    have R:n.form=4:=y;simp[ox,atR,ah R];rw[F])
   have O:=ih (T++[iz T (atR n)]);rw[bz,List.map_singleton,<-e1]at O;exact O
 have B:=Q a [];rw[eH]at B;have P:∀(i:Nat) n,(rp E p a)[i]?=some n->oG (([]:List Ty).length+i) n:=λi n d=>by
  unfold rp at d;rw[aC]at d;obtain⟨m,g,rfl⟩:=bU.1 d;simpa [oG,ox] using I i m g
 have S:LyT (jP E p a) a:=λi n d=>by
  rw[Ac E p a i n d];refine⟨λy=>?_,λy=>by rw[ag y]⟩;obtain⟨j,hj,hjl⟩:=TI (M n (aq d) y);rw[ah y,hj];omega
 have v:∀i n,a[i]?=some n->aP (eE [] (rp E p a)) (i:Nat)=iz (eE [] (rp E p a)) (ox n (rU (jP E p a) i)):=λi n d=>by
  have:=Bq (rp E p a) [] P i (ox n (if n.form=4 then ot p (cZ E n.at_) else -1)) (by unfold rp;rw[aC,d];rfl);rw[bn,bJ]at this;rw[this,Ac E p a i n d]
 refine⟨⟨v,S,λi n d V=>?_,λr i W=>?_⟩,K,?_⟩
 ·have h1:=GD (cZ E) (a.map atR) [] A L i (atR n) (by rw[aC,d];rfl) V;rw[B,oW,oW];have hc:mE (cZ E) f:=λc b X=>by rw[F];simp[X]
  exact hc.map _ _ h1
 ·unfold mn at W;rw[aC]at W;obtain⟨k,hk,Y⟩:=bU.1 W;have:k=r:=by
   have:=(ae.1 hk).2;simpa using this.symm
  subst this;exact E2 _ _ _ _ _ _ _ Y
 ·obtain⟨_,w⟩:=Dt (ρ:=λi=>rU (jP E p a) i) v G [] 0 [] a [] o (by simp) rfl (λs u h=>by simp[look]at h);rw[bJ,<-o.len]at w;exact GF _ _ P (λi n d Z=>by
   unfold rp at d;rw[aC]at d;obtain⟨m,g,rfl⟩:=bU.1 d;exact (w i m ld (ae.1 g).1 g).2 Z)
def lQ(a:List NR)(b:NR):List Nat:=xH [] (List.range b.dH) a
def rE(e:PT)(a:List NR)(b:NR):List Nat:=dY (lQ a b) (fe a (opn e 0))
def rZ(e:PT)(a:List NR)(b:NR):List Int:=jP (lQ a b) (rE e a b) a
def Qs(e:PT)(a:List NR)(b:NR):List Ty:=eE [] (rp (lQ a b) (rE e a b) a)
def xL(e:PT)(a:List NR)(b:NR):List Int:=mn (Qs e a b) a b (rE e a b).length
structure Nds(e:PT)(ns:List NR)(n0:NR): Prop where
 na:NA [] e 0 ns
 last:ns[ns.length-1]?=some n0
 dH:n0.dH<=3000
 at_:∀n∈ns,n.at_<n0.dH
 pos:∃lo hi,fo e ns lo hi
mutual
theorem fo.all:∀{t:PT}{d:List NR}{e f:Nat},fo t d e f->∀n∈d,e<=n.at_/\n.at_<f
 |.num p _,d,e,f,h,n,b=>by simp only[fo]at h;obtain⟨m,rfl,h1,h2,h3,g⟩:=h;simp only[ax]at b;subst b;omega
 |.name p _,d,e,f,h,n,b=>by simp only[fo]at h;obtain⟨m,rfl,h1,h2,h3,g⟩:=h;simp only[ax]at b;subst b;omega
 |.node p _ _ _ i,d,e,f,h,n,b=>by
  simp only[fo]at h;obtain⟨l,m,rfl,h1,h2,h3,g,o⟩:=h;rcases aA.1 b with b|b
  ·have:=eG.all h3 n b;omega
  ·simp only[ax]at b;subst b;omega
theorem eG.all:∀{j:List PT}{d:List NR}{e f:Nat},eG j d e f->∀n∈d,e<=n.at_/\n.at_<f
 |[],d,e,f,h,n,b=>by simp only[eG]at h;rw[h.1]at b;simp at b
 |t::r,d,e,f,h,n,b=>by
  simp only[eG]at h;obtain⟨a,c,k,rfl,h1,h2⟩:=h;have q:=h1.lt;have s:=h2.le;rcases aA.1 b with b|b
  ·have:=fo.all h1 n b;omega
  ·have:=eG.all h2 n b;omega
end
theorem sR(h:fo d a w c):∃f,a[a.length-1]?=some f/\f.dH<=c/\∀n∈a,n.at_<f.dH:=by
 cases d with
 |num p s=>simp[fo]at h;obtain⟨m,rfl,h1,h2,h3,e⟩:=h;exact⟨m,rfl,e,λn b=>by simp only[ax]at b;subst b;omega⟩
 |name p s=>simp[fo]at h;obtain⟨m,rfl,h1,h2,h3,e⟩:=h;exact⟨m,rfl,e,λn b=>by simp only[ax]at b;subst b;omega⟩
 |node p k j l g=>
  obtain⟨o,m,rfl,h1,h2,h3,e,i⟩:=h;refine⟨m,by simp,i,λn b=>?_⟩;rcases aA.1 b with b|b
  ·exact (h3.all n b).2
  ·simp only[ax]at b;subst b;omega
theorem Dv(E)(a):∀e:List Int,(dY E (fe a e)).length<=(e.filterMap (gf a)).length
 |[]=>by simp[fe,dY]
 |x::r=>by
  have b:=Dv E a r;unfold dY at b⊢;simp only[fe,bK]at b⊢;rw[eF,List.filterMap_cons];simp only[aO]at b⊢;cases h:a[x.toNat]? with
  |none=>
   have c:gf a x=none:=by unfold gf;rw[h]
   have d:(LO.form==4&&cZ E LO.at_==LO.at_)=false:=by simp[LO]
   rw[c,Option.getD_none,d];exact b
  |some n=>
   rw[dF];by_cases d:n.form=4
   ·have c:gf a x=some n.at_:=by unfold gf;rw[h];simp only;rw[ah d]
    rw[c];simp;split
    ·simp;omega
    ·omega
   ·have c:gf a x=none:=by unfold gf;rw[h];simp only;rw[ag d]
    have f:(n.form==4&&cZ E n.at_==n.at_)=false:=by simp[d]
    rw[c,f];exact b
theorem JP{e}(h:NA [] e 0 a):(rE e a z).length<=e.dn:=by
 have h1:=Dv (lQ a z) a (opn e 0);rw[zG a e [] 0 a h (λj _=>by rw[bJ]),aO,lj]at h1;exact h1
theorem Wz(a)(x:Nat):-1<=ot a x/\ot a x<=a.length:=by
 unfold ot;cases h:a.findIdx? (·==x) with
 |some i=>have:=(dC.1 h).1;simp only;omega
 |none=>simp only;omega
theorem NU(e)(a)(b)(d:(rE e a b).length<=100):(∀i,rU (rZ e a b) i<=9999)/\∀i,-1<=rU (rZ e a b) i:=by
 have c:∀i,-1<=rU (rZ e a b) i/\rU (rZ e a b) i<=100:=λi=>by
  unfold rU rZ jP;rw[aC];cases a[i]? with
  |none=>simp
  |some n=>
   simp;split
   ·have:=Wz (rE e a b) (cZ (lQ a b) n.at_);omega
   ·omega
 exact⟨λi=>by have:=c i;omega,λi=>(c i).1⟩
theorem Qt(E b)(a)(k:Nat)(n)(r:Int)(d:a[k]?=some n)(c:(jP E b a)[k]?=some r):(rp E b a).drop k=ox n r::(rp E b a).drop (k+1):=by
 have e:k<(rp E b a).length:=by unfold rp;rw[aO];exact (ae.1 d).1
 rw[aW e]
 congr 1
 have h1:=aa e;unfold rp jP at*;rw[aC,d]at h1 c;simp only[cf,ai]at h1 c;rw[<-h1,c]
theorem Ea (s) (hs:s.size<=3000) (e) (D:PE false (tokens s.data.toList) e []) (C:cK e=(0,0)):
  ∃a b,Nds e a b/\Z3 (rZ e a b) (xL e a b) a (Qs e a b)/\∀w,Lib.TabIs prog w "internal/strconv.uint64pow10" .u64 Lib.pow10Tab->Calls prog 16 #[.string s] w λv Z=>v=.returned (.tuple #[.string (bs (e.yI (rZ e a b) (xL e a b) 0)),.int .i64 (0:Nat)])/\bg w Z:=by
 obtain⟨a,c,K⟩:=uI (b:=s.size) D;have E:=C4 (x:=false) (w:=s.size) D (xD s.data.toList);rw[K]at E;obtain⟨b,m,aff,F⟩:=sR E;have hN:Nds e a b:=⟨c,m,by omega,F,_,_,E⟩;have L:=D.wf;have p:(cK e).1=0:=by rw[C]
 obtain⟨U,hwt,_⟩:=zN L p;obtain⟨⟨afg,hnn⟩,_⟩:=PE.plain D (iy _);have ab9:e.dn<=100:=by
  unfold cK at p;split at p
  ·simp at p
  ·omega
 have hfl:=JP (z:=b) c;have hL:Z3 (rZ e a b) (xL e a b) a (Qs e a b)/\oV [] (a.map atR)/\oV [] (rp (lQ a b) (rE e a b) a):=Wy hwt hnn c F (by show (rE e a b).length<=1000;omega);obtain⟨q,M,N⟩:=hL;refine⟨a,b,hN,q,λw O=>?_⟩;have yx:=gP D;have xP:=c.len;obtain⟨t,o⟩:=NU e a b (by omega);have P:(xL e a b).length<=150:=by unfold xL mn;rw[aO,di];omega
 have G:=λw=>yD s w hs e D;rw[C,K]at G;have Q:=λ(W:World)(d:Option Addr)(f g:Nat)(i:Option Addr)(j l:Nat)(hT:ew W (.slice d f g) (.slice i j l) a (opn e 0))=>GA W d f g i j l a (opn e 0) hT (EI c) (by omega) (c.small (λ_ h=>by simp at h) (by omega)) b m (by omega) F M (lQ a b) (rE e a b) rfl rfl (rp (lQ a b) (rE e a b) a) (λk n r hn hr=>⟨Qt _ _ a k n r hn hr,λh4=>by
  have h1:=(q.pr k n hn).1 h4;have h2:rU (rZ e a b) k=r:=by unfold rU rZ;rw[hr];rfl
  rw[h2]at h1;exact h1.1⟩) (by unfold rp;rw[aO]) N
 have R:=λ(W:World)(hb:bg w W)(d:Option Addr)(f g:Nat)(i:Option Addr)(j l:Nat)(u:Option Addr)(x y:Nat)(z:Option Addr)(A B:Nat)(hT:ew W (.slice d f g) (.slice i j l) a (opn e 0))(hL:CX W ⟨.slice u x y,.slice z A B,rZ e a b,xL e a b⟩)=>CY W u x y z A B (rZ e a b) (xL e a b) hL ⟨P,t⟩ o (by unfold rZ jP;rw[aO];omega) d f g i j l a (opn e 0) e hT (cC O W hb) c.LB ((D.eO (iy _)).1) L xP.symm (by omega);unfold cG at G Q R;have HPR:∀(W:World)(d:Option Addr)(f g:Nat)(i:Option Addr)(j l:Nat),ew W (.slice d f g) (.slice i j l) a (opn e 0)->Calls prog 35 #[.agg #[.slice d f g,.slice i j l]] W λv Z=>∃u x y z A B,v=.returned (.agg #[.slice u x y,.slice z A B])/\CX Z ⟨.slice u x y,.slice z A B,rZ e a b,xL e a b⟩/\bg W Z:=Q;generalize e.yI (rZ e a b) (xL e a b) 0=TX at*;generalize rZ e a b=regs at*;generalize xL e a b=news at*;go_in;go_wp2_with fail;refine ay (G _) ?_;rintro _ J ⟨d,f,g,i,j,l,ns',rfl,t,rA,_,hns⟩;have S:=hns.symm;subst S;have hA:bg w (J.alloc (.cells #[.slice d f g,.slice i j l] 59)):=t.alloc t.size _;have T:=rA.below (show bg J (J.alloc (.cells #[.slice d f g,.slice i j l] 59)) from fp.alloc bS _);have HK:=bD J (.cells #[.slice d f g,.slice i j l] 59 (0,0));go_wp2_with fail;refine ay (HPR _ d f g i j l T) ?_;rintro _ V ⟨u,x,y,z,A,B,rfl,q,o⟩;have X:=hA.trans (o.mono hA.size);have Y:bg V (V.alloc (.cells #[.slice u x y,.slice z A B] 73)):=fp.alloc bS _;have H:bg w (V.alloc (.cells #[.slice u x y,.slice z A B] 73)):=X.alloc X.size _;have I:=(o.block _ (aG HK)).trans HK;have a0:cg V J.heap.size 0 (.slice d f g):=dR I rfl;have a1:cg V J.heap.size 1 (.slice i j l):=dR I rfl;have al:=aG I;have an:=jx al;go_wp2_with fail;refine ay (R _ H d f g i j l u x y z A B ((T.below o).below Y) (q.below Y)) ?_;rintro _ w3 ⟨rfl,hb3⟩;have IU:=H.trans (hb3.mono H.size);go_wp2;refine au (v:=.tuple #[.string (bs TX),.int .i64 0]) (by simp[results,results16,go_sem]) rfl ⟨rfl,IU⟩
def GH(b:List Int)(c d:Nat):Nat:=(b.filter (λa=>decide ((c:Int)<=a)&&decide (a<(d:Int)))).length
theorem Dw(d)(h1:w<=M)(h2:M<=c):GH d w c=GH d w M+GH d M c:=by
 unfold GH
 induction d with
 |nil=>rfl
 |cons x r h=>
  simp only[eF];by_cases f:(w:Int)<=x
  ·by_cases g:x<(M:Int)
   ·have e:¬(M:Int)<=x:=by omega
    have j:x<(c:Int):=by omega
    simp only[f,g,e,j,mG,jc,Bool.and_self,nP,bT,cH,aT,aF];omega
   ·have e:(M:Int)<=x:=by omega
    by_cases i:x<(c:Int)
    ·simp only[f,g,e,i,mG,jc,Bool.and_self,Bool.and_false,bT,cH,aT,aF];omega
    ·simp only[f,g,e,i,mG,jc,Bool.and_false,cH,aT];exact h
  ·have e:¬(M:Int)<=x:=by omega
   simp only[f,e,jc,nP,cH,aT];exact h
theorem TJ(a)(i:Nat):GH a i (i+1)=yH a i:=by
 unfold GH yH
 congr 1
 apply List.filter_congr;intro x _;by_cases h:x=(i:Int)
 ·subst h;simp;omega
 ·have:(x==(i:Int))=false:=by rw[aH];exact h
  rw[this,jI];by_cases g:(i:Int)<=x
  ·right;simp;omega
  ·left;simp;omega
theorem WA(a)(b c:Nat):GH a b c<=a.length:=ij _ _
theorem TK(i:Int):∀(l:List Int)(r:Nat),r+l.length<=9999->(xR l r i).length<=11*yH l i
 |[],_,_=>by simp[xR]
 |a::l,r,h=>by
  simp at h;have h1:=TK i l (r+1) (by omega);have h2:=Nu r (by omega);unfold yH at h1⊢;simp only[xR,aj,eF];by_cases e:a=i
  ·have:(a==i)=true:=by simp[e]
   rw[ah e,this];simp only[bT,aF];omega
  ·have:(a==i)=false:=by rw[aH];exact e
   rw[ag e,this];simp only[bn,cH,aT];omega
theorem Mb(k)(c):∀(l e:List (List UInt8))(i B:Nat),l.length=e.length->(l.map List.length).sum<=(e.map List.length).sum+B->(gB k c i l).length<=(gB k c i e).length+B
 |[],[],_,_,_,_=>by simp[gB]
 |[],_::_,_,_,h,_=>by simp at h
 |_::_,[],_,_,h,_=>by simp at h
 |x::r,y::s,i,B,h,m=>by
  have f:∀(a b:List (List UInt8))(j:Nat),a.length=b.length->(gB k c j a).length+(b.map List.length).sum=(gB k c j b).length+(a.map List.length).sum:=by
   intro a
   induction a with
   |nil=>intro b j d;cases b with|nil=>rfl|cons _ _=>simp at d
   |cons u v g=>
    intro b j d;cases b with
    |nil=>simp at d
    |cons w z=>
     have:=g z (j+1) (by simpa using d);simp[gB,lK];simp at*;omega
  have:=f (x::r) (y::s) i (by simp[h]);omega
mutual
theorem TL{f d}(m:∀i,rU f i<=9999)(s:d.length<=150){o}(H:LyT f o):∀(t:PT)(b:Nat),om o t b->gL t->(t.A2 f d b).length<=t.uh.length+6*t.dn+12*GH d b (b+t.cnt-1)
 |.num _ _,_,_,_=>by simp only[PT.A2,PT.uh];omega
 |.name _ _,_,_,_=>by simp only[PT.A2,PT.uh];omega
 |.node p k y D g,b,h,j=>by
  cases j with
  |node z j=>
  simp only[om]at h;obtain⟨⟨n,u,A,_⟩,v⟩:=h;have h1:=Ae m s H g b v j;have h2:(SZ f (b+aU g)).length<=6*(if k=.pair then 1 else 0):=by
   by_cases w:k=.pair
   ·rw[ah w];exact Ge f _ (m _)
   ·have:=(H _ _ u).2 (λe=>w ((Cx k).1 (A▸e)));unfold SZ;rw[ah this];simp
  have h3:=Mb k y (mD f d g b) (pS g) 0 _ (by rw[uX,BM]) h1;simp only[PT.A2,PT.uh,ag z,PT.dn,PT.cnt,aF,aj,bn];rw[show b+(1+aU g)-1=b+aU g by omega];omega
theorem Ae{f d}(m:∀i,rU f i<=9999)(s:d.length<=150){o}(H:LyT f o):∀(l:List PT)(b:Nat),qZ o l b->(∀x∈l,gL x)->((mD f d l b).map List.length).sum<=((pS l).map List.length).sum+(6*eS l+12*GH d b (b+aU l))
 |[],b,_,_=>by simp[mD,pS]
 |t::r,b,h,j=>by
  simp only[qZ]at h;have h1:=TL m s H t b h.1 (j t (by simp));have h2:=Ae m s H r (b+t.cnt) h.2 (λx B=>j x (by simp[B]));have E:=fj t;have q:(((b+t.cnt:Nat):Int)-1)=((b+t.cnt-1:Nat):Int):=by omega
  have h3:=TK ((b+t.cnt-1:Nat):Int) d 0 (by omega);have C:=TJ d (b+t.cnt-1);rw[show b+t.cnt-1+1=b+t.cnt by omega]at C;have F:=Dw d (w:=b) (M:=b+t.cnt-1) (c:=b+t.cnt) (by omega) (by omega);have G:=Dw d (w:=b) (M:=b+t.cnt) (c:=b+t.cnt+aU r) (by omega) (by omega);simp only[mD,pS,bK,fN,eS,aU,aj,q,Zp,jH];rw[show b+(t.cnt+aU r)=b+t.cnt+aU r by omega];omega
end
theorem TM(b:∀i,rU K i<=9999)(c:L.length<=150)(H:LyT K a)(t)(d:om a t 0)(e:gL t):(t.yI K L 0).length<=t.uh.length+6*t.dn+12*L.length:=by
 have h1:=Ae b c H [t] 0 (by simp[qZ];exact d) (by simpa using e);have h2:=WA L 0 (0+aU [t]);simp only[mD,pS,bK,eH,fN,List.sum_nil,eS,az]at h1;unfold PT.yI;omega
mutual
theorem fo.NV:∀{t:PT}{d:List NR}{e f:Nat},fo t d e f->∀n∈d,e<=n.at_/\n.at_<n.dH/\n.dH<=f
 |.num p _,d,e,f,h,n,b=>by simp only[fo]at h;obtain⟨m,rfl,h1,h2,h3,g⟩:=h;simp only[ax]at b;subst b;omega
 |.name p _,d,e,f,h,n,b=>by simp only[fo]at h;obtain⟨m,rfl,h1,h2,h3,g⟩:=h;simp only[ax]at b;subst b;omega
 |.node p _ _ _ i,d,e,f,h,n,b=>by
  simp only[fo]at h;obtain⟨l,m,rfl,h1,h2,h3,g,o⟩:=h;rcases aA.1 b with b|b
  ·have:=eG.NV h3 n b;omega
  ·simp only[ax]at b;subst b;omega
theorem eG.NV:∀{j:List PT}{d:List NR}{e f:Nat},eG j d e f->∀n∈d,e<=n.at_/\n.at_<n.dH/\n.dH<=f
 |[],d,e,f,h,n,b=>by simp only[eG]at h;rw[h.1]at b;simp at b
 |t::r,d,e,f,h,n,b=>by
  simp only[eG]at h;obtain⟨a,c,k,rfl,h1,h2⟩:=h;have q:=h1.lt;have s:=h2.le;rcases aA.1 b with b|b
  ·have:=fo.NV h1 n b;omega
  ·have:=eG.NV h2 n b;omega
end
mutual
theorem fo.len:∀{t:PT}{b:List NR}{d e:Nat},fo t b d e->b.length=t.cnt
 |.num p _,b,d,e,h=>by simp only[fo]at h;obtain⟨m,rfl,_⟩:=h;rfl
 |.name p _,b,d,e,h=>by simp only[fo]at h;obtain⟨m,rfl,_⟩:=h;rfl
 |.node p _ _ _ f,b,d,e,h=>by
  simp only[fo]at h;obtain⟨j,m,rfl,h1,h2,h3,k,l⟩:=h;simp only[PT.cnt,aj,bG,eG.len h3];omega
theorem eG.len:∀{g:List PT}{b:List NR}{d e:Nat},eG g b d e->b.length=aU g
 |[],b,d,e,h=>by simp only[eG]at h;rw[h.1];rfl
 |t::r,b,d,e,h=>by
  simp only[eG]at h;obtain⟨a,c,i,rfl,h1,h2⟩:=h;simp only[aU,aj,fo.len h1,eG.len h2]
end
def WC(a c:List NR)(b:Nat):Prop:=∀(k:Nat)(n:NR),c[k]?=some n->a[b+k]?=some n
theorem WC.left(h:WC P (a++T) w):WC P a w:=λk n d=>h k n (by rw[ak (ae.1 d).1];exact d)
theorem WC.right(h:WC P (a++T) w):WC P T (w+a.length):=λk n d=>by
 have:=h (a.length+k) n (by rw[aw (by omega),cJ];exact d);rw[aY];exact this
theorem Qu(a)(hit:nV a)(RK)(b)(c d)(f:Gy a c RK)(g:∀x∈RK,x<=999)(h:JK a d b)(t):gL t->JL a RK b c d t:=by
 induction t using PT.ind with
 |h1 p s=>intro _;exact Dq.1 a hit RK b c d f h p s
 |h2 p s=>intro _;exact Dq.2 a hit RK b c d f h p s
 |h3 p k l m e n=>
  intro i;cases i with
  |node o i=>exact L8 a hit RK b c d f g h p k l m e o (λx j=>n x j (i x j))
def Dx:List Int->Nat->Int->List Nat
 |[],_,_=>[]
 |a::l,r,i=>(if a=i then [r] else [])++Dx l (r+1) i
theorem we(i:Int)(s):∀(l:List Int)(r:Nat),lp (Dx l r i) s=xR l r i++(s++List.replicate (yH l i) 41)
 |[],_=>by simp[Dx,lp,xR,yH]
 |a::l,r=>by
  have c:=we i s l (r+1);simp[Dx,xR];by_cases h:a=i
  ·have b:yH (a::l) i=yH l i+1:=by unfold yH;simp[h]
   rw[ah h,ah h,b];simp only[cQ,lp,c,opR];simp[List.replicate_succ']
  ·have b:yH (a::l) i=yH l i:=by unfold yH;simp[h]
   rw[ag h,ag h,b];simp;rw[c]
def AX(R N:List Int)(RK:List Nat)(c:List (List Nat))(d:List (PT×Nat×Nat))(b:Nat):Prop:=∀(j:Nat)(x:PT×Nat×Nat),d[j]?=some x->c.getD x.2.1 []=Dx N 0 ((b+j:Nat):Int)/\∀p k e f a,x.1=.node p k e f a->SZ R (b+j)=if k=.pair then [32,35]++decDigits (RK.getD x.2.2 0) else []
theorem AX.left{RK}(h:AX K L RK x (I++G) w):AX K L RK x I w:=λj a c=>h j a (by rw[ak (ae.1 c).1];exact c)
theorem AX.right{RK}(h:AX K L RK x (I++G) w):AX K L RK x G (w+I.length):=λj a c=>by
 have:=h (I.length+j) a (by rw[aw (by omega),cJ];exact c);rw[<-aY]at this;exact this
mutual
theorem NX(R N)(RK)(d):∀(t:PT)(id a b:Nat),gL t->AX R N RK d (t.subs id a) b->t.JI RK d id a=t.yI R N b
 |.num p s,id,a,b,_,h=>by
  have e:=(h 0 (.num p s,id,a) rfl).1;simp only[PT.JI,PT.yI,PT.A2,PT.cnt];rw[show (((b+1:Nat):Int)-1)=((b+0:Nat):Int) by omega,e,we];rfl
 |.name p s,id,a,b,_,h=>by
  have e:=(h 0 (.name p s,id,a) rfl).1;simp only[PT.JI,PT.yI,PT.A2,PT.cnt];rw[show (((b+1:Nat):Int)-1)=((b+0:Nat):Int) by omega,e,we];rfl
 |.node p k i j c,id,a,b,f,h=>by
  cases f with
  |node m f=>
  simp only[PT.subs]at h;have n:=j3 c (id+1) (a+if k=.pair then 1 else 0);obtain⟨e,h1⟩:=h.right 0 (.node p k i j c,id,a) rfl;rw[n,az]at e h1;have h2:=h1 p k i j c rfl;have h3:=JQ R N RK d c (id+1) (a+if k=.pair then 1 else 0) b f h.left;simp only[PT.JI,PT.yI,PT.A2,ag m,PT.cnt];rw[show (((b+(1+aU c):Nat):Int)-1)=((b+aU c:Nat):Int) by omega,e,we,h3,h2];rfl
theorem JQ(R N)(RK)(d):∀(g:List PT)(id a b:Nat),(∀x∈g,gL x)->AX R N RK d (fG g id a) b->D7 RK d g id a=mD R N g b
 |[],_,_,_,_,_=>rfl
 |t::r,id,a,b,f,h=>by
  simp only[fG]at h;have l:=h.right;rw[cU]at l;have h1:=NX R N RK d t id a b (f t (by simp)) h.left;have h2:=JQ R N RK d r (id+t.cnt) (a+t.dn) (b+t.cnt) (λx o=>f x (by simp[o])) l;simp only[D7,mD,h1,h2,PT.yI]
end
theorem TQ:prog.underlying 80=some (.slice 42):=by kernel_rfl
theorem Mc:(prog.info? 42).map (λi=>(i.zero,i.size,i.bytes))=some (some (.slice none 0 0),1,24):=by kernel_rfl
def mF(c:List Nat):Nat->List Nat×Nat
 |0=>([],0)
 |i+1=>if c.getD i 0=i then ((mF c i).1++[(mF c i).2],(mF c i).2+1) else ((mF c i).1++[(mF c i).1.getD (c.getD i 0) 0],(mF c i).2)
theorem tP(c):∀i,(mF c i).1.length=i
 |0=>rfl
 |i+1=>by
  have:=tP c i;simp[mF];split<;>simp[this]
theorem Md(c):∀i,(mF c i).2<=i
 |0=>bS
 |i+1=>by
  have:=Md c i;simp[mF];split<;>simp<;>omega
def E3(c:List Nat)(n i:Nat):List Nat:=(mF c i).1++List.replicate (n-i) 0
theorem NY(c)(n i:Nat)(h:i<=n):(E3 c n i).length=n:=by simp[E3,tP];omega
theorem TR(l)(m j:Nat):(l++List.replicate m 0).getD j 0=l.getD j 0:=by
 simp[List.getD];by_cases h:j<l.length
 ·rw[ak h]
 ·rw[aw (by omega),bH (by omega:l.length<=j),eQ];split<;>rfl
theorem NZ(c)(n i x:Nat)(h:i<n):(E3 c n i).set i x=(mF c i).1++[x]++List.replicate (n-(i+1)) 0:=by
 unfold E3;rw[ik _ _ (by rw[tP];exact bS),tP,cx,show n-i=(n-(i+1))+1 by omega,List.replicate_succ];simp
theorem WD(c)(n i:Nat)(h:i<n)(a:c.getD i 0=i):E3 c n (i+1)=(E3 c n i).set i (mF c i).2/\(mF c (i+1)).2=(mF c i).2+1:=by
 rw[NZ c n i _ h];constructor
 ·unfold E3;simp only[mF];rw[ah a]
 ·simp only[mF];rw[ah a]
theorem Z4(c)(n i:Nat)(h:i<n)(a:c.getD i 0≠i):E3 c n (i+1)=(E3 c n i).set i ((E3 c n i).getD (c.getD i 0) 0)/\(mF c (i+1)).2=(mF c i).2:=by
 rw[NZ c n i _ h];constructor
 ·unfold E3;simp only[mF];rw[ag a,TR]
 ·simp only[mF];rw[ag a]
def TS(a:List Rec)(b:List Ty)(r:Nat):Option Nat:=((Aa a (tN b r a) a.length).bind λi=>a[i]?).map Rec.id
def r7(a:List Rec)(b:List Ty):Nat->List (List Nat)
 |0=>List.replicate a.length []
 |r+1=>match TS a b r with
  |none=>r7 a b r
  |some id=>(r7 a b r).set id ((r7 a b r).getD id []++[r])
theorem GI(a)(b):∀r,(r7 a b r).length=a.length
 |0=>by simp[r7]
 |r+1=>by
  have:=GI a b r;simp[r7];split
  ·exact this
  ·rw[cO];exact this
theorem Me(b)(c):∀r,∀l∈r7 b c r,l.length<=r/\∀x∈l,x<r
 |0,l,h=>by
  rw[(List.mem_replicate.1 h).2];simp
 |r+1,l,h=>by
  have e:=Me b c r;simp[r7]at h;split at h
  ·obtain⟨h1,h2⟩:=e l h;exact⟨by omega,λx a=>by have:=h2 x a;omega⟩
  ·next id _=>
   rcases iH h with h|h
   ·obtain⟨h1,h2⟩:=e l h;exact⟨by omega,λx a=>by have:=h2 x a;omega⟩
   ·have d:(r7 b c r).getD id []=[]\/(r7 b c r).getD id []∈r7 b c r:=by
     simp[List.getD];cases a:(r7 b c r)[id]? with
     |none=>exact .inl rfl
     |some y=>exact .inr (aq a)
    have h3:((r7 b c r).getD id []).length<=r/\∀x∈(r7 b c r).getD id [],x<r:=by
     rcases d with d|d
     ·rw[d];simp
     ·exact e _ d
    subst h;refine⟨by rw[aj];simp;exact h3.1,λx a=>?_⟩;rcases aA.1 a with a|a
    ·have:=h3.2 x a;omega
    ·simp at a;omega
structure N0(base:Nat)(w:World)(gn:Nat)(NW:List (List Nat))(vs:List Value): Prop where
 row:w.ownsRow base 42 1 (.slice (some ⟨gn,0,none⟩) NW.length NW.length) NW.length vs
 at_:∀(i:Nat)(l:List Nat),NW[i]?=some l->∃v,vs[i]?=some v/\w.ownsRow base 3 1 v l.length (dM l)/\v.ownBlock≠some gn
 ap:∀(i j g:Nat)(u v:Value),vs[i]?=some u->vs[j]?=some v->u.ownBlock=some g->v.ownBlock=some g->i=j
theorem N0.below(h:N0 w Y c x N)(b:bg Y Q):N0 w Q c x N:=by
 refine⟨bO h.row (λk a=>b.block k (h.row.lt k a).2),λi l d=>?_,h.ap⟩;obtain⟨v,h1,h2,h3⟩:=h.at_ i l d;exact⟨v,h1,bO h2 (λk a=>b.block k (h2.lt k a).2),h3⟩
theorem N0.nw(h:N0 w Y c x N)(e:x.length<=9000)(f:∀l∈x,l.length<=1000/\∀a∈l,a<=999):JK Y (.slice (some ⟨c,0,none⟩) x.length x.length) x:=by
 refine⟨⟨c,_,rfl,(h.row.lt c rfl).2,λi l d=>?_⟩,e,f⟩;obtain⟨v,h1,h2,h3⟩:=h.at_ i l d;refine⟨v,?_,?_⟩
 ·rw[h.row.cellAt i (by have:=(ae.1 d).1;omega)];exact h1
 ·obtain⟨k,m,n,o⟩:=vX h2;refine⟨k,m,n,λj a p=>?_⟩;obtain⟨q,b⟩:=ae.1 p;obtain⟨g,r,s,t⟩:=o j q;exact⟨g,r,s,by rw[<-b];exact t⟩
theorem N0.add{id g b:Nat}{v}(h:N0 w Y c x N)(F:x[id]?=some y)(o:N[id]?=some v)(G:Y.grownBy Q v.ownBlock)(A:Q.ownsRow w 3 1 (.slice (some ⟨g,0,none⟩) (y.length+1) b) (y.length+1) (dM y++[.int .i64 M]))(p:v.ownBlock=some g\/Y.heap.size<=g):N0 w (Q.setCell ⟨c,id,none⟩ (.slice (some ⟨g,0,none⟩) (y.length+1) b)) c (x.set id (y++[M])) (N.set id (.slice (some ⟨g,0,none⟩) (y.length+1) b)):=by
 obtain⟨R,H,S,I⟩:=h.at_ id y F;rw[o]at H;cases H;have O:=(h.row.lt c rfl).2;have f:g≠c:=by
  rcases p with e|e
  ·intro h;subst h;exact I e
  ·omega
 have q:Q.ownsRow w 42 1 (.slice (some ⟨c,0,none⟩) x.length x.length) x.length N:=bO h.row (λk a=>G.block k (h.row.lt k a).2 (λe=>by
  simp[Value.ownBlock]at a;subst a;exact I e.symm))
 have B:=(ae.1 F).1;refine⟨?_,λi P m=>?_,λi j k J K h1 h2 h3 C=>?_⟩
 ·rw[cO];exact Bp q id _
 ·rw[kZ]at m;by_cases d:id=i
  ·subst d;rw[ah rfl,ah B]at m;cases m;refine⟨.slice (some ⟨g,0,none⟩) (y.length+1) b,?_,?_,?_⟩
   ·rw[bh (ae.1 o).1]
   ·rw[aj,show dM (y++[M])=dM y++[.int .i64 M] by simp[dM]];exact bO A (λk a=>cX _ _ (by simp[Value.ownBlock]at a;subst a;simpa using f))
   ·simpa [Value.ownBlock] using f
  ·rw[ag d]at m;obtain⟨u,n,z,L⟩:=h.at_ i P m;refine⟨u,by rw[bI d];exact n,?_,L⟩;refine bO z (λk a=>?_);rw[cX _ _ (by simp only;intro e;subst e;exact L a)];exact G.block k (z.lt k a).2 (λe=>d (h.ap id i k v u o n e.symm a))
 ·rw[kZ]at h1 h2;by_cases m:id=i
  ·by_cases D:id=j
   ·omega
   ·subst m;rw[ah rfl,ah (ae.1 o).1]at h1;cases h1;rw[ag D]at h2;simp[Value.ownBlock]at h3;subst h3;rcases p with e|e
    ·exact h.ap id j _ v K o h2 e C
    ·obtain⟨s,t⟩:∃s,x[j]?=some s:=by
      have:=(ae.1 h2).1;have E:=h.row.1;exact⟨_,aa (by omega)⟩
     obtain⟨u,n,z,_⟩:=h.at_ j s t;rw[h2]at n;cases n
     have:=(z.lt _ C).2;omega
  ·rw[ag m]at h1;by_cases D:id=j
   ·subst D;rw[ah rfl,ah (ae.1 o).1]at h2;cases h2;simp[Value.ownBlock]at C;subst C;rcases p with e|e
    ·exact h.ap i id _ J v h1 o h3 e
    ·obtain⟨s,t⟩:∃s,x[i]?=some s:=by
      have:=(ae.1 h1).1;have E:=h.row.1;exact⟨_,aa (by omega)⟩
     obtain⟨u,n,z,_⟩:=h.at_ i s t;rw[h1]at n;cases n
     have:=(z.lt _ h3).2;omega
   ·rw[ag D]at h2;exact h.ap i j k J K h1 h2 h3 C
