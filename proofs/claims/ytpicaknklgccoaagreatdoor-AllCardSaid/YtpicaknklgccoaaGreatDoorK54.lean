import Derived.Test.YtpicaknklgccoaaGreatDoorK51
set_option maxHeartbeats 16000000
set_option maxRecDepth 100000
namespace Go.Proofs.YtpicaknklgccoaaGreatDoor
open Tryz
open Go.RowKit
theorem D8(w)(L)(M c1:Nat)(N)(O P:Nat)(I)(op)(hT:ew w (.slice L M c1) (.slice N O P) I op)(hl:I.length<=9000)(FZ:∀n∈I,n.small)(s)(h0:I[I.length-1]?=some s)(hB:s.dH<=9000)(hat:∀n∈I,n.at_<s.dH)(hsz:oV [] (I.map atR)):Calls prog 104 #[cG (.slice L M c1) (.slice N O P)] w λe A=>∃pa pn pc ta tn tc ev,e=.returned (.agg #[.slice pa pn pc,.slice ta tn tc,ev])/\bg w A/\A.ownsRow 0 3 1 ev s.dH (dM (xH [] (List.range s.dH) I))/\(∀g,ev.ownBlock=some g->w.heap.size<=g):=by
 obtain⟨m,hm⟩:=ez I.length;have hm1:1<=m:=by have:=(ae.1 h0).1;omega
 have hm9:m<=9000:=by omega
 have hB1:1<=s.dH:=by have:=hat s (aq h0);omega
 obtain⟨G,W⟩:=ez (((w.alloc (.cells #[.slice L M c1,.slice N O P] 59)).alloc (.cells #[.slice none 0 0,.slice none 0 0,.slice none 0 0] 186)).alloc (.cells #[.slice none 0 0,.slice none 0 0,.slice none 0 0] 186));have hw0:bg w G:=by rw[W];exact bV (bV (bV fp _) _) _
 have hs0:G.heap.size=w.heap.size+1+1+1:=by rw[W];simp
 have hbx:G.heap[w.heap.size]?=some (.cells #[.slice L M c1,.slice N O P] 59 (0,0)):=by
  have h1:=bD w (.cells #[.slice L M c1,.slice N O P] 59 (0,0));have h2:=bV (bV (aM (w.alloc (.cells #[.slice L M c1,.slice N O P] 59)).heap.size (w.alloc (.cells #[.slice L M c1,.slice N O P] 59))) (.cells #[.slice none 0 0,.slice none 0 0,.slice none 0 0] 186)) (.cells #[.slice none 0 0,.slice none 0 0,.slice none 0 0] 186);rw[W,h2.block _ (by simp)];exact h1
 have hsb:G.heap[w.heap.size+1+1]?=some (.cells #[.slice none 0 0,.slice none 0 0,.slice none 0 0] 186 (0,0)):=by
  have:=bD ((w.alloc (.cells #[.slice L M c1,.slice N O P] 59)).alloc (.cells #[.slice none 0 0,.slice none 0 0,.slice none 0 0] 186)) (.cells #[.slice none 0 0,.slice none 0 0,.slice none 0 0] 186 (0,0));rw[W];simpa using this
 have UF:G.heap[w.heap.size+1]?=some (.cells #[.slice none 0 0,.slice none 0 0,.slice none 0 0] 186 (0,0)):=by
  have h1:=bD (w.alloc (.cells #[.slice L M c1,.slice N O P] 59)) (.cells #[.slice none 0 0,.slice none 0 0,.slice none 0 0] 186 (0,0));have h2:=bV (aM ((w.alloc (.cells #[.slice L M c1,.slice N O P] 59)).alloc (.cells #[.slice none 0 0,.slice none 0 0,.slice none 0 0] 186)).heap.size ((w.alloc (.cells #[.slice L M c1,.slice N O P] 59)).alloc (.cells #[.slice none 0 0,.slice none 0 0,.slice none 0 0] 186))) (.cells #[.slice none 0 0,.slice none 0 0,.slice none 0 0] 186);rw[W,h2.block _ (by simp)];simpa using h1
 obtain⟨C,ZT⟩:=ez (w.heap.size+1+1);have hBC:∀o,Below C G o->o.cell? ⟨w.heap.size,0,none⟩=some (.slice L M c1)/\o.cell? ⟨w.heap.size,1,none⟩=some (.slice N O P)/\w.heap.size<o.heap.size:=λo Y=>by
  have h1:o.heap[w.heap.size]?=some (.cells #[.slice L M c1,.slice N O P] 59 (0,0)):=by rw[Y.block _ (by omega)];exact hbx
  exact⟨by rw[aI h1];rfl,by rw[aI h1];rfl,aG h1⟩
 have hTW:∀o,Below C G o->ew o (.slice L M c1) (.slice N O P) I op:=λo Y=>hT.below (hw0.trans (Y.mono (by omega)));have hRO:∀o,bg G o->Calls prog 68 #[.agg #[.slice L M c1,.slice N O P]] o λv A=>v=.returned (.int .i64 ((m-1:Nat):Int))/\bg G A/\bg o A:=λo Y=>by
  refine (yC o _ _ I op (hTW o (Y.mono (by omega))) hl).mono ?_;rintro _ A ⟨rfl,hb'⟩;exact⟨by congr 2;omega,Y.trans (hb'.mono Y.size),hb'⟩
 have hNO:∀o,Below C G o->∀(k:Nat)(n:NR),I[k]?=some n->Calls prog 94 #[.agg #[.slice L M c1,.slice N O P],.int .i64 k] o λv A=>v=.returned (dK n)/\bg o A:=λo Y k n hk=>kS o _ _ I op (hTW o Y) k n hk hl;have ZS:∀o,bg G o->Calls prog 94 #[.agg #[.slice L M c1,.slice N O P],.int .i64 ((m-1:Nat):Int)] o λv A=>v=.returned (dK s)/\bg G A/\bg o A:=λo Y=>by
  refine (hNO o (Y.mono (by omega)) (m-1) s (by rw[hm];exact h0)).mono ?_;rintro _ A ⟨rfl,hb'⟩;exact⟨rfl,Y.trans (hb'.mono Y.size),hb'⟩
 have hLE:∀o,Below C G o->Calls prog 93 #[.agg #[.slice L M c1,.slice N O P]] o λv A=>v=.returned (.int .i64 m)/\bg o A:=λo Y=>by
  have:=mY o _ _ I op (hTW o Y);rw[<-hm]at this;exact this
 obtain⟨i0,hi,hz0,hz1,hz2⟩:=cI iJ;refine fT hi hz0 hz1 hz2 λHI y8 za ze=>?_;unfold dK at ZS hNO;refine xW hBC hRO hNO ZS hLE hsb UF hw0 hm λHBC V6 HNO HN0 Uz Zd HRS HW0 HM=>?_;refine fT W FZ hat hsz λHWE Nc Na HSZ=>?_;clear hi hz0 hz1 hz2 hBC hRO hNO ZS hLE hsb UF hw0 hm W FZ hat hsz hT hTW hbx h0;have hsW:C<G.heap.size:=by omega
 have adR:w.heap.size<C:=by omega
 have HS0:Hid _:=hs0;clear hs0;unfold cG;go_in;go_upto_region 2 with fail;rw[<-HWE.out,<-ZT];have HSE:Hid _:=ZT;clear ZT;obtain⟨b0,b1,bl⟩:=HBC G fp;go_cut [4] from 11 to 14 (λt4 wx=>∃q,t4=.pointer (some ⟨q,0,none⟩)/\wx.heap[q]?=some (gG s)/\G.heap.size<=q/\bg G wx)
 case first=>
  go_region_law (first
   | (refine qB rfl 68 #[.agg #[.slice L M c1,.slice N O P]] ?_ ?_
      ·go_simp
      refine ay (V6 _ ?_) ?_
      ·repeat (first|with_reducible exact aM _ _|with_reducible refine bV ?_ _|with_reducible refine l6 ?_|with_reducible refine gD ?_)
      rintro e w2 ⟨rfl,S,Fy⟩;obtain⟨b0,b1,bl⟩:=HBC _ (S.mono (by omega));have abU:=S.size
      try (have hz:w2.heap[G.heap.size]?=some (.cells nz 160 (0,0)):=(Fy.block _ (by simp)).trans (bD _ _))
      refine⟨_,rfl,?_⟩)
   | (refine qB rfl 94 #[.agg #[.slice L M c1,.slice N O P],.int .i64 ((m-1:Nat):Int)] ?_ ?_
      ·go_simp
      refine ay (HN0 _ ?_) ?_
      ·repeat (first|with_reducible exact aM _ _|with_reducible exact S|with_reducible refine bV ?_ _|with_reducible refine l6 ?_|with_reducible refine gD ?_)
      rintro e w3 ⟨rfl,hb3,OJ⟩
      try (have hz3:w3.heap[w2.heap.size]?=some (.cells nz 160 (0,0)):=(OJ.block _ (by simp)).trans (bD _ _))
      try (have hz4:w3.heap[G.heap.size]?=some (.cells nz 160 (0,0)):=(OJ.block _ (aG hz)).trans hz)
      try (obtain⟨z0,z1,z2,z3,z4,z5,z6,z7,z8,z9⟩:=yO hz3;obtain⟨f0,f1,f2,f3,f4,f5,f6,f7,f8,f9⟩:=Bo hz3;have hzl:=aG hz3)
      try (obtain⟨z0,z1,z2,z3,z4,z5,z6,z7,z8,z9⟩:=yO hz4;obtain⟨f0,f1,f2,f3,f4,f5,f6,f7,f8,f9⟩:=Bo hz4;have hzl:=aG hz4)
      refine⟨_,rfl,?_⟩))
  all_goals (go_wp2_with fail;go_meet)
  all_goals first
   |(have hE:=Gv (.int .i64 s.form) (.int .i64 s.at_) (.int .i64 s.dH) (.int .i64 s.num) (.string (bs s.word)) (.int .i64 s.region) (.int .i64 s.source) (.int .i64 s.p0) (.int .i64 s.p1) (.int .i64 s.p2) hb3 abU hz3;exact⟨_,rfl,hE.1,abU,hE.2⟩)
   |(have hE:=Gv (.int .i64 s.form) (.int .i64 s.at_) (.int .i64 s.dH) (.int .i64 s.num) (.string (bs s.word)) (.int .i64 s.region) (.int .i64 s.source) (.int .i64 s.p0) (.int .i64 s.p1) (.int .i64 s.p2) hb3 bS hz4;exact⟨_,rfl,hE.1,bS,hE.2⟩)
   |exact⟨_,rfl,bD _ _,hb3.size,bV hb3 _⟩
   |skip
 case rest=>
  obtain⟨q,rfl,hq,hsq,hbc⟩:=hcut;have Xy:wc.cell? ⟨q,2,none⟩=some (.int .i64 s.dH):=(cD hq).2.2.1;have hql:=aG hq;have hsc:wc.heap[C]?=some (.cells #[.slice none 0 0,.slice none 0 0,.slice none 0 0] 186 (0,0)):=by rw[hbc.block _ hsW,HSE.out];exact Zd
  have H1:Hid (Sh1 G C q s wc (.slice none 0 0) 0):=⟨hbc.mono (by omega),hsc,hq,wD,λg hg=>by simp[Value.ownBlock]at hg,by omega⟩;clear hq hbc hsc V6 HN0 b0 b1 bl Xy Zd;obtain⟨B,hBe⟩:=ez s.dH;rw[<-hBe]at hB Na hB1;have HBE:Hid _:=hBe;clear hBe;go_wp2;go_loopw [5] (λi wr=>∃(k:Nat)(ev:Value),k<=B/\i=.int .i64 k/\Sh1 G C q s wr ev k) (λi _=>B-(intOf i).toNat)
  case atStart=>exact⟨0,_,ld,rfl,H1.out⟩
  case round=>
   obtain⟨k,ev,hk,rfl,J⟩:=hrel;have d2:wr.cell? ⟨q,2,none⟩=some (.int .i64 B):=by rw[HBE.out];exact (cD J.n).2.2.1
   have dl:=aG J.n;by_cases hlt:k<B
   ·obtain⟨ao,oc,yT⟩:=cm J.r;have y2:wr.cell? ⟨C,2,none⟩=some (.slice ao k oc):=by rw[aI J.y,<-yT];rfl
    have yl:=aG J.y;have tY:Hid ((wr.alloc (.cells #[.int .i64 k] 3)).ownsRow 0 3 1 (.slice ao k oc) k (dM (List.range k))):=by
     have:=J.r.alloc (.cells #[.int .i64 k] 3);rw[yT]at this;exact this
    have HYW:Hid ((wr.alloc (.cells #[.int .i64 k] 3)).heap[C]?=some (.cells #[.slice none 0 0,.slice none 0 0,ev] 186 (0,0))):=cR _ J.y;have GU:Hid (∀u∈([.int .i64 k]:List Value),u.oneCell'=true):=by intro v hv;simp only[ax]at hv;subst hv;rfl
    refine bY yT J λHEV HS=>?_;clear J yT;go_wp2_with (at_builtin;go_must (refine mV _ rfl (.tmp 22) (.tmp 24) 42 rfl 3 i0 _ 1 8 gM HI y8 za ze rfl (by decide) (.slice ao k oc) k (dM (List.range k)) rfl tY ⟨wr.heap.size,0,none⟩ 1 1 [.int .i64 k] rfl rfl ?c1 GU (by decide) ?c3 ?c4 ?_))
    case c1=>
     intro j v hj;rw[<-hj]
     first|rfl|exact dQ _ _ _ _
    case c3=>unfold maxLen;omega
    case c4=>omega
    intro g x w4 hown Q Mz;have hsl:C<w4.heap.size:=by have:=Q.size;simp at this;omega
    have Pv:=kW Q HYW (λe=>by have:=(HS.e C (by rw[HEV.out];exact e)).1;omega);have z1:w4.cell? ⟨C,2,none⟩=some (.slice ao k oc):=by rw[aI Pv,<-HEV.out];rfl
    have zf:=aK Pv 2;have HAD:Hid _:=Sh1.add (u:=g) (f:=x) HS ((aM _ wr).alloc bS (.cells #[.int .i64 k] 3)) (by rw[HEV.out];exact Q) hown (by rw[HEV.out,show (wr.alloc (.cells #[.int .i64 k] 3)).heap.size=wr.heap.size+1 from by simp];exact Mz);clear hown Q Mz Pv;go_wp2;go_roundw
    case rel=>exact⟨k+1,_,by omega,by go_num,HAD.out⟩
    case measure=>simp[intOf];omega
   ·have hkB:k=B:=by omega
    subst hkB;have HS:Hid _:=J;obtain⟨g,x,yT⟩:=gN J.r (by omega);subst yT;have H2:Hid (Ka G C g x k wr (.slice none 0 0) (.slice none 0 0) [] [] (List.range k)):=
     ⟨J.b,⟨J.y,rfl,rfl,wD,wD,by simp[Value.ownBlock],by simp[Value.ownBlock],λj hj=>by simp[Value.ownBlock]at hj⟩,J.r,(J.e g rfl).1,by simp[Value.ownBlock],by simp[Value.ownBlock],λj hj=>by simp[Value.ownBlock]at hj,λj hj=>by simp[Value.ownBlock]at hj⟩
    obtain⟨ANS,abV⟩:=ez (xH [] (List.range k) I);have La:Hid _:=abV;clear J hlt HS abV;go_wp2;go_loopw [6,7,8,9] (λi _ _ _ wx=>∃(j:Nat)(pv tv:Value)(F:List TP)(D:List Ty)(K:List Nat)(T:List Ty)(E:List Nat),j<=m/\i=.int .i64 j/\Ka G C g x k wx pv tv F K E/\Rel F D K T/\K.length=j/\F.length<=j/\TbB k F/\E.length=k/\Hid (ANS=xH T E (I.drop j))/\oV T ((I.drop j).map atR)) (λi _ _ _ _=>m-(intOf i).toNat)
    case atStart=>exact⟨0,_,_,[],[],[],[],List.range k,ld,rfl,H2.out,R9,rfl,bS,λj=>by simp[lB];omega,di,(La.out:ANS=xH [] (List.range k) (I.drop 0)),HSZ.out⟩
    case round=>
     obtain⟨j,pv,tv,F,D,K,T,E,hj,rfl,J,U,K8,htl,hTb,Z,HF,hso⟩:=hrel;obtain⟨b0,b1,bl⟩:=HBC _ J.b;have FN:=Uz _ J.b;by_cases hlt:j<m
     ·have hjl:j<I.length:=by have:=HM.out;omega
      obtain⟨n,hn⟩:∃n,I[j]?=some n:=⟨I[j],aa hjl⟩;have hnm:=aq hn;have d:=Nc n hnm;have hat:=Na n hnm;have xQ:I.drop j=n::I.drop (j+1):=by
       rw[aW hjl];rw[aa hjl]at hn;simp only[ai]at hn;rw[hn]
      have l:=HF;rw[xQ]at hso l;simp only[bK,oV]at hso;simp only[xH]at l;obtain⟨D',XT⟩:=Tn U (atR n) hso.1;have H:Rel (nI F K n n.at_).2 D' (K++[(nI F K n n.at_).1]) (T++[iz T (atR n)]):=XT;have hok:YU F K n:=⟨by omega,by omega,λi=>by have:=(U.known i).2.1;omega,λj=>by have:=U.M8 j;omega,⟨by have:=d.1;omega,by have:=d.1;omega⟩,⟨by have:=d.2.1;omega,by have:=d.2.1;omega⟩,⟨by have:=d.2.2.1;omega,by have:=d.2.2.1;omega⟩,⟨by have:=d.2.2.2;omega,by have:=d.2.2.2;omega⟩⟩;have TG:(nI F K n n.at_).2.length<=j+1:=by
       have hpl:=sG F n.at_ (bt K n.p0) (bt K n.p1);unfold nI
       repeat' split
       all_goals first|(simp only;omega)|omega
      have ZU:=abH hTb K n n.at_ hat;have hadd:=λ(A:World)(h':Ka G C g x k A pv tv F K E)=>CC A C 0 _ _ pv tv F K n n.at_ n.at_ (λ_=>rfl) h'.c hok;have abW:-10<=n.p1/\n.p1<=10000:=⟨by have:=d.2.2.1;omega,by have:=d.2.2.1;omega⟩;have abX:-10<=n.p2/\n.p2<=10000:=⟨by have:=d.2.2.2;omega,by have:=d.2.2.2;omega⟩;obtain⟨k1,k2,_⟩:=H.known n.p1;obtain⟨l1,l2,_⟩:=H.known n.p2;have hmT:=λf hf=>Dk H f E (bt (K++[(nI F K n n.at_).1]) n.p1) (bt (K++[(nI F K n n.at_).1]) n.p2) hf k2 l2;rw[<-k1,<-l1]at hmT;have hmL:=fL (aP (T++[iz T (atR n)]) n.p1) (aP (T++[iz T (atR n)]) n.p2) E;have abY:(K++[(nI F K n n.at_).1]).length=j+1:=by simp[K8]
      have hlow:=H.low;have hKK:∀(A:World)(FW Hn:Value),Ka G C g x k A FW Hn (nI F K n n.at_).2 (K++[(nI F K n n.at_).1]) E->∀i:Int,-10<=i/\i<=10000->Calls prog 127 #[.pointer (some ⟨C,0,none⟩),.int .i64 i] A λv w''=>v=.returned (.int .i64 (bt (K++[(nI F K n n.at_).1]) i))/\w''=A:=λA FW Hn h' i hi=>nu A C 0 Hn _ i h'.c.c1 h'.c.t (by omega) hi;have hMM:∀(A:World)(FW Hn:Value),Ka G C g x k A FW Hn (nI F K n n.at_).2 (K++[(nI F K n n.at_).1]) E->Calls prog 135 #[.pointer (some ⟨C,0,none⟩),.int .i64 (bt (K++[(nI F K n n.at_).1]) n.p1),.int .i64 (bt (K++[(nI F K n n.at_).1]) n.p2)] A λv w''=>v=.returned (.tuple #[])/\Ka G C g x k w'' FW Hn (nI F K n n.at_).2 (K++[(nI F K n n.at_).1]) (gu E (aP (T++[iz T (atR n)]) n.p1) (aP (T++[iz T (atR n)]) n.p2))/\DH g A w'':=λA FW Hn h'=>by
       have:=Ql C g x FW (nI F K n n.at_).2 (by omega) hlow (by have:=h'.gs;omega) h'.pg (bt (K++[(nI F K n n.at_).1]) n.p1+1) (bt (K++[(nI F K n n.at_).1]) n.p1) (bt (K++[(nI F K n n.at_).1]) n.p2) E A (by omega) (by omega) (by omega) (by omega) (by rw[Z];exact ZU) h'.c.c0 (by rw[aI h'.c.y,Z];rfl) h'.c.p (by rw[Z];exact h'.r);rw[hmT _ (by omega),Z]at this;refine this.mono ?_;rintro _ w'' ⟨rfl,hf,hr⟩;exact⟨rfl,h'.mat hf hr,hf⟩
      refine pd l hn J H hso.2 λvL HN HS VS ZH=>?_;unfold dK at hadd;refine Mt hadd hKK hMM ZU TG abY hmL Z λHAD ZV HMM Lc ub ZW HML HEL=>?_;clear J U K8 htl hTb Z HF hso hnm d xQ l XT H hok hadd hmT k1 k2 l1 l2 hlow hKK hMM hn hjl TG ZU abY hmL;generalize nI F K n n.at_=X at*;generalize T++[iz T (atR n)]=T' at*;generalize gu E (aP T' n.p1) (aP T' n.p2)=E' at*;go_wp2_with fail;refine FN.mono ?_;rintro _ w1 ⟨rfl,hb1⟩;have z:=HS.below hb1;clear FN b0 b1 bl;obtain⟨b0,b1,bl⟩:=HBC _ z.b;have hno:=HNO w1 z.b j n HN;refine bY z.c.lt z λHL1 Qq=>?_;clear z hb1 HS;go_wp2_with fail;refine hno.mono ?_;rintro _ w2 ⟨rfl,S⟩;have hbA:bg w1 (w2.alloc (gG n)):=S.alloc S.size (gG n);have VK:=S.size;have hS2:=Qq.below hbA;have hnb:=bD w2 (gG n);have had:=HAD _ hS2;refine bY hS2 hnb λYj Xv=>?_;have hsl2:=aG hS2.c.y;unfold gG DS at had;clear S hbA hS2 hnb hno b0 b1 Qq HAD;go_wp2_with fail;refine had.mono ?_;rintro _ w3 ⟨rfl,Uw,DK,DL,Ux⟩;have hS3:Ka G C g x k w3 Uw DK X.2 (K++[X.1]) E:=Yj.add DL Ux;have RQ:w3.heap[w2.heap.size]?=some (gG n):=by
       obtain⟨l1,l2,l3⟩:=HL1;rw[DL.blk w2.heap.size (by simp) (by omega) (λe=>by have:=l1 _ e;omega) (λe=>by have:=l2 _ e;omega)];exact Xv
      obtain⟨d0,d1,d2,d3,d4,d5,d6,d7,d8,d9⟩:=cD RQ;have xP:=aG RQ;refine bY hS3 RQ λZX ae8=>?_;clear DL Ux hS3 RQ had Yj Xv HL1;by_cases h7:n.form=7
      ·have q7:((n.form:Int)==7)=true:=cL (x:=7) h7;have l:=vL;rw[ah (aD h7)]at l;have V:Hid _:=l;have UT:=ZV _ _ _ ZX n.p1 abW;have BH:=ZV _ _ _ ZX n.p2 abX;have hmm:=HMM _ _ _ ZX;clear l vL h7 ZV HMM;go_wp2_with fail;refine UT.mono ?_;rintro _ _ ⟨rfl,rfl⟩;go_wp2_with fail;refine BH.mono ?_;rintro _ _ ⟨rfl,rfl⟩;go_wp2_with fail;refine hmm.mono ?_;rintro _ w4 ⟨rfl,hS4,_⟩;have HS4:Hid _:=hS4;clear hS4 hmm UT BH;go_wp2;go_roundw
       case rel=>exact⟨j+1,Uw,DK,X.2,D',_,T',E',by omega,by go_num,HS4.out,VS.out,ZW.out,ub.out,Lc.out,HML.out.trans HEL.out,V.out,ZH.out⟩
       case measure=>simp[intOf];omega
      ·have q7:((n.form:Int)==7)=false:=aJ (x:=7) h7;by_cases h11:n.form=11
       ·have q11:((n.form:Int)==11)=true:=cL (x:=11) h11;have l:=vL;rw[ah (aE h11)]at l;have V:Hid _:=l;have UT:=ZV _ _ _ ZX n.p1 abW;have BH:=ZV _ _ _ ZX.out n.p2 abX;have hmm:=HMM.out _ _ _ ZX.out;clear l vL h7 h11 ZV HMM;go_wp2_with fail;refine UT.mono ?_;rintro _ _ ⟨rfl,rfl⟩;go_wp2_with fail;refine BH.mono ?_;rintro _ _ ⟨rfl,rfl⟩;go_wp2_with fail;refine hmm.mono ?_;rintro _ w4 ⟨rfl,hS4,_⟩;have HS4:Hid _:=hS4;clear hS4 hmm UT BH;go_wp2;go_roundw
        case rel=>exact⟨j+1,Uw,DK,X.2,D',_,T',E',by omega,by go_num,HS4.out,VS.out,ZW.out,ub.out,Lc.out,HML.out.trans HEL.out,V.out,ZH.out⟩
        case measure=>simp[intOf];omega
       ·have q11:((n.form:Int)==11)=false:=aJ (x:=11) h11;have l:=vL.out;rw[ag (λh=>h.elim h7 h11)]at l;have V:Hid _:=l;clear l vL h7 h11 ZV HMM;go_wp2;go_roundw
        case rel=>exact⟨j+1,Uw,DK,X.2,D',_,T',E,by omega,by go_num,ZX.out,VS.out,ZW.out,ub.out,Lc.out,HEL.out,V.out,ZH.out⟩
        case measure=>simp[intOf];omega
     ·have HA:Hid (ANS=E):=by
       have hd:I.drop j=[]:=bF (by have:=HM.out;omega);have l:=HF.out;rw[hd]at l;rw[l];exact rfl
      have HS:Hid _:=J;clear J U K8 htl hTb Z HF hso;go_wp2_with fail;refine FN.mono ?_;rintro _ w1 ⟨rfl,hb1⟩;have z:=HS.out.below hb1;have e0:w1.cell? ⟨C,0,none⟩=some pv:=z.c.c0;have e1:w1.cell? ⟨C,1,none⟩=some tv:=z.c.c1;have e2:w1.cell? ⟨C,2,none⟩=some (.slice (some ⟨g,0,none⟩) k x):=by rw[aI z.c.y];rfl
      have el:=aG z.c.y;have R:w1.heap[w.heap.size+1]?=some (.cells #[.slice none 0 0,.slice none 0 0,.slice none 0 0] 186 (0,0)):=by rw[z.b.block _ (by have:=HSE.out;omega)];exact HRS.out
      have r0:w1.cell? ⟨w.heap.size+1,0,none⟩=some (.slice none 0 0):=by rw[aI R];rfl
      have r1:w1.cell? ⟨w.heap.size+1,1,none⟩=some (.slice none 0 0):=by rw[aI R];rfl
      have r2:w1.cell? ⟨w.heap.size+1,2,none⟩=some (.slice none 0 0):=by rw[aI R];rfl
      have g0:=aK R 0;have g1:=aK R 1;have g2:=aK R 2;have rl:=aG R;obtain⟨pa,pn,pc,rfl⟩:∃a n c,pv=.slice a n c:=by obtain⟨a,c,e⟩:=cm z.c.p;exact⟨_,_,_,e⟩
      obtain⟨ta,tn,tc,rfl⟩:∃a n c,tv=.slice a n c:=by obtain⟨a,c,e⟩:=cm z.c.t;exact⟨_,_,_,e⟩
      refine bY z R λQq UC=>?_;clear z R hb1 FN b0 b1 HS;go_wp2;obtain⟨WF,hWF⟩:=ez (((w1.setCell ⟨w.heap.size+1,0,none⟩ (.slice pa pn pc)).setCell ⟨w.heap.size+1,1,none⟩ (.slice ta tn tc)).setCell ⟨w.heap.size+1,2,none⟩ (.slice (some ⟨g,0,none⟩) k x));have hF:WF.heap[w.heap.size+1]?=some (.cells #[.slice pa pn pc,.slice ta tn tc,.slice (some ⟨g,0,none⟩) k x] 186 (0,0)):=by rw[hWF];exact bu (bu (bu UC.out 0 _) 1 _) 2 _
      have u0:WF.cell? ⟨w.heap.size+1,0,none⟩=some (.slice pa pn pc):=by rw[aI hF];rfl
      have u1:WF.cell? ⟨w.heap.size+1,1,none⟩=some (.slice ta tn tc):=by rw[aI hF];rfl
      have u2:WF.cell? ⟨w.heap.size+1,2,none⟩=some (.slice (some ⟨g,0,none⟩) k x):=by rw[aI hF];rfl
      rw[<-hWF];refine au (v:=.agg #[.slice pa pn pc,.slice ta tn tc,.slice (some ⟨g,0,none⟩) k x]) (by simp[results,results104,go_sem,u0,u1,u2]) rfl ⟨_,_,_,_,_,_,_,rfl,?_,?_,?_⟩
      ·rw[hWF];exact (HW0.out.trans ((Qq.out.b.mono (gi adR)))).trans (gV (gV (gV fp (by omega)) (by omega)) (by omega))
      ·rw[<-HBE.out,<-La.out,HA.out,hWF];exact bO Qq.out.r (λi hi=>by
        simp only[Value.ownBlock,ai]at hi;subst hi;have:=Qq.out.gs;rw[cX _ _ (by simp only;omega),cX _ _ (by simp only;omega),cX _ _ (by simp only;omega)])
      ·intro i hi;simp only[Value.ownBlock,ai]at hi;have:=Qq.out.gs;omega
def dY(E:List Nat)(l:List NR):List Nat:=(l.filter (λn=>n.form==4&&cZ E n.at_==n.at_)).map (·.at_)
theorem Gz(E)(l)(n):dY E (l++[n])=dY E l++(if n.form=4/\cZ E n.at_=n.at_ then [n.at_] else []):=by
 unfold dY;by_cases h:n.form=4/\cZ E n.at_=n.at_
 ·rw[ah h];simp[h.1,h.2]
 ·rw[ag h];have:(n.form==4&&cZ E n.at_==n.at_)=false:=by
   rw[jI];by_cases a:n.form=4
   ·right;rw[aH];exact λe=>h ⟨a,e⟩
   ·left;rw[aH];exact a
  simp[this]
theorem vf(E)(l):(dY E l).length<=l.length:=by
 unfold dY;rw[aO];exact ij _ _
theorem take_one{a:Type}(l:List a)(k:Nat)(x:a)(h:l[k]?=some x):l.take (k+1)=l.take k++[x]:=by rw[cW,h];rfl
theorem L9(w)(sb:Nat)(ev nv ov)(E)(F)(Y)(h:ew w nv ov F Y)(ho:CA F Y)(hl:F.length<=9000)(hc:w.cell? ⟨sb,2,none⟩=some ev)(hr:w.ownsRow 0 3 1 ev E.length (dM E))(hE:E.length<=9000)(hat:∀n∈F,n.at_<=9000):Calls prog 105 #[ptr sb,cG nv ov] w λe K=>∃fv,e=.returned fv/\K.ownsRow w.heap.size 3 1 fv (dY E (fe F Y)).length (dM (dY E (fe F Y)))/\bg w K:=by
 obtain⟨i0,hi,hz0,hz1,hz2⟩:=cI iJ;refine fT hi hz0 hz1 hz2 λHI y8 za ze=>?_;clear hi hz0 hz1 hz2;have adS:=aR _ _ hc;have D:=λ(K:World)(L:bg w K)=>mY K nv ov F Y (h.below L);have d:=λ(K:World)(L:bg w K)(k i:Nat)(n:NR)(hk:Y[k]?=some (i:Int))(hi:F[i]?=some n)=>tF K nv ov F Y (h.below L) k i n hk hi hl (by rw[ho.1];omega);have M:=λ(K:World)(L:bg w K)(p:Nat)(hp:p<=10000)=>vY K sb 0 ev E p ((L.cell (p:=⟨sb,2,none⟩) adS).trans hc) (bE hr L) hE hp;have abZ:∀n∈fe F Y,n.at_<=9000:=λn hn=>by
  unfold fe at hn;obtain⟨x,hx,rfl⟩:=cM.1 hn;cases e:F[x.toNat]? with
  |none=>simp[LO]
  |some y=>exact hat y (aq e)
 obtain⟨a0,N,e0⟩:=cm h.nd;obtain⟨a1,P,e1⟩:=cm h.op;rw[ho.1]at e1;obtain⟨m,hm⟩:=ez F.length;rw[<-hm]at e0 e1 hl;subst e0;subst e1;refine bY ho hm λHO HM=>?_;unfold cG at D d;unfold cG;unfold ptr at M;unfold dK at d;rw[<-hm]at D;refine fT D d M abZ λub ZF ZY Na=>?_;obtain⟨O,hO⟩:=ez (fe F Y);have hOl:O.length=m:=by rw[hO,pO,ho.1,hm]
 rw[<-hO]at Na⊢;have HOE:Hid _:=hO;clear D d ho h hm M abZ hO hc hr hat;have Lb:bg w (w.alloc (.cells #[.slice a0 m N,.slice a1 m P] 59)):=(aM _ w).alloc bS _;have g:Hid _:=Lb;clear Lb;show Calls _ _ #[Value.pointer (some ⟨sb,0,none⟩),_] w _;go_in;go_wp2;obtain⟨q,Z⟩:=ez (w.alloc (.cells #[.slice a0 m N,.slice a1 m P] 59));have Q:Hid (q.heap.size=w.heap.size+1):=(show q.heap.size=w.heap.size+1 by rw[Z];simp);have TH:Hid (∀wr,bg q wr->wr.cell? ⟨w.heap.size,0,none⟩=some (.slice a0 m N)/\wr.cell? ⟨w.heap.size,1,none⟩=some (.slice a1 m P)/\w.heap.size<wr.heap.size):=by
  intro wr L;rw[Z]at L;exact jb L
 rw[<-Z]at g⊢;clear Z;go_loopw [5,6,7] (λv5 i _ wr=>∃(k:Nat),k<=m/\i=.int .i64 k/\wr.ownsRow q.heap.size 3 1 v5 (dY E (O.take k)).length (dM (dY E (O.take k)))/\bg q wr) (λ_ i _ _=>m-(intOf i).toNat)
 case atStart=>
  refine⟨0,ld,rfl,⟨rfl,aE ⟨w.heap.size+1,0,#[],rfl,by rw[Q.out];exact bS,?_,bS,by unfold maxLen;omega,rfl,rfl⟩⟩,(aM _ q).alloc bS _⟩;rw[<-Q.out];exact bD _ _
 case round=>
  obtain⟨k,hk,rfl,r,s⟩:=hrel;obtain⟨b0,b1,bl⟩:=TH _ s;have sY:=g.trans (s.mono g.size);have FN:=ub _ sY;have R:=s.size;by_cases hlt:k<m
  ·obtain⟨i,n,hop,hni,xQ,S⟩:=Gp HO k (by have:=HM.out;omega);rw[<-HOE.out]at xQ S;have hOk:O[k]?=some n:=by
    have:=congrArg (λl=>l[0]?) xQ;simpa using this
   have hat:=Na n S;have c:=Gz E (O.take k) n;rw[<-take_one O k n hOk]at c;refine pd c hop hni r s λG V5 HNI T Ps=>?_;have hfl:=by have:=vf E (O.take k);simp only[cS]at this;omega
   clear hop hni xQ r c hOk S;go_wp2_with fail;refine FN.mono ?_;rintro _ w1 ⟨rfl,A⟩;have U:=s.trans (A.mono R);obtain⟨d0,d1,dl⟩:=TH _ U;have d:=ZF w1 (g.trans (U.mono g.size)) k i n V5 HNI;have DU:Hid _:=A;clear U A FN b0 b1 s;go_wp2_with fail;refine d.mono ?_;rintro _ w2 ⟨rfl,hb2⟩;have xO:=DU.trans (hb2.mono DU.size);have hW3:=xO.alloc xO.size (gG n);have V:=Ps.trans (hW3.mono R);have H:=λnq=>ZY ((w2.alloc (gG n)).drewN nq) (gD (g.trans (V.mono g.size))) n.at_ (by omega);refine fw hW3 V (bE T hW3) λHW3 t B=>?_;have ae9:=Ps.size;have afa:=HW3.size;unfold gG DS at H HW3 t B;clear hb2 xO hW3 d d0 d1 V;by_cases h4:n.form=4
   ·have q4:((n.form:Int)==4)=true:=cL (x:=4) h4;by_cases hf:cZ E n.at_=n.at_
    ·have q5:(((cZ E n.at_:Nat):Int)==(n.at_:Int))=true:=by rw[hf];simp
     have c:=G;rw[ah ⟨h4,hf⟩]at c;have z:Hid _:=c;generalize cZ E n.at_=ft at*;clear c G h4 hf;obtain⟨o,a⟩:=ez (w2.alloc (.cells #[.int .i64 n.form,.int .i64 n.at_,.int .i64 n.dH,.int .i64 n.num,.string (bs n.word),.int .i64 n.region,.int .i64 n.source,.int .i64 n.p0,.int .i64 n.p1,.int .i64 n.p2] 160));rw[<-a]at H t B;have f:o.heap[w2.heap.size]?=some (gG n):=by rw[a];exact bD _ _
     obtain⟨d0,d1,d2,d3,d4,d5,d6,d7,d8,d9⟩:=cD f;have xP:=aG f;have W:Hid _:=a;clear a f;go_upto_region 6 with fail;rw[<-W.out];go_quiet ((go_at_call 106;exact Calls.quiet_of_same (H _)));have I:Hid (bg q ((o.drewN nq).alloc (.cells #[.int .i64 n.at_] 3))):=by
      have h1:=gD (n:=nq) t;exact h1.alloc h1.size _
     have J:Hid (((o.drewN nq).alloc (.cells #[.int .i64 n.at_] 3)).ownsRow q.heap.size 3 1 u5 (dY E (O.take k)).length (dM (dY E (O.take k)))):=(bE B (gD fp)).alloc _;have ab0:(o.drewN nq).heap.size=o.heap.size:=rfl;have Pk:Hid (∀(j:Nat)(u:Value),([.int .i64 n.at_]:List Value)[j]?=some u->((o.drewN nq).alloc (.cells #[.int .i64 n.at_] 3)).cell? ((⟨o.heap.size,0,none⟩:Addr).add j)=some u):=by
      intro j u hj;have hq:=dQ (o.drewN nq) [.int .i64 n.at_] 3 j;rw[ab0]at hq;rw[<-hj,<-hq];first|done|rfl
     have GU:Hid (∀u∈([.int .i64 n.at_]:List Value),u.oneCell'=true):=by intro v hv;simp only[ax]at hv;subst hv;rfl
     clear ab0;have ab1:q.heap.size<=o.heap.size:=t.size;go_wp2_with (at_builtin;go_must (refine dG _ rfl (.tmp 30) (.tmp 33) 42 rfl q.heap.size 3 i0 _ 1 8 gM HI y8 za ze rfl (by decide) u5 (dY E (O.take k)).length (dM (dY E (O.take k))) rfl J ⟨o.heap.size,0,none⟩ 1 1 [.int .i64 n.at_] rfl rfl Pk GU ?c3 ?c4 ?c5 ?_))
     case c3=>unfold maxLen;omega
     case c4=>omega
     case c5=>first|omega|(simp;omega)
     intro v' w6 C X hnil;have Qd:Hid (bg q w6):=(I).grown X I.size (λb L=>(cA J b L).1);have RL:Hid (w6.ownsRow q.heap.size 3 1 v' (dY E (O.take (k+1))).length (dM (dY E (O.take (k+1))))):=by
      show w6.ownsRow q.heap.size 3 1 v' (dY E (O.take (k+1))).length (dM (dY E (O.take (k+1))));rw[z.out,aj];unfold dM at C⊢;rw[bz];exact C
     clear C X hnil;go_wp2;go_roundw
     case rel=>exact⟨k+1,by omega,by go_num,RL.out,Qd.out⟩
     case measure=>simp[intOf];omega
    ·have q5:(((cZ E n.at_:Nat):Int)==(n.at_:Int))=false:=by rw[aH];omega
     have c:=G;rw[ag (λh=>hf h.2),aN]at c;have z:Hid _:=c;generalize cZ E n.at_=ft at*;clear c G h4 hf;obtain⟨o,a⟩:=ez (w2.alloc (.cells #[.int .i64 n.form,.int .i64 n.at_,.int .i64 n.dH,.int .i64 n.num,.string (bs n.word),.int .i64 n.region,.int .i64 n.source,.int .i64 n.p0,.int .i64 n.p1,.int .i64 n.p2] 160));rw[<-a]at H t B;have f:o.heap[w2.heap.size]?=some (gG n):=by rw[a];exact bD _ _
     obtain⟨d0,d1,d2,d3,d4,d5,d6,d7,d8,d9⟩:=cD f;have xP:=aG f;have W:Hid _:=a;clear a f;go_upto_region 6 with fail;rw[<-W.out];go_quiet ((go_at_call 106;exact Calls.quiet_of_same (H _)));have J:Hid ((o.drewN nq).ownsRow q.heap.size 3 1 u5 (dY E (O.take (k+1))).length (dM (dY E (O.take (k+1))))):=by
      show (o.drewN nq).ownsRow q.heap.size 3 1 u5 (dY E (O.take (k+1))).length (dM (dY E (O.take (k+1))));rw[z.out];exact bE B (gD fp)
     have I:Hid _:=gD (n:=nq) t;go_wp2;go_roundw
     case rel=>exact⟨k+1,by omega,by go_num,J.out,I.out⟩
     case measure=>simp[intOf];omega
   ·have q4:((n.form:Int)==4)=false:=aJ (x:=4) h4;have c:=G;rw[ag (λh=>h4 h.1),aN]at c;have z:Hid _:=c;clear c G h4 H;obtain⟨o,a⟩:=ez (w2.alloc (.cells #[.int .i64 n.form,.int .i64 n.at_,.int .i64 n.dH,.int .i64 n.num,.string (bs n.word),.int .i64 n.region,.int .i64 n.source,.int .i64 n.p0,.int .i64 n.p1,.int .i64 n.p2] 160));rw[<-a]at t B;have f:o.heap[w2.heap.size]?=some (gG n):=by rw[a];exact bD _ _
    obtain⟨d0,d1,d2,d3,d4,d5,d6,d7,d8,d9⟩:=cD f;have xP:=aG f;have W:Hid _:=a;clear a f;go_upto_region 6 with fail;rw[<-W.out];go_quiet (fail);have J:Hid ((o.drewN nq).ownsRow q.heap.size 3 1 u5 (dY E (O.take (k+1))).length (dM (dY E (O.take (k+1))))):=by
     show (o.drewN nq).ownsRow q.heap.size 3 1 u5 (dY E (O.take (k+1))).length (dM (dY E (O.take (k+1))));rw[z.out];exact bE B (gD fp)
    have I:Hid _:=gD (n:=nq) t;go_wp2;go_roundw
    case rel=>exact⟨k+1,by omega,by go_num,J.out,I.out⟩
    case measure=>simp[intOf];omega
  ·have M7:O.take k=O:=by rw[cw (by omega)]
   rw[M7]at r;refine bY s r λPs T=>?_;clear s r M7;go_wp2_with fail;refine FN.mono ?_;rintro _ w1 ⟨rfl,A⟩;refine bY (g.trans ((Ps.trans (A.mono R)).mono g.size)) (bE T A) λDU MB=>?_;clear A FN;go_wp2;go_ret;exact⟨_,rfl,eA MB (λk hk=>by have:=Q.out;have:=(cA MB k hk).1;omega),DU⟩
def jP(E a:List Nat)(b:List NR):List Int:=b.map (λn=>if n.form=4 then ot a (cZ E n.at_) else -1)
theorem Ma(E a)(l)(n):jP E a (l++[n])=jP E a l++[if n.form=4 then ot a (cZ E n.at_) else -1]:=by unfold jP;rw[bz];rfl
theorem D9(w)(x1)(n1 c1:Nat)(x2)(n2 c2:Nat)(a)(op)(hT:ew w (.slice x1 n1 c1) (.slice x2 n2 c2) a op)(ho:CA a op)(hl:a.length<=9000)(FZ:∀n∈a,n.small)(n0)(h0:a[a.length-1]?=some n0)(hB:n0.dH<=9000)(D:∀n∈a,n.at_<n0.dH)(hsz:oV [] (a.map atR))(E z)(hE:E=xH [] (List.range n0.dH) a)(hfs:z=dY E (fe a op)):Calls prog 65 #[cG (.slice x1 n1 c1) (.slice x2 n2 c2)] w λe w'=>∃rv,e=.returned (.tuple #[rv,.int .i64 z.length])/\w'.ownsRow w.heap.size 3 1 rv a.length (mi (jP E z a))/\bg w w':=by
 have hEl:E.length=n0.dH:=by rw[hE,NI,di]
 have Q:=λ(W:World)(d:bg w W)=>D8 W x1 n1 c1 x2 n2 c2 a op (hT.below d) hl FZ n0 h0 hB D hsz;rw[<-hE,<-hEl]at Q;have F:=λ(W:World)(d:bg w W)(sb:Nat)(ev:Value)(hc:W.cell? ⟨sb,2,none⟩=some ev)(hr:W.ownsRow 0 3 1 ev E.length (dM E))=>L9 W sb ev _ _ E a op (hT.below d) ho hl hc hr (by omega) (λn hn=>by have:=D n hn;omega);rw[<-hfs]at F;have hfl:z.length<=9000:=by have:=vf E (fe a op);rw[pO,ho.1]at this;rw[hfs];omega
 have q:=λ(w':World)(d:bg w w')=>mY w' _ _ a op (hT.below d);have r:=λ(w':World)(d:bg w w')(k:Nat)(n:NR)(hk:a[k]?=some n)=>kS w' _ _ a op (hT.below d) k n hk hl;obtain⟨i0,hi,hz0,hz1,hz2⟩:=cI iJ;refine fT hi hz0 hz1 hz2 λHI y8 za ze=>?_;obtain⟨m,hm⟩:=ez a.length;have HM:Hid _:=hm;rw[<-hm]at hl q⊢;have hE9:E.length<=9000:=by omega
 have ab2:∀n∈a,n.at_<=9000:=λn hn=>by have:=D n hn;omega
 unfold cG at Q F q r;unfold ptr at F;unfold dK at r;unfold cG;refine pd Q F q r ab2 λHSH HFI ub K9 Na=>?_;clear hi hz0 hz1 hz2 Q F q r hT ho FZ h0 hsz hE hfs D hm hEl hB ab2;obtain⟨WB,R⟩:=ez (w.alloc (.cells #[.slice x1 n1 c1,.slice x2 n2 c2] 59));have f:Hid (bg w WB):=(show bg w WB by rw[R];exact bV fp _);have s:Hid (∀wr,bg WB wr->wr.cell? ⟨w.heap.size,0,none⟩=some (.slice x1 n1 c1)/\wr.cell? ⟨w.heap.size,1,none⟩=some (.slice x2 n2 c2)/\w.heap.size<wr.heap.size):=by
  intro wr d;rw[R]at d;exact jb d
 have HWB:Hid _:=R;clear R;go_in;go_wp2_with fail;rw[<-HWB.out];refine ay (HSH WB f) ?_;rintro _ C ⟨pa,pn,pc,ta,tn,tc,ev,rfl,S,hr1,he1⟩;obtain⟨ea,ec,yT⟩:=cm hr1;subst yT;have hc1:=bD C (.cells #[.slice pa pn pc,.slice ta tn tc,.slice ea E.length ec] 186 (0,0));have ab3:bg C (C.alloc (.cells #[.slice pa pn pc,.slice ta tn tc,.slice ea E.length ec] 186)):=(aM _ C).alloc bS _;have t:bg WB (C.alloc (.cells #[.slice pa pn pc,.slice ta tn tc,.slice ea E.length ec] 186)):=S.alloc S.size _;have G:=bE hr1 ab3;obtain⟨b0,b1,bl⟩:=s _ t;have Wv:=f.trans (t.mono f.size);have hfc:=HFI _ Wv C.heap.size _ (by rw[aI hc1];rfl) G;obtain⟨c0,c1',c2'⟩:C.cell? ⟨w.heap.size,0,none⟩=some (.slice x1 n1 c1)/\C.cell? ⟨w.heap.size,1,none⟩=some (.slice x2 n2 c2)/\w.heap.size<C.heap.size:=s _ S;have adT:=jx c2';refine fw G t hc1 λUC H I=>?_;clear hr1 S he1 ab3 t hc1 G Wv HSH HFI b0 b1 bl;go_wp2_with fail;refine ay hfc ?_;rintro _ A ⟨fv,rfl,xO,J⟩;refine fT (H.trans (J.mono H.size)) (bE UC J) ((J.block _ (aG I)).trans I) xO λxN HE2 Yj yS=>?_;have VK:=by have:=J.size;simp at this;omega
 have ab4:=xN.size;clear J xO hfc c0 c1' c2' adT H I UC;have e2:A.cell? ⟨C.heap.size,2,none⟩=some (.slice ea E.length ec):=by rw[aI Yj.out];rfl
 have he2:=HE2;have ab5:=λwr d p hp=>vY wr C.heap.size 0 (.slice ea E.length ec) E p ((d.cell (p:=⟨C.heap.size,2,none⟩) VK).trans e2) (bE he2 d) hE9 hp;have K:=λwr d x=>JD wr _ fv z x (bE yS d) hfl;obtain⟨fa,fc,hfv⟩:=cm yS;rw[hfv]at K;refine bY ab5 K λZY adU=>?_;clear ab5 K he2 e2;subst hfv;go_wp2;go_loopw [6,7,8,9,10] (λv6 i _ _ _ wr=>∃(k:Nat),k<=m/\i=.int .i64 k/\wr.ownsRow A.heap.size 3 1 v6 k (mi (jP E z (a.take k)))/\bg A wr) (λ_ i _ _ _ _=>m-(intOf i).toNat)
 case atStart=>
  refine⟨0,ld,rfl,⟨rfl,aE ⟨A.heap.size,0,#[],rfl,bS,?_,bS,by unfold maxLen;omega,rfl,rfl⟩⟩,(aM _ A).alloc bS _⟩;exact bD _ _
 case round=>
  obtain⟨k,hk,rfl,g,B⟩:=hrel;have T:=xN.trans (B.mono ab4);obtain⟨b0,b1,bl⟩:=s _ T;have sY:=f.trans (T.mono f.size);have U:=ub _ sY;have ab6:=B.size;by_cases hlt:k<m
  ·have hkl:k<a.length:=by have:=HM.out;omega
   obtain⟨n,hn⟩:∃n,a[k]?=some n:=⟨a[k],aa hkl⟩;have D:=Na n (aq hn);have c:=Ma E z (a.take k) n;rw[<-take_one a k n hn]at c;refine fT c hn g B λV HN L Ps=>?_;clear hn c g hkl T sY;go_wp2_with fail;refine U.mono ?_;rintro _ w3 ⟨rfl,l⟩;have ab7:=B.trans (l.mono ab6);have M:=xN.trans (ab7.mono ab4);clear b0 b1 bl;obtain⟨b0,b1,bl⟩:=s _ M;have hno:=K9 w3 (f.trans (M.mono f.size)) k n HN;have GZ:Hid _:=l;clear ab7 M l U B;go_wp2_with fail;refine hno.mono ?_;rintro _ w4 ⟨rfl,hb4⟩;have X:bg wr w4:=GZ.trans (hb4.mono GZ.size);have hr5:bg wr (w4.alloc (gG n)):=X.alloc X.size (gG n);have Y:bg A (w4.alloc (gG n)):=Ps.trans (hr5.mono ab6);have y:=ZY _ Y n.at_ (by omega);have h:=adU _ Y (cZ E n.at_);refine bY (bE L hr5) Y λRI N=>?_;have afb:=X.size;unfold gG DS at y h RI N;clear hb4 X hr5 Y hno b0 b1 bl GZ;by_cases h4:n.form=4
   case' pos=>
    have q4:((n.form:Int)==4)=true:=cL (x:=4) h4;have c:=V;rw[ah h4]at c;obtain⟨Z,O⟩:=ez (ot z (cZ E n.at_));rw[<-O]at h c;have U2:Hid _:=c;generalize cZ E n.at_=ft at*;clear c V h4 O;go_wp2_with fail;refine y.mono ?_;rintro _ _ ⟨rfl,rfl⟩;go_wp2_with fail;refine h.mono ?_;rintro _ _ ⟨rfl,rfl⟩;clear y h
   case' neg=>
    have q4:((n.form:Int)==4)=false:=aJ (x:=4) h4;have c:=V;rw[ag h4]at c;obtain⟨Z,O⟩:∃Z:Int,Z=-1:=⟨_,rfl⟩;rw[<-O]at c;have U2:Hid _:=c;clear c V h4 y h
   all_goals
    obtain⟨W5,Ln⟩:=ez (w4.alloc (.cells #[.int .i64 n.form,.int .i64 n.at_,.int .i64 n.dH,.int .i64 n.num,.string (bs n.word),.int .i64 n.region,.int .i64 n.source,.int .i64 n.p0,.int .i64 n.p1,.int .i64 n.p2] 160));rw[<-Ln]at RI N;have hs5:W5.heap.size=w4.heap.size+1:=by rw[Ln];simp
    have Qd:Hid (bg A (W5.alloc (.cells #[.int .i64 Z] 3))):=N.alloc N.size _;have RL:Hid ((W5.alloc (.cells #[.int .i64 Z] 3)).ownsRow A.heap.size 3 1 u6 k (mi (jP E z (a.take k)))):=bE RI (bV fp _);have I:Hid (∀(j:Nat)(u:Value),([.int .i64 Z]:List Value)[j]?=some u->(W5.alloc (.cells #[.int .i64 Z] 3)).cell? ((⟨w4.heap.size+1,0,none⟩:Addr).add j)=some u):=by
     intro j u hj;have hq:=dQ W5 [.int .i64 Z] 3 j;rw[hs5]at hq;rw[<-hj,<-hq];first|done|rfl
    have GU:Hid (∀u∈([.int .i64 Z]:List Value),u.oneCell'=true):=by intro v hv;simp only[ax]at hv;subst hv;rfl
    subst Ln;have afc:A.heap.size<=w4.heap.size+1:=by have:=N.size;simp at this;omega
    clear hs5
    try subst O
    go_wp2_with (at_builtin;go_must (refine dG _ rfl (.tmp 34) (.tmp 36) 42 rfl A.heap.size 3 i0 _ 1 8 gM HI y8 za ze rfl (by decide) u6 k (mi (jP E z (a.take k))) rfl RL ⟨w4.heap.size+1,0,none⟩ 1 1 [.int .i64 _] rfl rfl I GU ?c3 ?c4 ?c5 ?_))
    case c3=>unfold maxLen;omega
    case c4=>omega
    case c5=>first|omega|(simp;omega)
    intro v' w7 o P hnil;have Pm:Hid (bg A w7):=(Qd).grown P Qd.size (λb d=>(cA RL b d).1);have ZQ:Hid (w7.ownsRow A.heap.size 3 1 v' (k+1) (mi (jP E z (a.take (k+1))))):=by
     show w7.ownsRow A.heap.size 3 1 v' (k+1) (mi (jP E z (a.take (k+1))));rw[U2.out];unfold mi at o⊢;rw[bz];exact o
    clear o P hnil;go_wp2;go_roundw
    case rel=>exact⟨k+1,by omega,by go_num,ZQ.out,Pm.out⟩
    case measure=>simp[intOf];omega
  ·have M7:k=m:=by omega
   have htk:a.take k=a:=cw (by have:=HM.out;omega);rw[htk,M7]at g;refine bY sY g λHBB L=>?_;clear B g M7 htk T;go_wp2_with fail;refine U.mono ?_;rintro _ w3 ⟨rfl,l⟩;refine bY (HBB.trans (l.mono HBB.size)) (bE L l) λH MB=>?_;clear l U b0 b1 bl;go_wp2;refine au (v:=.tuple #[u6,.int .i64 z.length]) (by simp[results,results65,go_sem]) rfl ⟨_,rfl,?_,H⟩;exact eA MB (λk hk=>by have:=f.size;have:=(cA MB k hk).1;omega)
