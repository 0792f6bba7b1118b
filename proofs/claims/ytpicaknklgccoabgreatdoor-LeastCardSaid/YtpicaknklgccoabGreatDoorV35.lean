import Derived.Test.YtpicaknklgccoabGreatDoorV34
set_option maxHeartbeats 16000000
set_option maxRecDepth 100000
namespace Go.Proofs.YtpicaknklgccoabGreatDoor
open Go.RowKit
theorem AV (w:World) (x1:Option Addr) (n1 c1:Nat) (x2:Option Addr) (n2 c2:Nat) (ns:List NR) (op:List Int) (hT:bB w (.slice x1 n1 c1) (.slice x2 n2 c2) ns op) (hl:ns.length<=9000) (uO:∀ n∈ns,n.small) (n0:NR) (h0:ns[ns.length-1]?=some n0) (hB:n0.aL<=9000) (hat:∀ n∈ns,n.at_<n0.aL) (hsz:ij [] (ns.map atR)) :
  Calls Tryz.prog 71 #[aQ (.slice x1 n1 c1) (.slice x2 n2 c2)] w λe w'=>∃ pa pn pc ta tn tc ev,e=.returned (.agg #[.slice pa pn pc,.slice ta tn tc,ev])/\Below w.heap.size w w'/\w'.ownsRow 0 3 1 ev n0.aL (dc (sH [] (List.range n0.aL) ns))/\(∀ g,ev.ownBlock=some g->w.heap.size<=g):=by
 obtain⟨m,hm⟩:∃ m,m=ns.length:=⟨_,rfl⟩
 have jD:1<=m:=by have:=(List.getElem?_eq_some_iff.1 h0).1;omega
 have hm9:m<=9000:=by omega
 have Vt:1<=n0.aL:=by have:=hat n0 (List.mem_of_getElem? h0);omega
 obtain⟨W0,JF⟩:∃ W0,W0=((w.alloc (.cells #[.slice x1 n1 c1,.slice x2 n2 c2] 62)).alloc (.cells #[.slice none 0 0,.slice none 0 0,.slice none 0 0] 130)).alloc (.cells #[.slice none 0 0,.slice none 0 0,.slice none 0 0] 130):=⟨_,rfl⟩
 have hw0:Below w.heap.size w W0:=by rw[JF];exact cX (cX (cX (Below.refl _ _) _) _) _
 have hs0:W0.heap.size=w.heap.size+1+1+1:=by rw[JF];simp
 have hbx:W0.heap[w.heap.size]?=some (.cells #[.slice x1 n1 c1,.slice x2 n2 c2] 62 (0,0)):=by
  have h1:=aj w (.cells #[.slice x1 n1 c1,.slice x2 n2 c2] 62 (0,0));have h2:=cX (cX (Below.refl (w.alloc (.cells #[.slice x1 n1 c1,.slice x2 n2 c2] 62)).heap.size (w.alloc (.cells #[.slice x1 n1 c1,.slice x2 n2 c2] 62))) (.cells #[.slice none 0 0,.slice none 0 0,.slice none 0 0] 130)) (.cells #[.slice none 0 0,.slice none 0 0,.slice none 0 0] 130);rw[JF,h2.block _ (by simp)];exact h1
 have hsb:W0.heap[w.heap.size+1+1]?=some (.cells #[.slice none 0 0,.slice none 0 0,.slice none 0 0] 130 (0,0)):=by
  have:=aj ((w.alloc (.cells #[.slice x1 n1 c1,.slice x2 n2 c2] 62)).alloc (.cells #[.slice none 0 0,.slice none 0 0,.slice none 0 0] 130)) (.cells #[.slice none 0 0,.slice none 0 0,.slice none 0 0] 130 (0,0));rw[JF];simpa using this
 have nj:W0.heap[w.heap.size+1]?=some (.cells #[.slice none 0 0,.slice none 0 0,.slice none 0 0] 130 (0,0)):=by
  have h1:=aj (w.alloc (.cells #[.slice x1 n1 c1,.slice x2 n2 c2] 62)) (.cells #[.slice none 0 0,.slice none 0 0,.slice none 0 0] 130 (0,0));have h2:=cX (Below.refl ((w.alloc (.cells #[.slice x1 n1 c1,.slice x2 n2 c2] 62)).alloc (.cells #[.slice none 0 0,.slice none 0 0,.slice none 0 0] 130)).heap.size ((w.alloc (.cells #[.slice x1 n1 c1,.slice x2 n2 c2] 62)).alloc (.cells #[.slice none 0 0,.slice none 0 0,.slice none 0 0] 130))) (.cells #[.slice none 0 0,.slice none 0 0,.slice none 0 0] 130);rw[JF,h2.block _ (by simp)];simpa using h1
 obtain⟨sb,WC⟩:∃ sb,sb=w.heap.size+1+1:=⟨_,rfl⟩
 have hBC:∀ W',Below sb W0 W'->W'.cell? ⟨w.heap.size,0,none⟩=some (.slice x1 n1 c1)/\W'.cell? ⟨w.heap.size,1,none⟩=some (.slice x2 n2 c2)/\w.heap.size<W'.heap.size:=λW' hb=>by
  have h1:W'.heap[w.heap.size]?=some (.cells #[.slice x1 n1 c1,.slice x2 n2 c2] 62 (0,0)):=by rw[hb.block _ (by omega)];exact hbx
  exact⟨by rw[aa h1];rfl,by rw[aa h1];rfl,af h1⟩
 have hTW:∀ W',Below sb W0 W'->bB W' (.slice x1 n1 c1) (.slice x2 n2 c2) ns op:=λW' hb=>hT.below (hw0.trans (hb.mono (by omega)))
 have Z7:∀ W',Below W0.heap.size W0 W'->Calls Tryz.prog 55 #[.agg #[.slice x1 n1 c1,.slice x2 n2 c2]] W' λv w'=>v=.returned (.int .i64 ((m-1:Nat):Int))/\Below W0.heap.size W0 w'/\Below W'.heap.size W' w':=λW' hb=>by
  refine (uw W' _ _ ns op (hTW W' (hb.mono (by omega))) hl).mono ?_;rintro _ w' ⟨rfl,hb'⟩;exact⟨by congr 2;omega,hb.trans (hb'.mono hb.size),hb'⟩
 have LR:∀ W',Below sb W0 W'->∀ (k:Nat) (n:NR),ns[k]?=some n->Calls Tryz.prog 61 #[.agg #[.slice x1 n1 c1,.slice x2 n2 c2],.int .i64 k] W' λv w'=>v=.returned (aK n)/\Below W'.heap.size W' w':=λW' hb k n hk=>eT W' _ _ ns op (hTW W' hb) k n hk hl
 have Wy:∀ W',Below W0.heap.size W0 W'->Calls Tryz.prog 61 #[.agg #[.slice x1 n1 c1,.slice x2 n2 c2],.int .i64 ((m-1:Nat):Int)] W' λv w'=>v=.returned (aK n0)/\Below W0.heap.size W0 w'/\Below W'.heap.size W' w':=λW' hb=>by
  refine (LR W' (hb.mono (by omega)) (m-1) n0 (by rw[hm];exact h0)).mono ?_;rintro _ w' ⟨rfl,hb'⟩;exact⟨rfl,hb.trans (hb'.mono hb.size),hb'⟩
 have Un:∀ W',Below sb W0 W'->Calls Tryz.prog 60 #[.agg #[.slice x1 n1 c1,.slice x2 n2 c2]] W' λv w'=>v=.returned (.int .i64 m)/\Below W'.heap.size W' w':=λW' hb=>by
  have:=iC W' _ _ ns op (hTW W' hb);rw[<- hm] at this;exact this
 obtain⟨i0,hi,hz0,hz1,hz2⟩:=info_parts Tryz.qL;have HI:Hid _:=hi;have rR:Hid _:=hz0;have rS:Hid _:=hz1;have rT:Hid _:=hz2;unfold aK at Wy LR;have RS:Hid _:=hBC;have ML:Hid _:=Z7;have uN:Hid _:=LR;have Z9:Hid _:=Wy;have MK:Hid _:=Un;have VZ:Hid _:=hsb;have HRS:Hid _:=nj;have XR:Hid _:=hw0;have HM:Hid _:=hm;have WD:Hid _:=JF;have Gi:Hid _:=uO;have M7:Hid _:=hat;have Vq:Hid _:=hsz;clear hi hz0 hz1 hz2 hBC Z7 LR Wy Un hsb nj hw0 hm JF uO hat hsz hT hTW hbx h0
 have hsW:sb<W0.heap.size:=by omega
 have abQ:w.heap.size<sb:=by omega
 have HS0:Hid _:=hs0;clear hs0;unfold aQ
 go_enter Tryz.func71,Tryz.ntmps71
 go_upto_region 2 with fail
 rw[<- WD.out,<- WC];have HSE:Hid _:=WC;clear WC;obtain⟨b0,b1,bl⟩:=RS.out W0 (Below.refl _ _)
 go_cut [4] from 11 to 14 (λt4 wx=>∃ q,t4=.pointer (some ⟨q,0,none⟩)/\wx.heap[q]?=some (cA n0)/\W0.heap.size<=q/\Below W0.heap.size W0 wx)
 case first =>
  go_region_law (first
   | (refine l9 rfl 55 #[.agg #[.slice x1 n1 c1,.slice x2 n2 c2]] ?_ ?_
      ·go_simp
      refine Calls.mono (ML.out _ ?_) ?_
      ·repeat (first | with_reducible exact Below.refl _ _ | with_reducible refine cX ?_ _ | with_reducible refine vI ?_ | with_reducible refine gJ ?_)
      rintro e w2 ⟨rfl,hb2,WA⟩;obtain⟨b0,b1,bl⟩:=RS.out _ (hb2.mono (by omega));have O9:=hb2.size
      try (have hz:w2.heap[W0.heap.size]?=some (.cells nz 108 (0,0)):=(WA.block _ (by simp)).trans (aj _ _))
      refine⟨_,rfl,?_⟩)
   | (refine l9 rfl 61 #[.agg #[.slice x1 n1 c1,.slice x2 n2 c2],.int .i64 ((m-1:Nat):Int)] ?_ ?_
      ·go_simp
      refine Calls.mono (Z9.out _ ?_) ?_
      ·repeat (first | with_reducible exact Below.refl _ _ | with_reducible exact hb2 | with_reducible refine cX ?_ _ | with_reducible refine vI ?_ | with_reducible refine gJ ?_)
      rintro e w3 ⟨rfl,hb3,Pa⟩
      try (have Sn:w3.heap[w2.heap.size]?=some (.cells nz 108 (0,0)):=(Pa.block _ (by simp)).trans (aj _ _))
      try (have Sp:w3.heap[W0.heap.size]?=some (.cells nz 108 (0,0)):=(Pa.block _ (af hz)).trans hz)
      try (obtain⟨z0,z1,z2,z3,z4,z5,z6,z7,z8,z9⟩:=uC Sn;obtain⟨f0,f1,f2,f3,f4,f5,f6,f7,f8,f9⟩:=xq Sn;have hzl:=af Sn)
      try (obtain⟨z0,z1,z2,z3,z4,z5,z6,z7,z8,z9⟩:=uC Sp;obtain⟨f0,f1,f2,f3,f4,f5,f6,f7,f8,f9⟩:=xq Sp;have hzl:=af Sp)
      refine⟨_,rfl,?_⟩))
  all_goals (go_wp2_with fail;go_meet)
  all_goals first
   | (have hE:=C0 (.int .i64 n0.form) (.int .i64 n0.at_) (.int .i64 n0.aL) (.int .i64 n0.num) (.string (bs n0.word)) (.int .i64 n0.region) (.int .i64 n0.source) (.int .i64 n0.p0) (.int .i64 n0.p1) (.int .i64 n0.p2) hb3 O9 Sn;exact⟨_,rfl,hE.1,O9,hE.2⟩)
   | (have hE:=C0 (.int .i64 n0.form) (.int .i64 n0.at_) (.int .i64 n0.aL) (.int .i64 n0.num) (.string (bs n0.word)) (.int .i64 n0.region) (.int .i64 n0.source) (.int .i64 n0.p0) (.int .i64 n0.p1) (.int .i64 n0.p2) hb3 (Nat.le_refl _) Sp;exact⟨_,rfl,hE.1,Nat.le_refl _,hE.2⟩)
   | exact⟨_,rfl,aj _ _,hb3.size,cX hb3 _⟩
   | skip
 case rest =>
  obtain⟨q,rfl,hq,hsq,hbc⟩:=hcut;have QA:wc.cell? ⟨q,2,none⟩=some (.int .i64 n0.aL):=(aC hq).2.2.1;have TK:=af hq
  have hsc:wc.heap[sb]?=some (.cells #[.slice none 0 0,.slice none 0 0,.slice none 0 0] 130 (0,0)):=by rw[hbc.block _ hsW,HSE.out];exact VZ.out
  have H1:Hid (XX W0 sb q n0 wc (.slice none 0 0) 0):=⟨hbc.mono (by omega),hsc,hq,World.ownsRow_nil _ _ _ _,λg hg=>by simp[Value.ownBlock] at hg,by omega⟩;clear hq hbc hsc ML Z9 b0 b1 bl QA VZ;obtain⟨B,hBe⟩:∃ B,B=n0.aL:=⟨_,rfl⟩;rw[<- hBe] at hB M7 Vt;have HBE:Hid _:=hBe;clear hBe
  go_wp2
  go_loopw [5] (λi wr=>∃ (k:Nat) (ev:Value),k<=B/\i=.int .i64 k/\XX W0 sb q n0 wr ev k) (λi _=>B-(intOf i).toNat)
  case atStart=>exact⟨0,_,Nat.zero_le _,rfl,H1.out⟩
  case round =>
   obtain⟨k,ev,hk,rfl,hS⟩:=hrel
   have d2:wr.cell? ⟨q,2,none⟩=some (.int .i64 B):=by rw[HBE.out];exact (aC hS.n).2.2.1
   have dl:=af hS.n
   by_cases hlt:k<B
   ·obtain⟨ao,oc,rY⟩:=aG hS.r
    have y2:wr.cell? ⟨sb,2,none⟩=some (.slice ao k oc):=by rw[aa hS.y,<- rY];rfl
    have yl:=af hS.y
    have eK:Hid ((wr.alloc (.cells #[.int .i64 k] 3)).ownsRow 0 3 1 (.slice ao k oc) k (dc (List.range k))):=by
     have:=hS.r.alloc (.cells #[.int .i64 k] 3);rw[rY] at this;exact this
    have Ge:Hid ((wr.alloc (.cells #[.int .i64 k] 3)).heap[sb]?=some (.cells #[.slice none 0 0,.slice none 0 0,ev] 130 (0,0))):=aR _ hS.y
    have xI:Hid (∀ u∈([.int .i64 k]:List Value),u.oneCell'=true):=by intro v hv;simp only[List.mem_singleton] at hv;subst hv;rfl
    have HEV:Hid _:=rY;have HS:Hid _:=hS;clear hS rY
    go_wp2_with (at_builtin;go_must (refine qM _ rfl (.tmp 22) (.tmp 24) 22 rfl 3 i0 _ 1 8 Tryz.qN HI.out rR.out rS.out rT.out rfl (by decide) (.slice ao k oc) k (dc (List.range k)) rfl eK.out ⟨wr.heap.size,0,none⟩ 1 1 [.int .i64 k] rfl rfl ?c1 xI.out (by decide) ?c3 ?c4 ?_))
    case c1 =>
     intro j v hj;rw[<- hj]
     first | rfl | exact bV _ _ _ _
    case c3=>unfold maxLen;omega
    case c4=>omega
    intro g cap w4 hown hgrow jC
    have hsl:sb<w4.heap.size:=by have:=hgrow.size;simp at this;omega
    have wE:=cY hgrow Ge.out (λe=>by have:=(HS.out.e sb (by rw[HEV.out];exact e)).1;omega)
    have z1:w4.cell? ⟨sb,2,none⟩=some (.slice ao k oc):=by rw[aa wE,<- HEV.out];rfl
    have zf:=ag wE 2;have HAD:Hid _:=XX.add (g:=g) (cap:=cap) HS.out ((Below.refl _ wr).alloc (Nat.le_refl _) (.cells #[.int .i64 k] 3)) (by rw[HEV.out];exact hgrow) hown (by rw[HEV.out,show (wr.alloc (.cells #[.int .i64 k] 3)).heap.size=wr.heap.size+1 from by simp];exact jC);clear hown hgrow jC wE
    go_wp2
    go_roundw
    case rel=>exact⟨k+1,_,by omega,by go_num,HAD.out⟩
    case measure=>simp[intOf];omega
   ·have hkB:k=B:=by omega
    subst hkB;have HS:Hid _:=hS;obtain⟨g,cap,rY⟩:=gp hS.r (by omega);subst rY
    have H2:Hid (Gy W0 sb g cap k wr (.slice none 0 0) (.slice none 0 0) [] [] (List.range k)) :=
     ⟨hS.b,⟨hS.y,rfl,rfl,World.ownsRow_nil _ _ _ _,World.ownsRow_nil _ _ _ _,by simp[Value.ownBlock],by simp[Value.ownBlock],λj hj=>by simp[Value.ownBlock] at hj⟩,hS.r,(hS.e g rfl).1,by simp[Value.ownBlock],by simp[Value.ownBlock],λj hj=>by simp[Value.ownBlock] at hj,λj hj=>by simp[Value.ownBlock] at hj⟩
    obtain⟨ANS,aaa⟩:∃ ANS,ANS=sH [] (List.range k) ns:=⟨_,rfl⟩;have kX:Hid _:=aaa;clear hS hlt HS aaa
    go_wp2
    go_loopw [6,7,8,9] (λi _ _ _ wx=>∃ (j:Nat) (pv tv:Value) (tb:List TP) (D:List Ty) (K:List Nat) (T:List Ty) (E:List Nat),j<=m/\i=.int .i64 j/\Gy W0 sb g cap k wx pv tv tb K E/\Rel tb D K T/\K.length=j/\tb.length<=j/\TbB k tb/\E.length=k/\Hid (ANS=sH T E (ns.drop j))/\ij T ((ns.drop j).map atR)) (λi _ _ _ _=>m-(intOf i).toNat)
    case atStart=>exact⟨0,_,_,[],[],[],[],List.range k,Nat.zero_le _,rfl,H2.out,M5,rfl,Nat.le_refl _,λj=>by simp[fW];omega,List.length_range,(kX.out:ANS=sH [] (List.range k) (ns.drop 0)),Vq.out⟩
    case round =>
     obtain⟨j,pv,tv,tb,D,K,T,E,hj,rfl,hS,kK,GM,htl,XZ,QJ,HF,Be⟩:=hrel;obtain⟨b0,b1,bl⟩:=RS.out _ hS.b;have ja:=MK.out _ hS.b
     by_cases hlt:j<m
     ·have hjl:j<ns.length:=by have:=HM.out;omega
      obtain⟨n,hn⟩:∃ n,ns[j]?=some n:=⟨ns[j],List.getElem?_eq_getElem hjl⟩;have hnm:=List.mem_of_getElem? hn;have eG:=Gi.out n hnm;have hat:=M7.out n hnm
      have pq:ns.drop j=n::ns.drop (j+1):=by
       rw[List.drop_eq_getElem_cons hjl];rw[List.getElem?_eq_getElem hjl] at hn;simp only[Option.some.injEq] at hn;rw[hn]
      have hst:=HF.out;rw[pq] at Be hst;simp only[List.map_cons,ij] at Be;simp only[sH] at hst;obtain⟨D',Fk⟩:=Ng kK (atR n) Be.1;have jj:Rel (iX tb K n n.at_).2 D' (K++[(iX tb K n n.at_).1]) (T++[cH T (atR n)]):=Fk;have hok:U5 tb K n:=⟨by omega,by omega,λi=>by have:=(kK.known i).2.1;omega,λj=>by have:=kK.Ja j;omega,⟨by have:=eG.1;omega,by have:=eG.1;omega⟩,⟨by have:=eG.2.1;omega,by have:=eG.2.1;omega⟩,⟨by have:=eG.2.2.1;omega,by have:=eG.2.2.1;omega⟩,⟨by have:=eG.2.2.2;omega,by have:=eG.2.2.2;omega⟩⟩
      have wF:(iX tb K n n.at_).2.length<=j+1:=by
       have hpl:=nC tb n.at_ (au K n.p0) (au K n.p1);unfold iX
       repeat' split
       all_goals first | (simp only;omega) | omega
      have WE:=Z6 XZ K n n.at_ hat
      have hadd:=λ(w':World) (h':Gy W0 sb g cap k w' pv tv tb K E)=>xJ w' sb 0 _ _ pv tv tb K n n.at_ n.at_ (λ_=>rfl) h'.c hok
      have aab:-10<=n.p1/\n.p1<=10000:=⟨by have:=eG.2.2.1;omega,by have:=eG.2.2.1;omega⟩;have aac:-10<=n.p2/\n.p2<=10000:=⟨by have:=eG.2.2.2;omega,by have:=eG.2.2.2;omega⟩;obtain⟨k1,k2,_⟩:=jj.known n.p1;obtain⟨l1,l2,_⟩:=jj.known n.p2
      have hmT:=λf hf=>xN jj f E (au (K++[(iX tb K n n.at_).1]) n.p1) (au (K++[(iX tb K n n.at_).1]) n.p2) hf k2 l2
      rw[<- k1,<- l1] at hmT;have hmL:=bY (ai (T++[cH T (atR n)]) n.p1) (ai (T++[cH T (atR n)]) n.p2) E
      have aad:(K++[(iX tb K n n.at_).1]).length=j+1:=by simp[GM]
      have hlow:=jj.low
      have hKK:∀ (w':World) (nS qJ:Value),Gy W0 sb g cap k w' nS qJ (iX tb K n n.at_).2 (K++[(iX tb K n n.at_).1]) E->∀ i:Int,-10<=i/\i<=10000->Calls Tryz.prog 85 #[.pointer (some ⟨sb,0,none⟩),.int .i64 i] w' λv w''=>v=.returned (.int .i64 (au (K++[(iX tb K n n.at_).1]) i))/\w''=w':=λw' nS qJ h' i hi=>iG w' sb 0 qJ _ i h'.c.c1 h'.c.t (by omega) hi
      have hMM:∀ (w':World) (nS qJ:Value),Gy W0 sb g cap k w' nS qJ (iX tb K n n.at_).2 (K++[(iX tb K n n.at_).1]) E->Calls Tryz.prog 93 #[.pointer (some ⟨sb,0,none⟩),.int .i64 (au (K++[(iX tb K n n.at_).1]) n.p1),.int .i64 (au (K++[(iX tb K n n.at_).1]) n.p2)] w' λv w''=>v=.returned (.tuple #[])/\Gy W0 sb g cap k w'' nS qJ (iX tb K n n.at_).2 (K++[(iX tb K n n.at_).1]) (cI E (ai (T++[cH T (atR n)]) n.p1) (ai (T++[cH T (atR n)]) n.p2))/\Ao g w' w'':=λw' nS qJ h'=>by
       have:=KP sb g cap nS (iX tb K n n.at_).2 (by omega) hlow (by have:=h'.gs;omega) h'.pg (au (K++[(iX tb K n n.at_).1]) n.p1+1) (au (K++[(iX tb K n n.at_).1]) n.p1) (au (K++[(iX tb K n n.at_).1]) n.p2) E w' (by omega) (by omega) (by omega) (by omega) (by rw[QJ];exact WE) h'.c.c0 (by rw[aa h'.c.y,QJ];rfl) h'.c.p (by rw[QJ];exact h'.r);rw[hmT _ (by omega),QJ] at this;refine this.mono ?_;rintro _ w'' ⟨rfl,hf,hr⟩;exact⟨rfl,h'.Wx hf hr,hf⟩
      have jO:Hid _:=hst;have HN:Hid _:=hn;have HS:Hid _:=hS;have M9:Hid _:=jj;have Vr:Hid _:=Be.2;unfold aK at hadd;have HAD:Hid _:=hadd;have vz:Hid _:=hKK;have HMM:Hid _:=hMM;have Mt:Hid _:=WE;have mR:Hid _:=wF;have WG:Hid _:=aad;have HML:Hid _:=hmL;have HEL:Hid _:=QJ;clear hS kK GM htl XZ QJ HF Be hnm eG pq hst Fk jj hok hadd hmT k1 k2 l1 l2 hlow hKK hMM hn hjl wF WE aad hmL;generalize iX tb K n n.at_=X at *;generalize T++[cH T (atR n)]=T' at *;generalize cI E (ai T' n.p1) (ai T' n.p2)=E' at *
      go_wp2_with fail
      refine ja.mono ?_;rintro _ w1 ⟨rfl,hb1⟩;have Fg:=HS.out.below hb1;clear ja b0 b1 bl;obtain⟨b0,b1,bl⟩:=RS.out _ Fg.b;have hno:=uN.out w1 Fg.b j n HN.out;have OE:Hid _:=Fg.c.lt;have K3:Hid _:=Fg;clear Fg hb1 HS
      go_wp2_with fail
      refine hno.mono ?_;rintro _ w2 ⟨rfl,hb2⟩;have TB:Below w1.heap.size w1 (w2.alloc (cA n)):=hb2.alloc hb2.size (cA n);have WH:=hb2.size;have Wp:=K3.out.below TB;have hnb:=aj w2 (cA n);have had:=HAD.out _ Wp;have XV:Hid _:=Wp;have Mu:Hid _:=hnb;have hsl2:=af Wp.c.y;unfold cA AA at had;clear hb2 TB Wp hnb hno b0 b1 K3 HAD
      go_wp2_with fail
      refine had.mono ?_;rintro _ w3 ⟨rfl,KK,Qw,cj,Gg⟩;have hS3:Gy W0 sb g cap k w3 KK Qw X.2 (K++[X.1]) E:=XV.out.add cj Gg
      have LU:w3.heap[w2.heap.size]?=some (cA n):=by
       obtain⟨l1,l2,l3⟩:=OE.out;rw[cj.blk w2.heap.size (by simp) (by omega) (λe=>by have:=l1 _ e;omega) (λe=>by have:=l2 _ e;omega)];exact Mu.out
      obtain⟨d0,d1,d2,d3,d4,d5,d6,d7,d8,d9⟩:=aC LU;have kJ:=af LU;have MH:Hid _:=hS3;have ac1:Hid _:=LU;clear cj Gg hS3 LU had XV Mu OE
      by_cases h7:n.form=7
      ·have q7:((n.form:Int)==7)=true:=aJ (b:=7) h7
       have hst:=jO.out;rw[if_pos (Or.inl h7)] at hst;have eU:Hid _:=hst;have ho1:=vz.out _ _ _ MH.out n.p1 aab;have ho2:=vz.out _ _ _ MH.out n.p2 aac;have hmm:=HMM.out _ _ _ MH.out;clear hst jO h7 vz HMM
       go_wp2_with fail
       refine ho1.mono ?_;rintro _ _ ⟨rfl,rfl⟩
       go_wp2_with fail
       refine ho2.mono ?_;rintro _ _ ⟨rfl,rfl⟩
       go_wp2_with fail
       refine hmm.mono ?_;rintro _ w4 ⟨rfl,hS4,_⟩;have HS4:Hid _:=hS4;clear hS4 hmm ho1 ho2
       go_wp2
       go_roundw
       case rel=>exact⟨j+1,KK,Qw,X.2,D',_,T',E',by omega,by go_num,HS4.out,M9.out,WG.out,mR.out,Mt.out,HML.out.trans HEL.out,eU.out,Vr.out⟩
       case measure=>simp[intOf];omega
      ·have q7:((n.form:Int)==7)=false:=ah (b:=7) h7
       by_cases h11:n.form=11
       ·have AB:((n.form:Int)==11)=true:=aJ (b:=11) h11
        have hst:=jO.out;rw[if_pos (Or.inr h11)] at hst;have eU:Hid _:=hst;have ho1:=vz.out _ _ _ MH.out n.p1 aab;have ho2:=vz.out _ _ _ MH.out n.p2 aac;have hmm:=HMM.out _ _ _ MH.out;clear hst jO h7 h11 vz HMM
        go_wp2_with fail
        refine ho1.mono ?_;rintro _ _ ⟨rfl,rfl⟩
        go_wp2_with fail
        refine ho2.mono ?_;rintro _ _ ⟨rfl,rfl⟩
        go_wp2_with fail
        refine hmm.mono ?_;rintro _ w4 ⟨rfl,hS4,_⟩;have HS4:Hid _:=hS4;clear hS4 hmm ho1 ho2
        go_wp2
        go_roundw
        case rel=>exact⟨j+1,KK,Qw,X.2,D',_,T',E',by omega,by go_num,HS4.out,M9.out,WG.out,mR.out,Mt.out,HML.out.trans HEL.out,eU.out,Vr.out⟩
        case measure=>simp[intOf];omega
       ·have AB:((n.form:Int)==11)=false:=ah (b:=11) h11
        have hst:=jO.out;rw[if_neg (λh=>h.elim h7 h11)] at hst;have eU:Hid _:=hst;clear hst jO h7 h11 vz HMM
        go_wp2
        go_roundw
        case rel=>exact⟨j+1,KK,Qw,X.2,D',_,T',E,by omega,by go_num,MH.out,M9.out,WG.out,mR.out,Mt.out,HEL.out,eU.out,Vr.out⟩
        case measure=>simp[intOf];omega
     ·have HA:Hid (ANS=E):=by
       have hd:ns.drop j=[]:=List.drop_eq_nil_of_le (by have:=HM.out;omega);have hst:=HF.out;rw[hd] at hst;rw[hst];exact rfl
      have HS:Hid _:=hS;clear hS kK GM htl XZ QJ HF Be
      go_wp2_with fail
      refine ja.mono ?_;rintro _ w1 ⟨rfl,hb1⟩;have Fg:=HS.out.below hb1;have e0:w1.cell? ⟨sb,0,none⟩=some pv:=Fg.c.c0;have e1:w1.cell? ⟨sb,1,none⟩=some tv:=Fg.c.c1
      have e2:w1.cell? ⟨sb,2,none⟩=some (.slice (some ⟨g,0,none⟩) k cap):=by rw[aa Fg.c.y];rfl
      have el:=af Fg.c.y
      have hr1:w1.heap[w.heap.size+1]?=some (.cells #[.slice none 0 0,.slice none 0 0,.slice none 0 0] 130 (0,0)):=by rw[Fg.b.block _ (by have:=HSE.out;omega)];exact HRS.out
      have r0:w1.cell? ⟨w.heap.size+1,0,none⟩=some (.slice none 0 0):=by rw[aa hr1];rfl
      have r1:w1.cell? ⟨w.heap.size+1,1,none⟩=some (.slice none 0 0):=by rw[aa hr1];rfl
      have r2:w1.cell? ⟨w.heap.size+1,2,none⟩=some (.slice none 0 0):=by rw[aa hr1];rfl
      have g0:=ag hr1 0;have g1:=ag hr1 1;have g2:=ag hr1 2;have rl:=af hr1
      obtain⟨pa,pn,pc,rfl⟩:∃ a n c,pv=.slice a n c:=by obtain⟨a,c,e⟩:=aG Fg.c.p;exact⟨_,_,_,e⟩
      obtain⟨ta,tn,tc,rfl⟩:∃ a n c,tv=.slice a n c:=by obtain⟨a,c,e⟩:=aG Fg.c.t;exact⟨_,_,_,e⟩
      have K3:Hid _:=Fg;have IB:Hid _:=hr1;clear Fg hr1 hb1 ja b0 b1 HS
      go_wp2
      obtain⟨WF,QK⟩:∃ WF,WF=((w1.setCell ⟨w.heap.size+1,0,none⟩ (.slice pa pn pc)).setCell ⟨w.heap.size+1,1,none⟩ (.slice ta tn tc)).setCell ⟨w.heap.size+1,2,none⟩ (.slice (some ⟨g,0,none⟩) k cap):=⟨_,rfl⟩
      have hF:WF.heap[w.heap.size+1]?=some (.cells #[.slice pa pn pc,.slice ta tn tc,.slice (some ⟨g,0,none⟩) k cap] 130 (0,0)):=by rw[QK];exact aA (aA (aA IB.out 0 _) 1 _) 2 _
      have u0:WF.cell? ⟨w.heap.size+1,0,none⟩=some (.slice pa pn pc):=by rw[aa hF];rfl
      have u1:WF.cell? ⟨w.heap.size+1,1,none⟩=some (.slice ta tn tc):=by rw[aa hF];rfl
      have u2:WF.cell? ⟨w.heap.size+1,2,none⟩=some (.slice (some ⟨g,0,none⟩) k cap):=by rw[aa hF];rfl
      rw[<- QK];refine bodyPost_ret (v:=.agg #[.slice pa pn pc,.slice ta tn tc,.slice (some ⟨g,0,none⟩) k cap]) (by simp[results,Tryz.results71,go_sem,u0,u1,u2]) rfl ⟨_,_,_,_,_,_,_,rfl,?_,?_,?_⟩
      ·rw[QK]
       exact (XR.out.trans ((K3.out.b.mono (Nat.le_of_lt abQ)))).trans (fB (fB (fB (Below.refl _ _) (by omega)) (by omega)) (by omega))
      ·rw[<- HBE.out,<- kX.out,HA.out,QK]
       exact ay K3.out.r (λi hi=>by
        simp only[Value.ownBlock,Option.some.injEq] at hi;subst hi;have:=K3.out.gs
        rw[aq _ _ (by simp only;omega),aq _ _ (by simp only;omega),aq _ _ (by simp only;omega)])
      ·intro i hi
       simp only[Value.ownBlock,Option.some.injEq] at hi;have:=K3.out.gs;omega
def bf (E:List Nat) (l:List NR):List Nat:=(l.filter (λn=>n.form==4 && aX E n.at_==n.at_)).map (·.at_)
theorem C3 (E:List Nat) (l:List NR) (n:NR):bf E (l++[n])=bf E l++(if n.form=4/\aX E n.at_=n.at_ then [n.at_] else []):=by
 unfold bf;rw[List.filter_append,List.map_append]
 by_cases h:n.form=4/\aX E n.at_=n.at_
 ·rw[if_pos h];simp[h.1,h.2]
 ·rw[if_neg h]
  have:(n.form==4 && aX E n.at_==n.at_)=false:=by
   rw[Bool.and_eq_false_iff]
   by_cases h4:n.form=4
   ·right;rw[beq_eq_false_iff_ne];exact λe=>h ⟨h4,e⟩
   ·left;rw[beq_eq_false_iff_ne];exact h4
  simp[this]
theorem qD (E:List Nat) (l:List NR):(bf E l).length<=l.length:=by
 unfold bf;rw[List.length_map];exact List.length_filter_le _ _
theorem take_one {α:Type} (l:List α) (k:Nat) (x:α) (h:l[k]?=some x):l.take (k+1)=l.take k++[x]:=by rw[List.take_add_one,h];rfl
theorem IC (w:World) (sb:Nat) (ev nv ov:Value) (E:List Nat) (ns:List NR) (op:List Int) (h:bB w nv ov ns op) (ho:xK ns op) (hl:ns.length<=9000) (hc:w.cell? ⟨sb,2,none⟩=some ev) (hr:w.ownsRow 0 3 1 ev E.length (dc E)) (hE:E.length<=9000) (hat:∀ n∈ns,n.at_<=9000) :
  Calls Tryz.prog 72 #[ptr sb,aQ nv ov] w λe w'=>∃ fv,e=.returned fv/\w'.ownsRow w.heap.size 3 1 fv (bf E (bw ns op)).length (dc (bf E (bw ns op)))/\Below w.heap.size w w':=by
 obtain⟨i0,hi,hz0,hz1,hz2⟩:=info_parts Tryz.qL;have HI:Hid _:=hi;have rR:Hid _:=hz0;have rS:Hid _:=hz1;have rT:Hid _:=hz2;clear hi hz0 hz1 hz2;have abR:=World.block_lt_of_cell? _ _ hc
 have hlen:=λ(w':World) (hb:Below w.heap.size w w')=>iC w' nv ov ns op (h.below hb)
 have iI:=λ(w':World) (hb:Below w.heap.size w w') (k i:Nat) (n:NR) (hk:op[k]?=some (i:Int)) (hi:ns[i]?=some n)=>nZ w' nv ov ns op (h.below hb) k i n hk hi hl (by rw[ho.1];omega)
 have WI:=λ(w':World) (hb:Below w.heap.size w w') (p:Nat) (hp:p<=10000)=>rz w' sb 0 ev E p (by rw[hb.cell (p:=⟨sb,2,none⟩) abR];exact hc) (aB hr hb) hE hp
 have aae:∀ n∈bw ns op,n.at_<=9000:=λn hn=>by
  unfold bw at hn;obtain⟨x,hx,rfl⟩:=List.mem_map.1 hn
  cases e:ns[x.toNat]? with
  | none=>simp[Gm]
  | some y=>exact hat y (List.mem_of_getElem? e)
 obtain⟨a0,kW,e0⟩:=aG h.nd;obtain⟨a1,lL,e1⟩:=aG h.op;rw[ho.1] at e1;obtain⟨m,hm⟩:∃ m,m=ns.length:=⟨_,rfl⟩;rw[<- hm] at e0 e1 hl;subst e0;subst e1;have HO:Hid _:=ho;have HM:Hid _:=hm;unfold aQ at hlen iI;unfold aQ;unfold ptr at WI;unfold aK at iI;rw[<- hm] at hlen;have mR:Hid _:=hlen;have GU:Hid _:=iI;have WJ:Hid _:=WI;have M7:Hid _:=aae;obtain⟨O,hO⟩:∃ O,O=bw ns op:=⟨_,rfl⟩
 have hOl:O.length=m:=by rw[hO,lN,ho.1,hm]
 rw[<- hO] at M7 ⊢;have HOE:Hid _:=hO;clear hlen iI ho h hm WI aae hO hc hr hat;have Du:Below w.heap.size w (w.alloc (.cells #[.slice a0 m kW,.slice a1 m lL] 62)):=(Below.refl _ w).alloc (Nat.le_refl _) _;have eE:Hid _:=Du;clear Du
 show Calls _ _ #[Value.pointer (some ⟨sb,0,none⟩),_] w _
 go_enter Tryz.func72,Tryz.ntmps72
 go_wp2
 obtain⟨WB,sE⟩:∃ WB,WB=w.alloc (.cells #[.slice a0 m kW,.slice a1 m lL] 62):=⟨_,rfl⟩;have DR:Hid (WB.heap.size=w.heap.size+1):=(show WB.heap.size=w.heap.size+1 by rw[sE];simp)
 have rJ:Hid (∀ wr,Below WB.heap.size WB wr->wr.cell? ⟨w.heap.size,0,none⟩=some (.slice a0 m kW)/\wr.cell? ⟨w.heap.size,1,none⟩=some (.slice a1 m lL)/\w.heap.size<wr.heap.size):=by
  intro wr hb;rw[sE] at hb;exact dK hb
 rw[<- sE] at eE ⊢;clear sE
 go_loopw [5,6,7] (λv5 i _ wr=>∃ (k:Nat),k<=m/\i=.int .i64 k/\wr.ownsRow WB.heap.size 3 1 v5 (bf E (O.take k)).length (dc (bf E (O.take k)))/\Below WB.heap.size WB wr) (λ_ i _ _=>m-(intOf i).toNat)
 case atStart =>
  refine⟨0,Nat.zero_le _,rfl,⟨rfl,Or.inr ⟨w.heap.size+1,0,#[],rfl,by rw[DR.out];exact Nat.le_refl _,?_,Nat.le_refl _,by unfold maxLen;omega,rfl,rfl⟩⟩,(Below.refl _ WB).alloc (Nat.le_refl _) _⟩;rw[<- DR.out];exact aj _ _
 case round =>
  obtain⟨k,hk,rfl,hown,dI⟩:=hrel;obtain⟨b0,b1,bl⟩:=rJ.out _ dI;have AF:=eE.out.trans (dI.mono eE.out.size);have ja:=mR.out _ AF;have mS:=dI.size
  by_cases hlt:k<m
  ·obtain⟨i,n,hop,hni,pq,hmem⟩:=Ch HO.out k (by have:=HM.out;omega)
   rw[<- HOE.out] at pq hmem
   have hOk:O[k]?=some n:=by
    have:=congrArg (λl=>l[0]?) pq
    simpa using this
   have hat:=M7.out n hmem;have iV:=C3 E (O.take k) n;rw[<- take_one O k n hOk] at iV;have kP:Hid _:=iV;have KO:Hid _:=hop;have Yu:Hid _:=hni;have eK:Hid _:=hown;have ji:Hid _:=dI
   have hfl:(bf E (O.take k)).length<=k:=by have:=qD E (O.take k);simp only[List.length_take] at this;omega
   clear hop hni pq hown iV hOk hmem
   go_wp2_with fail
   refine ja.mono ?_;rintro _ w1 ⟨rfl,hb1⟩;have ky:=dI.trans (hb1.mono mS);obtain⟨d0,d1,dl⟩:=rJ.out _ ky;have iI:=GU.out w1 (eE.out.trans (ky.mono eE.out.size)) k i n KO.out Yu.out;have dZ:Hid _:=hb1;clear ky hb1 ja b0 b1 dI
   go_wp2_with fail
   refine iI.mono ?_;rintro _ w2 ⟨rfl,hb2⟩;have dV:Below wr.heap.size wr w2:=dZ.out.trans (hb2.mono dZ.out.size);have hW3:Below wr.heap.size wr (w2.alloc (cA n)):=dV.alloc dV.size (cA n);have WK:=ji.out.trans (hW3.mono mS)
   have hfi:=λnq=>WJ.out ((w2.alloc (cA n)).drewN nq) (gJ (eE.out.trans (WK.mono eE.out.size))) n.at_ (by omega)
   have Jd:Hid _:=hW3;have jb:Hid _:=WK;have GW:Hid _:=aB eK.out hW3;have ac2:=ji.out.size;have ac3:=Jd.out.size;unfold cA AA at hfi Jd jb GW;clear hb2 dV hW3 iI d0 d1 WK
   by_cases h4:n.form=4
   ·have q4:((n.form:Int)==4)=true:=aJ (b:=4) h4
    by_cases hf:aX E n.at_=n.at_
    ·have q5:(((aX E n.at_:Nat):Int)==(n.at_:Int))=true:=by rw[hf];simp
     have iV:=kP.out;rw[if_pos ⟨h4,hf⟩] at iV;have lY:Hid _:=iV;generalize aX E n.at_=ft at *;clear iV kP h4 hf;obtain⟨W3,uD⟩:∃ W3,W3=w2.alloc (.cells #[.int .i64 n.form,.int .i64 n.at_,.int .i64 n.aL,.int .i64 n.num,.string (bs n.word),.int .i64 n.region,.int .i64 n.source,.int .i64 n.p0,.int .i64 n.p1,.int .i64 n.p2] 108):=⟨_,rfl⟩;rw[<- uD] at hfi jb GW
     have hnb:W3.heap[w2.heap.size]?=some (cA n):=by rw[uD];exact aj _ _
     obtain⟨d0,d1,d2,d3,d4,d5,d6,d7,d8,d9⟩:=aC hnb;have kJ:=af hnb;have WD:Hid _:=uD;clear uD hnb
     go_upto_region 6 with fail
     rw[<- WD.out]
     go_quiet ((go_at_call 73;exact Calls.quiet_of_same (hfi _)))
     have rI:Hid (Below WB.heap.size WB ((W3.drewN nq).alloc (.cells #[.int .i64 n.at_] 3))):=by
      have h1:=gJ (n:=nq) jb.out;exact h1.alloc h1.size _
     have Mv:Hid (((W3.drewN nq).alloc (.cells #[.int .i64 n.at_] 3)).ownsRow WB.heap.size 3 1 u5 (bf E (O.take k)).length (dc (bf E (O.take k)))):=(aB GW.out (gJ (Below.refl _ _))).alloc _;have aaf:(W3.drewN nq).heap.size=W3.heap.size:=rfl
     have Ay:Hid (∀ (j:Nat) (u:Value),([.int .i64 n.at_]:List Value)[j]?=some u->((W3.drewN nq).alloc (.cells #[.int .i64 n.at_] 3)).cell? ((⟨W3.heap.size,0,none⟩:Addr).add j)=some u):=by
      intro j u hj;have hq:=bV (W3.drewN nq) [.int .i64 n.at_] 3 j;rw[aaf] at hq
      rw[<- hj,<- hq];first | done | rfl
     have xI:Hid (∀ u∈([.int .i64 n.at_]:List Value),u.oneCell'=true):=by intro v hv;simp only[List.mem_singleton] at hv;subst hv;rfl
     clear aaf;have aag:WB.heap.size<=W3.heap.size:=jb.out.size
     go_wp2_with (at_builtin;go_must (refine wpList_append_own _ rfl (.tmp 30) (.tmp 33) 22 rfl WB.heap.size 3 i0 _ 1 8 Tryz.qN HI.out rR.out rS.out rT.out rfl (by decide) u5 (bf E (O.take k)).length (dc (bf E (O.take k))) rfl Mv.out ⟨W3.heap.size,0,none⟩ 1 1 [.int .i64 n.at_] rfl rfl Ay.out xI.out ?c3 ?c4 ?c5 ?_))
     case c3=>unfold maxLen;omega
     case c4=>omega
     case c5=>first | omega | (simp;omega)
     intro v' w6 hown' hgrow hnil;have Ci:Hid (Below WB.heap.size WB w6):=(rI.out).grown hgrow rI.out.size (λb hb=>(World.ownsRow.lt Mv.out b hb).1)
     have QZ:Hid (w6.ownsRow WB.heap.size 3 1 v' (bf E (O.take (k+1))).length (dc (bf E (O.take (k+1))))):=by
      show w6.ownsRow WB.heap.size 3 1 v' (bf E (O.take (k+1))).length (dc (bf E (O.take (k+1))))
      rw[lY.out,List.length_append];unfold dc at hown' ⊢;rw[List.map_append];exact hown'
     clear hown' hgrow hnil
     go_wp2
     go_roundw
     case rel=>exact⟨k+1,by omega,by go_num,QZ.out,Ci.out⟩
     case measure=>simp[intOf];omega
    ·have q5:(((aX E n.at_:Nat):Int)==(n.at_:Int))=false:=by rw[beq_eq_false_iff_ne];omega
     have iV:=kP.out;rw[if_neg (λh=>hf h.2),List.append_nil] at iV;have lY:Hid _:=iV;generalize aX E n.at_=ft at *;clear iV kP h4 hf;obtain⟨W3,uD⟩:∃ W3,W3=w2.alloc (.cells #[.int .i64 n.form,.int .i64 n.at_,.int .i64 n.aL,.int .i64 n.num,.string (bs n.word),.int .i64 n.region,.int .i64 n.source,.int .i64 n.p0,.int .i64 n.p1,.int .i64 n.p2] 108):=⟨_,rfl⟩;rw[<- uD] at hfi jb GW
     have hnb:W3.heap[w2.heap.size]?=some (cA n):=by rw[uD];exact aj _ _
     obtain⟨d0,d1,d2,d3,d4,d5,d6,d7,d8,d9⟩:=aC hnb;have kJ:=af hnb;have WD:Hid _:=uD;clear uD hnb
     go_upto_region 6 with fail
     rw[<- WD.out]
     go_quiet ((go_at_call 73;exact Calls.quiet_of_same (hfi _)))
     have Mv:Hid ((W3.drewN nq).ownsRow WB.heap.size 3 1 u5 (bf E (O.take (k+1))).length (dc (bf E (O.take (k+1))))):=by
      show (W3.drewN nq).ownsRow WB.heap.size 3 1 u5 (bf E (O.take (k+1))).length (dc (bf E (O.take (k+1))))
      rw[lY.out];exact aB GW.out (gJ (Below.refl _ _))
     have rI:Hid _:=gJ (n:=nq) jb.out
     go_wp2
     go_roundw
     case rel=>exact⟨k+1,by omega,by go_num,Mv.out,rI.out⟩
     case measure=>simp[intOf];omega
   ·have q4:((n.form:Int)==4)=false:=ah (b:=4) h4
    have iV:=kP.out;rw[if_neg (λh=>h4 h.1),List.append_nil] at iV;have lY:Hid _:=iV;clear iV kP h4 hfi;obtain⟨W3,uD⟩:∃ W3,W3=w2.alloc (.cells #[.int .i64 n.form,.int .i64 n.at_,.int .i64 n.aL,.int .i64 n.num,.string (bs n.word),.int .i64 n.region,.int .i64 n.source,.int .i64 n.p0,.int .i64 n.p1,.int .i64 n.p2] 108):=⟨_,rfl⟩;rw[<- uD] at jb GW
    have hnb:W3.heap[w2.heap.size]?=some (cA n):=by rw[uD];exact aj _ _
    obtain⟨d0,d1,d2,d3,d4,d5,d6,d7,d8,d9⟩:=aC hnb;have kJ:=af hnb;have WD:Hid _:=uD;clear uD hnb
    go_upto_region 6 with fail
    rw[<- WD.out]
    go_quiet (fail)
    have Mv:Hid ((W3.drewN nq).ownsRow WB.heap.size 3 1 u5 (bf E (O.take (k+1))).length (dc (bf E (O.take (k+1))))):=by
     show (W3.drewN nq).ownsRow WB.heap.size 3 1 u5 (bf E (O.take (k+1))).length (dc (bf E (O.take (k+1))))
     rw[lY.out];exact aB GW.out (gJ (Below.refl _ _))
    have rI:Hid _:=gJ (n:=nq) jb.out
    go_wp2
    go_roundw
    case rel=>exact⟨k+1,by omega,by go_num,Mv.out,rI.out⟩
    case measure=>simp[intOf];omega
  ·have Je:O.take k=O:=by rw[List.take_of_length_le (by omega)]
   rw[Je] at hown;have ji:Hid _:=dI;have eK:Hid _:=hown;clear dI hown Je
   go_wp2_with fail
   refine ja.mono ?_;rintro _ w1 ⟨rfl,hb1⟩;have dZ:Hid _:=eE.out.trans ((ji.out.trans (hb1.mono mS)).mono eE.out.size);have Tz:Hid _:=aB eK.out hb1;clear hb1 ja
   go_wp2
   go_ret
   exact⟨_,rfl,dL Tz.out (λk hk=>by have:=DR.out;have:=(World.ownsRow.lt Tz.out k hk).1;omega),dZ.out⟩
end Go.Proofs.YtpicaknklgccoabGreatDoor
