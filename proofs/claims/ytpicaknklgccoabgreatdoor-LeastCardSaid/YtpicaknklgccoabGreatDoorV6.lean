import Derived.Test.YtpicaknklgccoabGreatDoorV5
set_option maxHeartbeats 16000000
set_option maxRecDepth 100000
namespace Go.Proofs.YtpicaknklgccoabGreatDoor
open Go.RowKit
theorem Kq (s:ByteArray) (ae:Bool) (pb:Nat) (pB:NR->PS->Int × PS) (hs:s.size<=9000) (w:World) (sv nv ov:Value) (st:PS) (h:eX s ae pb w sv nv ov st) (iW:BdA st)
  (hBr:st.l≠[]->∀ (w:World) (n:NR),eX s ae pb w sv nv ov st.tail->Calls Tryz.prog 129 #[ptr pb,aK n] w λv w'=>v=.returned (.int .i64 (pB n st.tail).1)/\∃ fV bJ gh,bL pb pb w w' sv nv ov fV bJ gh/\eX s ae pb w' fV bJ gh (pB n st.tail).2) :
  Calls Tryz.prog 117 #[ptr pb] w λv w'=>v=.returned (.int .i64 (jf s.size pB st).1) /\
   ∃ fV bJ gh,bL pb pb w w' sv nv ov fV bJ gh/\eX s ae pb w' fV bJ gh (jf s.size pB st).2:=by
 have htk:=zh s ae pb w sv nv ov st hs h
 have hfa:=λw a h=>zi s ae pb w sv nv ov st.tail a h
 have hfi:=λw u h=>OM s ae pb w sv nv ov st.tail u (by show st.scope.length<=9000;have:=iW.1;omega) h
 have had:=λw n h=>JX s ae pb w sv nv ov st.tail n (by show st.nodes.length<=9000;have:=iW.2.1;omega) h
 have hne:(fE s.size st.l).kind=2->st.l≠[]:=by
  intro e e';rw[e'] at e;simp[fE] at e
 have hsc:st.tail.scope=st.scope:=rfl;have hnd:st.tail.nodes=st.nodes:=rfl;rw[hsc] at hfi;rw[hnd] at had
 have Ms:Hid (jf s.size pB st=(let t:=fE s.size st.l
  if t.kind=5 then ((st.nodes.length:Int),st.tail.add { jM t with form:=1,num:=t.num })
  else if t.kind=4 then ((st.nodes.length:Int),st.tail.add { jM t with form:=2,word:=t.word,source:=cE st.scope t.word })
  else if t.kind=2 then pB (jM t) st.tail
  else (-1,st.tail.fail t.at_))):=rfl
 obtain⟨T,hT⟩:∃ T,T=fE s.size st.l:=⟨_,rfl⟩;rw[<- hT] at htk Ms hne;obtain⟨R,hR⟩:∃ R,R=jf s.size pB st:=⟨_,rfl⟩;rw[<- hR] at Ms ⊢;unfold jh ptr at htk;unfold ptr at hfa hfi had hBr;unfold aK at had hBr;have ji:Hid _:=hBr;have Mz:Hid _:=hne;have Lx:Hid _:=hfi;have M8:Hid _:=hfa;have HAD:Hid _:=had;have xk:=F5;clear hT h hR hBr hne hfi hfa had iW hsc hnd
 show Calls _ _ #[Value.pointer (some ⟨pb,0,none⟩)] w _
 go_enter Tryz.func117,Tryz.ntmps117
 go_upto_region 2 with (go_at_call 118;refine Calls.mono htk ?_;rintro _ w1 ⟨rfl,hfr,hin⟩)
 go_cut [4] from 7 to 12 (λt4 wx=>I0 w1 T t4 wx)
 case first =>
  go_region_with (go_at_call 83;refine (xk _).mono ?_;rintro e w2 ⟨rfl,hb2⟩;(try (have hqa:=Xw hb2;have KR:=af hqa;have acF:=Nat.ne_of_lt KR;obtain⟨t0,t1,t2,t3,t4⟩:=gI hqa));(try (have Ok:=Xv hb2;have KR:=af Ok;have acF:=Nat.ne_of_lt KR;obtain⟨t0,t1,t2,t3,t4⟩:=gI Ok));(try (have Yf:=kF hb2;have RE:=af Yf;obtain⟨c0,c1,c2,c3,c4,c5,c6,c7,c8,c9⟩:=Kp Yf;obtain⟨f0,f1,f2,f3,f4,f5,f6,f7,f8,f9⟩:=Ql Yf)))
  all_goals (go_wp2_with fail;go_meet)
  all_goals first
   | exact F6 hb2
   | exact F7 hb2
 case rest =>
 obtain⟨g,hg,rfl,hgb,hbc⟩:=hcut;have hsz:w.heap.size<=w1.heap.size:=hfr.size;have hlt:=hin.slt
 have e1:(w1.alloc (mN T)).heap.size=w1.heap.size+1:=by simp
 have XZ:wc.heap[w1.heap.size]?=some (mN T):=by rw[hbc.block _ (by simp)];exact aj _ _
 obtain⟨t0,t1,t2,t3,t4⟩:=gI XZ;have hB:Bk pb g wc sv nv ov (cA (jM T)):=⟨hgb,by have:=hlt.2.2.2;omega,λe=>by have:=hlt.1 _ e;omega,λe=>by have:=hlt.2.1 _ e;omega,λe=>by have:=hlt.2.2.1 _ e;omega⟩;have hI:eX s ae pb wc sv nv ov st.tail:=(hin.alloc (mN T)).below hbc;have hF:bL pb pb w wc sv nv ov sv nv ov:=(hfr.alloc (mN T)).trans (bL.below pb pb sv nv ov hbc)
 have adf:w1.heap.size≠g:=by omega
 have HB:Hid _:=hB;have HI:Hid _:=hI;have HF:Hid _:=hF;have hgw:=af hgb;clear hgb hbc XZ hB hI hF hlt hin hfr htk e1
 by_cases k5:T.kind=5
 ·have q5:((T.kind:Int)==5)=true:=aJ (b:=5) k5
  obtain⟨c0,c1,c2,c3,c4,c5,c6,c7,c8,c9⟩:=aC HB.out.b;have f0:=ag HB.out.b 0;have f3:=ag HB.out.b 3;obtain⟨a1,a2,a3⟩:=HB.out.set HI.out 0 (.int .i64 1);obtain⟨b1,b2,b3⟩:=a3.set a2 3 (.int .i64 T.num);have vN:=HAD.out _ { jM T with form:=1,num:=T.num } b2
  have HR:Hid (R=((st.nodes.length:Int),st.tail.add { jM T with form:=1,num:=T.num })):=by
   have:=Ms.out;simp only[if_pos k5] at this;exact this
  have HG:Hid (bL pb g w _ sv nv ov sv nv ov):=((HF.out.nb (nb:=g)).trans a1).trans b1;have zP:Hid _:=vN;clear a1 a2 a3 b1 b2 b3 vN k5 Ms ji Mz Lx M8 HAD xk
  go_wp2_with fail
  refine Calls.mono zP.out ?_;rintro _ w4 ⟨rfl,iD,iY,cx⟩;have G3:Hid _:=(HG.out.trans (iY.nb (nb:=g))).outer (by omega);have G4:Hid _:=cx;clear iY cx zP
  go_wp2
  go_ret
  rw[HR.out];exact⟨rfl,_,_,_,G3.out,G4.out⟩
 have q5:((T.kind:Int)==5)=false:=ah (b:=5) k5
 by_cases k4:T.kind=4
 ·have q4:((T.kind:Int)==4)=true:=aJ (b:=4) k4
  obtain⟨c0,c1,c2,c3,c4,c5,c6,c7,c8,c9⟩:=aC HB.out.b;have f0:=ag HB.out.b 0;have f4:=ag HB.out.b 4;have f6:=ag HB.out.b 6;obtain⟨a1,a2,a3⟩:=HB.out.set HI.out 0 (.int .i64 2);obtain⟨b1,b2,b3⟩:=a3.set a2 4 (.string (bs T.word));have aa0:=Lx.out _ T.word b2;obtain⟨d1,d2,d3⟩:=b3.set b2 6 (.int .i64 (cE st.scope T.word));have vN:=HAD.out _ { jM T with form:=2,word:=T.word,source:=cE st.scope T.word } d2
  have HR:Hid (R=((st.nodes.length:Int),st.tail.add { jM T with form:=2,word:=T.word,source:=cE st.scope T.word })):=by
   have:=Ms.out;simp only[if_neg k5,if_pos k4] at this;exact this
  have HG:Hid (bL pb g w _ sv nv ov sv nv ov):=(((HF.out.nb (nb:=g)).trans a1).trans b1).trans d1;have zP:Hid _:=vN;have acG:Hid _:=aa0;clear a1 a2 a3 b1 b2 b3 d1 d2 d3 vN aa0 k5 k4 Ms ji Mz Lx M8 HAD xk
  go_wp2_with fail
  refine Calls.mono acG.out ?_;rintro _ w3 ⟨rfl,rfl⟩
  go_wp2_with fail
  refine Calls.mono zP.out ?_;rintro _ w4 ⟨rfl,iD,iY,cx⟩;have G3:Hid _:=(HG.out.trans (iY.nb (nb:=g))).outer (by omega);have G4:Hid _:=cx;clear iY cx zP
  go_wp2
  go_ret
  rw[HR.out];exact⟨rfl,_,_,_,G3.out,G4.out⟩
 have q4:((T.kind:Int)==4)=false:=ah (b:=4) k4
 by_cases k2:T.kind=2
 ·have q2:((T.kind:Int)==2)=true:=aJ (b:=2) k2
  obtain⟨c0,c1,c2,c3,c4,c5,c6,c7,c8,c9⟩:=aC HB.out.b;have ky:=ji.out (Mz.out k2) _ (jM T) HI.out
  have HR:Hid (R=pB (jM T) st.tail):=by
   have:=Ms.out;simp only[if_neg k5,if_neg k4,if_pos k2] at this;exact this
  have Ml:Hid _:=ky;clear ky k5 k4 k2 Ms ji Mz Lx M8 HAD xk
  go_wp2_with fail
  refine Calls.mono Ml.out ?_;rintro _ w4 ⟨rfl,sv4,iD,ov4,iY,cx⟩;have G3:Hid _:=HF.out.trans iY;have G4:Hid _:=cx;clear iY cx Ml
  go_wp2
  go_ret
  rw[HR.out];exact⟨rfl,_,_,_,G3.out,G4.out⟩
 ·have q2:((T.kind:Int)==2)=false:=ah (b:=2) k2
  have Ma:=M8.out _ T.at_ HI.out
  have HR:Hid (R=(-1,st.tail.fail T.at_)):=by
   have:=Ms.out;simp only[if_neg k5,if_neg k4,if_neg k2] at this;exact this
  have aa1:Hid _:=Ma;clear Ma k5 k4 k2 Ms ji Mz Lx M8 HAD xk
  go_wp2_with fail
  refine Calls.mono aa1.out ?_;rintro _ w4 ⟨rfl,iY,cx⟩;have G3:Hid _:=HF.out.trans iY;have G4:Hid _:=cx;clear iY cx aa1
  go_wp2
  go_ret
  rw[HR.out];exact⟨rfl,_,_,_,G3.out,G4.out⟩
end Go.Proofs.YtpicaknklgccoabGreatDoor
