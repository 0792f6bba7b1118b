import Derived.Test.YtpicaknklgccoabGreatDoorS4
set_option maxHeartbeats 16000000
set_option maxRecDepth 100000
namespace Go.Proofs.YtpicaknklgccoabGreatDoor
open Go.RowKit
theorem IZ (s:ByteArray) (ae:Bool) (pb:Nat) (pB:NR->PS->Int × PS) (hs:s.size<=9000) (w:World) (sv nv ov:Value) (st:PS) (h:eC s ae pb w sv nv ov st) (gZ:BdA st)
  (hBr:st.l≠[]->∀ (w:World) (n:NR),eC s ae pb w sv nv ov st.tail->Calls Tryz.prog 129 #[ptr pb,aI n] w fun v w'=>v=.returned (.int .i64 (pB n st.tail).1)/\∃ fC bB fH,bz pb pb w w' sv nv ov fC bB fH/\eC s ae pb w' fC bB fH (pB n st.tail).2) :
  Calls Tryz.prog 117 #[ptr pb] w fun v w'=>v=.returned (.int .i64 (iw s.size pB st).1) /\
   ∃ fC bB fH,bz pb pb w w' sv nv ov fC bB fH/\eC s ae pb w' fC bB fH (iw s.size pB st).2:=by
 have htk:=wV s ae pb w sv nv ov st hs h
 have hfa:=fun w a h=>xW s ae pb w sv nv ov st.tail a h
 have hfi:=fun w u h=>Nz s ae pb w sv nv ov st.tail u (by show st.scope.length<=9000;have:=gZ.1;omega) h
 have had:=fun w n h=>Il s ae pb w sv nv ov st.tail n (by show st.nodes.length<=9000;have:=gZ.2.1;omega) h
 have hne:(eY s.size st.l).kind=2->st.l≠[]:=by
  intro e e';rw [e'] at e;simp [eY] at e
 have hsc:st.tail.scope=st.scope:=rfl
 have hnd:st.tail.nodes=st.nodes:=rfl
 rw [hsc] at hfi
 rw [hnd] at had
 have Lg:Hid (iw s.size pB st=(let t:=eY s.size st.l
  if t.kind=5 then ((st.nodes.length:Int),st.tail.add { je t with form:=1,num:=t.num })
  else if t.kind=4 then ((st.nodes.length:Int),st.tail.add { je t with form:=2,word:=t.word,source:=bN st.scope t.word })
  else if t.kind=2 then pB (je t) st.tail
  else (-1,st.tail.fail t.at_))):=rfl
 obtain ⟨T,hT⟩:∃ T,T=eY s.size st.l:=⟨_,rfl⟩
 rw [<- hT] at htk Lg hne
 obtain ⟨R,hR⟩:∃ R,R=iw s.size pB st:=⟨_,rfl⟩
 rw [<- hR] at Lg ⊢
 unfold iz ptr at htk
 unfold ptr at hfa hfi had hBr
 unfold aI at had hBr
 have iA:Hid _:=hBr
 have K1:Hid _:=hne
 have Jx:Hid _:=hfi
 have Lw:Hid _:=hfa
 have HAD:Hid _:=had
 have tu:=Ey
 clear hT h hR hBr hne hfi hfa had gZ hsc hnd
 show Calls _ _ #[Value.pointer (some ⟨pb,0,none⟩)] w _
 go_enter Tryz.func117,Tryz.ntmps117
 go_upto_region 2 with (go_at_call 118;refine Calls.mono htk ?_;rintro _ w1 ⟨rfl,hfr,hin⟩)
 go_cut [4] from 7 to 12 (fun t4 wx=>GK w1 T t4 wx)
 case first =>
  go_region_with (go_at_call 83;refine (tu _).mono ?_;rintro e w2 ⟨rfl,hb2⟩;(try (have hqa:=VM hb2;have Jq:=af hqa;have abo:=Nat.ne_of_lt Jq;obtain ⟨t0,t1,t2,t3,t4⟩:=fW hqa));(try (have Mw:=VL hb2;have Jq:=af Mw;have abo:=Nat.ne_of_lt Jq;obtain ⟨t0,t1,t2,t3,t4⟩:=fW Mw));(try (have Wx:=jK hb2;have Jz:=af Wx;obtain ⟨c0,c1,c2,c3,c4,c5,c6,c7,c8,c9⟩:=IY Wx;obtain ⟨f0,f1,f2,f3,f4,f5,f6,f7,f8,f9⟩:=OM Wx)))
  all_goals (go_wp2_with fail;go_meet)
  all_goals first
   | exact Ez hb2
   | exact EA hb2
 case rest =>
 obtain ⟨g,hg,rfl,hgb,hbc⟩:=hcut
 have hsz:w.heap.size<=w1.heap.size:=hfr.size
 have hlt:=hin.slt
 have e1:(w1.alloc (lZ T)).heap.size=w1.heap.size+1:=by simp
 have V8:wc.heap[w1.heap.size]?=some (lZ T):=by rw [hbc.block _ (by simp)];exact aj _ _
 obtain ⟨t0,t1,t2,t3,t4⟩:=fW V8
 have hB:Bk pb g wc sv nv ov (bU (je T)):=⟨hgb,by have:=hlt.2.2.2;omega,fun e=>by have:=hlt.1 _ e;omega,fun e=>by have:=hlt.2.1 _ e;omega,fun e=>by have:=hlt.2.2.1 _ e;omega⟩
 have hI:eC s ae pb wc sv nv ov st.tail:=(hin.alloc (lZ T)).below hbc
 have hF:bz pb pb w wc sv nv ov sv nv ov:=(hfr.alloc (lZ T)).trans (bz.below pb pb sv nv ov hbc)
 have abV:w1.heap.size≠g:=by omega
 have HB:Hid _:=hB
 have HI:Hid _:=hI
 have HF:Hid _:=hF
 have hgw:=af hgb
 clear hgb hbc V8 hB hI hF hlt hin hfr htk e1
 by_cases k5:T.kind=5
 ·have q5:((T.kind:Int) == 5)=true:=aH (b:=5) k5
  obtain ⟨c0,c1,c2,c3,c4,c5,c6,c7,c8,c9⟩:=aC HB.out.b
  have f0:=ag HB.out.b 0
  have f3:=ag HB.out.b 3
  obtain ⟨a1,a2,a3⟩:=HB.out.set HI.out 0 (.int .i64 1)
  obtain ⟨b1,b2,b3⟩:=a3.set a2 3 (.int .i64 T.num)
  have ur:=HAD.out _ { je T with form:=1,num:=T.num } b2
  have HR:Hid (R=((st.nodes.length:Int),st.tail.add { je T with form:=1,num:=T.num })):=by
   have:=Lg.out;simp only [if_pos k5] at this;exact this
  have HG:Hid (bz pb g w _ sv nv ov sv nv ov):=((HF.out.nb (nb:=g)).trans a1).trans b1
  have yL:Hid _:=ur
  clear a1 a2 a3 b1 b2 b3 ur k5 Lg iA K1 Jx Lw HAD tu
  go_wp2_with fail
  refine Calls.mono yL.out ?_
  rintro _ w4 ⟨rfl,gK,ij,bT⟩
  have G3:Hid _:=(HG.out.trans (ij.nb (nb:=g))).outer (by omega)
  have G4:Hid _:=bT
  clear ij bT yL
  go_wp2
  go_ret
  rw [HR.out]
  exact ⟨rfl,_,_,_,G3.out,G4.out⟩
 have q5:((T.kind:Int) == 5)=false:=ah (b:=5) k5
 by_cases k4:T.kind=4
 ·have q4:((T.kind:Int) == 4)=true:=aH (b:=4) k4
  obtain ⟨c0,c1,c2,c3,c4,c5,c6,c7,c8,c9⟩:=aC HB.out.b
  have f0:=ag HB.out.b 0
  have f4:=ag HB.out.b 4
  have f6:=ag HB.out.b 6
  obtain ⟨a1,a2,a3⟩:=HB.out.set HI.out 0 (.int .i64 2)
  obtain ⟨b1,b2,b3⟩:=a3.set a2 4 (.string (bs T.word))
  have Zp:=Jx.out _ T.word b2
  obtain ⟨d1,d2,d3⟩:=b3.set b2 6 (.int .i64 (bN st.scope T.word))
  have ur:=HAD.out _ { je T with form:=2,word:=T.word,source:=bN st.scope T.word } d2
  have HR:Hid (R=((st.nodes.length:Int),st.tail.add { je T with form:=2,word:=T.word,source:=bN st.scope T.word })):=by
   have:=Lg.out;simp only [if_neg k5,if_pos k4] at this;exact this
  have HG:Hid (bz pb g w _ sv nv ov sv nv ov):=(((HF.out.nb (nb:=g)).trans a1).trans b1).trans d1
  have yL:Hid _:=ur
  have abp:Hid _:=Zp
  clear a1 a2 a3 b1 b2 b3 d1 d2 d3 ur Zp k5 k4 Lg iA K1 Jx Lw HAD tu
  go_wp2_with fail
  refine Calls.mono abp.out ?_
  rintro _ w3 ⟨rfl,rfl⟩
  go_wp2_with fail
  refine Calls.mono yL.out ?_
  rintro _ w4 ⟨rfl,gK,ij,bT⟩
  have G3:Hid _:=(HG.out.trans (ij.nb (nb:=g))).outer (by omega)
  have G4:Hid _:=bT
  clear ij bT yL
  go_wp2
  go_ret
  rw [HR.out]
  exact ⟨rfl,_,_,_,G3.out,G4.out⟩
 have q4:((T.kind:Int) == 4)=false:=ah (b:=4) k4
 by_cases k2:T.kind=2
 ·have q2:((T.kind:Int) == 2)=true:=aH (b:=2) k2
  obtain ⟨c0,c1,c2,c3,c4,c5,c6,c7,c8,c9⟩:=aC HB.out.b
  have jF:=iA.out (K1.out k2) _ (je T) HI.out
  have HR:Hid (R=pB (je T) st.tail):=by
   have:=Lg.out;simp only [if_neg k5,if_neg k4,if_pos k2] at this;exact this
  have KO:Hid _:=jF
  clear jF k5 k4 k2 Lg iA K1 Jx Lw HAD tu
  go_wp2_with fail
  refine Calls.mono KO.out ?_
  rintro _ w4 ⟨rfl,sv4,gK,ov4,ij,bT⟩
  have G3:Hid _:=HF.out.trans ij
  have G4:Hid _:=bT
  clear ij bT KO
  go_wp2
  go_ret
  rw [HR.out]
  exact ⟨rfl,_,_,_,G3.out,G4.out⟩
 ·have q2:((T.kind:Int) == 2)=false:=ah (b:=2) k2
  have KL:=Lw.out _ T.at_ HI.out
  have HR:Hid (R=(-1,st.tail.fail T.at_)):=by
   have:=Lg.out;simp only [if_neg k5,if_neg k4,if_neg k2] at this;exact this
  have Zq:Hid _:=KL
  clear KL k5 k4 k2 Lg iA K1 Jx Lw HAD tu
  go_wp2_with fail
  refine Calls.mono Zq.out ?_
  rintro _ w4 ⟨rfl,ij,bT⟩
  have G3:Hid _:=HF.out.trans ij
  have G4:Hid _:=bT
  clear ij bT Zq
  go_wp2
  go_ret
  rw [HR.out]
  exact ⟨rfl,_,_,_,G3.out,G4.out⟩
end Go.Proofs.YtpicaknklgccoabGreatDoor
