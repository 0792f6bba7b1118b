import Derived.Test.YtpicaknklgccoabGreatDoorV44
set_option maxHeartbeats 8000000
set_option maxRecDepth 100000
namespace Go.Proofs.YtpicaknklgccoabGreatDoor
open Go.RowKit
open Go.Lib (decDigits)
theorem mg (q:Nat) (x:KE) (k:Kw) (n:Nat) (ks:List KE) (hn:n<=1000)
  (hF:∀ m,cB q x m=(wT q m (.node 0 k (cQ k n) (P4 k) (xw q ks (m+1)).1),(xw q ks (m+1)).2))
  (hin:∀ w p,eD w x p->Bq w p k n ks) (qQ:ks.length<=3) (ih:∀ y∈ks,Qe q y):Qe q x:=by
 intro w0 w yb p rv nv raw s hmk hx hlen hat hit;obtain⟨c,hc0,hb0,yC⟩:=hin w0 p hx;have nT:=af hb0
 have hcell:∀ W,Below w0.heap.size w0 W->p<W.heap.size/\c<W.heap.size/\W.cell? ⟨p,0,none⟩=some (.string (bs k.bytes))/\W.cell? ⟨p,1,none⟩=some (.int .i64 n)/\W.cell? ⟨p,2,none⟩=some (.slice (some ⟨c,0,none⟩) ks.length ks.length):=λW hW=>by
  have hb:W.heap[p]?=some (.cells (pF k.bytes n (.slice (some ⟨c,0,none⟩) ks.length ks.length)) 59 (0,0)):=(hW.block p nT).trans hb0;have:=hW.size;exact⟨by omega,by omega,by rw[aa hb];rfl,by rw[aa hb];rfl,by rw[aa hb];rfl⟩
 have nV:=af hmk.ob.y
 have y1:w.cell? ⟨yb,1,none⟩=some (.int .i64 s.at_):=by rw[aa hmk.ob.y];rfl
 have f1:w.frozen? ⟨yb,1,none⟩=false:=ag hmk.ob.y 1;have jD:=IX hmk;obtain⟨W1,hW1⟩:∃ W1,W1=w.setCell ⟨yb,1,none⟩ (.int .i64 ((s.at_:Int)+1)):=⟨_,rfl⟩;rw[<- hW1] at jD
 have h1:((bs k.bytes).toList==[])=false:=by rw[aM];cases k <;> decide
 have h2:((bs k.bytes).toList==[120])=false:=by rw[aM];cases k <;> decide
 obtain⟨bp,Y6⟩:∃ bp,((bs k.bytes).toList==[112,97,105,114])=bp:=⟨_,rfl⟩;obtain⟨bl,hl⟩:∃ bl,((bs k.bytes).toList==[108,101,116])=bl:=⟨_,rfl⟩;obtain⟨bo,ho⟩:∃ bo,((bs k.bytes).toList==[108,111,111,112])=bo:=⟨_,rfl⟩
 have hP:bp=decide (k=.pair):=by rw[<- Y6,aM];cases k <;> decide
 have hL:bl=decide (k=.aP):=by rw[<- hl,aM];cases k <;> decide
 have hO:bo=decide (k=.loop):=by rw[<- ho,aM];cases k <;> decide
 have Gu:¬ (bl=true/\bo=true):=by rw[hL,hO];cases k <;> simp
 rw[hF] at hlen hat ⊢;simp only at hlen hat ⊢;obtain⟨T,hT⟩:∃ T,T=PT.node 0 k (cQ k n) (P4 k) (xw q ks (s.at_+1)).1:=⟨_,rfl⟩;rw[<- hT] at hlen ⊢;obtain⟨f2,f3,f4⟩:=tA q s.at_ T;obtain⟨ts,hts⟩:∃ ts,ts=(xw q ks (s.at_+1)).1.map PT.tidy:=⟨_,rfl⟩
 have htl:ts.length=ks.length:=by rw[hts];simp[Ko]
 obtain⟨pre,hpre⟩:∃ pre,pre=40::(k.bytes++dn (P4 k)):=⟨_,rfl⟩
 have JG:T.tidy=40::(k.bytes++(dn (P4 k)++(bh k (aE n) 0 ts++[41]))):=by rw[hT,hts];simp only[PT.tidy,vR,fR]
 have hfin:cN pre k (aE n) ts ks.length++[41]=T.tidy:=by
  rw[JG,hpre];unfold cN;rw[<- htl,List.take_length];simp
 have yD:pre.length+(bh k (aE n) 0 ts).length+1=T.tidy.length:=by rw[JG,hpre];simp;omega
 have yE:=λj=>CE pre k (aE n) ts j
 obtain⟨sj,hsj⟩:∃ sj:Nat->fC,sj=λj=>{ s with at_:=(xw q (ks.take j) (s.at_+1)).2 }:=⟨_,rfl⟩
 have Mh:sj 0={ s with at_:=s.at_+1 }:=by rw[hsj];simp[xw]
 have Qc:sj ks.length={ s with at_:=(xw q ks (s.at_+1)).2 }:=by rw[hsj];simp
 have hall:∀ j,(hj:j<ks.length)->∀ w',cd w0 w' yb rv raw (sj j) nv->∃ (u:Nat) (tx:List UInt8),w'.cell? ⟨c,j,none⟩=some (.pointer (some ⟨u,0,none⟩))/\ts[j]?=some tx/\tx.length<=100000 /\
   Calls Tryz.prog 20 #[.pointer (some ⟨u,0,none⟩),.pointer (some ⟨yb,0,none⟩),.int .i64 q] w' (λe w''=>e=.returned (.string (bs tx))/\cd w0 w'' yb rv raw (sj (j+1)) nv):=by
  intro j hj w' hw';obtain⟨u,hu,hy⟩:=yC j ks[j] (List.getElem?_eq_getElem hj);obtain⟨g1,g2⟩:=Qd q ks (s.at_+1) j hj
  have hsa:(sj j).at_=(xw q (ks.take j) (s.at_+1)).2:=by rw[hsj]
  have kZ:ts[j]?=some (cB q ks[j] (sj j).at_).1.tidy:=by rw[hts,List.getElem?_map,g1,hsa];rfl
  have hm:=qR k (aE n) ts 0 _ (List.mem_of_getElem? kZ)
  have hst:({ sj j with at_:=(cB q ks[j] (sj j).at_).2 }:fC)=sj (j+1):=by rw[hsa,<- g2,hsj]
  have jQ:=FY q ks (s.at_+1) (j+1);rw[g2] at jQ;refine⟨u,_,(hw'.ob.b0.cell (p:=⟨c,j,none⟩) hc0).trans hu,kZ,by omega,?_⟩;have:=ih ks[j] (List.getElem_mem hj) w0 w' yb u rv nv raw (sj j) hw' hy (by omega) (by rw[hsa];omega) hit;rw[hst] at this;exact this
 have hnm:=λW=>lB n hn W
 have hkb:k.bytes.length<=4:=by cases k <;> decide
 have hz':∀ j,(bs (cN pre k (aE n) ts j)).size<=100000:=λj=>by rw[bE];have:=yE j;omega
 have yF:Hid _:=hall;have MD:Hid _:=hnm;have yG:Hid _:=hfin;have HL:Hid _:=hL;have HO:Hid _:=hO;have HZ:Hid _:=hz';have HC:Hid _:=hcell;have uT:Hid _:=f2;have uU:Hid _:=f3
 have zt:(bs T.tidy).size<=100000:=by rw[bE];omega
 have z1:(ByteArray.mk #[40]).size=1:=rfl
 have z2:(bs k.bytes).size<=4:=by rw[bE];exact hkb
 have z3:(bs (aE n)).size=3:=rfl
 have zS:(ByteArray.mk #[40]++bs k.bytes).size<=5:=by rw[ByteArray.size_append];omega
 have zH:(ByteArray.mk #[32,35,48]).size=3:=rfl
 have e0:bp=true->ByteArray.mk #[40]++bs k.bytes++ByteArray.mk #[32,35,48]=bs (cN pre k (aE n) ts 0):=by
  intro h;rw[hP,decide_eq_true_eq] at h
  have hd:decDigits 0=[48]:=by rw[decDigits];rfl
  rw[show ByteArray.mk #[40]=bs [40] from rfl,show ByteArray.mk #[32,35,48]=bs [32,35,48] from rfl,bD,bD,hpre];unfold P4;rw[if_pos h];simp[cN,bh,dn,Au,hd]
 have e1:bp=false->ByteArray.mk #[40]++bs k.bytes=bs (cN pre k (aE n) ts 0):=by
  intro h;rw[hP,decide_eq_false_iff_not] at h;rw[show ByteArray.mk #[40]=bs [40] from rfl,bD,hpre];unfold P4;rw[if_neg h];simp[cN,bh,dn]
 have E0:Hid _:=e0;have E1:Hid _:=e1;have kP:Hid _:=Qc
 have Yd:Hid (cd w0 W1 yb rv raw (sj 0) nv):=by rw[Mh];exact jD
 obtain⟨X5,hcw,x0,x1,x2⟩:=hcell W1 jD.ob.b0;have JR:Hid _:=hW1
 have oL:s.at_<=1000000:=by have:=Ac q ks (s.at_+1);omega
 obtain⟨m,hm⟩:∃ m,m=s.at_:=⟨_,rfl⟩;rw[<- hm] at y1 JR uT uU oL ⊢;obtain⟨M2,hM2⟩:∃ M2,M2=(xw q ks (s.at_+1)).2:=⟨_,rfl⟩;rw[<- hM2] at kP;have aaL:Hid _:=hM2;have Gi:Hid _:=hm;clear hall hx yC ih hit hL hO hP JG hin hfin hpre hts yE hnm hz' e0 e1 hb0 hlen yD hkb hcell hmk f2 f3 f4 hT hsj Mh Qc hF nT hc0 jD hW1 hm hM2 hat
 go_enter Tryz.func20,Tryz.ntmps20
 go_upto_region 3 with fail
 rw[<- JR.out];clear y1 f1 JR
 cases bp
 case' false=>have ee1:Hid _:=E1.out rfl
 case' true=>have ee1:Hid _:=E0.out rfl
 all_goals
  clear E0 E1
  go_wp2_with fail
  go_loopw [8,9] (λv i wr=>∃ j:Nat,j<=ks.length/\i=.int .i64 j/\v=.string (bs (cN pre k (aE n) ts j))/\cd w0 wr yb rv raw (sj j) nv) (λ_ i _=>ks.length-(intOf i).toNat)
  case atStart=>exact⟨0,by omega,rfl,by rw[<- ee1.out],Yd.out⟩
  case round =>
   obtain⟨j,hj,rfl,rfl,Xn⟩:=hrel;obtain⟨jN,KG,q0,q1,q2⟩:=HC.out wr Xn.ob.b0;have zA:=HZ.out j;have z4:(ByteArray.mk #[32]).size=1:=rfl;have z5:(ByteArray.mk #[41]).size=1:=rfl;have SY:Hid _:=Xn;clear Xn Yd ee1
   by_cases hlt:j<ks.length
   ·have iL:∀ tx,ts[j]?=some tx->cN pre k (aE n) ts (j+1)=cN pre k (aE n) ts j++bF k (aE n) j tx:=λtx kZ=>vA pre k (aE n) ts j tx kZ
    have SZ:Hid _:=iL
    have zB:(bs (cN pre k (aE n) ts j)++ByteArray.mk #[32]).size<=100001:=by rw[ByteArray.size_append];omega
    have zC:(bs (cN pre k (aE n) ts j)++ByteArray.mk #[32]++bs (aE n)).size<=100004:=by rw[ByteArray.size_append];omega
    have zD:(bs (cN pre k (aE n) ts j)++ByteArray.mk #[32]++bs (aE n)++ByteArray.mk #[32]).size<=100005:=by rw[ByteArray.size_append];omega
    have eN:((bl=true/\j=0)\/(bo=true/\j=1))->∀ tx,ts[j]?=some tx->bs (cN pre k (aE n) ts j)++ByteArray.mk #[32]++bs (aE n)++ByteArray.mk #[32]++bs tx=bs (cN pre k (aE n) ts (j+1)):=by
     intro mL tx kZ;rw[HL.out,HO.out,decide_eq_true_eq,decide_eq_true_eq] at mL;rw[SZ.out tx kZ,show ByteArray.mk #[32]=bs [32] from rfl,bD,bD,bD,bD];unfold bF;rw[if_pos mL];simp
    have eP:¬ ((bl=true/\j=0)\/(bo=true/\j=1))->∀ tx,ts[j]?=some tx->bs (cN pre k (aE n) ts j)++ByteArray.mk #[32]++bs tx=bs (cN pre k (aE n) ts (j+1)):=by
     intro mL tx kZ;rw[HL.out,HO.out,decide_eq_true_eq,decide_eq_true_eq] at mL;rw[SZ.out tx kZ,show ByteArray.mk #[32]=bs [32] from rfl,bD,bD];unfold bF;rw[if_neg mL];simp
    have EN:Hid _:=eN;have EP:Hid _:=eP;clear eN eP iL uT uU
    by_cases mL:(bl=true/\j=0)\/(bo=true/\j=1)
    ·have CF:Hid _:=EN.out mL
     clear EN EP SZ HL HO HZ
     have dI:(bl=true/\j=0)\/(bl=false/\bo=true/\j=1):=by
      rcases mL with h | h
      ·exact Or.inl h
      ·right
       refine⟨?_,h⟩
       cases bl with
       | false=>rfl
       | true=>exact absurd ⟨rfl,h.1⟩ Gu
     clear mL Gu
     have Y8:(bl=true/\((j:Int)==0)=true)\/(bl=false/\bo=true/\((j:Int)==1)=true):=by
      rcases dI with ⟨h1,h2⟩ | ⟨h1,h2,h3⟩
      ·exact Or.inl ⟨h1,by rw[h2];rfl⟩
      ·exact Or.inr ⟨h1,h2,by rw[h3];rfl⟩
     clear dI
     rcases Y8 with ⟨rfl,Y9⟩ | ⟨rfl,rfl,Y9⟩
     all_goals
      go_wp2_with fail
      refine Calls.mono (MD.out _) ?_;rintro _ w1 ⟨rfl,hb1⟩;have lz:Hid _:=SY.out.grow hb1;obtain⟨Ze,Zf,_,_,r2⟩:=HC.out w1 lz.out.ob.b0;obtain⟨u,tx,hu,kZ,yH,hcall⟩:=yF.out _ hlt w1 lz.out;have Ep:=CF.out tx kZ
      have zE:(bs tx).size<=100000:=by rw[bE];exact yH
      have C2:Hid _:=hcall;have NW:Hid _:=Ep;clear hcall Ep kZ CF hb1
      go_wp2_with fail
      refine Calls.mono C2.out ?_;rintro _ w2 ⟨rfl,hm2⟩;have mK:Hid _:=hm2;clear hm2 C2
      go_wp2
      go_roundw
      case rel=>exact⟨j+1,by omega,by go_num,by rw[<- NW.out],mK.out⟩
      case measure=>simp[intOf];omega
    ·have CF:Hid _:=EP.out mL
     clear EN EP SZ HL HO HZ;obtain⟨u,tx,hu,kZ,yH,hcall⟩:=yF.out j hlt wr SY.out;have Ep:=CF.out tx kZ
     have zE:(bs tx).size<=100000:=by rw[bE];exact yH
     have C2:Hid _:=hcall;have NW:Hid _:=Ep
     have kJ:¬ (bl=true/\j=0):=λh=>mL (Or.inl h)
     have hno:¬ (bo=true/\j=1):=λh=>mL (Or.inr h)
     clear hcall Ep kZ CF mL
     have TL:j≠0->((j:Int)==0)=false:=λh=>by rw[beq_eq_false_iff_ne];omega
     have TM:j≠1->((j:Int)==1)=false:=λh=>by rw[beq_eq_false_iff_ne];omega
     cases bl <;> cases bo <;> first | exact absurd ⟨rfl,rfl⟩ Gu | skip
     all_goals
      clear Gu
      first
      | (have TQ:j≠0:=λh=>kJ ⟨rfl,h⟩
         have q6:=TL TQ)
      | (have Zg:j≠1:=λh=>hno ⟨rfl,h⟩
         have q6:=TM Zg)
      | skip
      clear kJ hno TL TM
      go_wp2_with fail
      refine Calls.mono C2.out ?_;rintro _ w2 ⟨rfl,hm2⟩;have mK:Hid _:=hm2;clear hm2 C2
      go_wp2
      go_roundw
      case rel=>exact⟨j+1,by omega,by go_num,by rw[<- NW.out],mK.out⟩
      case measure=>simp[intOf];omega
   ·have hjk:j=ks.length:=by omega
    subst hjk;have Qv:=SY.out;rw[kP.out] at Qv;have HMN:Hid _:=Qv
    have HFJ:Hid (bs (cN pre k (aE n) ts ks.length)++ByteArray.mk #[41]=bs T.tidy):=by rw[<- yG.out,<- bD];rfl
    have zF:(bs (cN pre k (aE n) ts ks.length)++ByteArray.mk #[41]).size<=100001:=by rw[ByteArray.size_append];omega
    clear yF HL HO HZ yG SY Qv
    by_cases h4:m=q
    ·have Aa:Hid _:=uT.out h4
     have q4:((m:Int)==(q:Int))=true:=by rw[h4];simp
     have zl:(ByteArray.mk #[40,110,101,119,32,35,48,32]).size=8:=rfl
     have za:(ByteArray.mk #[40,110,101,119,32,35,48,32]++(bs (cN pre k (aE n) ts ks.length)++ByteArray.mk #[41])).size<=100009:=by rw[ByteArray.size_append];omega
     clear h4 uT uU
     go_wp2
     go_ret
     exact⟨by show Ending.returned (Value.string (ByteArray.mk #[40,110,101,119,32,35,48,32]++(bs (cN pre k (aE n) ts ks.length)++ByteArray.mk #[41])++ByteArray.mk #[41]))=_;rw[HFJ.out,Aa.out],by rw[Gi.out,<- aaL.out];exact HMN.out⟩
    ·have Ab:Hid _:=uU.out h4
     have q4:((m:Int)==(q:Int))=false:=by rw[beq_eq_false_iff_ne];omega
     clear h4 uT uU
     go_wp2
     go_ret
     exact⟨by show Ending.returned (Value.string (bs (cN pre k (aE n) ts ks.length)++ByteArray.mk #[41]))=_;rw[HFJ.out,Ab.out],by rw[Gi.out,<- aaL.out];exact HMN.out⟩
theorem Ta (q:Nat):∀ {vs:List Nat} {x:KE} {t:Nat},KT vs x t->vs.length<=101->Qe q x:=by
 intro vs x t h
 induction h with
 | num h=>intro _;exact S5 q _ (by omega)
 | var h =>
  intro hl;refine S9 q _ ?_;have:=(List.getElem?_eq_some_iff.1 h).1;omega
 | aP _ hl _ _ ha hb =>
  intro _;refine mg q _ .aP _ [_,_] (by omega) (λs=>rfl) (λw p h=>ou h) (by simp) ?_;intro y hy;simp only[List.mem_cons,List.not_mem_nil,or_false] at hy
  rcases hy with rfl | rfl
  ·exact ha (by omega)
  ·exact hb (by simp;omega)
 | di _ _ _ ha hb hc =>
  intro hl;refine mg q _ .di 0 [_,_,_] (by omega) (λs=>rfl) (λw p h=>vC h) (by simp) ?_;intro y hy;simp only[List.mem_cons,List.not_mem_nil,or_false] at hy
  rcases hy with rfl | rfl | rfl
  ·exact ha hl
  ·exact hb hl
  ·exact hc hl
 | loop hl _ _ _ ha hb hc =>
  intro _;refine mg q _ .loop _ [_,_,_] (by omega) (λs=>rfl) (λw p h=>vC h) (by simp) ?_;intro y hy;simp only[List.mem_cons,List.not_mem_nil,or_false] at hy
  rcases hy with rfl | rfl | rfl
  ·exact ha (by omega)
  ·exact hb (by omega)
  ·exact hc (by simp;omega)
 | pair _ _ _ _ ha hb =>
  intro hl;refine mg q _ .pair 0 [_,_] (by omega) (λs=>rfl) (λw p h=>ou h) (by simp) ?_;intro y hy;simp only[List.mem_cons,List.not_mem_nil,or_false] at hy
  rcases hy with rfl | rfl
  ·exact ha hl
  ·exact hb hl
 | fst _ _ _ ha =>
  intro hl;refine mg q _ .fst 0 [_] (by omega) (λs=>rfl) (λw p h=>vB h) (by simp) ?_;intro y hy;simp only[List.mem_cons,List.not_mem_nil,or_false] at hy;subst hy;exact ha hl
 | snd _ _ _ ha =>
  intro hl;refine mg q _ .snd 0 [_] (by omega) (λs=>rfl) (λw p h=>vB h) (by simp) ?_;intro y hy;simp only[List.mem_cons,List.not_mem_nil,or_false] at hy;subst hy;exact ha hl
 | two hk _ _ ha hb =>
  intro hl;refine mg q _ _ 0 [_,_] (by omega) (λs=>by rcases hk with rfl | rfl | rfl <;> rfl) (λw p h=>ou h) (by simp) ?_;intro y hy;simp only[List.mem_cons,List.not_mem_nil,or_false] at hy
  rcases hy with rfl | rfl
  ·exact ha hl
  ·exact hb hl
theorem Qf (raw:List Int):∀ {vs:List Nat} {x:KE} {t:Nat},KT vs x t->vs.length<=101->P7 raw x:=by
 intro vs x t h
 induction h with
 | num h=>intro _;exact P8 raw _ (by omega)
 | var h =>
  intro hl;refine Qb raw _ ?_;have:=(List.getElem?_eq_some_iff.1 h).1;omega
 | aP _ hl _ _ ha hb =>
  intro _;refine kg raw _ .aP _ [_,_] (by decide) (by omega) (λs=>rfl) (λw p h=>ou h) (by simp) ?_;intro y hy;simp only[List.mem_cons,List.not_mem_nil,or_false] at hy
  rcases hy with rfl | rfl
  ·exact ha (by omega)
  ·exact hb (by simp;omega)
 | di _ _ _ ha hb hc =>
  intro hl;refine kg raw _ .di 0 [_,_,_] (by decide) (by omega) (λs=>rfl) (λw p h=>vC h) (by simp) ?_;intro y hy;simp only[List.mem_cons,List.not_mem_nil,or_false] at hy
  rcases hy with rfl | rfl | rfl
  ·exact ha hl
  ·exact hb hl
  ·exact hc hl
 | loop hl _ _ _ ha hb hc =>
  intro _;refine kg raw _ .loop _ [_,_,_] (by decide) (by omega) (λs=>rfl) (λw p h=>vC h) (by simp) ?_;intro y hy;simp only[List.mem_cons,List.not_mem_nil,or_false] at hy
  rcases hy with rfl | rfl | rfl
  ·exact ha (by omega)
  ·exact hb (by omega)
  ·exact hc (by simp;omega)
 | pair _ _ _ _ ha hb =>
  intro hl;refine kg raw _ .pair 0 [_,_] (by decide) (by omega) (λs=>rfl) (λw p h=>ou h) (by simp) ?_;intro y hy;simp only[List.mem_cons,List.not_mem_nil,or_false] at hy
  rcases hy with rfl | rfl
  ·exact ha hl
  ·exact hb hl
 | fst _ _ _ ha =>
  intro hl;refine kg raw _ .fst 0 [_] (by decide) (by omega) (λs=>rfl) (λw p h=>vB h) (by simp) ?_;intro y hy;simp only[List.mem_cons,List.not_mem_nil,or_false] at hy;subst hy;exact ha hl
 | snd _ _ _ ha =>
  intro hl;refine kg raw _ .snd 0 [_] (by decide) (by omega) (λs=>rfl) (λw p h=>vB h) (by simp) ?_;intro y hy;simp only[List.mem_cons,List.not_mem_nil,or_false] at hy;subst hy;exact ha hl
 | two hk _ _ ha hb =>
  intro hl;refine kg raw _ _ 0 [_,_] (by rcases hk with rfl | rfl | rfl <;> decide) (by omega) (λs=>by rcases hk with rfl | rfl | rfl <;> rfl) (λw p h=>ou h) (by simp) ?_;intro y hy;simp only[List.mem_cons,List.not_mem_nil,or_false] at hy
  rcases hy with rfl | rfl
  ·exact ha hl
  ·exact hb hl
mutual
theorem B0:∀ e:PT,dC e->e.era=e
 | .num _ _,_=>rfl
 | .name _ _,_=>rfl
 | .node p k nm rg kids,h=>by
  cases h with
  | node hk hn=>simp only[PT.era,if_neg hk,Ad kids hn]
theorem Ad:∀ l:List PT,(∀ x∈l,dC x)->eI l=l
 | [],_=>rfl
 | t::r,h=>by simp only[eI,B0 t (h t (by simp)),Ad r (λx hx=>h x (by simp[hx]))]
end
theorem Tb (w:World) (P Q:ByteArray)
  (UL:Hid (∀ W,Calls Tryz.prog 12 #[.string Q] W λe w'=>∃ k a:Nat,e=.returned (.tuple #[.int .i64 k,.int .i64 a])/\(k=7\/k=8\/k=9\/k=10)/\Below W.heap.size W w')) :
  Calls Tryz.prog 21 #[.string P,.string Q] w λe w'=>e=.returned (.bool true)/\Below w.heap.size w w':=by
 go_enter Tryz.func21,Tryz.ntmps21
 go_wp2_with fail
 refine Calls.mono (UL.out w) ?_;rintro _ w1 ⟨k,a,rfl,hk,hb1⟩;have dZ:Hid _:=hb1
 have qk:((k:Int) != 0)=true:=by simp;omega
 clear hb1 UL hk
 go_wp2
 go_ret
 exact⟨rfl,dZ.out⟩
theorem FZ (w:World) (P Q VS:ByteArray) (Va Vb Vc Vd Za Zb Zc Zd:Int) (E:Nat) (hA:E=12\/(E=0/\Vc<=Zc/\Vd<=Zd))
  (UL:Hid (∀ W,Calls Tryz.prog 12 #[.string Q] W λe w'=>∃ k a:Nat,e=.returned (.tuple #[.int .i64 k,.int .i64 a])/\(k=0\/k=7\/k=8\/k=9\/k=10)/\Below W.heap.size W w'))
  (IB:Hid (∀ W,Below w.heap.size w W->Calls Tryz.prog 13 #[.string P,.int .i64 20000] W λe w'=>e=.returned (.tuple #[FF VS Va Vb Vc Vd,.int .i64 E])/\Below W.heap.size W w'))
  (JM:Hid (∀ W,Below w.heap.size w W->Calls Tryz.prog 13 #[.string Q,.int .i64 20000] W λe w'=>e=.returned (.tuple #[FF VS Za Zb Zc Zd,.int .i64 E])/\Below W.heap.size W w')) :
  Calls Tryz.prog 21 #[.string P,.string Q] w λe w'=>e=.returned (.bool true)/\Below w.heap.size w w':=by
 unfold FF at IB JM
 go_enter Tryz.func21,Tryz.ntmps21
 go_wp2_with fail
 refine Calls.mono (UL.out w) ?_;rintro _ w6 ⟨k,a,rfl,hk,hb6⟩;have Ci:Hid _:=hb6;clear hb6 UL
 by_cases R4:¬ k=0
 ·have qk:((k:Int) != 0)=true:=by simp;omega
  clear hk R4 IB JM hA
  go_wp2
  go_ret
  exact⟨rfl,Ci.out⟩
 have ko:k=0:=by omega
 subst ko;clear hk R4
 go_wp2_with fail
 refine Calls.mono (IB.out w6 Ci.out) ?_;rintro _ w7 ⟨rfl,Ye⟩;have Xo:=Ci.out.trans (Ye.mono Ci.out.size);have EZ:Hid _:=Xo.alloc Xo.size (.cells #[.string VS,.int .i64 Va,.int .i64 Vb,.int .i64 Vc,.int .i64 Vd] 35 (0,0));have Xp:Hid _:=aj w7 (.cells #[.string VS,.int .i64 Va,.int .i64 Vb,.int .i64 Vc,.int .i64 Vd] 35 (0,0));clear Ye Xo Ci IB
 go_wp2_with fail
 refine Calls.mono (JM.out _ EZ.out) ?_;rintro _ w8 ⟨rfl,UM⟩;have Xq:=EZ.out.trans (UM.mono EZ.out.size);have Dz:=(UM.block _ (af Xp.out)).trans Xp.out;have Xr:Hid _:=Xq.alloc Xq.size (.cells #[.string VS,.int .i64 Za,.int .i64 Zb,.int .i64 Zc,.int .i64 Zd] 35 (0,0));obtain⟨q0,q1,q2,q3,q4⟩:=lD Dz;have ql:=af Dz;have qn:=Nat.ne_of_lt ql;clear UM Xq Dz EZ Xp JM
 rcases hA with rfl | ⟨rfl,c1,c2⟩
 ·go_wp2
  go_ret
  exact⟨rfl,Xr.out⟩
 ·have qV:(VS.toList==VS.toList)=true:=by simp
  go_wp2
  go_ret
  exact⟨by first | rfl | simp[c1,c2],Xr.out⟩
theorem Ae (w:World) (P Q:ByteArray) (R:Vl × cu) (c d:Int) (v:Value) (E:Nat) (hA:R.2.e=12/\E=12/\v=.agg #[.string ⟨#[]⟩,.int .i64 0,.int .i64 0,.int .i64 0,.int .i64 0]\/R.2.e=0/\E=0/\v=.agg #[.string (bs R.1.txt),.int .i64 R.2.steps,.int .i64 R.2.cells,.int .i64 c,.int .i64 d])
  (hR:∀ w,Lib.TabIs Tryz.prog w "internal/strconv.uint64pow10" .u64 Lib.pow10Tab->Calls Tryz.prog 13 #[.string P,.int .i64 (20000:Nat)] w λr w'=>r=.returned (.tuple #[v,.int .i64 E])/\Below w.heap.size w w') (hQ:LsQ R c d Q) (htab:Lib.TabIs Tryz.prog w "internal/strconv.uint64pow10" .u64 Lib.pow10Tab) :
  Calls Tryz.prog 21 #[.string P,.string Q] w λe w'=>e=.returned (.bool true)/\Below w.heap.size w w':=by
 obtain⟨v',E',hVt,hR2⟩:=hQ
 have uZ:=λW (hW:Below w.heap.size w W)=>Lib.tabBelow_of_tabIs htab W hW
 by_cases hG:UG R c d v' E'
 ·have aaM:∀ W,Calls Tryz.prog 12 #[.string Q] W λe w'=>∃ k a:Nat,e=.returned (.tuple #[.int .i64 k,.int .i64 a])/\(k=0\/k=7\/k=8\/k=9\/k=10)/\Below W.heap.size W w':=λW=>(hVt W).mono λe w' ⟨k,a,h1,h2,_,h4⟩=>⟨k,a,h1,h2,h4⟩
  rcases hG with ⟨g1,rfl,rfl⟩ | ⟨g1,rfl,c',d',rfl,g2,g3⟩
  ·rcases hA with ⟨_,rfl,rfl⟩ | ⟨h1,_⟩
   ·exact FZ w P Q ⟨#[]⟩ 0 0 0 0 0 0 0 0 12 (Or.inl rfl) aaM (λW hW=>hR W (uZ W hW)) (λW hW=>hR2 W (uZ W hW))
   ·rw[h1] at g1;cases g1
  ·rcases hA with ⟨h1,_⟩ | ⟨_,rfl,rfl⟩
   ·rw[h1] at g1;cases g1
   ·exact FZ w P Q (bs R.1.txt) R.2.steps R.2.cells c d R.2.steps R.2.cells c' d' 0 (Or.inr ⟨rfl,g2,g3⟩) aaM (λW hW=>hR W (uZ W hW)) (λW hW=>hR2 W (uZ W hW))
 ·exact Tb w P Q (λW=>(hVt W).mono λe w' ⟨k,a,h1,h2,h3,h4⟩=>⟨k,a,h1,by
   rcases h2 with h2 | h2
   ·exact absurd (h3 h2) hG
   ·exact h2,h4⟩)
theorem Af (t pt:Int) (ra:Option Addr) (rn rc:Nat) (ma:Option Addr) (mn mc:Nat) (w:World) (x:KE) (f:Nat) (src P O Q A US VS:ByteArray) (Ua Ub Uc Ud Va Vb Vc Vd:Int) (E:Nat) (ends:Bool) (hA:(ends=false/\E=12)\/(ends=true/\E=0/\(VS.toList==[])=false))
  (HBD:Hid (Calls Tryz.prog 8 #[.int .i64 t,.slice ra rn rc] w λe w'=>∃ p,e=.returned (.pointer (some ⟨p,0,none⟩))/\Below w.heap.size w w'/\eD w' x p))
  (XU:Hid (∀ W' p,Below w.heap.size w W'->eD W' x p->Calls Tryz.prog 11 #[.pointer (some ⟨p,0,none⟩),.string ⟨#[]⟩] W' λe w'=>e=.returned (.string src)/\Below W'.heap.size W' w'))
  (GG:Hid (∀ W' p,Below w.heap.size w W'->eD W' x p->Calls Tryz.prog 11 #[.pointer (some ⟨p,0,none⟩),.string ⟨#[32,35,48]⟩] W' λe w'=>e=.returned (.string O)/\Below W'.heap.size W' w'))
  (HPL:Hid (∀ W,Below w.heap.size w W->Calls Tryz.prog 16 #[.string src] W λe w'=>e=.returned (.tuple #[.string P,.int .i64 0])/\Below W.heap.size W w'))
  (UL:Hid (∀ W,Calls Tryz.prog 12 #[.string O] W λe w'=>e=.returned (.tuple #[.int .i64 0,.int .i64 0])/\Below W.heap.size W w'))
  (HRU:Hid (∀ W,Below w.heap.size w W->Calls Tryz.prog 13 #[.string P,.int .i64 20000] W λe w'=>e=.returned (.tuple #[FF VS Va Vb Vc Vd,.int .i64 E])/\Below W.heap.size W w'))
  (Wi:Hid (∀ W p,Below w.heap.size w W->eD W x p->Calls Tryz.prog 14 #[.pointer (some ⟨p,0,none⟩),.int .i64 20000] W λe w'=>e=.returned (.tuple #[FF US Ua Ub Uc Ud,.bool ends])/\Below W.heap.size W w'))
  (HAN:Hid (∀ W p,Below w.heap.size w W->eD W x p->Calls Tryz.prog 19 #[.pointer (some ⟨p,0,none⟩),.pointer (some ⟨W.heap.size,0,none⟩)] (W.alloc (.cells (fq (.slice ma mn mc) ⟨0,0,[]⟩ (.slice none 0 0)) 49 (0,0))) λe w'=>e=.returned (.string Q)/\Below W.heap.size W w'))
  (Y5:Hid (∀ W,Calls Tryz.prog 10 #[.int .i64 pt,.int .i64 200] W λe w'=>e=.returned (.int .i64 f)/\w'=W))
  (Mr:Hid (∀ W p,Below w.heap.size w W->eD W x p->Calls Tryz.prog 20 #[.pointer (some ⟨p,0,none⟩),.pointer (some ⟨W.heap.size,0,none⟩),.int .i64 f] (W.alloc (.cells (fq (.slice none 0 0) ⟨0,0,[]⟩ (.slice none 0 0)) 49 (0,0))) λe w'=>e=.returned (.string A)/\Below W.heap.size W w'))
  (OE:Hid (∀ W,Below w.heap.size w W->Calls Tryz.prog 21 #[.string P,.string O] W λe w'=>e=.returned (.bool true)/\Below W.heap.size W w'))
  (Uh:Hid (∀ W,Below w.heap.size w W->Calls Tryz.prog 21 #[.string P,.string Q] W λe w'=>e=.returned (.bool true)/\Below W.heap.size W w'))
  (Ui:Hid (∀ W,Below w.heap.size w W->Calls Tryz.prog 21 #[.string P,.string A] W λe w'=>e=.returned (.bool true)/\Below W.heap.size W w')) :
  Calls Tryz.prog 5 #[.int .i64 t,.slice ra rn rc,.slice ma mn mc,.int .i64 pt] w λe w'=>e=.returned (.bool true)/\Below w.heap.size w w':=by
 unfold FF at HRU Wi
 go_enter Tryz.func5,Tryz.ntmps5
 go_wp2_with fail
 refine Calls.mono HBD.out ?_;rintro _ w1 ⟨p,rfl,hb1,hk1⟩;have dZ:Hid _:=hb1;have GL:Hid _:=hk1;clear hb1 hk1 HBD
 go_wp2_with fail
 refine Calls.mono (XU.out w1 p dZ.out GL.out) ?_;rintro _ w2 ⟨rfl,hb2⟩;have eC:Hid _:=dZ.out.trans (hb2.mono dZ.out.size);have pj:Hid _:=GL.out.below hb2;clear hb2 dZ GL XU
 go_wp2_with fail
 refine Calls.mono (HPL.out w2 eC.out) ?_;rintro _ w3 ⟨rfl,hb3⟩;have jb:Hid _:=eC.out.trans (hb3.mono eC.out.size);have wh:Hid _:=pj.out.below hb3;clear hb3 eC pj HPL
 go_wp2_with fail
 refine Calls.mono (GG.out w3 p jb.out wh.out) ?_;rintro _ w4 ⟨rfl,hb4⟩;have rI:Hid _:=jb.out.trans (hb4.mono jb.out.size);have Dx:Hid _:=wh.out.below hb4;clear hb4 jb wh GG
 go_wp2_with fail
 refine Calls.mono (UL.out w4) ?_;rintro _ w5 ⟨rfl,nD⟩;have DU:Hid _:=rI.out.trans (nD.mono rI.out.size);have Jx:Hid _:=Dx.out.below nD;clear nD rI Dx UL
 go_wp2_with fail
 refine Calls.mono (HRU.out w5 DU.out) ?_;rintro _ w7 ⟨rfl,Ye⟩;have Xo:=DU.out.trans (Ye.mono DU.out.size);have aaN:Below w7.heap.size w7 (w7.alloc (.cells #[.string VS,.int .i64 Va,.int .i64 Vb,.int .i64 Vc,.int .i64 Vd] 35 (0,0))):=cX (Below.refl _ _) _;have EZ:Hid _:=Xo.alloc Xo.size (.cells #[.string VS,.int .i64 Va,.int .i64 Vb,.int .i64 Vc,.int .i64 Vd] 35 (0,0));have Xp:Hid _:=aj w7 (.cells #[.string VS,.int .i64 Va,.int .i64 Vb,.int .i64 Vc,.int .i64 Vd] 35 (0,0));have VC:Hid _:=(Jx.out.below Ye).below aaN;clear Ye Xo aaN DU Jx HRU
 go_wp2_with fail
 refine Calls.mono (Wi.out _ p EZ.out VC.out) ?_;rintro _ w8 ⟨rfl,UM⟩;have Xq:=EZ.out.trans (UM.mono EZ.out.size);have aaO:Below w8.heap.size w8 (w8.alloc (.cells #[.string US,.int .i64 Ua,.int .i64 Ub,.int .i64 Uc,.int .i64 Ud] 35 (0,0))):=cX (Below.refl _ _) _;have Dz:=(UM.block _ (af Xp.out)).trans Xp.out;have Xs:=Xq.alloc Xq.size (.cells #[.string US,.int .i64 Ua,.int .i64 Ub,.int .i64 Uc,.int .i64 Ud] 35 (0,0));have Xt:=(VC.out.below UM).below aaO;obtain⟨W8,hW8⟩:∃ W8,W8=w8.alloc (.cells #[.string US,.int .i64 Ua,.int .i64 Ub,.int .i64 Uc,.int .i64 Ud] 35 (0,0)):=⟨_,rfl⟩;rw[<- hW8] at Xs Xt;have Xr:Hid _:=Xs;have HK8:Hid _:=Xt;have HW8:Hid _:=hW8;obtain⟨q0,q1,q2,q3,q4⟩:=lD Dz;have ql:=af Dz;have qn:=Nat.ne_of_lt ql;clear UM Xq aaO Dz EZ Xp VC Wi Xs Xt hW8
 rcases hA with ⟨rfl,rfl⟩ | ⟨rfl,rfl,qV⟩
 all_goals
  go_upto_region 9 with fail
  rw[<- HW8.out];clear HW8 q0 q1 q2 q3 q4 ql qn
  go_wp2_with fail
  refine Calls.mono (HAN.out W8 p Xr.out HK8.out) ?_;rintro _ w9 ⟨rfl,MN⟩;have QN:Hid _:=Xr.out.trans (MN.mono Xr.out.size);have XP:=HK8.out.below MN;have HA9:Hid _:=Mr.out w9 p QN.out XP;clear MN XP Xr HK8 Mr HAN
  go_wp2_with fail
  refine Calls.mono (Y5.out _) ?_;rintro _ _ ⟨rfl,rfl⟩;clear Y5
  go_wp2_with fail
  refine Calls.mono HA9.out ?_;rintro _ w10 ⟨rfl,aaP⟩;have Tc:Hid _:=QN.out.trans (aaP.mono QN.out.size);clear aaP QN HA9
  go_wp2_with fail
  refine Calls.mono (OE.out w10 Tc.out) ?_;rintro _ w11 ⟨rfl,aaQ⟩;have Td:Hid _:=Tc.out.trans (aaQ.mono Tc.out.size);clear aaQ Tc OE
  go_wp2_with fail
  refine Calls.mono (Uh.out w11 Td.out) ?_;rintro _ w12 ⟨rfl,aaR⟩;have Te:Hid _:=Td.out.trans (aaR.mono Td.out.size);clear aaR Td Uh
  go_wp2_with fail
  refine Calls.mono (Ui.out w12 Te.out) ?_;rintro _ w13 ⟨rfl,aaS⟩;have acu:Hid _:=Te.out.trans (aaS.mono Te.out.size);clear aaS Te Ui
  go_wp2
  go_ret
  exact⟨rfl,acu.out⟩
theorem Tf:∀ X:Vl,((bs X.txt).toList==[])=false
 | .n k=>by
  rw[beq_eq_false_iff_ne];simp only[Vl.txt,bs,ByteArray.toList_eq]
  simpa using Hq k
 | .p a b=>by
  rw[beq_eq_false_iff_ne];simp[Vl.txt,bs,ByteArray.toList_eq]
theorem Mi (t pt:Int) (rv mv:Value) (raw marks:List Int) (w:World) (ht:VA t) (JG:VA pt) (h:tX w rv raw) (hm:tX w mv marks) (htab:Lib.TabIs Tryz.prog w "internal/strconv.uint64pow10" .u64 Lib.pow10Tab) :
  Calls Tryz.prog 5 #[.int .i64 t,rv,mv,.int .i64 pt] w λv w'=>v=.returned (.bool true)/\Below w.heap.size w w':=by
 have hsh:∀ {v:Value} {r:List Int},tX w v r->∃ ra rn rc,v=.slice ra rn rc:=λh=>by
  rcases h.2 with ⟨h1,_⟩ | ⟨a,cap,h1,_,_⟩
  ·exact⟨_,_,_,h1⟩
  ·exact⟨_,_,_,h1⟩
 obtain⟨ra,rn,rc,rfl⟩:=hsh h;obtain⟨ma,mn,mc,rfl⟩:=hsh hm;have iW:=K9 w t (.slice ra rn rc) raw ht h;obtain⟨Dq,hlen,Py,nF⟩:=NC t raw;generalize sR t raw=x at *
 have hpk:=λW=>yo pt 200 W JG (by omega) (by omega)
 have hfl:=pY pt 200 (by omega);obtain⟨f,hf⟩:∃ f,f=jn pt 200:=⟨_,rfl⟩;rw[<- hf] at hpk hfl;have P3:=CD (rg:=[]) Dq;have kZ:=Bt [] Dq (by simp);obtain⟨src,hsrc⟩:∃ src,src=bs (x.pt []).tidy:=⟨_,rfl⟩
 have hit:∀ W,Below w.heap.size w W->pP W:=λW hW=>by
  intro n W' hn hW';exact wV w htab n W' hn (hW.trans (hW'.mono hW.size))
 have uZ:=λW (hW:Below w.heap.size w W)=>Lib.tabBelow_of_tabIs htab W hW
 have hTx:∀ W p,Below w.heap.size w W->eD W x p->Calls Tryz.prog 11 #[.pointer (some ⟨p,0,none⟩),.string ⟨#[]⟩] W λv w'=>v=.returned (.string src)/\Below W.heap.size W w':=λW p hW hk=>by
  have:=kZ p W hk (by simp at P3;omega) (λW' hW'=>hit W' (hW.trans (hW'.mono hW.size)));rw[<- hsrc] at this;exact this
 obtain⟨P,v,E,c,d,hPl,dm,Xl,hLs⟩:=Mf Dq Py hlen src hsrc;obtain⟨R,hR⟩:∃ R,R=ev 20000 (x.pt []) [] ⟨0,0,0⟩:=⟨_,rfl⟩;rw[<- hR] at dm hLs
 have hWk:∀ W p,Below w.heap.size w W->eD W x p->Calls Tryz.prog 14 #[.pointer (some ⟨p,0,none⟩),.int .i64 (20000:Nat)] W λv w'=>v=.returned (.tuple #[rZ R,.bool (decide (R.2.e=0))])/\Below W.heap.size W w':=λW p hW hk =>
  Iu W x _ p 20000 (by omega) Dq hk (λW' hW'=>hit W' (hW.trans (hW'.mono hW.size))) R hR
 -- all pairs in one region
 obtain⟨rg,IK⟩:∃ rg,rg=35::decDigits 0:=⟨_,rfl⟩
 have hd0:decDigits 0=[48]:=by rw[decDigits];rfl
 have aaT:Rl true rg:=⟨decDigits 0,IK,lS 0 3 (by rw[hd0];decide)⟩
 have hrl:rg.length=2:=by rw[IK,hd0];rfl
 have Cy:ak rg=((0:Nat):Int):=by rw[IK,qB]
 obtain⟨e1,aaU,aaV,aaW,_⟩:=E5 (ae:=true) (rg:=rg) aaT Dq (by omega);have aaX:e1.iZ (0:Nat):=FU e1 (by rw[aaW];exact P2 Cy Dq);have aaY:WT [] (x.pt rg) (sS (jn t 5)):=En Dq (by simp);have acv:WT [] e1 (sS (jn t 5)):=iy e1 (by rw[aaW];exact aaY);have acw:=CD (rg:=rg) Dq;have abo:x.bz*(rg.length+1)<=75*3:=Nat.mul_le_mul Py (by omega);have acx:=Bt rg Dq (by simp)
 have aaZ:bs (dn rg)=⟨#[32,35,48]⟩:=by rw[IK,hd0];rfl
 obtain⟨O,hO⟩:∃ O,O=bs (x.pt rg).tidy:=⟨_,rfl⟩
 have hOl:O.data.toList=(x.pt rg).tidy:=by rw[hO];simp[bs]
 have hOs:O.size<=9000:=by rw[hO,bE];omega
 rw[<- hOl] at aaU
 have hVO:∀ W,Calls Tryz.prog 12 #[.string O] W λv w'=>v=.returned (.tuple #[.int .i64 (0:Nat),.int .i64 (0:Nat)])/\Below W.heap.size W w':=λW=>CT O W hOs e1 _ 0 aaU aaV acv aaX
 have hTO:∀ W p,Below w.heap.size w W->eD W x p->Calls Tryz.prog 11 #[.pointer (some ⟨p,0,none⟩),.string ⟨#[32,35,48]⟩] W λv w'=>v=.returned (.string O)/\Below W.heap.size W w':=λW p hW hk=>by
  have:=acx p W hk (by omega) (λW' hW'=>hit W' (hW.trans (hW'.mono hW.size)));rw[aaZ,<- hO] at this;exact this
 have acy:∀ fuel,ev fuel (x.pt rg).era=ev fuel (x.pt []):=λfuel=>by rw[B0 _ (Ex Dq)];exact kS fuel rg x
 have Gu:LsQ R c d O:=by
  rw[hO];exact hLs (x.pt rg) (NT (ae:=true) aaT Dq) (wi rg x) (by rw[Hr _ Dq];omega) aaY (by rw[IK];exact SS 0 Dq) acy (by omega)
 -- regions and news anywhere
 have A:=PB marks Dq (by simp) ⟨0,0,[]⟩;have hat:=oH marks x ⟨0,0,[]⟩
 have TK:(bt marks x ⟨0,0,[]⟩).1.tidy.length<=9000:=by have:=A.len;omega
 have hLQ:LsQ R c d (bs (bt marks x ⟨0,0,[]⟩).1.tidy):=hLs _ A.ok A.np (by rw[A.bz];omega) A.wt (Kk marks Dq _) A.ev TK
 have hAn:∀ W p,Below w.heap.size w W->eD W x p->Calls Tryz.prog 19 #[.pointer (some ⟨p,0,none⟩),.pointer (some ⟨W.heap.size,0,none⟩)] (W.alloc (.cells (fq (.slice ma mn mc) ⟨0,0,[]⟩ (.slice none 0 0)) 49 (0,0))) λe w'=>e=.returned (.string (bs (bt marks x ⟨0,0,[]⟩).1.tidy))/\Below W.heap.size W w':=λW p hW hk=>by
  have yA:cd W (W.alloc (.cells (fq (.slice ma mn mc) ⟨0,0,[]⟩ (.slice none 0 0)) 49 (0,0))) W.heap.size (.slice ma mn mc) marks ⟨0,0,[]⟩ (.slice none 0 0) :=
   ⟨hm.below hW,⟨bg (Below.refl _ W) _,Nat.le_refl _,aj _ _,World.ownsRow_nil _ _ _ _,by simp[Value.ownBlock]⟩⟩
  refine Calls.mono (Qf marks Dq (by simp) W _ W.heap.size p _ _ ⟨0,0,[]⟩ yA hk (by omega) (by simp only at hat;omega) (λW' hW'=>hit W' (hW.trans (hW'.mono hW.size)))) ?_;rintro _ w' ⟨rfl,hm'⟩;exact⟨rfl,hm'.ob.b0⟩
 -- one region,and its new about an expression
 have B:=PB (oT f x 0) Dq (by simp) ⟨0,0,[]⟩;have hBp:=Kk (oT f x 0) Dq ⟨0,0,[]⟩;rw[<- P6] at B hBp
 have hbl:(cB f x 0).1.tidy.length<=9000:=by have:=B.len;omega
 have hLA:LsQ R c d (bs (cB f x 0).1.tidy):=hLs _ B.ok B.np (by rw[B.bz];omega) B.wt hBp B.ev hbl
 have X0:∀ W p,Below w.heap.size w W->eD W x p->Calls Tryz.prog 20 #[.pointer (some ⟨p,0,none⟩),.pointer (some ⟨W.heap.size,0,none⟩),.int .i64 f] (W.alloc (.cells (fq (.slice none 0 0) ⟨0,0,[]⟩ (.slice none 0 0)) 49 (0,0))) λe w'=>e=.returned (.string (bs (cB f x 0).1.tidy))/\Below W.heap.size W w':=λW p hW hk=>by
  have yA:cd W (W.alloc (.cells (fq (.slice none 0 0) ⟨0,0,[]⟩ (.slice none 0 0)) 49 (0,0))) W.heap.size (.slice none 0 0) [] ⟨0,0,[]⟩ (.slice none 0 0) :=
   ⟨⟨by simp,Or.inl ⟨rfl,rfl⟩⟩,⟨bg (Below.refl _ W) _,Nat.le_refl _,aj _ _,World.ownsRow_nil _ _ _ _,by simp[Value.ownBlock]⟩⟩
  refine Calls.mono (Ta f Dq (by simp) W _ W.heap.size p _ _ _ ⟨0,0,[]⟩ yA hk (by simp only;omega) (by simp only[mO];omega) (λW' hW'=>hit W' (hW.trans (hW'.mono hW.size)))) ?_;rintro _ w' ⟨rfl,hm'⟩;exact⟨rfl,hm'.ob.b0⟩
 have hl1:=λW (hW:Below w.heap.size w W)=>Ae W P O R c d v E dm Xl Gu (uZ W hW)
 have hl2:=λW (hW:Below w.heap.size w W)=>Ae W P _ R c d v E dm Xl hLQ (uZ W hW)
 have hl3:=λW (hW:Below w.heap.size w W)=>Ae W P _ R c d v E dm Xl hLA (uZ W hW)
 rcases dm with ⟨g1,rfl,rfl⟩ | ⟨g1,rfl,rfl⟩
 ·have hd:decide (R.2.e=0)=false:=by simp[g1]
  have hvR:rZ R=FF ⟨#[]⟩ 0 0 0 0:=by
   unfold rZ;rw[if_pos (by rw[g1];decide)];rfl
  rw[hvR,hd] at hWk;exact Af t pt ra rn rc ma mn mc w x f src P O _ _ ⟨#[]⟩ ⟨#[]⟩ 0 0 0 0 0 0 0 0 12 false (Or.inl ⟨rfl,rfl⟩) iW hTx hTO (λW hW=>hPl W (uZ W hW)) hVO (λW hW=>Xl W (uZ W hW)) hWk hAn hpk X0 hl1 hl2 hl3
 ·have hd:decide (R.2.e=0)=true:=by simp[g1]
  have hvR:rZ R=FF (bs R.1.txt) R.2.steps R.2.cells R.2.cells R.2.cells:=by
   unfold rZ;rw[if_neg (λh=>h g1)];rfl
  rw[hvR,hd] at hWk;exact Af t pt ra rn rc ma mn mc w x f src P O _ _ (bs R.1.txt) (bs R.1.txt) R.2.steps R.2.cells R.2.cells R.2.cells R.2.steps R.2.cells c d 0 true (Or.inr ⟨rfl,rfl,Tf R.1⟩) iW hTx hTO (λW hW=>hPl W (uZ W hW)) hVO (λW hW=>Xl W (uZ W hW)) hWk hAn hpk X0 hl1 hl2 hl3
end Go.Proofs.YtpicaknklgccoabGreatDoor
