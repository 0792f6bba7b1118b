import Derived.Test.YtpicaknklgccoabGreatDoorV37
set_option maxHeartbeats 8000000
set_option maxRecDepth 100000
namespace Go.Proofs.YtpicaknklgccoabGreatDoor
open Go.RowKit
structure Ur (wb B:Nat) (w:World) (v:Value) (n:NR):Prop where
 b:w.heap[B]?=some (cA n)
 ne:B≠wb
 v:v.ownBlock≠some B
theorem Ur.keep {wb B:Nat} {w w':World} {v v':Value} {n:NR} (h:Ur wb B w v n) (hf:kL wb w w' v v'):Ur wb B w' v' n :=
 have hk:=af h.b
 ⟨by rw[hf.blk B hk h.ne h.v];exact h.b,h.ne,λe=>by
  rcases hf.o B e with e | e
  ·exact h.v e
  ·omega⟩
theorem Ur.new {L:Ly} {wb:Nat} {w:World} {nv ov v:Value} {tx:List UInt8} (h:lu L wb w nv ov v tx) (n:NR):Ur wb w.heap.size (w.alloc (cA n)) v n :=
 ⟨aj _ _,by have:=af h.blk;omega,λe=>by have:=(h.row.lt _ e).2;omega⟩
theorem J7:∀ (kids:List PT) (base j:Nat) (x:PT),kids[j]?=some x->(az kids base).getD j (-1)=(((base+ax (kids.take j)+x.cnt:Nat):Int)-1)
 | [],_,_,_,h=>by simp at h
 | t::r,base,0,x,h=>by
  simp only[List.getElem?_cons_zero,Option.some.injEq] at h;subst h;simp[az,ax]
 | t::r,base,j+1,x,h=>by
  simp only[List.getElem?_cons_succ] at h;simp only[az,List.getD_cons_succ,List.take_succ_cons,ax];rw[J7 r (base+t.cnt) j x h];omega
theorem BM:∀ (kids:List PT) (base j:Nat),kids.length<=j->(az kids base).getD j (-1)=-1
 | [],_,_,_=>by simp[az]
 | t::r,base,0,h=>by simp at h
 | t::r,base,j+1,h=>by
  simp only[List.length_cons] at h;simp only[az,List.getD_cons_succ];exact BM r (base+t.cnt) j (by omega)
theorem Ft {ns:List NR}:∀ (kids:List PT) (base j:Nat) (x:PT),gq ns kids base->kids[j]?=some x->gN ns x (base+ax (kids.take j))
 | [],_,_,_,_,h=>by simp at h
 | t::r,base,0,x,hs,h=>by
  simp only[List.getElem?_cons_zero,Option.some.injEq] at h;subst h;simp only[gq] at hs
  simpa [ax] using hs.1
 | t::r,base,j+1,x,hs,h=>by
  simp only[List.getElem?_cons_succ] at h;simp only[gq] at hs;have:=Ft r (base+t.cnt) j x hs.2 h
  simpa [List.take_succ_cons,ax,Nat.add_assoc] using this
theorem Pn (kids:List PT) (j:Nat) (x:PT) (h:kids[j]?=some x):ax (kids.take j)+x.cnt<=ax kids:=by
 have h1:=Bl kids (j+1);rw[List.take_add_one,h] at h1;simp only[Option.toList_some] at h1;rw[KY] at h1;omega
theorem Fu {w:World} {B:Nat} {n:NR} {l:List Int} (h:w.heap[B]?=some (cA n)) (h0:n.p0=l.getD 0 (-1)) (h1:n.p1=l.getD 1 (-1)) (h2:n.p2=l.getD 2 (-1)) (j:Nat) (hj:j<=2):w.cell? ⟨B,7+j,none⟩=some (.int .i64 (l.getD j (-1))):=by
 obtain⟨_,_,_,_,_,_,_,c7,c8,c9⟩:=aC h
 rcases (show j=0\/j=1\/j=2 by omega) with rfl | rfl | rfl
 ·rw[<- h0];exact c7
 ·rw[<- h1];exact c8
 ·rw[<- h2];exact c9
theorem L3 (k:Kw) (nm:List UInt8) (j:Nat) (x:List UInt8) (h:KS k=(j:Int)):bF k nm j x=[32]++nm++[32]++x:=by
 have:(k=.aP/\j=0)\/(k=.loop/\j=1):=by
  cases k <;> simp[KS] at h ⊢ <;> omega
 unfold bF;rw[if_pos this];simp
theorem Po (k:Kw) (nm:List UInt8) (j:Nat) (x:List UInt8) (h:KS k≠(j:Int)):bF k nm j x=[32]++x:=by
 have:¬ ((k=.aP/\j=0)\/(k=.loop/\j=1)):=by
  rintro (⟨rfl,rfl⟩ | ⟨rfl,rfl⟩) <;> simp[KS] at h
 unfold bF;rw[if_neg this];simp
theorem Da (L:Ly) (wb:Nat) (x1:Option Addr) (n1 c1:Nat) (x2:Option Addr) (n2 c2:Nat) (ns:List NR) (op:List Int) (k:Kw) (nm:List UInt8) (kids:List PT) (hkn:k≠.new) (har:kids.length<=3) (ih:∀ x∈kids,BK L wb (.slice x1 n1 c1) (.slice x2 n2 c2) ns op x)
  (base:Nat) (w:World) (v:Value) (tx:List UInt8) (n:NR) (hf:n.form=aZ k) (hwd:n.word=nm) (nT:n.p0=(az kids base).getD 0 (-1)) (fk:n.p1=(az kids base).getD 1 (-1)) (oU:n.p2=(az kids base).getD 2 (-1))
  (hsh:gq ns kids base) (kJ:nm.length<=9000) (jQ:bH kids) (hwf:qO kids) (hle:base+ax kids<=ns.length) (oX:tx.length+22000*(1+ax kids)<=200001650) (I:Nat) (hrg:-1<=jW L.regs I) (hin:lu L wb w (.slice x1 n1 c1) (.slice x2 n2 c2) v tx) (bq:rO L wb w (.slice x1 n1 c1) (.slice x2 n2 c2) ns op) :
  Calls Tryz.prog 100 #[.pointer (some ⟨wb,0,none⟩),aK n,.int .i64 (jW L.regs I)] w λe w'=>∃ v',e=.returned (.tuple #[])/\kL wb w w' v v'/\lu L wb w' (.slice x1 n1 c1) (.slice x2 n2 c2) v' (tx++(mV L.regs L.news k nm kids base I kids.length++[41])):=by
 have hlt:=af hin.blk;have ac8:=bq.len
 have hput:=λw' v' jF s (h:lu L wb w' (.slice x1 n1 c1) (.slice x2 n2 c2) v' jF) (hl:jF.length+s.length<=400000000)=>mH wb w' _ _ v' jF s h hl
 have aas:∀ w' v' jF (h:lu L wb w' (.slice x1 n1 c1) (.slice x2 n2 c2) v' jF) (hl:jF.length<=390000000),Calls Tryz.prog 78 #[.pointer (some ⟨wb,0,none⟩),.string ⟨#[40]⟩] w' λe w2=>∃ v2,e=.returned (.tuple #[])/\kL wb w' w2 v' v2/\lu L wb w2 (.slice x1 n1 c1) (.slice x2 n2 c2) v2 (jF++[40]):=λw' v' jF h hl=>hput w' v' jF [40] h (by simp;omega)
 have Ph:∀ w' v' jF (h:lu L wb w' (.slice x1 n1 c1) (.slice x2 n2 c2) v' jF) (hl:jF.length<=390000000),Calls Tryz.prog 78 #[.pointer (some ⟨wb,0,none⟩),.string ⟨#[41]⟩] w' λe w2=>∃ v2,e=.returned (.tuple #[])/\kL wb w' w2 v' v2/\lu L wb w2 (.slice x1 n1 c1) (.slice x2 n2 c2) v2 (jF++[41]):=λw' v' jF h hl=>hput w' v' jF [41] h (by simp;omega)
 have Pf:∀ w' v' jF (h:lu L wb w' (.slice x1 n1 c1) (.slice x2 n2 c2) v' jF) (hl:jF.length<=390000000),Calls Tryz.prog 78 #[.pointer (some ⟨wb,0,none⟩),.string ⟨#[32]⟩] w' λe w2=>∃ v2,e=.returned (.tuple #[])/\kL wb w' w2 v' v2/\lu L wb w2 (.slice x1 n1 c1) (.slice x2 n2 c2) v2 (jF++[32]):=λw' v' jF h hl=>hput w' v' jF [32] h (by simp;omega)
 have yC:∀ j x,kids[j]?=some x->(tx.length+(mV L.regs L.news k nm kids base I j).length+9002+22000*x.cnt<=200000000)/\∃ M:Nat,M<=9000/\(az kids base).getD j (-1)=(M:Int)/\∀ w' v' jF,jF.length+22000*x.cnt<=200000000->lu L wb w' (.slice x1 n1 c1) (.slice x2 n2 c2) v' jF->rO L wb w' (.slice x1 n1 c1) (.slice x2 n2 c2) ns op ->
   Calls Tryz.prog 54 #[.pointer (some ⟨wb,0,none⟩),.int .i64 M] w' λe w2=>∃ v2,e=.returned (.tuple #[])/\kL wb w' w2 v' v2/\lu L wb w2 (.slice x1 n1 c1) (.slice x2 n2 c2) v2 (jF++x.wW L.regs L.news (base+ax (kids.take j))):=by
  intro j x hx;have hm:=List.mem_of_getElem? hx;have htk:=Pn kids j x hx;have hal:=D2 bq.bd k nm kids base I j kJ jQ;have hcx:=cV x;refine⟨by omega,base+ax (kids.take j)+x.cnt-1,by omega,by rw[J7 kids base j x hx];omega,?_⟩;intro w' v' jF hl h1 h2;have:=ih x hm (base+ax (kids.take j)) w' v' jF (Ft kids base j x hsh hx) (Ba jQ x hm) (Cg hwf x hm) (by omega) hl h1 h2;rw[show (((base+ax (kids.take j)+x.cnt:Nat):Int)-1)=((base+ax (kids.take j)+x.cnt-1:Nat):Int) from by omega] at this;exact this
 have Us:jW L.regs I=-1->tx++[40]++k.bytes=tx++mV L.regs L.news k nm kids base I 0:=λh=>by simp[mV,iK,bh,Qy,h]
 have Ut:∀ m:Nat,jW L.regs I=(m:Int)->tx++[40]++k.bytes++([32,35]++Lib.decDigits m)=tx++mV L.regs L.news k nm kids base I 0:=λm h=>by
  have:¬ ((m:Int)=-1):=by omega
  simp[mV,iK,bh,Qy,h,this]
 have WR:=bq.bd.r I
 have jN:∀ (w':World) (v':Value) (jF:List UInt8) (m:Nat),m<=9999->kL wb w w' v v'->lu L wb w' (.slice x1 n1 c1) (.slice x2 n2 c2) v' jF->jF.length<=390000000->Calls Tryz.prog 98 #[.pointer (some ⟨wb,0,none⟩),.int .i64 m] w' λe w2=>∃ v2,e=.returned (.tuple #[])/\kL wb w' w2 v' v2/\lu L wb w2 (.slice x1 n1 c1) (.slice x2 n2 c2) v2 (jF++([32,35]++Lib.decDigits m)):=λw' v' jF m hm hf h1 hl=>r8 L wb w' _ _ v' ns op jF m hm h1 (bq.on (hin.fr hf)) hl
 have Uu:∀ j,(mV L.regs L.news k nm kids base I j).length<=180000011:=λj=>by have:=D2 bq.bd k nm kids base I j kJ jQ;have:=Bl kids j;omega
 have hkb:k.bytes.length<=4:=by cases k <;> decide
 have Fv:=Ur.new hin n;have Pp:=hin.below ((Below.refl _ w).alloc (Nat.le_refl _) (cA n));have L5:kL wb w (w.alloc (cA n)) v v:=kL.kC v ((Below.refl _ w).alloc (Nat.le_refl _) (cA n))
 have hwo:=λw'=>G7 k w' hkn
 have mQ:=λw'=>sM k w'
 have hfw:∀ {wr:World} {vr:Value},kL wb w wr v vr->rO L wb wr (.slice x1 n1 c1) (.slice x2 n2 c2) ns op:=λh=>bq.on (hin.fr h)
 have abZ:Hid _:=aas;have WL:Hid _:=Ph;have Pg:Hid _:=Pf;have aat:Hid _:=hput;have Sx:Hid _:=yC;have L6:Hid _:=Fv;have aau:Hid _:=Pp;have aav:Hid _:=L5;have Pq:Hid _:=Us;have Pr:Hid _:=Ut;have Dt:Hid _:=jN;have aaw:Hid _:=Uu
 have qx:Hid (∀ (wr:World) (vr:Value),kL wb w wr v vr->rO L wb wr (.slice x1 n1 c1) (.slice x2 n2 c2) ns op):=λ_ _ h=>hfw h
 have HF:Hid _:=hf;have HWD:Hid _:=hwd;have HP0:Hid _:=nT;have V4:Hid _:=fk;have HP2:Hid _:=oU
 have htl:tx.length<=200001650:=by omega
 clear aas Ph Pf hput yC Fv Pp L5 Us Ut jN Uu hfw hf hwd nT fk oU hin bq ih hsh jQ hwf oX hle;obtain⟨R,hR⟩:∃ R,R=jW L.regs I:=⟨_,rfl⟩;rw[<- hR] at hrg WR ⊢;have R3:Hid _:=hR;clear hR
 show Calls _ _ #[Value.pointer (some ⟨wb,0,none⟩),Value.agg #[.int .i64 n.form,.int .i64 n.at_,.int .i64 n.aL,.int .i64 n.num,.string (bs n.word),.int .i64 n.region,.int .i64 n.source,.int .i64 n.p0,.int .i64 n.p1,.int .i64 n.p2],.int .i64 R] w _
 go_enter Tryz.func100,Tryz.ntmps100
 go_wp2_with fail
 refine (abZ.out (w.alloc (cA n)) v tx aau.out (by omega)).mono ?_;rintro _ w1 ⟨v1,rfl,sY,oC⟩;have hb1:=L6.out.keep sY
 have d0:w1.cell? ⟨w.heap.size,0,none⟩=some (.int .i64 (aZ k)):=by rw[<- HF.out];exact (aC hb1.b).1
 have L7:Hid _:=aav.out.trans sY;have WW:Hid _:=oC;have dZ:Hid _:=hb1;clear sY oC hb1 aav aau L6
 go_wp2_with fail
 refine (hwo _).mono ?_;rintro _ _ ⟨rfl,rfl⟩
 go_wp2_with fail
 refine (aat.out _ v1 _ k.bytes WW.out (by simp;omega)).mono ?_;rintro _ w2 ⟨v2,rfl,dD,bC⟩;have hb2:=dZ.out.keep dD;have yU:Hid _:=L7.out.trans dD;have eC:Hid _:=hb2
 by_cases rQ:R=-1
 case' pos =>
  rw[Pq.out (R3.out.symm.trans rQ)] at bC;have yV:Hid _:=bC;clear dD bC d0 L7 WW dZ Pq Pr Dt hb2 R3;subst rQ
  go_wp2_with fail
 case' neg =>
  obtain⟨m,rfl⟩:∃ m:Nat,R=(m:Int):=⟨R.toNat,by omega⟩;have Sy:Hid _:=Pr.out m R3.out.symm;have Uv:Hid _:=bC;have Ps:Hid _:=yU.out;have aax:Hid _:=hb2
  have qm:((m:Int) != -1)=true:=by simp
  clear dD bC d0 L7 WW dZ Pq Pr hb2 yU eC R3
  go_wp2_with fail
  refine (Dt.out _ _ _ m (by omega) Ps.out Uv.out (by simp;omega)).mono ?_;rintro _ w2 ⟨v2,rfl,dD,bC⟩;rw[Sy.out] at bC;have yU:Hid _:=Ps.out.trans dD;have yV:Hid _:=bC;have eC:Hid _:=aax.out.keep dD;clear dD bC Dt Ps Uv aax Sy qm
  go_wp2_with fail
 all_goals
  go_loopw [6] (λi wr=>∃ (j:Nat) (vr:Value),j<=kids.length/\i=.int .i64 j/\Ur wb w.heap.size wr vr n/\kL wb w wr v vr/\lu L wb wr (.slice x1 n1 c1) (.slice x2 n2 c2) vr (tx++mV L.regs L.news k nm kids base I j)) (λi _=>4-(intOf i).toNat)
  case atStart=>exact⟨0,v2,by omega,rfl,eC.out,yU.out,yV.out⟩
  case round =>
   obtain⟨j,vr,hj,rfl,Fv,hfr,hin⟩:=hrel
   have d0:wr.cell? ⟨w.heap.size,0,none⟩=some (.int .i64 (aZ k)):=by rw[<- HF.out];exact (aC Fv.b).1
   have d4:wr.cell? ⟨w.heap.size,4,none⟩=some (.string (bs nm)):=by rw[<- HWD.out];exact (aC Fv.b).2.2.2.2.1
   have Uw:=λ(h:j<=2)=>Fu Fv.b HP0.out V4.out HP2.out j h
   have L6:Hid _:=Fv;have sC:Hid _:=hfr;have nn:Hid _:=hin;have J8:Hid _:=Uw;have hal:=aaw.out j;clear Fv hfr hin Uw eC yU yV
   by_cases hlt:j<kids.length
   ·obtain⟨x,hx⟩:∃ x,kids[j]?=some x:=⟨kids[j],List.getElem?_eq_getElem hlt⟩
    obtain⟨iW,M,hMb,hpM,hcall⟩:=Sx.out j x hx
    have hj2:j<=2:=by omega
    have X5:∀ (wx:World) (vx:Value),Ur wb w.heap.size wx vx n->wx.cell? ⟨w.heap.size,7+j,none⟩=some (.int .i64 M):=λwx vx hb=>by rw[<- hpM];exact Fu hb.b HP0.out V4.out HP2.out j hj2
    have hp:=X5 _ _ L6.out
    have hM1:((M:Int) != -1)=true:=by simp
    have hs:=KU L.regs L.news k nm kids base I j x hx;obtain⟨bk,hbk⟩:∃ bk,KS k=bk:=⟨_,rfl⟩;rw[hbk] at mQ;have HC:Hid _:=hcall;have HPW:Hid _:=X5
    by_cases hq:bk=(j:Int)
    ·have hs':tx++mV L.regs L.news k nm kids base I j++[32]++nm++[32]++x.wW L.regs L.news (base+ax (kids.take j))=tx++mV L.regs L.news k nm kids base I (j+1):=by rw[hs,L3 k nm j (x.wW L.regs L.news (base+ax (kids.take j))) (hbk.trans hq)];simp
     have HS:Hid _:=hs';clear hcall hs hs' hpM hx hbk J8 Sx X5;subst hq
     rcases (show j=0\/j=1\/j=2 by omega) with rfl | rfl | rfl
     all_goals
      simp only[Nat.reduceAdd] at hp
      go_wp2_with fail
      refine (mQ _).mono ?_;rintro _ _ ⟨rfl,rfl⟩
      go_wp2_with fail
      refine (Pg.out _ vr _ nn.out (by simp;omega)).mono ?_;rintro _ w3 ⟨v3,rfl,cj,eO⟩;have hb3:=L6.out.keep cj
      have g4:w3.cell? ⟨w.heap.size,4,none⟩=some (.string (bs nm)):=by rw[<- HWD.out];exact (aC hb3.b).2.2.2.2.1
      have ab0:Hid _:=sC.out.trans cj;have Wg:Hid _:=eO;have jb:Hid _:=hb3;clear cj eO hb3
      go_wp2_with fail
      refine (aat.out _ v3 _ nm Wg.out (by simp;omega)).mono ?_;rintro _ w4 ⟨v4,rfl,iY,cx⟩;have Ot:Hid _:=ab0.out.trans iY;have LC:Hid _:=cx;have rI:Hid _:=jb.out.keep iY;clear iY cx
      go_wp2_with fail
      refine (Pg.out _ v4 _ LC.out (by simp;omega)).mono ?_;rintro _ w5 ⟨v5,rfl,qo,oA⟩;have nD:=rI.out.keep qo;have g7:=HPW.out _ _ nD;simp only[Nat.reduceAdd] at g7;have AP:Hid _:=Ot.out.trans qo;have EM:Hid _:=oA;have DU:Hid _:=nD;clear qo oA nD
      go_wp2_with fail
      refine (HC.out _ v5 _ (by simp;omega) EM.out (qx.out _ _ AP.out)).mono ?_;rintro _ w6 ⟨v6,rfl,II,Pt⟩;have zM:=Pt;rw[HS.out] at zM;have WX:Hid _:=AP.out.trans II;have WY:Hid _:=zM;have Ci:Hid _:=DU.out.keep II;clear II Pt zM
      go_wp2_with fail
      go_roundw
      case rel=>exact⟨_,v6,hlt,rfl,Ci.out,WX.out,WY.out⟩
      case measure=>simp[intOf]
    ·have hs':tx++mV L.regs L.news k nm kids base I j++[32]++x.wW L.regs L.news (base+ax (kids.take j))=tx++mV L.regs L.news k nm kids base I (j+1):=by rw[hs,Po k nm j (x.wW L.regs L.news (base+ax (kids.take j))) (λe=>hq (hbk.symm.trans e))];simp
     have HS:Hid _:=hs'
     have hq1:((j:Int)==bk)=false:=by rw[beq_eq_false_iff_ne];exact λe=>hq e.symm
     clear hcall hs hs' hpM hx hbk J8 Sx X5
     rcases (show j=0\/j=1\/j=2 by omega) with rfl | rfl | rfl
     all_goals
      simp only[Nat.reduceAdd] at hp
      go_wp2_with fail
      refine (mQ _).mono ?_;rintro _ _ ⟨rfl,rfl⟩
      go_wp2_with fail
      refine (Pg.out _ vr _ nn.out (by simp;omega)).mono ?_;rintro _ w5 ⟨v5,rfl,qo,oA⟩;have nD:=L6.out.keep qo;have g7:=HPW.out _ _ nD;simp only[Nat.reduceAdd] at g7;have AP:Hid _:=sC.out.trans qo;have EM:Hid _:=oA;have DU:Hid _:=nD;clear qo oA nD
      go_wp2_with fail
      refine (HC.out _ v5 _ (by simp;omega) EM.out (qx.out _ _ AP.out)).mono ?_;rintro _ w6 ⟨v6,rfl,II,Pt⟩;have zM:=Pt;rw[HS.out] at zM;have WX:Hid _:=AP.out.trans II;have WY:Hid _:=zM;have Ci:Hid _:=DU.out.keep II;clear II Pt zM
      go_wp2_with fail
      go_roundw
      case rel=>exact⟨_,v6,hlt,rfl,Ci.out,WX.out,WY.out⟩
      case measure=>simp[intOf]
   ·have hjk:j=kids.length:=by omega
    have hpe:j<=2->wr.cell? ⟨w.heap.size,7+j,none⟩=some (.int .i64 (-1)):=λh=>by
     have:=J8.out h
     rwa [BM kids base j (by omega)] at this
    have yE:tx++mV L.regs L.news k nm kids base I j++[41]=tx++(mV L.regs L.news k nm kids base I kids.length++[41]):=by rw[<- hjk];simp
    have Sy:Hid _:=yE;have HPE:Hid _:=hpe;clear Sx J8 hpe yE
    have hj3:j<=3:=by omega
    clear hjk hlt hj
    rcases (show j=0\/j=1\/j=2\/j=3 by omega) with rfl | rfl | rfl | rfl
    all_goals
     try (have hp:=HPE.out (by omega);simp only[Nat.reduceAdd] at hp)
     go_wp2_with fail
     refine (WL.out _ vr _ nn.out (by simp;omega)).mono ?_;rintro _ w5 ⟨v5,rfl,qo,oA⟩;have Pu:=oA;rw[Sy.out] at Pu;have AP:Hid _:=sC.out.trans qo;have EM:Hid _:=Pu;clear qo oA Pu
     go_wp2_with fail
     refine bodyPost_end (v:=.tuple #[]) (by simp[results,Tryz.results100,go_sem]) rfl ⟨v5,rfl,AP.out,EM.out⟩
end Go.Proofs.YtpicaknklgccoabGreatDoor
