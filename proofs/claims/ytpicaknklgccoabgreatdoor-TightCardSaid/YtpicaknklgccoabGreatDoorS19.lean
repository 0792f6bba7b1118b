import Derived.Test.YtpicaknklgccoabGreatDoorS18
set_option maxHeartbeats 8000000
set_option maxRecDepth 100000
namespace Go.Proofs.YtpicaknklgccoabGreatDoor
open Go.RowKit
structure Sd (wb B:Nat) (w:World) (v:Value) (n:NR):Prop where
 b:w.heap[B]?=some (bU n)
 ne:B≠wb
 v:v.ownBlock≠some B
theorem Sd.keep {wb B:Nat} {w w':World} {v v':Value} {n:NR} (h:Sd wb B w v n) (hf:jU wb w w' v v'):Sd wb B w' v' n :=
 have hk:=af h.b
 ⟨by rw [hf.blk B hk h.ne h.v];exact h.b,h.ne,fun e=>by
  rcases hf.o B e with e | e
  ·exact h.v e
  ·omega⟩
theorem Sd.new {L:Ly} {wb:Nat} {w:World} {nv ov v:Value} {tx:List UInt8} (h:kz L wb w nv ov v tx) (n:NR):Sd wb w.heap.size (w.alloc (bU n)) v n :=
 ⟨aj _ _,by have:=af h.blk;omega,fun e=>by have:=(h.row.lt _ e).2;omega⟩
theorem Hh:∀ (kids:List PT) (base j:Nat) (x:PT),kids[j]?=some x->(aA kids base).getD j (-1)=(((base+az (kids.take j)+x.cnt:Nat):Int) - 1)
 | [],_,_,_,h=>by simp at h
 | t::r,base,0,x,h=>by
  simp only [List.getElem?_cons_zero,Option.some.injEq] at h
  subst h
  simp [aA,az]
 | t::r,base,j+1,x,h=>by
  simp only [List.getElem?_cons_succ] at h
  simp only [aA,List.getD_cons_succ,List.take_succ_cons,az]
  rw [Hh r (base+t.cnt) j x h]
  omega
theorem Ab:∀ (kids:List PT) (base j:Nat),kids.length<=j->(aA kids base).getD j (-1)=-1
 | [],_,_,_=>by simp [aA]
 | t::r,base,0,h=>by simp at h
 | t::r,base,j+1,h=>by
  simp only [List.length_cons] at h
  simp only [aA,List.getD_cons_succ]
  exact Ab r (base+t.cnt) j (by omega)
theorem C0 {ns:List NR}:∀ (kids:List PT) (base j:Nat) (x:PT),fM ns kids base->kids[j]?=some x->fG ns x (base+az (kids.take j))
 | [],_,_,_,_,h=>by simp at h
 | t::r,base,0,x,hs,h=>by
  simp only [List.getElem?_cons_zero,Option.some.injEq] at h
  subst h
  simp only [fM] at hs
  simpa [az] using hs.1
 | t::r,base,j+1,x,hs,h=>by
  simp only [List.getElem?_cons_succ] at h
  simp only [fM] at hs
  have:=C0 r (base+t.cnt) j x hs.2 h
  simpa [List.take_succ_cons,az,Nat.add_assoc] using this
theorem Ma (kids:List PT) (j:Nat) (x:PT) (h:kids[j]?=some x):az (kids.take j)+x.cnt<=az kids:=by
 have h1:=tM kids (j+1)
 rw [List.take_add_one,h] at h1
 simp only [Option.toList_some] at h1
 rw [Ac] at h1
 omega
theorem C2 {w:World} {B:Nat} {n:NR} {l:List Int} (h:w.heap[B]?=some (bU n)) (h0:n.p0=l.getD 0 (-1)) (h1:n.p1=l.getD 1 (-1)) (h2:n.p2=l.getD 2 (-1)) (j:Nat) (hj:j<=2):w.cell? ⟨B,7+j,none⟩=some (.int .i64 (l.getD j (-1))):=by
 obtain ⟨_,_,_,_,_,_,_,c7,c8,c9⟩:=aC h
 rcases (show j=0\/j=1\/j=2 by omega) with rfl | rfl | rfl
 ·rw [<- h0];exact c7
 ·rw [<- h1];exact c8
 ·rw [<- h2];exact c9
theorem JA (k:Kw) (nm:List UInt8) (j:Nat) (x:List UInt8) (h:Jr k=(j:Int)):bP k nm j x=[32]++nm++[32]++x:=by
 have:(k=.aT/\j=0)\/(k=.loop/\j=1):=by
  cases k <;> simp [Jr] at h ⊢ <;> omega
 unfold bP;rw [if_pos this];simp
theorem Mb (k:Kw) (nm:List UInt8) (j:Nat) (x:List UInt8) (h:Jr k≠(j:Int)):bP k nm j x=[32]++x:=by
 have:¬ ((k=.aT/\j=0)\/(k=.loop/\j=1)):=by
  rintro (⟨rfl,rfl⟩ | ⟨rfl,rfl⟩) <;> simp [Jr] at h
 unfold bP;rw [if_neg this];simp
theorem Bh (L:Ly) (wb:Nat) (x1:Option Addr) (n1 c1:Nat) (x2:Option Addr) (n2 c2:Nat) (ns:List NR) (op:List Int) (k:Kw) (nm:List UInt8) (kids:List PT) (hkn:k≠.new) (har:kids.length<=3) (ih:∀ x∈kids,Aa L wb (.slice x1 n1 c1) (.slice x2 n2 c2) ns op x)
  (base:Nat) (w:World) (v:Value) (tx:List UInt8) (n:NR) (hf:n.form=aY k) (hwd:n.word=nm) (oU:n.p0=(aA kids base).getD 0 (-1)) (gI:n.p1=(aA kids base).getD 1 (-1)) (vA:n.p2=(aA kids base).getD 2 (-1))
  (hsh:fM ns kids base) (kN:nm.length<=9000) (iG:bI kids) (hwf:oZ kids) (hle:base+az kids<=ns.length) (nK:tx.length+22000 * (1+az kids)<=200001650) (I:Nat) (hrg:-1<=jJ L.regs I) (hin:kz L wb w (.slice x1 n1 c1) (.slice x2 n2 c2) v tx) (aZ:pS L wb w (.slice x1 n1 c1) (.slice x2 n2 c2) ns op) :
  Calls Tryz.prog 100 #[.pointer (some ⟨wb,0,none⟩),aI n,.int .i64 (jJ L.regs I)] w fun e w'=>∃ v',e=.returned (.tuple #[])/\jU wb w w' v v'/\kz L wb w' (.slice x1 n1 c1) (.slice x2 n2 c2) v' (tx++(mi L.regs L.news k nm kids base I kids.length++[41])):=by
 have hlt:=af hin.blk
 have abH:=aZ.len
 have hput:=fun w' v' iW s (h:kz L wb w' (.slice x1 n1 c1) (.slice x2 n2 c2) v' iW) (hl:iW.length+s.length<=400000000)=>lP wb w' _ _ v' iW s h hl
 have XC:∀ w' v' iW (h:kz L wb w' (.slice x1 n1 c1) (.slice x2 n2 c2) v' iW) (hl:iW.length<=390000000),Calls Tryz.prog 78 #[.pointer (some ⟨wb,0,none⟩),.string ⟨#[40]⟩] w' fun e w2=>∃ v2,e=.returned (.tuple #[])/\jU wb w' w2 v' v2/\kz L wb w2 (.slice x1 n1 c1) (.slice x2 n2 c2) v2 (iW++[40]):=fun w' v' iW h hl=>hput w' v' iW [40] h (by simp;omega)
 have L8:∀ w' v' iW (h:kz L wb w' (.slice x1 n1 c1) (.slice x2 n2 c2) v' iW) (hl:iW.length<=390000000),Calls Tryz.prog 78 #[.pointer (some ⟨wb,0,none⟩),.string ⟨#[41]⟩] w' fun e w2=>∃ v2,e=.returned (.tuple #[])/\jU wb w' w2 v' v2/\kz L wb w2 (.slice x1 n1 c1) (.slice x2 n2 c2) v2 (iW++[41]):=fun w' v' iW h hl=>hput w' v' iW [41] h (by simp;omega)
 have L6:∀ w' v' iW (h:kz L wb w' (.slice x1 n1 c1) (.slice x2 n2 c2) v' iW) (hl:iW.length<=390000000),Calls Tryz.prog 78 #[.pointer (some ⟨wb,0,none⟩),.string ⟨#[32]⟩] w' fun e w2=>∃ v2,e=.returned (.tuple #[])/\jU wb w' w2 v' v2/\kz L wb w2 (.slice x1 n1 c1) (.slice x2 n2 c2) v2 (iW++[32]):=fun w' v' iW h hl=>hput w' v' iW [32] h (by simp;omega)
 have Mc:∀ j x,kids[j]?=some x->(tx.length+(mi L.regs L.news k nm kids base I j).length+9002+22000 * x.cnt<=200000000)/\∃ M:Nat,M<=9000/\(aA kids base).getD j (-1)=(M:Int)/\∀ w' v' iW,iW.length+22000 * x.cnt<=200000000->kz L wb w' (.slice x1 n1 c1) (.slice x2 n2 c2) v' iW->pS L wb w' (.slice x1 n1 c1) (.slice x2 n2 c2) ns op ->
   Calls Tryz.prog 54 #[.pointer (some ⟨wb,0,none⟩),.int .i64 M] w' fun e w2=>∃ v2,e=.returned (.tuple #[])/\jU wb w' w2 v' v2/\kz L wb w2 (.slice x1 n1 c1) (.slice x2 n2 c2) v2 (iW++x.u7 L.regs L.news (base+az (kids.take j))):=by
  intro j x hx
  have hm:=List.mem_of_getElem? hx
  have htk:=Ma kids j x hx
  have hal:=CR aZ.bd k nm kids base I j kN iG
  have ZT:=cH x
  refine ⟨by omega,base+az (kids.take j)+x.cnt - 1,by omega,by rw [Hh kids base j x hx];omega,?_⟩
  intro w' v' iW hl h1 h2
  have:=ih x hm (base+az (kids.take j)) w' v' iW (C0 kids base j x hsh hx) (zX iG x hm) (A3 hwf x hm) (by omega) hl h1 h2
  rw [show (((base+az (kids.take j)+x.cnt:Nat):Int) - 1)=((base+az (kids.take j)+x.cnt - 1:Nat):Int) from by omega] at this
  exact this
 have Sg:jJ L.regs I=-1->tx++[40]++k.bytes=tx++mi L.regs L.news k nm kids base I 0:=fun h=>by simp [mi,gz,bn,LX,h]
 have Sh:∀ m:Nat,jJ L.regs I=(m:Int)->tx++[40]++k.bytes++([32,35]++Lib.decDigits m)=tx++mi L.regs L.news k nm kids base I 0:=fun m h=>by
  have:¬ ((m:Int)=-1):=by omega
  simp [mi,gz,bn,LX,h,this]
 have TZ:=aZ.bd.r I
 have jj:∀ (w':World) (v':Value) (iW:List UInt8) (m:Nat),m<=9999->jU wb w w' v v'->kz L wb w' (.slice x1 n1 c1) (.slice x2 n2 c2) v' iW->iW.length<=390000000->Calls Tryz.prog 98 #[.pointer (some ⟨wb,0,none⟩),.int .i64 m] w' fun e w2=>∃ v2,e=.returned (.tuple #[])/\jU wb w' w2 v' v2/\kz L wb w2 (.slice x1 n1 c1) (.slice x2 n2 c2) v2 (iW++([32,35]++Lib.decDigits m)):=fun w' v' iW m hm hf h1 hl=>qq L wb w' _ _ v' ns op iW m hm h1 (aZ.on (hin.fr hf)) hl
 have Si:∀ j,(mi L.regs L.news k nm kids base I j).length<=180000011:=fun j=>by have:=CR aZ.bd k nm kids base I j kN iG;have:=tM kids j;omega
 have hkb:k.bytes.length<=4:=by cases k <;> decide
 have C3:=Sd.new hin n
 have Md:=hin.below ((Below.refl _ w).alloc (Nat.le_refl _) (bU n))
 have JB:jU wb w (w.alloc (bU n)) v v:=jU.jI v ((Below.refl _ w).alloc (Nat.le_refl _) (bU n))
 have hwo:=fun w'=>Fq k w' hkn
 have rS:=fun w'=>qU k w'
 have hfw:∀ {wr:World} {vr:Value},jU wb w wr v vr->pS L wb wr (.slice x1 n1 c1) (.slice x2 n2 c2) ns op:=fun h=>aZ.on (hin.fr h)
 have aar:Hid _:=XC
 have TR:Hid _:=L8
 have L7:Hid _:=L6
 have XD:Hid _:=hput
 have Qd:Hid _:=Mc
 have JC:Hid _:=C3
 have XE:Hid _:=Md
 have XF:Hid _:=JB
 have Me:Hid _:=Sg
 have Mf:Hid _:=Sh
 have Cf:Hid _:=jj
 have XG:Hid _:=Si
 have ow:Hid (∀ (wr:World) (vr:Value),jU wb w wr v vr->pS L wb wr (.slice x1 n1 c1) (.slice x2 n2 c2) ns op):=fun _ _ h=>hfw h
 have HF:Hid _:=hf
 have HWD:Hid _:=hwd
 have HP0:Hid _:=oU
 have TM:Hid _:=gI
 have ZN:Hid _:=vA
 have htl:tx.length<=200001650:=by omega
 clear XC L8 L6 hput Mc C3 Md JB Sg Sh jj Si hfw hf hwd oU gI vA hin aZ ih hsh iG hwf nK hle
 obtain ⟨R,hR⟩:∃ R,R=jJ L.regs I:=⟨_,rfl⟩
 rw [<- hR] at hrg TZ ⊢
 have Qe:Hid _:=hR
 clear hR
 show Calls _ _ #[Value.pointer (some ⟨wb,0,none⟩),Value.agg #[.int .i64 n.form,.int .i64 n.at_,.int .i64 n.aR,.int .i64 n.num,.string (bs n.word),.int .i64 n.region,.int .i64 n.source,.int .i64 n.p0,.int .i64 n.p1,.int .i64 n.p2],.int .i64 R] w _
 go_enter Tryz.func100,Tryz.ntmps100
 go_wp2_with fail
 refine (aar.out (w.alloc (bU n)) v tx XE.out (by omega)).mono ?_
 rintro _ w1 ⟨v1,rfl,qX,mT⟩
 have hb1:=JC.out.keep qX
 have d0:w1.cell? ⟨w.heap.size,0,none⟩=some (.int .i64 (aY k)):=by rw [<- HF.out];exact (aC hb1.b).1
 have JD:Hid _:=XF.out.trans qX
 have Uf:Hid _:=mT
 have dG:Hid _:=hb1
 clear qX mT hb1 XF XE JC
 go_wp2_with fail
 refine (hwo _).mono ?_
 rintro _ _ ⟨rfl,rfl⟩
 go_wp2_with fail
 refine (XD.out _ v1 _ k.bytes Uf.out (by simp;omega)).mono ?_
 rintro _ w2 ⟨v2,rfl,cW,bq⟩
 have hb2:=dG.out.keep cW
 have wR:Hid _:=JD.out.trans cW
 have dU:Hid _:=hb2
 by_cases pU:R=-1
 case' pos =>
  rw [Me.out (Qe.out.symm.trans pU)] at bq
  have wS:Hid _:=bq
  clear cW bq d0 JD Uf dG Me Mf Cf hb2 Qe
  subst pU
  go_wp2_with fail
 case' neg =>
  obtain ⟨m,rfl⟩:∃ m:Nat,R=(m:Int):=⟨R.toNat,by omega⟩
  have Qf:Hid _:=Mf.out m Qe.out.symm
  have Sj:Hid _:=bq
  have Mg:Hid _:=wR.out
  have XH:Hid _:=hb2
  have qm:((m:Int) != -1)=true:=by simp
  clear cW bq d0 JD Uf dG Me Mf hb2 wR dU Qe
  go_wp2_with fail
  refine (Cf.out _ _ _ m (by omega) Mg.out Sj.out (by simp;omega)).mono ?_
  rintro _ w2 ⟨v2,rfl,cW,bq⟩
  rw [Qf.out] at bq
  have wR:Hid _:=Mg.out.trans cW
  have wS:Hid _:=bq
  have dU:Hid _:=XH.out.keep cW
  clear cW bq Cf Mg Sj XH Qf qm
  go_wp2_with fail
 all_goals
  go_loopw [6] (fun i wr=>∃ (j:Nat) (vr:Value),j<=kids.length/\i=.int .i64 j/\Sd wb w.heap.size wr vr n/\jU wb w wr v vr/\kz L wb wr (.slice x1 n1 c1) (.slice x2 n2 c2) vr (tx++mi L.regs L.news k nm kids base I j)) (fun i _=>4 - (intOf i).toNat)
  case atStart=>exact ⟨0,v2,by omega,rfl,dU.out,wR.out,wS.out⟩
  case round =>
   obtain ⟨j,vr,hj,rfl,C3,hfr,hin⟩:=hrel
   have d0:wr.cell? ⟨w.heap.size,0,none⟩=some (.int .i64 (aY k)):=by rw [<- HF.out];exact (aC C3.b).1
   have d4:wr.cell? ⟨w.heap.size,4,none⟩=some (.string (bs nm)):=by rw [<- HWD.out];exact (aC C3.b).2.2.2.2.1
   have Sk:=fun (h:j<=2)=>C2 C3.b HP0.out TM.out ZN.out j h
   have JC:Hid _:=C3
   have qI:Hid _:=hfr
   have mq:Hid _:=hin
   have Hj:Hid _:=Sk
   have hal:=XG.out j
   clear C3 hfr hin Sk dU wR wS
   by_cases hlt:j < kids.length
   ·obtain ⟨x,hx⟩:∃ x,kids[j]?=some x:=⟨kids[j],List.getElem?_eq_getElem hlt⟩
    obtain ⟨gZ,M,hMb,hpM,hcall⟩:=Qd.out j x hx
    have hj2:j<=2:=by omega
    have ZX:∀ (wx:World) (vx:Value),Sd wb w.heap.size wx vx n->wx.cell? ⟨w.heap.size,7+j,none⟩=some (.int .i64 M):=fun wx vx hb=>by rw [<- hpM];exact C2 hb.b HP0.out TM.out ZN.out j hj2
    have hp:=ZX _ _ JC.out
    have hM1:((M:Int) != -1)=true:=by simp
    have hs:=Js L.regs L.news k nm kids base I j x hx
    obtain ⟨bk,hbk⟩:∃ bk,Jr k=bk:=⟨_,rfl⟩
    rw [hbk] at rS
    have HC:Hid _:=hcall
    have HPW:Hid _:=ZX
    by_cases hq:bk=(j:Int)
    ·have hs':tx++mi L.regs L.news k nm kids base I j++[32]++nm++[32]++x.u7 L.regs L.news (base+az (kids.take j))=tx++mi L.regs L.news k nm kids base I (j+1):=by rw [hs,JA k nm j (x.u7 L.regs L.news (base+az (kids.take j))) (hbk.trans hq)];simp
     have HS:Hid _:=hs'
     clear hcall hs hs' hpM hx hbk Hj Qd ZX
     subst hq
     rcases (show j=0\/j=1\/j=2 by omega) with rfl | rfl | rfl
     all_goals
      simp only [Nat.reduceAdd] at hp
      go_wp2_with fail
      refine (rS _).mono ?_
      rintro _ _ ⟨rfl,rfl⟩
      go_wp2_with fail
      refine (L7.out _ vr _ mq.out (by simp;omega)).mono ?_
      rintro _ w3 ⟨v3,rfl,bQ,dZ⟩
      have hb3:=JC.out.keep bQ
      have g4:w3.cell? ⟨w.heap.size,4,none⟩=some (.string (bs nm)):=by rw [<- HWD.out];exact (aC hb3.b).2.2.2.2.1
      have aas:Hid _:=qI.out.trans bQ
      have Ug:Hid _:=dZ
      have iV:Hid _:=hb3
      clear bQ dZ hb3
      go_wp2_with fail
      refine (XD.out _ v3 _ nm Ug.out (by simp;omega)).mono ?_
      rintro _ w4 ⟨v4,rfl,ij,bT⟩
      have Mh:Hid _:=aas.out.trans ij
      have JE:Hid _:=bT
      have pP:Hid _:=iV.out.keep ij
      clear ij bT
      go_wp2_with fail
      refine (L7.out _ v4 _ JE.out (by simp;omega)).mono ?_
      rintro _ w5 ⟨v5,rfl,oz,mU⟩
      have mF:=pP.out.keep oz
      have g7:=HPW.out _ _ mF
      simp only [Nat.reduceAdd] at g7
      have zx:Hid _:=Mh.out.trans oz
      have C4:Hid _:=mU
      have CG:Hid _:=mF
      clear oz mU mF
      go_wp2_with fail
      refine (HC.out _ v5 _ (by simp;omega) C4.out (ow.out _ _ zx.out)).mono ?_
      rintro _ w6 ⟨v6,rfl,Fw,Mi⟩
      have wT:=Mi
      rw [HS.out] at wT
      have Uh:Hid _:=zx.out.trans Fw
      have Ui:Hid _:=wT
      have Ch:Hid _:=CG.out.keep Fw
      clear Fw Mi wT
      go_wp2_with fail
      go_roundw
      case rel=>exact ⟨_,v6,hlt,rfl,Ch.out,Uh.out,Ui.out⟩
      case measure=>simp [intOf]
    ·have hs':tx++mi L.regs L.news k nm kids base I j++[32]++x.u7 L.regs L.news (base+az (kids.take j))=tx++mi L.regs L.news k nm kids base I (j+1):=by rw [hs,Mb k nm j (x.u7 L.regs L.news (base+az (kids.take j))) (fun e=>hq (hbk.symm.trans e))];simp
     have HS:Hid _:=hs'
     have hq1:((j:Int) == bk)=false:=by rw [beq_eq_false_iff_ne];exact fun e=>hq e.symm
     clear hcall hs hs' hpM hx hbk Hj Qd ZX
     rcases (show j=0\/j=1\/j=2 by omega) with rfl | rfl | rfl
     all_goals
      simp only [Nat.reduceAdd] at hp
      go_wp2_with fail
      refine (rS _).mono ?_
      rintro _ _ ⟨rfl,rfl⟩
      go_wp2_with fail
      refine (L7.out _ vr _ mq.out (by simp;omega)).mono ?_
      rintro _ w5 ⟨v5,rfl,oz,mU⟩
      have mF:=JC.out.keep oz
      have g7:=HPW.out _ _ mF
      simp only [Nat.reduceAdd] at g7
      have zx:Hid _:=qI.out.trans oz
      have C4:Hid _:=mU
      have CG:Hid _:=mF
      clear oz mU mF
      go_wp2_with fail
      refine (HC.out _ v5 _ (by simp;omega) C4.out (ow.out _ _ zx.out)).mono ?_
      rintro _ w6 ⟨v6,rfl,Fw,Mi⟩
      have wT:=Mi
      rw [HS.out] at wT
      have Uh:Hid _:=zx.out.trans Fw
      have Ui:Hid _:=wT
      have Ch:Hid _:=CG.out.keep Fw
      clear Fw Mi wT
      go_wp2_with fail
      go_roundw
      case rel=>exact ⟨_,v6,hlt,rfl,Ch.out,Uh.out,Ui.out⟩
      case measure=>simp [intOf]
   ·have hjk:j=kids.length:=by omega
    have hpe:j<=2->wr.cell? ⟨w.heap.size,7+j,none⟩=some (.int .i64 (-1)):=fun h=>by
     have:=Hj.out h
     rwa [Ab kids base j (by omega)] at this
    have Mj:tx++mi L.regs L.news k nm kids base I j++[41]=tx++(mi L.regs L.news k nm kids base I kids.length++[41]):=by rw [<- hjk];simp
    have Qf:Hid _:=Mj
    have HPE:Hid _:=hpe
    clear Qd Hj hpe Mj
    have hj3:j<=3:=by omega
    clear hjk hlt hj
    rcases (show j=0\/j=1\/j=2\/j=3 by omega) with rfl | rfl | rfl | rfl
    all_goals
     try (have hp:=HPE.out (by omega);simp only [Nat.reduceAdd] at hp)
     go_wp2_with fail
     refine (TR.out _ vr _ mq.out (by simp;omega)).mono ?_
     rintro _ w5 ⟨v5,rfl,oz,mU⟩
     have Mk:=mU
     rw [Qf.out] at Mk
     have zx:Hid _:=qI.out.trans oz
     have C4:Hid _:=Mk
     clear oz mU Mk
     go_wp2_with fail
     refine bodyPost_end (v:=.tuple #[]) (by simp [results,Tryz.results100,go_sem]) rfl ⟨v5,rfl,zx.out,C4.out⟩
end Go.Proofs.YtpicaknklgccoabGreatDoor
