import Derived.Test.YtpicaknklgccoabGreatDoorV35
set_option maxHeartbeats 16000000
set_option maxRecDepth 100000
namespace Go.Proofs.YtpicaknklgccoabGreatDoor
open Go.RowKit
open Go.Lib (decDigits)
def gS (l:List Int):List Value:=l.map λk=>Value.int .i64 k
structure zL (w:World) (L:Ly):Prop where
 r:w.ownsRow 0 3 1 L.lr L.regs.length (gS L.regs)
 a:w.ownsRow 0 3 1 L.la L.news.length (gS L.news)
theorem zL.below {w w':World} {L:Ly} (h:zL w L) (hb:Below w.heap.size w w'):zL w' L:=⟨aB h.r hb,aB h.a hb⟩
structure rO (L:Ly) (wb:Nat) (w:World) (nv ov:Value) (ns:List NR) (op:List Int):Prop where
 tree:∀ w',Below wb w w'->bB w' nv ov ns op
 tab:Lib.TabBelow Tryz.prog wb w "internal/strconv.uint64pow10" .u64 Lib.pow10Tab
 len:ns.length<=9000
 lay:∀ w',Below wb w w'->zL w' L
 bd:YD L.regs L.news
 rl:L.regs.length<=9000
theorem rO.on {L:Ly} {wb:Nat} {w w1:World} {nv ov:Value} {ns:List NR} {op:List Int} (h:rO L wb w nv ov ns op) (hb:Below wb w w1):rO L wb w1 nv ov ns op:=⟨λw' h'=>h.tree w' (hb.trans h'),h.tab.on hb,h.len,λw' h'=>h.lay w' (hb.trans h'),h.bd,h.rl⟩
theorem kL.below {wb:Nat} {w w':World} {v v':Value} (h:kL wb w w' v v') (hw:wb<=w.heap.size) (hv:∀ g,v.ownBlock=some g->wb<g):Below wb w w' :=
 ⟨h.os,h.tape,h.output,h.size,λk hk=>h.blk k (by omega) (by omega) (λe=>by have:=hv k e;omega)⟩
theorem lu.fr {L:Ly} {wb:Nat} {w w':World} {nv ov v v':Value} {tx:List UInt8} (h:lu L wb w nv ov v tx) (hf:kL wb w w' v v'):Below wb w w' :=
 hf.below (Nat.le_of_lt (af h.blk)) (λg hg=>by have:=(h.row.lt g hg).1;omega)
def BK (L:Ly) (wb:Nat) (nv ov:Value) (ns:List NR) (op:List Int) (t:PT):Prop:=∀ (base:Nat) (w:World) (v:Value) (tx:List UInt8),gN ns t base->t.bQ->t.wf->base+t.cnt<=ns.length->tx.length+22000*t.cnt<=200000000 ->
 lu L wb w nv ov v tx->rO L wb w nv ov ns op->Calls Tryz.prog 54 #[.pointer (some ⟨wb,0,none⟩),.int .i64 (((base+t.cnt:Nat):Int)-1)] w λe w'=>∃ v',e=.returned (.tuple #[])/\kL wb w w' v v'/\lu L wb w' nv ov v' (tx++t.wW L.regs L.news base)
def Pb (L:Ly) (wb:Nat) (nv ov:Value) (ns:List NR) (op:List Int) (t:PT):Prop:=∀ (base:Nat) (w:World) (v:Value) (tx:List UInt8),gN ns t base->t.bQ->t.wf->base+t.cnt<=ns.length->tx.length+22000*t.cnt<=200001650 ->
 lu L wb w nv ov v tx->rO L wb w nv ov ns op->Calls Tryz.prog 77 #[.pointer (some ⟨wb,0,none⟩),.int .i64 (((base+t.cnt:Nat):Int)-1)] w λe w'=>∃ v',e=.returned (.tuple #[])/\kL wb w w' v v'/\lu L wb w' nv ov v' (tx++t.Ap L.regs L.news base)
theorem ints_at {w:World} {l:List Int} {g cap:Nat} (h:w.ownsRow 0 3 1 (.slice (some ⟨g,0,none⟩) l.length cap) l.length (gS l)) (k:Nat) (x:Int) (hk:l[k]?=some x):w.cell? ⟨g,k,none⟩=some (.int .i64 x):=by
 rw[h.cellAt k (by have:=(List.getElem?_eq_some_iff.1 hk).1;omega)];unfold gS;rw[List.getElem?_map,hk];rfl
theorem Fl (w:World) (L:Ly) (h:zL w L):Calls Tryz.prog 96 #[.agg #[L.lr,L.la]] w λv w'=>v=.returned (.int .i64 L.news.length)/\Below w.heap.size w w':=by
 obtain⟨a0,c0,e0⟩:=aG h.r;obtain⟨a1,c1,e1⟩:=aG h.a;rw[e0,e1];clear h e0 e1;generalize L.news.length=m;generalize L.regs.length=n
 go_enter Tryz.func96,Tryz.ntmps96
 go_wp2
 go_ret
 exact⟨rfl,(Below.refl _ _).alloc (Nat.le_refl _) _⟩
theorem ID (w:World) (L:Ly) (h:zL w L) (hl:L.regs.length<=9000) (i:Nat) (hi:i<=9000):Calls Tryz.prog 99 #[.agg #[L.lr,L.la],.int .i64 i] w λv w'=>v=.returned (.int .i64 (jW L.regs i))/\Below w.heap.size w w':=by
 have hr:=h.r;obtain⟨a1,c1,e1⟩:=aG h.a;rw[e1];clear h e1;generalize L.news.length=m;generalize L.lr=lr at *;generalize L.regs=l at *
 by_cases hlt:i<l.length
 ·obtain⟨g,cap,rfl⟩:=gp hr (by omega)
  have c:=ints_at hr i l[i] (List.getElem?_eq_getElem hlt)
  have e:jW l i=l[i]:=by unfold jW;rw[List.getElem?_eq_getElem hlt];rfl
  rw[e];have hg:g<w.heap.size:=(hr.lt g rfl).2;generalize l[i]=x at *;generalize l.length=n at *;clear hr e
  go_enter Tryz.func99,Tryz.ntmps99
  go_wp2
  go_ret
  exact⟨rfl,(Below.refl _ _).alloc (Nat.le_refl _) _⟩
 ·have e:jW l i=-1:=by unfold jW;rw[List.getElem?_eq_none (by omega)];rfl
  rw[e];obtain⟨a0,c0,rfl⟩:=aG hr;generalize l.length=n at *;clear hr e
  go_enter Tryz.func99,Tryz.ntmps99
  go_wp2
  go_ret
  exact⟨rfl,(Below.refl _ _).alloc (Nat.le_refl _) _⟩
theorem LV (w:World) (L:Ly) (h:zL w L) (i:Nat) (x:Int) (hx:L.news[i]?=some x) (hl:L.news.length<=9000):Calls Tryz.prog 97 #[.agg #[L.lr,L.la],.int .i64 i] w λv w'=>v=.returned (.int .i64 x)/\Below w.heap.size w w':=by
 have hr:=h.a;obtain⟨a1,c1,e1⟩:=aG h.r;rw[e1];clear h e1;generalize L.regs.length=m;generalize L.la=lr at *;generalize L.news=l at *;have hlt:=(List.getElem?_eq_some_iff.1 hx).1;obtain⟨g,cap,rfl⟩:=gp hr (by omega);have c:=ints_at hr i x hx;have hg:g<w.heap.size:=(hr.lt g rfl).2;generalize l.length=n at *;clear hr hx
 go_enter Tryz.func97,Tryz.ntmps97
 go_wp2
 go_ret
 exact⟨rfl,(Below.refl _ _).alloc (Nat.le_refl _) _⟩
theorem rO.itoa {L:Ly} {wb:Nat} {w:World} {nv ov:Value} {ns:List NR} {op:List Int} (h:rO L wb w nv ov ns op) (m:Nat) (hm:m<=9999):Calls Tryz.prog 24 #[.int .i64 m] w λe w2=>e=.returned (.string (bs (decDigits m)))/\Below w.heap.size w w2 :=
 wV w (h.tab w (Below.refl _ _)) m w (by omega) (Below.refl _ _)
theorem r8 (L:Ly) (wb:Nat) (w:World) (nv ov v:Value) (ns:List NR) (op:List Int) (tx:List UInt8) (m:Nat) (hm:m<=9999) (hin:lu L wb w nv ov v tx) (bq:rO L wb w nv ov ns op) (hl:tx.length<=390000000) :
  Calls Tryz.prog 98 #[.pointer (some ⟨wb,0,none⟩),.int .i64 m] w λe w'=>∃ v',e=.returned (.tuple #[])/\kL wb w w' v v'/\lu L wb w' nv ov v' (tx++([32,35]++decDigits m)):=by
 have hd:=lP m hm
 have fk:Calls Tryz.prog 78 #[.pointer (some ⟨wb,0,none⟩),.string ⟨#[32,35]⟩] w λe w2=>∃ v2,e=.returned (.tuple #[])/\kL wb w w2 v v2/\lu L wb w2 nv ov v2 (tx++[32,35]):=mH wb w nv ov v tx [32,35] hin (by simp;omega)
 have oU:=λ(w':World) (v':Value) (h:lu L wb w' nv ov v' (tx++[32,35]))=>mH wb w' nv ov v' (tx++[32,35]) (decDigits m) h (by simp;omega)
 have hon:∀ (w':World) (v':Value),kL wb w w' v v'->Calls Tryz.prog 24 #[.int .i64 m] w' λe w2=>e=.returned (.string (bs (decDigits m)))/\Below w'.heap.size w' w2:=λw' v' hf=>(bq.on (hin.fr hf)).itoa m (by omega)
 have e0:tx++[32,35]++decDigits m=tx++([32,35]++decDigits m):=by simp
 have V4:Hid _:=fk;have HP2:Hid _:=oU;have HON:Hid _:=hon;have HE:Hid _:=e0;clear fk oU hon e0 hin bq
 go_enter Tryz.func98,Tryz.ntmps98
 go_wp2_with fail
 refine Calls.mono V4.out ?_;rintro _ w1 ⟨v1,rfl,hf1,hi1⟩;have aah:=HON.out _ _ hf1;have eH:Hid _:=hf1;have HI1:Hid _:=hi1;clear hf1 hi1 HON V4
 go_wp2_with fail
 refine aah.mono ?_;rintro _ w2 ⟨rfl,hb2⟩;have HI2:Hid _:=HI1.out.below hb2;have cS:Hid _:=eH.out.trans (kL.kC v1 hb2);clear hb2 aah HI1 eH
 go_wp2_with fail
 refine (HP2.out _ _ HI2.out).mono ?_;rintro _ w3 ⟨v3,rfl,hf3,tF⟩;rw[HE.out] at tF;have ee:Hid _:=cS.out.trans hf3;have HI3:Hid _:=tF;clear hf3 tF
 go_wp2_with fail
 refine bodyPost_end (v:=.tuple #[]) (by simp[results,Tryz.results98,go_sem]) rfl ⟨v3,rfl,ee.out,HI3.out⟩
theorem C4 (L:Ly) (wb:Nat) (w:World) (nv ov v:Value) (ns:List NR) (op:List Int) (tx:List UInt8) (i:Nat) (hin:lu L wb w nv ov v tx) (bq:rO L wb w nv ov ns op) (hl:tx.length<=200000000) :
  Calls Tryz.prog 76 #[.pointer (some ⟨wb,0,none⟩),.int .i64 i] w λe w'=>∃ v',e=.returned (.int .i64 (uR L.news i))/\kL wb w w' v v'/\lu L wb w' nv ov v' (tx++uQ L.news 0 i):=by
 have AW:=λ(w':World) (v':Value) (h:kL wb w w' v v')=>bq.lay w' (hin.fr h)
 have kJ:=bq.bd.n
 have hRe:=λ(w':World) (v':Value) (h:kL wb w w' v v')=>Fl w' L (AW w' v' h)
 have X0:=λ(w':World) (v':Value) (h:kL wb w w' v v') (k:Nat) (x:Int) (hx:L.news[k]?=some x)=>LV w' L (AW w' v' h) k x hx (by omega)
 have hPR:=λ(w':World) (v':Value) (jF:List UInt8) (k:Nat) (hk:k<=9999) (h:kL wb w w' v v') (h1:lu L wb w' nv ov v' jF) (hl':jF.length<=390000000)=>r8 L wb w' nv ov v' ns op jF k hk h1 (bq.on (hin.fr h)) hl'
 have YL:∀ w' v' jF (h:lu L wb w' nv ov v' jF) (hl:jF.length<=390000000),Calls Tryz.prog 78 #[.pointer (some ⟨wb,0,none⟩),.string ⟨#[40,110,101,119]⟩] w' λe w2=>∃ v2,e=.returned (.tuple #[])/\kL wb w' w2 v' v2/\lu L wb w2 nv ov v2 (jF++[40,110,101,119]):=λw' v' jF h hl=>mH wb w' _ _ v' jF [40,110,101,119] h (by simp;omega)
 have Pf:∀ w' v' jF (h:lu L wb w' nv ov v' jF) (hl:jF.length<=390000000),Calls Tryz.prog 78 #[.pointer (some ⟨wb,0,none⟩),.string ⟨#[32]⟩] w' λe w2=>∃ v2,e=.returned (.tuple #[])/\kL wb w' w2 v' v2/\lu L wb w2 nv ov v2 (jF++[32]):=λw' v' jF h hl=>mH wb w' _ _ v' jF [32] h (by simp;omega)
 have hlen:∀ k,(uQ (L.news.take k) 0 i).length<=11*150:=λk=>by
  have:=wX i (L.news.take k) 0 (by simp only[List.length_take];omega);simp only[List.length_take] at this;omega
 have qz:∀ k x,L.news[k]?=some x->L.news.take (k+1)=L.news.take k++[x]:=λk x hx=>by rw[List.take_add_one,hx];rfl
 have hcells:∀ (w':World) (v':Value) (jF:List UInt8),lu L wb w' nv ov v' jF->w'.cell? ⟨wb,2,none⟩=some L.lr/\w'.cell? ⟨wb,3,none⟩=some L.la/\wb<w'.heap.size:=λw' v' jF h=>⟨by rw[aa h.blk];rfl,by rw[aa h.blk];rfl,af h.blk⟩
 obtain⟨a0,c0,e0⟩:=aG (AW w v (kL.refl _ _ _)).r;obtain⟨a1,c1,e1⟩:=aG (AW w v (kL.refl _ _ _)).a;have HCE:Hid _:=hcells;rw[e0,e1] at hRe X0 HCE;have RA:Hid _:=hRe;have Mr:Hid _:=X0;have Dt:Hid _:=hPR;have HP4:Hid _:=YL;have Pg:Hid _:=Pf;have mR:Hid _:=hlen;have jO:Hid _:=qz;have nn:Hid _:=hin;obtain⟨m,hm⟩:∃ m,m=L.news.length:=⟨_,rfl⟩;have HM:Hid _:=hm;rw[<- hm] at RA Mr HCE kJ;generalize L.regs.length=nr at *;clear hRe X0 hPR YL Pf hlen qz AW hin bq e0 e1 hcells hm
 go_enter Tryz.func76,Tryz.ntmps76
 go_wp2
 go_loopw [5,6] (λa b wr=>∃ (k:Nat) (vr:Value),k<=m/\a=.int .i64 (uR (L.news.take k) i)/\b=.int .i64 k/\kL wb w wr v vr/\lu L wb wr nv ov vr (tx++uQ (L.news.take k) 0 i)) (λ_ b _=>m-(intOf b).toNat)
 case atStart=>exact⟨0,v,by omega,rfl,rfl,kL.refl _ _ _,by simpa [uQ] using nn.out⟩
 case round =>
  obtain⟨k,vr,hk,rfl,rfl,hfr,LW⟩:=hrel;obtain⟨y2,y3,yl⟩:=HCE.out _ _ _ LW;have X3:=RA.out _ _ hfr;have hll:=mR.out k
  have hcn:uR (L.news.take k) i<=150:=by have:=G8 (L.news.take k) i;simp only[List.length_take] at this;omega
  have sC:Hid _:=hfr;have aai:Hid _:=LW;clear hfr LW
  go_wp2_with fail
  refine X3.mono ?_;rintro _ w1 ⟨rfl,hb1⟩;have eH:Hid _:=sC.out.trans (kL.kC vr hb1);have HI1:Hid _:=aai.out.below hb1;clear hb1 X3 sC aai y2 y3 yl;obtain⟨y2,y3,yl⟩:=HCE.out _ _ _ HI1.out
  by_cases hlt:k<m
  ·have hkl:k<L.news.length:=by have:=HM.out;omega
   obtain⟨x,hx⟩:∃ x,L.news[k]?=some x:=⟨L.news[k],List.getElem?_eq_getElem hkl⟩;have hab:=Mr.out _ _ eH.out k x hx;have hts:=jO.out k x hx;have hos:=DZ i x (L.news.take k) 0;have hcs:=Nn (L.news.take k) x i;rw[<- hts,List.length_take,Nat.min_eq_left (by omega),Nat.zero_add] at hos;rw[<- hts] at hcs;have HOS:Hid _:=hos;have HCS:Hid _:=hcs;clear hx hts hos hcs hkl
   go_wp2_with fail
   refine hab.mono ?_;rintro _ w2 ⟨rfl,hb2⟩;have cS:Hid _:=eH.out.trans (kL.kC vr hb2);have HI2:Hid _:=HI1.out.below hb2;clear hb2 hab eH HI1 y2 y3 yl
   by_cases Uo:x=(i:Int)
   ·have q:(x==(i:Int))=true:=by rw[Uo];simp
    have e1:tx++uQ (L.news.take k) 0 i++[40,110,101,119]++([32,35]++decDigits k)++[32]=tx++uQ (L.news.take (k+1)) 0 i:=by rw[HOS.out,if_pos Uo];simp[XF]
    have e2:uR (L.news.take (k+1)) i=uR (L.news.take k) i+1:=by rw[HCS.out,if_pos Uo]
    have HE1:Hid _:=e1;have HE2:Hid _:=e2;have hd4:=lP k (by omega);clear Uo e1 e2 HOS HCS
    go_wp2_with fail
    refine (HP4.out _ _ _ HI2.out (by simp;omega)).mono ?_;rintro _ w3 ⟨v3,rfl,hf3,tF⟩;have ee:Hid _:=cS.out.trans hf3;have HI3:Hid _:=tF;clear hf3 tF cS HI2
    go_wp2_with fail
    refine (Dt.out _ _ _ k (by omega) ee.out HI3.out (by simp;omega)).mono ?_;rintro _ w4 ⟨v4,rfl,dE,hi4⟩;have kA:Hid _:=ee.out.trans dE;have HI4:Hid _:=hi4;clear dE hi4 ee HI3
    go_wp2_with fail
    refine (Pg.out _ _ _ HI4.out (by simp;omega)).mono ?_;rintro _ w5 ⟨v5,rfl,eY,pG⟩;rw[HE1.out] at pG;have gB:Hid _:=kA.out.trans eY;have jI:Hid _:=pG;clear eY pG kA HI4;generalize uR (L.news.take k) i=cc at *
    go_wp2
    go_roundw
    case rel=>exact⟨k+1,v5,by omega,by rw[HE2.out];go_num,by go_num,gB.out,jI.out⟩
    case measure=>simp[intOf];omega
   ·have q:(x==(i:Int))=false:=by rw[beq_eq_false_iff_ne];exact Uo
    have qq:=HI2.out
    have e2:uR (L.news.take (k+1)) i=uR (L.news.take k) i:=by rw[HCS.out,if_neg Uo];rfl
    have e1:uQ (L.news.take k) 0 i=uQ (L.news.take (k+1)) 0 i:=by rw[HOS.out,if_neg Uo];simp
    rw[e1] at qq;have jI:Hid _:=qq;have HE2:Hid _:=e2;clear Uo e1 e2 HOS HCS qq HI2;generalize uR (L.news.take k) i=cc at *
    go_wp2
    go_roundw
    case rel=>exact⟨k+1,vr,by omega,by rw[HE2.out],by go_num,cS.out,jI.out⟩
    case measure=>simp[intOf];omega
  ·have Je:k=L.news.length:=by have:=HM.out;omega
   have et:L.news.take k=L.news:=by rw[Je];exact List.take_length
   have hi1:=HI1.out;rw[et] at hi1 ⊢;have HI2:Hid _:=hi1;clear hi1 et Je HI1
   go_wp2
   go_ret
   exact⟨_,rfl,eH.out,HI2.out⟩
theorem C5 (L:Ly) (wb:Nat) (nv ov:Value) (ns:List NR) (op:List Int) (t:PT) (hf:Pb L wb nv ov ns op t):BK L wb nv ov ns op t:=by
 intro base w v tx hsh jQ hwf hle oX hin bq;have hcx:=cV t;obtain⟨M,hM⟩:∃ M:Nat,(((base+t.cnt:Nat):Int)-1)=(M:Int):=⟨base+t.cnt-1,by omega⟩;have hon:=C4 L wb w nv ov v ns op tx M hin bq (by omega);have hol:=wX (M:Int) L.news 0 (by have:=bq.bd.n;omega);have Gh:=G8 L.news (M:Int);have kJ:=bq.bd.n;have hfl:=Jn bq.bd t base jQ
 have hfm:=λ(w':World) (v':Value) (hb:kL wb w w' v v') (h1:lu L wb w' nv ov v' (tx++uQ L.news 0 M))=>hf base w' v' (tx++uQ L.news 0 M) hsh jQ hwf hle (by simp;omega) h1 (bq.on (hin.fr hb))
 have hw:t.wW L.regs L.news base=uQ L.news 0 M++(t.Ap L.regs L.news base++List.replicate (uR L.news M) 41):=by unfold PT.wW XG;rw[hM]
 rw[hM] at hfm ⊢;rw[hw]
 have Ph:∀ w' v' jF (h:lu L wb w' nv ov v' jF) (hl:jF.length<=390000000),Calls Tryz.prog 78 #[.pointer (some ⟨wb,0,none⟩),.string ⟨#[41]⟩] w' λe w2=>∃ v2,e=.returned (.tuple #[])/\kL wb w' w2 v' v2/\lu L wb w2 nv ov v2 (jF++[41]):=λw' v' jF h hl=>mH wb w' _ _ v' jF [41] h (by simp;omega)
 have HFM:Hid _:=hfm;have WL:Hid _:=Ph;generalize t.Ap L.regs L.news base=fx at *;generalize uQ L.news 0 M=ox at *;generalize uR L.news M=cn at *
 have e0:tx++ox++fx=tx++ox++fx++List.replicate 0 41:=by simp
 have aaj:∀ j,tx++ox++fx++List.replicate j 41++[41]=tx++ox++fx++List.replicate (j+1) 41:=λj=>by rw[List.append_assoc,<- List.replicate_succ']
 have aak:tx++ox++fx++List.replicate cn 41=tx++(ox++(fx++List.replicate cn 41)):=by simp
 have HE0:Hid _:=e0;have HRP:Hid _:=aaj;have CF:Hid _:=aak
 have acM:t.cnt<=9000:=by have:=bq.len;omega
 generalize t.cnt=tc at *;clear hfm hf hin bq hsh jQ hwf hle hM hw Ph e0 aaj aak
 go_enter Tryz.func54,Tryz.ntmps54
 go_wp2_with fail
 refine hon.mono ?_;rintro _ w1 ⟨v1,rfl,hf1,hi1⟩;have eH:Hid _:=hf1;have HI1:Hid _:=hi1;clear hf1 hi1 hon
 go_wp2_with fail
 refine (HFM.out _ _ eH.out HI1.out).mono ?_;rintro _ w2 ⟨v2,rfl,hfr,bC⟩;rw[HE0.out] at bC;have HF:Hid _:=eH.out.trans hfr;have HI:Hid _:=bC;clear hfr bC eH HI1 HFM HE0
 go_wp2
 go_loopw [4] (λa wr=>∃ (j:Nat) (vr:Value),j<=cn/\a=.int .i64 ((cn-j:Nat):Int)/\kL wb w wr v vr/\lu L wb wr nv ov vr (tx++ox++fx++List.replicate j 41)) (λa _=>(intOf a).toNat)
 case atStart=>exact⟨0,v2,by omega,by simp,HF.out,HI.out⟩
 case round =>
  obtain⟨j,vr,hj,rfl,hfr,LW⟩:=hrel;have sC:Hid _:=hfr;have HIR:Hid _:=LW;clear hfr LW HF HI
  by_cases hlt:j<cn
  ·have JT:=HRP.out j
   have JM:Hid _:=JT;clear JT;obtain⟨z,hz⟩:∃ z,cn-j=z+1:=⟨cn-j-1,by omega⟩;rw[hz]
   have hzz:cn-(j+1)=z:=by omega
   go_wp2_with fail
   refine (WL.out _ _ _ HIR.out (by simp;omega)).mono ?_;rintro _ w3 ⟨v3,rfl,hf3,tF⟩;rw[JM.out] at tF;have ee:Hid _:=sC.out.trans hf3;have HI3:Hid _:=tF;clear hf3 tF sC HIR
   go_wp2
   go_roundw
   case rel=>exact⟨j+1,v3,by omega,by rw[hzz];first | done | go_num,ee.out,HI3.out⟩
   case measure=>simp[intOf]
  ·have hj2:j=cn:=by omega
   subst hj2;have hi:=HIR.out;rw[CF.out] at hi;have HI2:Hid _:=hi;clear hi HIR;rw[show j-j=0 by omega]
   go_wp2
   refine bodyPost_end (v:=.tuple #[]) (by simp[results,Tryz.results54,go_sem]) rfl ⟨vr,rfl,sC.out,HI2.out⟩
theorem Sq (L:Ly) (wb:Nat) (x1:Option Addr) (n1 c1:Nat) (x2:Option Addr) (n2 c2:Nat) (ns:List NR) (op:List Int) (p:Nat) (s:List UInt8):Pb L wb (.slice x1 n1 c1) (.slice x2 n2 c2) ns op (.name p s):=by
 intro base w v tx hsh jQ hwf hle oX hin bq;simp only[gN] at hsh;obtain⟨n,hn,hf,hwd⟩:=hsh;simp only[PT.bQ] at jQ;simp only[PT.cnt] at hle oX;have hno:=eT w (.slice x1 n1 c1) (.slice x2 n2 c2) ns op (bq.tree w (Below.refl _ _)) base n hn bq.len;have hbl:=bq.len;have hb:=hin.blk
 have y0:w.cell? ⟨wb,0,none⟩=some (.slice x1 n1 c1):=by rw[aa hb];rfl
 have y1:w.cell? ⟨wb,1,none⟩=some (.slice x2 n2 c2):=by rw[aa hb];rfl
 have hput:=λw' (h:lu L wb w' (.slice x1 n1 c1) (.slice x2 n2 c2) v tx)=>mH wb w' _ _ v tx s h (by omega)
 have HP:Hid _:=hput;have nn:Hid _:=hin;have hlt:=af hb;unfold aQ aK at hno;rw[hf,hwd] at hno;simp only[PT.Ap,PT.cnt];rw[show (((base+1:Nat):Int)-1)=(base:Int) from by omega];clear hb hin bq hput hn
 go_enter Tryz.func77,Tryz.ntmps77
 go_wp2_with (first
  | (go_at_call 61;refine hno.mono ?_;rintro _ w1 ⟨rfl,hb1⟩)
  | (go_at_call 78;refine (HP.out _ (nn.out.below (hb1.alloc hb1.size _))).mono ?_;rintro _ w2 ⟨v',rfl,hfr,rN⟩))
 refine bodyPost_end (v:=.tuple #[]) (by simp[results,Tryz.results77,go_sem]) rfl ⟨v',rfl,(kL.kC v (hb1.alloc hb1.size _)).trans hfr,rN⟩
theorem WM (L:Ly) (wb:Nat) (x1:Option Addr) (n1 c1:Nat) (x2:Option Addr) (n2 c2:Nat) (ns:List NR) (op:List Int) (p:Nat) (s:List UInt8):Pb L wb (.slice x1 n1 c1) (.slice x2 n2 c2) ns op (.num p s):=by
 intro base w v tx hsh jQ hwf hle oX hin bq;simp only[gN] at hsh;obtain⟨n,hn,hf,rG⟩:=hsh;simp only[PT.bQ] at jQ;simp only[PT.cnt] at hle oX;obtain⟨m,hm⟩:∃ m:Nat,ak s=m:=⟨(ak s).toNat,by omega⟩;have hno:=eT w (.slice x1 n1 c1) (.slice x2 n2 c2) ns op (bq.tree w (Below.refl _ _)) base n hn bq.len;have hbl:=bq.len;have hb:=hin.blk
 have y0:w.cell? ⟨wb,0,none⟩=some (.slice x1 n1 c1):=by rw[aa hb];rfl
 have y1:w.cell? ⟨wb,1,none⟩=some (.slice x2 n2 c2):=by rw[aa hb];rfl
 have hd4:=lP m (by omega)
 have hput:=λw' (h:lu L wb w' (.slice x1 n1 c1) (.slice x2 n2 c2) v tx)=>mH wb w' _ _ v tx (decDigits m) h (by omega)
 have hlt:=af hb
 have hit:∀ w',Below w.heap.size w w'->Calls Tryz.prog 24 #[.int .i64 m] w' λe w2=>e=.returned (.string (bs (decDigits m)))/\Below w'.heap.size w' w2 :=
  λw' h=>wV w' (bq.tab w' (h.mono (Nat.le_of_lt hlt))) m w' (by omega) (Below.refl _ _)
 have Uf:Hid _:=hit;have HP:Hid _:=hput;have nn:Hid _:=hin;unfold aQ aK at hno;rw[hf,rG,hm] at hno;simp only[PT.Ap,PT.cnt];rw[show (((base+1:Nat):Int)-1)=(base:Int) from by omega,hm,Int.toNat_natCast];clear hb hin bq hput hn hit jQ
 go_enter Tryz.func77,Tryz.ntmps77
 go_wp2_with (first
  | (go_at_call 61;refine hno.mono ?_;rintro _ w1 ⟨rfl,hb1⟩)
  | (go_at_call 24;refine (Uf.out _ (hb1.alloc hb1.size _)).mono ?_;rintro _ w2 ⟨rfl,hb2⟩)
  | (go_at_call 78;refine (HP.out _ (nn.out.below ((hb1.alloc hb1.size _).trans (hb2.mono (hb1.alloc hb1.size _).size)))).mono ?_;rintro _ w3 ⟨v',rfl,hfr,rN⟩))
 refine bodyPost_end (v:=.tuple #[]) (by simp[results,Tryz.results77,go_sem]) rfl ⟨v',rfl,(kL.kC v ((hb1.alloc hb1.size _).trans (hb2.mono (hb1.alloc hb1.size _).size))).trans hfr,rN⟩
def eJ (E fs:List Nat) (ns:List NR):List Int:=ns.map (λn=>if n.form=4 then gW fs (aX E n.at_) else -1)
theorem IE (E fs:List Nat) (l:List NR) (n:NR):eJ E fs (l++[n])=eJ E fs l++[if n.form=4 then gW fs (aX E n.at_) else -1]:=by unfold eJ;rw[List.map_append];rfl
theorem AX (w:World) (x1:Option Addr) (n1 c1:Nat) (x2:Option Addr) (n2 c2:Nat) (ns:List NR) (op:List Int) (hT:bB w (.slice x1 n1 c1) (.slice x2 n2 c2) ns op) (ho:xK ns op) (hl:ns.length<=9000) (uO:∀ n∈ns,n.small) (n0:NR) (h0:ns[ns.length-1]?=some n0) (hB:n0.aL<=9000) (hat:∀ n∈ns,n.at_<n0.aL) (hsz:ij [] (ns.map atR)) (E fs:List Nat) (hE:E=sH [] (List.range n0.aL) ns) (hfs:fs=bf E (bw ns op)) :
  Calls Tryz.prog 52 #[aQ (.slice x1 n1 c1) (.slice x2 n2 c2)] w λe w'=>∃ rv,e=.returned (.tuple #[rv,.int .i64 fs.length])/\w'.ownsRow w.heap.size 3 1 rv ns.length (gS (eJ E fs ns))/\Below w.heap.size w w':=by
 have QJ:E.length=n0.aL:=by rw[hE,Jg,List.length_range]
 have hsh:=λ(W:World) (hb:Below w.heap.size w W)=>AV W x1 n1 c1 x2 n2 c2 ns op (hT.below hb) hl uO n0 h0 hB hat hsz
 rw[<- hE,<- QJ] at hsh
 have hfi:=λ(W:World) (hb:Below w.heap.size w W) (sb:Nat) (ev:Value) (hc:W.cell? ⟨sb,2,none⟩=some ev) (hr:W.ownsRow 0 3 1 ev E.length (dc E))=>IC W sb ev _ _ E ns op (hT.below hb) ho hl hc hr (by omega) (λn hn=>by have:=hat n hn;omega)
 rw[<- hfs] at hfi
 have hfl:fs.length<=9000:=by have:=qD E (bw ns op);rw[lN,ho.1] at this;rw[hfs];omega
 have hlen:=λ(w':World) (hb:Below w.heap.size w w')=>iC w' _ _ ns op (hT.below hb)
 have nX:=λ(w':World) (hb:Below w.heap.size w w') (k:Nat) (n:NR) (hk:ns[k]?=some n)=>eT w' _ _ ns op (hT.below hb) k n hk hl
 obtain⟨i0,hi,hz0,hz1,hz2⟩:=info_parts Tryz.qL;have HI:Hid _:=hi;have rR:Hid _:=hz0;have rS:Hid _:=hz1;have rT:Hid _:=hz2;obtain⟨m,hm⟩:∃ m,m=ns.length:=⟨_,rfl⟩;have HM:Hid _:=hm;rw[<- hm] at hl hlen ⊢
 have hE9:E.length<=9000:=by omega
 have aal:∀ n∈ns,n.at_<=9000:=λn hn=>by have:=hat n hn;omega
 unfold aQ at hsh hfi hlen nX;unfold ptr at hfi;unfold aK at nX;unfold aQ;have HSH:Hid _:=hsh;have Lx:Hid _:=hfi;have mR:Hid _:=hlen;have GN:Hid _:=nX;have M7:Hid _:=aal;clear hi hz0 hz1 hz2 hsh hfi hlen nX hT ho uO h0 hsz hE hfs hat hm QJ hB aal;obtain⟨WB,sE⟩:∃ WB,WB=w.alloc (.cells #[.slice x1 n1 c1,.slice x2 n2 c2] 62):=⟨_,rfl⟩;have eE:Hid (Below w.heap.size w WB):=(show Below w.heap.size w WB by rw[sE];exact cX (Below.refl _ _) _)
 have rJ:Hid (∀ wr,Below WB.heap.size WB wr->wr.cell? ⟨w.heap.size,0,none⟩=some (.slice x1 n1 c1)/\wr.cell? ⟨w.heap.size,1,none⟩=some (.slice x2 n2 c2)/\w.heap.size<wr.heap.size):=by
  intro wr hb;rw[sE] at hb;exact dK hb
 have Qx:Hid _:=sE;clear sE
 go_enter Tryz.func52,Tryz.ntmps52
 go_wp2_with fail
 rw[<- Qx.out];refine Calls.mono (HSH.out WB eE.out) ?_;rintro _ w1 ⟨pa,pn,pc,ta,tn,tc,ev,rfl,hb1,hr1,Fh⟩;obtain⟨ea,ec,rY⟩:=aG hr1;subst rY;have hc1:=aj w1 (.cells #[.slice pa pn pc,.slice ta tn tc,.slice ea E.length ec] 130 (0,0));have Sr:Below w1.heap.size w1 (w1.alloc (.cells #[.slice pa pn pc,.slice ta tn tc,.slice ea E.length ec] 130)):=(Below.refl _ w1).alloc (Nat.le_refl _) _;have Ss:Below WB.heap.size WB (w1.alloc (.cells #[.slice pa pn pc,.slice ta tn tc,.slice ea E.length ec] 130)):=hb1.alloc hb1.size _;have WN:=aB hr1 Sr;obtain⟨b0,b1,bl⟩:=rJ.out _ Ss;have DK:=eE.out.trans (Ss.mono eE.out.size);have hfc:=Lx.out _ DK w1.heap.size _ (by rw[aa hc1];rfl) WN;obtain⟨c0,c1',XA⟩:w1.cell? ⟨w.heap.size,0,none⟩=some (.slice x1 n1 c1)/\w1.cell? ⟨w.heap.size,1,none⟩=some (.slice x2 n2 c2)/\w.heap.size<w1.heap.size:=rJ.out _ hb1;have abS:=Nat.ne_of_lt XA;have IB:Hid _:=WN;have dZ:Hid _:=Ss;have Ay:Hid _:=hc1;clear hr1 hb1 Fh Sr Ss hc1 WN DK HSH Lx b0 b1 bl
 go_wp2_with fail
 refine Calls.mono hfc ?_;rintro _ w2 ⟨fv,rfl,dV,hb2⟩;have eC:Hid _:=dZ.out.trans (hb2.mono dZ.out.size);have HE2:Hid _:=aB IB.out hb2;have XV:Hid _:=(hb2.block _ (af Ay.out)).trans Ay.out;have cS:Hid _:=dV
 have WH:w1.heap.size<w2.heap.size:=by have:=hb2.size;simp at this;omega
 have aam:=eC.out.size;clear hb2 dV hfc c0 c1' XA abS dZ Ay IB
 have e2:w2.cell? ⟨w1.heap.size,2,none⟩=some (.slice ea E.length ec):=by rw[aa XV.out];rfl
 have he2:=HE2.out
 have aan:∀ wr,Below w2.heap.size w2 wr->∀ p:Nat,p<=10000->Calls Tryz.prog 73 #[.pointer (some ⟨w1.heap.size,0,none⟩),.int .i64 p] wr λv w'=>v=.returned (.int .i64 (aX E p))/\w'=wr:=λwr hb p hp=>rz wr w1.heap.size 0 (.slice ea E.length ec) E p ((hb.cell (p:=⟨w1.heap.size,2,none⟩) WH).trans e2) (aB he2 hb) hE9 hp
 have WO:∀ wr,Below w2.heap.size w2 wr->∀ x:Nat,Calls Tryz.prog 74 #[fv,.int .i64 x] wr λv w'=>v=.returned (.int .i64 (gW fs x))/\w'=wr:=λwr hb x=>Fm wr _ fv fs x (aB cS.out hb) hfl
 obtain⟨fa,fc,R8⟩:=aG cS.out;rw[R8] at WO;have WJ:Hid _:=aan;have abT:Hid _:=WO;clear aan WO he2 e2;subst R8
 go_wp2
 go_loopw [6,7,8,9,10] (λv6 i _ _ _ wr=>∃ (k:Nat),k<=m/\i=.int .i64 k/\wr.ownsRow w2.heap.size 3 1 v6 k (gS (eJ E fs (ns.take k)))/\Below w2.heap.size w2 wr) (λ_ i _ _ _ _=>m-(intOf i).toNat)
 case atStart =>
  refine⟨0,Nat.zero_le _,rfl,⟨rfl,Or.inr ⟨w2.heap.size,0,#[],rfl,Nat.le_refl _,?_,Nat.le_refl _,by unfold maxLen;omega,rfl,rfl⟩⟩,(Below.refl _ w2).alloc (Nat.le_refl _) _⟩;exact aj _ _
 case round =>
  obtain⟨k,hk,rfl,hown,dI⟩:=hrel;have Mw:=eC.out.trans (dI.mono aam);obtain⟨b0,b1,bl⟩:=rJ.out _ Mw;have AF:=eE.out.trans (Mw.mono eE.out.size);have ja:=mR.out _ AF;have mS:=dI.size
  by_cases hlt:k<m
  ·have hkl:k<ns.length:=by have:=HM.out;omega
   obtain⟨n,hn⟩:∃ n,ns[k]?=some n:=⟨ns[k],List.getElem?_eq_getElem hkl⟩;have hat:=M7.out n (List.mem_of_getElem? hn);have iV:=IE E fs (ns.take k) n;rw[<- take_one ns k n hn] at iV;have kP:Hid _:=iV;have HN:Hid _:=hn;have eK:Hid _:=hown;have ji:Hid _:=dI;clear hn iV hown hkl Mw AF
   go_wp2_with fail
   refine ja.mono ?_;rintro _ w3 ⟨rfl,hb3⟩;have aao:=dI.trans (hb3.mono mS);have WQ:=eC.out.trans (aao.mono aam);clear b0 b1 bl;obtain⟨b0,b1,bl⟩:=rJ.out _ WQ;have hno:=GN.out w3 (eE.out.trans (WQ.mono eE.out.size)) k n HN.out;have jb:Hid _:=hb3;clear aao WQ hb3 ja dI
   go_wp2_with fail
   refine hno.mono ?_;rintro _ w4 ⟨rfl,hb4⟩;have Aq:Below wr.heap.size wr w4:=jb.out.trans (hb4.mono jb.out.size);have hr5:Below wr.heap.size wr (w4.alloc (cA n)):=Aq.alloc Aq.size (cA n);have nD:Below w2.heap.size w2 (w4.alloc (cA n)):=ji.out.trans (hr5.mono mS);have St:=WJ.out _ nD n.at_ (by omega);have Pj:=abT.out _ nD (aX E n.at_);have QY:Hid _:=aB eK.out hr5;have DU:Hid _:=nD;have ac4:=Aq.size;unfold cA AA at St Pj QY DU;clear hb4 Aq hr5 nD hno b0 b1 bl jb
   by_cases h4:n.form=4
   case' pos =>
    have q4:((n.form:Int)==4)=true:=aJ (b:=4) h4;have iV:=kP.out;rw[if_pos h4] at iV;obtain⟨RG,hRG⟩:∃ RG,RG=gW fs (aX E n.at_):=⟨_,rfl⟩;rw[<- hRG] at Pj iV;have lY:Hid _:=iV;generalize aX E n.at_=ft at *;clear iV kP h4 hRG
    go_wp2_with fail
    refine St.mono ?_;rintro _ _ ⟨rfl,rfl⟩
    go_wp2_with fail
    refine Pj.mono ?_;rintro _ _ ⟨rfl,rfl⟩;clear St Pj
   case' neg =>
    have q4:((n.form:Int)==4)=false:=ah (b:=4) h4;have iV:=kP.out;rw[if_neg h4] at iV;obtain⟨RG,hRG⟩:∃ RG:Int,RG=-1:=⟨_,rfl⟩;rw[<- hRG] at iV;have lY:Hid _:=iV;clear iV kP h4 St Pj
   all_goals
    obtain⟨W5,yX⟩:∃ W5,W5=w4.alloc (.cells #[.int .i64 n.form,.int .i64 n.at_,.int .i64 n.aL,.int .i64 n.num,.string (bs n.word),.int .i64 n.region,.int .i64 n.source,.int .i64 n.p0,.int .i64 n.p1,.int .i64 n.p2] 108):=⟨_,rfl⟩;rw[<- yX] at QY DU
    have RN:W5.heap.size=w4.heap.size+1:=by rw[yX];simp
    have Ci:Hid (Below w2.heap.size w2 (W5.alloc (.cells #[.int .i64 RG] 3))):=DU.out.alloc DU.out.size _;have QZ:Hid ((W5.alloc (.cells #[.int .i64 RG] 3)).ownsRow w2.heap.size 3 1 u6 k (gS (eJ E fs (ns.take k)))):=aB QY.out (cX (Below.refl _ _) _)
    have Ay:Hid (∀ (j:Nat) (u:Value),([.int .i64 RG]:List Value)[j]?=some u->(W5.alloc (.cells #[.int .i64 RG] 3)).cell? ((⟨w4.heap.size+1,0,none⟩:Addr).add j)=some u):=by
     intro j u hj;have hq:=bV W5 [.int .i64 RG] 3 j;rw[RN] at hq
     rw[<- hj,<- hq];first | done | rfl
    have xI:Hid (∀ u∈([.int .i64 RG]:List Value),u.oneCell'=true):=by intro v hv;simp only[List.mem_singleton] at hv;subst hv;rfl
    subst yX
    have ac5:w2.heap.size<=w4.heap.size+1:=by have:=DU.out.size;simp at this;omega
    clear RN
    try subst hRG
    go_wp2_with (at_builtin;go_must (refine wpList_append_own _ rfl (.tmp 34) (.tmp 36) 22 rfl w2.heap.size 3 i0 _ 1 8 Tryz.qN HI.out rR.out rS.out rT.out rfl (by decide) u6 k (gS (eJ E fs (ns.take k))) rfl QZ.out ⟨w4.heap.size+1,0,none⟩ 1 1 [.int .i64 _] rfl rfl Ay.out xI.out ?c3 ?c4 ?c5 ?_))
    case c3=>unfold maxLen;omega
    case c4=>omega
    case c5=>first | omega | (simp;omega)
    intro v' w7 hown' hgrow hnil;have EZ:Hid (Below w2.heap.size w2 w7):=(Ci.out).grown hgrow Ci.out.size (λb hb=>(World.ownsRow.lt QZ.out b hb).1)
    have HO7:Hid (w7.ownsRow w2.heap.size 3 1 v' (k+1) (gS (eJ E fs (ns.take (k+1))))):=by
     show w7.ownsRow w2.heap.size 3 1 v' (k+1) (gS (eJ E fs (ns.take (k+1))))
     rw[lY.out];unfold gS at hown' ⊢;rw[List.map_append];exact hown'
    clear hown' hgrow hnil
    go_wp2
    go_roundw
    case rel=>exact⟨k+1,by omega,by go_num,HO7.out,EZ.out⟩
    case measure=>simp[intOf];omega
  ·have Je:k=m:=by omega
   have htk:ns.take k=ns:=List.take_of_length_le (by have:=HM.out;omega);rw[htk,Je] at hown;have Gj:Hid _:=AF;have eK:Hid _:=hown;clear dI hown Je htk Mw
   go_wp2_with fail
   refine ja.mono ?_;rintro _ w3 ⟨rfl,hb3⟩;have dZ:Hid _:=Gj.out.trans (hb3.mono Gj.out.size);have Tz:Hid _:=aB eK.out hb3;clear hb3 ja b0 b1 bl
   go_wp2
   refine bodyPost_ret (v:=.tuple #[u6,.int .i64 fs.length]) (by simp[results,Tryz.results52,go_sem]) rfl ⟨_,rfl,?_,dZ.out⟩;exact dL Tz.out (λk hk=>by have:=eE.out.size;have:=(World.ownsRow.lt Tz.out k hk).1;omega)
def iB (T:List Ty) (ns:List NR) (n0:NR) (c:Nat):List Int:=(List.range c).map λr=>ew T r (dA T r ns 0 n0.aL n0.at_).1 (dA T r ns 0 n0.aL n0.at_).2 ns 0
theorem IG (T:List Ty) (ns:List NR) (n0:NR) (c:Nat):iB T ns n0 (c+1)=iB T ns n0 c++[ew T c (dA T c ns 0 n0.aL n0.at_).1 (dA T c ns 0 n0.aL n0.at_).2 ns 0]:=by
 unfold iB;rw[List.range_succ,List.map_append];rfl
theorem Fo (w:World) (x1:Option Addr) (n1 c1:Nat) (x2:Option Addr) (n2 c2:Nat) (ns:List NR) (op:List Int) (hT:bB w (.slice x1 n1 c1) (.slice x2 n2 c2) ns op) (hl:ns.length<=9000) (uO:∀ n∈ns,n.small) (n0:NR) (h0:ns[ns.length-1]?=some n0) (rv:Value) (regs:List Int) (Cy:w.ownsRow 0 3 1 rv regs.length (gS regs)) (hrl:regs.length=ns.length) (c:Nat) (hc:c<=9000)
  (AY:List NR) (h2:∀ (k:Nat) n r,ns[k]?=some n->regs[k]?=some r->AY.drop k=fo n r::AY.drop (k+1)/\(n.form=4->0<=r)) (X4:AY.length=ns.length) (hsz:ij [] AY) :
  Calls Tryz.prog 53 #[aQ (.slice x1 n1 c1) (.slice x2 n2 c2),rv,.int .i64 c] w λe w'=>∃ av,e=.returned av/\w'.ownsRow w.heap.size 3 1 av c (gS (iB (aU [] AY) ns n0 c))/\Below w.heap.size w w':=by
 obtain⟨i0,hi,hz0,hz1,hz2⟩:=info_parts Tryz.qL;have HI:Hid _:=hi;have rR:Hid _:=hz0;have rS:Hid _:=hz1;have rT:Hid _:=hz2
 have hlen:=λ(w':World) (hb:Below w.heap.size w w')=>iC w' _ _ ns op (hT.below hb)
 have nX:=λ(w':World) (hb:Below w.heap.size w w') (k:Nat) (n:NR) (hk:ns[k]?=some n)=>eT w' _ _ ns op (hT.below hb) k n hk hl
 obtain⟨m,hm⟩:∃ m,m=ns.length:=⟨_,rfl⟩
 have jD:1<=m:=by have:=(List.getElem?_eq_some_iff.1 h0).1;omega
 rw[<- hm] at hrl hlen X4;rw[hrl] at Cy;obtain⟨rg,ac6,abU⟩:=gp Cy (by omega);subst abU;have WR:rg<w.heap.size:=(Cy.lt rg rfl).2
 have hrc:∀ (k:Nat) (r:Int),regs[k]?=some r->w.cell? ⟨rg,k,none⟩=some (.int .i64 r):=λk r hk=>by
  rw[Cy.cellAt k (by have:=(List.getElem?_eq_some_iff.1 hk).1;omega)];unfold gS;rw[List.getElem?_map,hk];rfl
 have hTB:=λ(w':World) (hb:Below w.heap.size w w')=>hT.below hb
 have HM:Hid _:=hm;have HRC:Hid _:=hrc;have M9:Hid _:=hrl;have Mt:Hid _:=hTB;have Gi:Hid _:=uO;have HH2:Hid _:=h2;have H2L:Hid _:=X4;have Vq:Hid _:=hsz;have HH0:Hid _:=h0;unfold aQ at hlen nX;unfold aK at nX;have mR:Hid _:=hlen;have GN:Hid _:=nX
 have AU:m<=9000:=by omega
 clear hi hz0 hz1 hz2 hlen nX hm hrl Cy hrc hT hTB uO h2 X4 hsz h0;obtain⟨WB,sE⟩:∃ WB,WB=w.alloc (.cells #[.slice x1 n1 c1,.slice x2 n2 c2] 62):=⟨_,rfl⟩;have eE:Hid (Below w.heap.size w WB):=(show Below w.heap.size w WB by rw[sE];exact cX (Below.refl _ _) _)
 have rJ:Hid (∀ wr,Below WB.heap.size WB wr->wr.cell? ⟨w.heap.size,0,none⟩=some (.slice x1 n1 c1)/\wr.cell? ⟨w.heap.size,1,none⟩=some (.slice x2 n2 c2)/\w.heap.size<wr.heap.size):=by
  intro wr hb;rw[sE] at hb;exact dK hb
 have Yo:Hid (gj WB.heap.size 2 #[.slice x1 n1 c1,.slice x2 n2 c2,.slice none 0 0,.slice none 0 0] 135 (WB.alloc (.cells #[.slice x1 n1 c1,.slice x2 n2 c2,.slice none 0 0,.slice none 0 0] 135)) (.slice none 0 0) (.slice none 0 0) [] []):=⟨aj _ _,rfl,rfl,World.ownsRow_nil _ _ _ _,World.ownsRow_nil _ _ _ _,by simp[Value.ownBlock],by simp[Value.ownBlock],λg hg=>by simp[Value.ownBlock] at hg⟩;have Cf:w.heap.size<=WB.heap.size:=eE.out.size;have Qx:Hid _:=sE;have HWS:Hid (w.heap.size+1=WB.heap.size):=(show w.heap.size+1=WB.heap.size by rw[sE];simp);clear sE;unfold aQ
 go_enter Tryz.func53,Tryz.ntmps53
 go_wp2
 rw[<- Qx.out,HWS.out]
 go_loopw [8,9] (λi _ wr=>∃ (k:Nat) (pv tv:Value) (tb:List TP) (D:List Ty) (K:List Nat) (T:List Ty),k<=m/\i=.int .i64 k/\gj WB.heap.size 2 #[.slice x1 n1 c1,.slice x2 n2 c2,pv,tv] 135 wr pv tv tb K/\Rel tb D K T/\K.length=k/\tb.length<=k/\Hid (aU [] AY=aU T (AY.drop k))/\ij T (AY.drop k)/\Below WB.heap.size WB wr/\WB.heap.size<wr.heap.size/\(∀ g,pv.ownBlock=some g->WB.heap.size<=g)/\(∀ g,tv.ownBlock=some g->WB.heap.size<=g)) (λi _ _=>m-(intOf i).toNat)
 case atStart=>exact⟨0,_,_,[],[],[],[],Nat.zero_le _,rfl,Yo.out,M5,rfl,Nat.le_refl _,(rfl:aU [] AY=aU [] (AY.drop 0)),Vq.out,(Below.refl _ WB).alloc (Nat.le_refl _) _,by simp,by simp[Value.ownBlock],by simp[Value.ownBlock]⟩
 case round =>
  obtain⟨k,pv,tv,tb,D,K,T,hk,rfl,hC,kK,GM,htl,HF,Be,dI,hbs,mQ,uZ⟩:=hrel;have sx:Below w.heap.size w wr:=eE.out.trans (dI.mono Cf);obtain⟨b0,b1,bl⟩:=rJ.out _ dI;have ja:=mR.out wr sx;have nj:=dI.size
  by_cases hlt:k<m
  ·have hkl:k<ns.length:=by have:=HM.out;omega
   obtain⟨n,hn⟩:∃ n,ns[k]?=some n:=⟨ns[k],List.getElem?_eq_getElem hkl⟩;obtain⟨r,hr⟩:∃ r,regs[k]?=some r:=⟨regs[k]'(by have:=M9.out;omega),List.getElem?_eq_getElem _⟩;obtain⟨pq,Aq⟩:=HH2.out k n r hn hr;have eG:=Gi.out n (List.mem_of_getElem? hn);have hst:=HF.out;rw[pq] at hst Be;simp only[aU] at hst;simp only[ij] at Be;obtain⟨D',Fk⟩:=Ng kK (fo n r) Be.1;have jj:Rel (iX tb K n r.toNat).2 D' (K++[(iX tb K n r.toNat).1]) (T++[cH T (fo n r)]):=Fk;have hok:U5 tb K n:=⟨by omega,by omega,λi=>by have:=(kK.known i).2.1;omega,λj=>by have:=kK.Ja j;omega,⟨by have:=eG.1;omega,by have:=eG.1;omega⟩,⟨by have:=eG.2.1;omega,by have:=eG.2.1;omega⟩,⟨by have:=eG.2.2.1;omega,by have:=eG.2.2.1;omega⟩,⟨by have:=eG.2.2.2;omega,by have:=eG.2.2.2;omega⟩⟩
   have wF:(iX tb K n r.toNat).2.length<=k+1:=by
    have hpl:=nC tb r.toNat (au K n.p0) (au K n.p1);unfold iX
    repeat' split
    all_goals first | (simp only;omega) | omega
   have hadd:=λ(w':World) (hb:Below wr.heap.size wr w')=>xJ w' WB.heap.size 2 _ _ pv tv tb K n r r.toNat (λh=>by have:=Aq h;omega) (hC.below hb) hok
   have KG:∀ w',Below w.heap.size w w'->w'.cell? ⟨rg,k,none⟩=some (.int .i64 r):=λw' hb=>by rw[hb.cell (p:=⟨rg,k,none⟩) WR];exact HRC.out k r hr
   have Az:Hid _:=hadd;have HCR:Hid _:=KG;have jO:Hid _:=hst;have Vr:Hid _:=Be.2;have abV:Hid _:=jj;have HN:Hid _:=hn;have ji:Hid _:=dI;have HC:Hid _:=hC;have Tu:Hid _:=mQ;have abW:Hid _:=uZ;have Yq:Hid _:=GM;have Tx:Hid _:=wF;unfold aK at Az;clear hn hr pq Aq eG hst Be Fk jj hok wF hadd KG HF hC kK GM htl dI mQ uZ hkl sx;generalize iX tb K n r.toNat=X at *;generalize T++[cH T (fo n r)]=T' at *
   go_wp2_with fail
   refine ja.mono ?_;rintro _ w1 ⟨rfl,hb1⟩;have ky:=ji.out.trans (hb1.mono nj);clear b0 b1 bl;obtain⟨b0,b1,bl⟩:=rJ.out _ ky;have hno:=GN.out w1 (eE.out.trans (ky.mono Cf)) k n HN.out;have dZ:Hid _:=hb1;clear hb1 ky ja
   go_wp2_with fail
   refine hno.mono ?_;rintro _ w2 ⟨rfl,hb2⟩;have dV:Below wr.heap.size wr w2:=dZ.out.trans (hb2.mono dZ.out.size);have rH:=dV.alloc dV.size (cA n);have KG:=HCR.out _ (eE.out.trans ((ji.out.trans (rH.mono nj)).mono Cf));have hnb:=aj w2 (cA n);obtain⟨d0,d1,d2,d3,d4,d5,d6,d7,d8,d9⟩:=aC hnb;have kJ:=af hnb;obtain⟨W3,hW3⟩:∃ W3,W3=w2.alloc (cA n):=⟨_,rfl⟩
   have ac7:rg<W3.heap.size:=by rw[hW3];have:=dV.size;have:=ji.out.size;simp;omega
   rw[<- hW3] at rH KG hnb kJ d0 d1 d2 d3 d4 d5 d6 d7 d8 d9;have Gk:Hid _:=rH;have Jd:Hid _:=hW3;unfold cA AA at Jd;clear hb2 dV rH hno b0 b1 bl hnb hW3
   go_upto_region 6 with fail
   rw[<- Jd.out]
   go_region_law (refine l9 rfl 62 #[.pointer (some ⟨WB.heap.size,2,none⟩),.agg #[.int .i64 n.form,.int .i64 n.at_,.int .i64 n.aL,.int .i64 n.num,.string (bs n.word),.int .i64 n.region,.int .i64 n.source,.int .i64 n.p0,.int .i64 n.p1,.int .i64 n.p2],.int .i64 r] ?_ ?_
                  ·go_simp
                  refine Calls.mono (Az.out _ ?_) ?_
                  ·repeat (first | with_reducible exact Gk.out | with_reducible refine vI ?_ | with_reducible refine gJ ?_)
                  rintro e w4 ⟨rfl,pv4,tv4,iY,Vi⟩
                  refine⟨_,rfl,?_⟩)
   all_goals
    have Gl:Below WB.heap.size WB W3:=ji.out.trans (Gk.out.mono nj);have aag:WB.heap.size<=W3.heap.size:=Gl.size;obtain⟨g1,g2,g3⟩:=iY.toBelow (B:=WB.heap.size) (w0:=WB) (by repeat (first | with_reducible exact Gl | with_reducible refine vI ?_ | with_reducible refine gJ ?_)) (Nat.le_refl _) (by exact aag) Tu.out abW.out;have Vh:=iY.size
    have abX:WB.heap.size<w4.heap.size:=by have:=af Vi.y;exact this
    have Yt:Hid (gj WB.heap.size 2 #[.slice x1 n1 c1,.slice x2 n2 c2,pv4,tv4] 135 w4 pv4 tv4 X.2 (K++[X.1])):=Vi;have Vg:Hid _:=g1;have HG2:Hid _:=g2;have Ys:Hid _:=g3;clear iY Vi g1 g2 g3 Gl KG d0 d1 d2 d3 d4 d5 d6 d7 d8 d9 kJ Vh
    go_wp2
    go_roundw
    case rel=>exact⟨k+1,pv4,tv4,X.2,D',_,T',by omega,by go_num,Yt.out,abV.out,by simp[Yq.out],Tx.out,jO.out,Vr.out,Vg.out,abX,HG2.out,Ys.out⟩
    case measure=>simp[intOf];omega
  ·have LX:Hid (aU [] AY=T):=by
    have hd:AY.drop k=[]:=List.drop_eq_nil_of_le (by have:=H2L.out;omega);have hst:=HF.out;rw[hd] at hst;exact hst
   have HC:Hid _:=hC;have aap:Hid _:=kK;have ji:Hid _:=dI;have DK:=sx;clear hC kK HF Be dI mQ uZ
   go_wp2_with fail
   refine ja.mono ?_;rintro _ w1 ⟨rfl,hb1⟩;have ky:Below WB.heap.size WB w1:=ji.out.trans (hb1.mono nj);have hC1:=HC.out.below hb1;have Su:Below w.heap.size w w1:=eE.out.trans (ky.mono Cf);have oN:=Mt.out w1 Su
   have hab:∀ wx,Below w1.heap.size w1 wx->∀ r:Nat,Calls Tryz.prog 75 #[.pointer (some ⟨WB.heap.size,0,none⟩),.int .i64 r] wx λv w'=>v=.returned (.int .i64 (ew T r (dA T r ns 0 n0.aL n0.at_).1 (dA T r ns 0 n0.aL n0.at_).2 ns 0))/\Below wx.heap.size wx w':=λwx hb r=>LS WB.heap.size wx x1 n1 c1 x2 n2 c2 pv tv tb K ns op D T ⟨hC1.below hb,oN.below hb⟩ aap.out (by omega) (by omega) (by have:=HM.out;omega) r n0 HH0.out
   have Mr:Hid _:=hab;have R6:Hid _:=Su;have abY:=Su.size;clear hb1 ky hC1 oN hab Su ja b0 b1 bl sx HC aap GM htl DK
   go_wp2
   go_loopw [10,11,12] (λv10 i _ wx=>∃ (j:Nat),j<=c/\i=.int .i64 j/\wx.ownsRow w1.heap.size 3 1 v10 j (gS (iB T ns n0 j))/\Below w1.heap.size w1 wx) (λ_ i _ _=>c-(intOf i).toNat)
   case atStart =>
    refine⟨0,Nat.zero_le _,rfl,⟨rfl,Or.inr ⟨w1.heap.size,0,#[],rfl,Nat.le_refl _,?_,Nat.le_refl _,by unfold maxLen;omega,rfl,rfl⟩⟩,(Below.refl _ w1).alloc (Nat.le_refl _) _⟩;exact aj _ _
   case round =>
    obtain⟨j,hj,rfl,hown,hbx⟩:=hrel;have hxs:=hbx.size
    by_cases RE:j<c
    ·have hac:=Mr.out _ hbx j
     have iV:=IG T ns n0 j;generalize ew T j (dA T j ns 0 n0.aL n0.at_).1 (dA T j ns 0 n0.aL n0.at_).2 ns 0=RG at *;have kP:Hid _:=iV;have eK:Hid _:=hown;have WS:Hid _:=hbx;clear iV hown hbx
     go_wp2_with fail
     refine hac.mono ?_;rintro _ w5 ⟨rfl,nD⟩;have hB5:Below w1.heap.size w1 w5:=WS.out.trans (nD.mono hxs);have Ci:Hid (Below w1.heap.size w1 (w5.alloc (.cells #[.int .i64 RG] 3))):=hB5.alloc hB5.size _;have QZ:Hid ((w5.alloc (.cells #[.int .i64 RG] 3)).ownsRow w1.heap.size 3 1 u10 j (gS (iB T ns n0 j))):=aB (aB eK.out nD) (cX (Below.refl _ _) _)
     have Ay:Hid (∀ (i:Nat) (u:Value),([.int .i64 RG]:List Value)[i]?=some u->(w5.alloc (.cells #[.int .i64 RG] 3)).cell? ((⟨w5.heap.size,0,none⟩:Addr).add i)=some u):=by
      intro i u hi;have hq:=bV w5 [.int .i64 RG] 3 i
      rw[<- hi,<- hq];first | done | rfl
     have xI:Hid (∀ u∈([.int .i64 RG]:List Value),u.oneCell'=true):=by intro v hv;simp only[List.mem_singleton] at hv;subst hv;rfl
     have hw5:=hB5.size;clear hac nD hB5
     go_wp2_with (at_builtin;go_must (refine wpList_append_own _ rfl (.tmp 45) (.tmp 47) 22 rfl w1.heap.size 3 i0 _ 1 8 Tryz.qN HI.out rR.out rS.out rT.out rfl (by decide) u10 j (gS (iB T ns n0 j)) rfl QZ.out ⟨w5.heap.size,0,none⟩ 1 1 [.int .i64 RG] rfl rfl Ay.out xI.out ?c3 ?c4 ?c5 ?_))
     case c3=>unfold maxLen;omega
     case c4=>omega
     case c5=>first | omega | (simp;omega)
     intro v' w7 hown' hgrow hnil;have EZ:Hid (Below w1.heap.size w1 w7):=(Ci.out).grown hgrow Ci.out.size (λb hb=>(World.ownsRow.lt QZ.out b hb).1)
     have HO7:Hid (w7.ownsRow w1.heap.size 3 1 v' (j+1) (gS (iB T ns n0 (j+1)))):=by
      show w7.ownsRow w1.heap.size 3 1 v' (j+1) (gS (iB T ns n0 (j+1)))
      rw[kP.out];unfold gS at hown' ⊢;rw[List.map_append];exact hown'
     clear hown' hgrow hnil
     go_wp2
     go_roundw
     case rel=>exact⟨j+1,by omega,by go_num,HO7.out,EZ.out⟩
     case measure=>simp[intOf];omega
    ·have hjc:j=c:=by omega
     subst hjc;have eK:Hid _:=hown;have WS:Hid _:=hbx;clear hown hbx
     go_wp2
     go_ret
     refine⟨_,rfl,?_,R6.out.trans (WS.out.mono abY)⟩;rw[LX.out];exact dL eK.out (λk hk=>by have:=(World.ownsRow.lt eK.out k hk).1;omega)
end Go.Proofs.YtpicaknklgccoabGreatDoor
