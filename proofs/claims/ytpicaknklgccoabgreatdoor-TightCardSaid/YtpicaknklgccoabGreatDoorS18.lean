import Derived.Test.YtpicaknklgccoabGreatDoorS17
set_option maxHeartbeats 16000000
set_option maxRecDepth 100000
namespace Go.Proofs.YtpicaknklgccoabGreatDoor
open Go.RowKit
open Go.Lib (decDigits)
def gr (l:List Int):List Value:=l.map fun k=>Value.int .i64 k
structure wP (w:World) (L:Ly):Prop where
 r:w.ownsRow 0 3 1 L.lr L.regs.length (gr L.regs)
 a:w.ownsRow 0 3 1 L.la L.news.length (gr L.news)
theorem wP.below {w w':World} {L:Ly} (h:wP w L) (hb:Below w.heap.size w w'):wP w' L:=⟨aB h.r hb,aB h.a hb⟩
structure pS (L:Ly) (wb:Nat) (w:World) (nv ov:Value) (ns:List NR) (op:List Int):Prop where
 tree:∀ w',Below wb w w'->bg w' nv ov ns op
 tab:Lib.TabBelow Tryz.prog wb w "internal/strconv.uint64pow10" .u64 Lib.pow10Tab
 len:ns.length<=9000
 lay:∀ w',Below wb w w'->wP w' L
 bd:Xp L.regs L.news
 rl:L.regs.length<=9000
theorem pS.on {L:Ly} {wb:Nat} {w w1:World} {nv ov:Value} {ns:List NR} {op:List Int} (h:pS L wb w nv ov ns op) (hb:Below wb w w1):pS L wb w1 nv ov ns op:=⟨fun w' h'=>h.tree w' (hb.trans h'),h.tab.on hb,h.len,fun w' h'=>h.lay w' (hb.trans h'),h.bd,h.rl⟩
theorem jU.below {wb:Nat} {w w':World} {v v':Value} (h:jU wb w w' v v') (hw:wb<=w.heap.size) (hv:∀ g,v.ownBlock=some g->wb < g):Below wb w w' :=
 ⟨h.os,h.tape,h.output,h.size,fun k hk=>h.blk k (by omega) (by omega) (fun e=>by have:=hv k e;omega)⟩
theorem kz.fr {L:Ly} {wb:Nat} {w w':World} {nv ov v v':Value} {tx:List UInt8} (h:kz L wb w nv ov v tx) (hf:jU wb w w' v v'):Below wb w w' :=
 hf.below (Nat.le_of_lt (af h.blk)) (fun g hg=>by have:=(h.row.lt g hg).1;omega)
def Aa (L:Ly) (wb:Nat) (nv ov:Value) (ns:List NR) (op:List Int) (t:PT):Prop:=∀ (base:Nat) (w:World) (v:Value) (tx:List UInt8),fG ns t base->t.bL->t.wf->base+t.cnt<=ns.length->tx.length+22000 * t.cnt<=200000000 ->
 kz L wb w nv ov v tx->pS L wb w nv ov ns op->Calls Tryz.prog 54 #[.pointer (some ⟨wb,0,none⟩),.int .i64 (((base+t.cnt:Nat):Int) - 1)] w fun e w'=>∃ v',e=.returned (.tuple #[])/\jU wb w w' v v'/\kz L wb w' nv ov v' (tx++t.u7 L.regs L.news base)
def L5 (L:Ly) (wb:Nat) (nv ov:Value) (ns:List NR) (op:List Int) (t:PT):Prop:=∀ (base:Nat) (w:World) (v:Value) (tx:List UInt8),fG ns t base->t.bL->t.wf->base+t.cnt<=ns.length->tx.length+22000 * t.cnt<=200001650 ->
 kz L wb w nv ov v tx->pS L wb w nv ov ns op->Calls Tryz.prog 77 #[.pointer (some ⟨wb,0,none⟩),.int .i64 (((base+t.cnt:Nat):Int) - 1)] w fun e w'=>∃ v',e=.returned (.tuple #[])/\jU wb w w' v v'/\kz L wb w' nv ov v' (tx++t.vF L.regs L.news base)
theorem ints_at {w:World} {l:List Int} {g cap:Nat} (h:w.ownsRow 0 3 1 (.slice (some ⟨g,0,none⟩) l.length cap) l.length (gr l)) (k:Nat) (x:Int) (hk:l[k]?=some x):w.cell? ⟨g,k,none⟩=some (.int .i64 x):=by
 rw [h.cellAt k (by have:=(List.getElem?_eq_some_iff.1 hk).1;omega)];unfold gr;rw [List.getElem?_map,hk];rfl
theorem CT (w:World) (L:Ly) (h:wP w L):Calls Tryz.prog 96 #[.agg #[L.lr,L.la]] w fun v w'=>v=.returned (.int .i64 L.news.length)/\Below w.heap.size w w':=by
 obtain ⟨a0,c0,e0⟩:=aF h.r
 obtain ⟨a1,c1,e1⟩:=aF h.a
 rw [e0,e1]
 clear h e0 e1
 generalize L.news.length=m
 generalize L.regs.length=n
 go_enter Tryz.func96,Tryz.ntmps96
 go_wp2
 go_ret
 exact ⟨rfl,(Below.refl _ _).alloc (Nat.le_refl _) _⟩
theorem Ft (w:World) (L:Ly) (h:wP w L) (hl:L.regs.length<=9000) (i:Nat) (hi:i<=9000):Calls Tryz.prog 99 #[.agg #[L.lr,L.la],.int .i64 i] w fun v w'=>v=.returned (.int .i64 (jJ L.regs i))/\Below w.heap.size w w':=by
 have hr:=h.r
 obtain ⟨a1,c1,e1⟩:=aF h.a
 rw [e1]
 clear h e1
 generalize L.news.length=m
 generalize L.lr=lr at *
 generalize L.regs=l at *
 by_cases hlt:i < l.length
 ·obtain ⟨g,cap,rfl⟩:=fK hr (by omega)
  have c:=ints_at hr i l[i] (List.getElem?_eq_getElem hlt)
  have e:jJ l i=l[i]:=by unfold jJ;rw [List.getElem?_eq_getElem hlt];rfl
  rw [e]
  have hg:g < w.heap.size:=(hr.lt g rfl).2
  generalize l[i]=x at *
  generalize l.length=n at *
  clear hr e
  go_enter Tryz.func99,Tryz.ntmps99
  go_wp2
  go_ret
  exact ⟨rfl,(Below.refl _ _).alloc (Nat.le_refl _) _⟩
 ·have e:jJ l i=-1:=by unfold jJ;rw [List.getElem?_eq_none (by omega)];rfl
  rw [e]
  obtain ⟨a0,c0,rfl⟩:=aF hr
  generalize l.length=n at *
  clear hr e
  go_enter Tryz.func99,Tryz.ntmps99
  go_wp2
  go_ret
  exact ⟨rfl,(Below.refl _ _).alloc (Nat.le_refl _) _⟩
theorem Ju (w:World) (L:Ly) (h:wP w L) (i:Nat) (x:Int) (hx:L.news[i]?=some x) (hl:L.news.length<=9000):Calls Tryz.prog 97 #[.agg #[L.lr,L.la],.int .i64 i] w fun v w'=>v=.returned (.int .i64 x)/\Below w.heap.size w w':=by
 have hr:=h.a
 obtain ⟨a1,c1,e1⟩:=aF h.r
 rw [e1]
 clear h e1
 generalize L.regs.length=m
 generalize L.la=lr at *
 generalize L.news=l at *
 have hlt:=(List.getElem?_eq_some_iff.1 hx).1
 obtain ⟨g,cap,rfl⟩:=fK hr (by omega)
 have c:=ints_at hr i x hx
 have hg:g < w.heap.size:=(hr.lt g rfl).2
 generalize l.length=n at *
 clear hr hx
 go_enter Tryz.func97,Tryz.ntmps97
 go_wp2
 go_ret
 exact ⟨rfl,(Below.refl _ _).alloc (Nat.le_refl _) _⟩
theorem pS.itoa {L:Ly} {wb:Nat} {w:World} {nv ov:Value} {ns:List NR} {op:List Int} (h:pS L wb w nv ov ns op) (m:Nat) (hm:m<=9999):Calls Tryz.prog 24 #[.int .i64 m] w fun e w2=>e=.returned (.string (bs (decDigits m)))/\Below w.heap.size w w2 :=
 vD w (h.tab w (Below.refl _ _)) m w (by omega) (Below.refl _ _)
theorem qq (L:Ly) (wb:Nat) (w:World) (nv ov v:Value) (ns:List NR) (op:List Int) (tx:List UInt8) (m:Nat) (hm:m<=9999) (hin:kz L wb w nv ov v tx) (aZ:pS L wb w nv ov ns op) (hl:tx.length<=390000000) :
  Calls Tryz.prog 98 #[.pointer (some ⟨wb,0,none⟩),.int .i64 m] w fun e w'=>∃ v',e=.returned (.tuple #[])/\jU wb w w' v v'/\kz L wb w' nv ov v' (tx++([32,35]++decDigits m)):=by
 have hd:=kT m hm
 have gI:Calls Tryz.prog 78 #[.pointer (some ⟨wb,0,none⟩),.string ⟨#[32,35]⟩] w fun e w2=>∃ v2,e=.returned (.tuple #[])/\jU wb w w2 v v2/\kz L wb w2 nv ov v2 (tx++[32,35]):=lP wb w nv ov v tx [32,35] hin (by simp;omega)
 have vA:=fun (w':World) (v':Value) (h:kz L wb w' nv ov v' (tx++[32,35]))=>lP wb w' nv ov v' (tx++[32,35]) (decDigits m) h (by simp;omega)
 have Xq:∀ (w':World) (v':Value),jU wb w w' v v'->Calls Tryz.prog 24 #[.int .i64 m] w' fun e w2=>e=.returned (.string (bs (decDigits m)))/\Below w'.heap.size w' w2:=fun w' v' hf=>(aZ.on (hin.fr hf)).itoa m (by omega)
 have e0:tx++[32,35]++decDigits m=tx++([32,35]++decDigits m):=by simp
 have TM:Hid _:=gI
 have ZN:Hid _:=vA
 have HON:Hid _:=Xq
 have HE:Hid _:=e0
 clear gI vA Xq e0 hin aZ
 go_enter Tryz.func98,Tryz.ntmps98
 go_wp2_with fail
 refine Calls.mono TM.out ?_
 rintro _ w1 ⟨v1,rfl,hf1,hi1⟩
 have Xr:=HON.out _ _ hf1
 have dV:Hid _:=hf1
 have HI1:Hid _:=hi1
 clear hf1 hi1 HON TM
 go_wp2_with fail
 refine Xr.mono ?_
 rintro _ w2 ⟨rfl,hb2⟩
 have HI2:Hid _:=HI1.out.below hb2
 have cx:Hid _:=dV.out.trans (jU.jI v1 hb2)
 clear hb2 Xr HI1 dV
 go_wp2_with fail
 refine (ZN.out _ _ HI2.out).mono ?_
 rintro _ w3 ⟨v3,rfl,hf3,rW⟩
 rw [HE.out] at rW
 have dK:Hid _:=cx.out.trans hf3
 have HI3:Hid _:=rW
 clear hf3 rW
 go_wp2_with fail
 refine bodyPost_end (v:=.tuple #[]) (by simp [results,Tryz.results98,go_sem]) rfl ⟨v3,rfl,dK.out,HI3.out⟩
theorem Bf (L:Ly) (wb:Nat) (w:World) (nv ov v:Value) (ns:List NR) (op:List Int) (tx:List UInt8) (i:Nat) (hin:kz L wb w nv ov v tx) (aZ:pS L wb w nv ov ns op) (hl:tx.length<=200000000) :
  Calls Tryz.prog 76 #[.pointer (some ⟨wb,0,none⟩),.int .i64 i] w fun e w'=>∃ v',e=.returned (.int .i64 (rV L.news i))/\jU wb w w' v v'/\kz L wb w' nv ov v' (tx++rU L.news 0 i):=by
 have zo:=fun (w':World) (v':Value) (h:jU wb w w' v v')=>aZ.lay w' (hin.fr h)
 have kN:=aZ.bd.n
 have hRe:=fun (w':World) (v':Value) (h:jU wb w w' v v')=>CT w' L (zo w' v' h)
 have hAb:=fun (w':World) (v':Value) (h:jU wb w w' v v') (k:Nat) (x:Int) (hx:L.news[k]?=some x)=>Ju w' L (zo w' v' h) k x hx (by omega)
 have hPR:=fun (w':World) (v':Value) (iW:List UInt8) (k:Nat) (hk:k<=9999) (h:jU wb w w' v v') (h1:kz L wb w' nv ov v' iW) (hl':iW.length<=390000000)=>qq L wb w' nv ov v' ns op iW k hk h1 (aZ.on (hin.fr h)) hl'
 have ZO:∀ w' v' iW (h:kz L wb w' nv ov v' iW) (hl:iW.length<=390000000),Calls Tryz.prog 78 #[.pointer (some ⟨wb,0,none⟩),.string ⟨#[40,110,101,119]⟩] w' fun e w2=>∃ v2,e=.returned (.tuple #[])/\jU wb w' w2 v' v2/\kz L wb w2 nv ov v2 (iW++[40,110,101,119]):=fun w' v' iW h hl=>lP wb w' _ _ v' iW [40,110,101,119] h (by simp;omega)
 have L6:∀ w' v' iW (h:kz L wb w' nv ov v' iW) (hl:iW.length<=390000000),Calls Tryz.prog 78 #[.pointer (some ⟨wb,0,none⟩),.string ⟨#[32]⟩] w' fun e w2=>∃ v2,e=.returned (.tuple #[])/\jU wb w' w2 v' v2/\kz L wb w2 nv ov v2 (iW++[32]):=fun w' v' iW h hl=>lP wb w' _ _ v' iW [32] h (by simp;omega)
 have hlen:∀ k,(rU (L.news.take k) 0 i).length<=11 * 150:=fun k=>by
  have:=vG i (L.news.take k) 0 (by simp only [List.length_take];omega)
  simp only [List.length_take] at this;omega
 have ou:∀ k x,L.news[k]?=some x->L.news.take (k+1)=L.news.take k++[x]:=fun k x hx=>by rw [List.take_add_one,hx];rfl
 have hcells:∀ (w':World) (v':Value) (iW:List UInt8),kz L wb w' nv ov v' iW->w'.cell? ⟨wb,2,none⟩=some L.lr/\w'.cell? ⟨wb,3,none⟩=some L.la/\wb < w'.heap.size:=fun w' v' iW h=>⟨by rw [aa h.blk];rfl,by rw [aa h.blk];rfl,af h.blk⟩
 obtain ⟨a0,c0,e0⟩:=aF (zo w v (jU.refl _ _ _)).r
 obtain ⟨a1,c1,e1⟩:=aF (zo w v (jU.refl _ _ _)).a
 have ZP:Hid _:=hcells
 rw [e0,e1] at hRe hAb ZP
 have P5:Hid _:=hRe
 have PF:Hid _:=hAb
 have Cf:Hid _:=hPR
 have HP4:Hid _:=ZO
 have L7:Hid _:=L6
 have l7:Hid _:=hlen
 have jf:Hid _:=ou
 have mq:Hid _:=hin
 obtain ⟨m,hm⟩:∃ m,m=L.news.length:=⟨_,rfl⟩
 have HM:Hid _:=hm
 rw [<- hm] at P5 PF ZP kN
 generalize L.regs.length=nr at *
 clear hRe hAb hPR ZO L6 hlen ou zo hin aZ e0 e1 hcells hm
 go_enter Tryz.func76,Tryz.ntmps76
 go_wp2
 go_loopw [5,6] (fun a b wr=>∃ (k:Nat) (vr:Value),k<=m/\a=.int .i64 (rV (L.news.take k) i)/\b=.int .i64 k/\jU wb w wr v vr/\kz L wb wr nv ov vr (tx++rU (L.news.take k) 0 i)) (fun _ b _=>m - (intOf b).toNat)
 case atStart=>exact ⟨0,v,by omega,rfl,rfl,jU.refl _ _ _,by simpa [rU] using mq.out⟩
 case round =>
  obtain ⟨k,vr,hk,rfl,rfl,hfr,Jv⟩:=hrel
  obtain ⟨y2,y3,yl⟩:=ZP.out _ _ _ Jv
  have R9:=P5.out _ _ hfr
  have hll:=l7.out k
  have hcn:rV (L.news.take k) i<=150:=by have:=Fs (L.news.take k) i;simp only [List.length_take] at this;omega
  have qI:Hid _:=hfr
  have Xs:Hid _:=Jv
  clear hfr Jv
  go_wp2_with fail
  refine R9.mono ?_
  rintro _ w1 ⟨rfl,hb1⟩
  have dV:Hid _:=qI.out.trans (jU.jI vr hb1)
  have HI1:Hid _:=Xs.out.below hb1
  clear hb1 R9 qI Xs y2 y3 yl
  obtain ⟨y2,y3,yl⟩:=ZP.out _ _ _ HI1.out
  by_cases hlt:k < m
  ·have hkl:k < L.news.length:=by have:=HM.out;omega
   obtain ⟨x,hx⟩:∃ x,L.news[k]?=some x:=⟨L.news[k],List.getElem?_eq_getElem hkl⟩
   have hab:=PF.out _ _ dV.out k x hx
   have hts:=jf.out k x hx
   have hos:=CP i x (L.news.take k) 0
   have hcs:=LY (L.news.take k) x i
   rw [<- hts,List.length_take,Nat.min_eq_left (by omega),Nat.zero_add] at hos
   rw [<- hts] at hcs
   have ZQ:Hid _:=hos
   have ZS:Hid _:=hcs
   clear hx hts hos hcs hkl
   go_wp2_with fail
   refine hab.mono ?_
   rintro _ w2 ⟨rfl,hb2⟩
   have cx:Hid _:=dV.out.trans (jU.jI vr hb2)
   have HI2:Hid _:=HI1.out.below hb2
   clear hb2 hab dV HI1 y2 y3 yl
   by_cases Sa:x=(i:Int)
   ·have q:(x == (i:Int))=true:=by rw [Sa];simp
    have e1:tx++rU (L.news.take k) 0 i++[40,110,101,119]++([32,35]++decDigits k)++[32]=tx++rU (L.news.take (k+1)) 0 i:=by rw [ZQ.out,if_pos Sa];simp [Wa]
    have e2:rV (L.news.take (k+1)) i=rV (L.news.take k) i+1:=by rw [ZS.out,if_pos Sa]
    have HE1:Hid _:=e1
    have TQ:Hid _:=e2
    have hd4:=kT k (by omega)
    clear Sa e1 e2 ZQ ZS
    go_wp2_with fail
    refine (HP4.out _ _ _ HI2.out (by simp;omega)).mono ?_
    rintro _ w3 ⟨v3,rfl,hf3,rW⟩
    have dK:Hid _:=cx.out.trans hf3
    have HI3:Hid _:=rW
    clear hf3 rW cx HI2
    go_wp2_with fail
    refine (Cf.out _ _ _ k (by omega) dK.out HI3.out (by simp;omega)).mono ?_
    rintro _ w4 ⟨v4,rfl,dc,hi4⟩
    have jG:Hid _:=dK.out.trans dc
    have HI4:Hid _:=hi4
    clear dc hi4 dK HI3
    go_wp2_with fail
    refine (L7.out _ _ _ HI4.out (by simp;omega)).mono ?_
    rintro _ w5 ⟨v5,rfl,eG,nS⟩
    rw [HE1.out] at nS
    have fS:Hid _:=jG.out.trans eG
    have iZ:Hid _:=nS
    clear eG nS jG HI4
    generalize rV (L.news.take k) i=cc at *
    go_wp2
    go_roundw
    case rel=>exact ⟨k+1,v5,by omega,by rw [TQ.out];go_num,by go_num,fS.out,iZ.out⟩
    case measure=>simp [intOf];omega
   ·have q:(x == (i:Int))=false:=by rw [beq_eq_false_iff_ne];exact Sa
    have qW:=HI2.out
    have e2:rV (L.news.take (k+1)) i=rV (L.news.take k) i:=by rw [ZS.out,if_neg Sa];rfl
    have e1:rU (L.news.take k) 0 i=rU (L.news.take (k+1)) 0 i:=by rw [ZQ.out,if_neg Sa];simp
    rw [e1] at qW
    have iZ:Hid _:=qW
    have TQ:Hid _:=e2
    clear Sa e1 e2 ZQ ZS qW HI2
    generalize rV (L.news.take k) i=cc at *
    go_wp2
    go_roundw
    case rel=>exact ⟨k+1,vr,by omega,by rw [TQ.out],by go_num,cx.out,iZ.out⟩
    case measure=>simp [intOf];omega
  ·have G6:k=L.news.length:=by have:=HM.out;omega
   have et:L.news.take k=L.news:=by rw [G6];exact List.take_length
   have hi1:=HI1.out
   rw [et] at hi1 ⊢
   have HI2:Hid _:=hi1
   clear hi1 et G6 HI1
   go_wp2
   go_ret
   exact ⟨_,rfl,dV.out,HI2.out⟩
theorem Bg (L:Ly) (wb:Nat) (nv ov:Value) (ns:List NR) (op:List Int) (t:PT) (hf:L5 L wb nv ov ns op t):Aa L wb nv ov ns op t:=by
 intro base w v tx hsh iG hwf hle nK hin aZ
 have ZT:=cH t
 obtain ⟨M,hM⟩:∃ M:Nat,(((base+t.cnt:Nat):Int) - 1)=(M:Int):=⟨base+t.cnt - 1,by omega⟩
 have Xq:=Bf L wb w nv ov v ns op tx M hin aZ (by omega)
 have WV:=vG (M:Int) L.news 0 (by have:=aZ.bd.n;omega)
 have tD:=Fs L.news (M:Int)
 have kN:=aZ.bd.n
 have hfl:=Hf aZ.bd t base iG
 have hfm:=fun (w':World) (v':Value) (hb:jU wb w w' v v') (h1:kz L wb w' nv ov v' (tx++rU L.news 0 M))=>hf base w' v' (tx++rU L.news 0 M) hsh iG hwf hle (by simp;omega) h1 (aZ.on (hin.fr hb))
 have hw:t.u7 L.regs L.news base=rU L.news 0 M++(t.vF L.regs L.news base++List.replicate (rV L.news M) 41):=by unfold PT.u7 R7;rw [hM]
 rw [hM] at hfm ⊢
 rw [hw]
 have L8:∀ w' v' iW (h:kz L wb w' nv ov v' iW) (hl:iW.length<=390000000),Calls Tryz.prog 78 #[.pointer (some ⟨wb,0,none⟩),.string ⟨#[41]⟩] w' fun e w2=>∃ v2,e=.returned (.tuple #[])/\jU wb w' w2 v' v2/\kz L wb w2 nv ov v2 (iW++[41]):=fun w' v' iW h hl=>lP wb w' _ _ v' iW [41] h (by simp;omega)
 have HFM:Hid _:=hfm
 have TR:Hid _:=L8
 generalize t.vF L.regs L.news base=fx at *
 generalize rU L.news 0 M=ox at *
 generalize rV L.news M=cn at *
 have e0:tx++ox++fx=tx++ox++fx++List.replicate 0 41:=by simp
 have Xt:∀ j,tx++ox++fx++List.replicate j 41++[41]=tx++ox++fx++List.replicate (j+1) 41:=fun j=>by rw [List.append_assoc,<- List.replicate_succ']
 have Xu:tx++ox++fx++List.replicate cn 41=tx++(ox++(fx++List.replicate cn 41)):=by simp
 have HE0:Hid _:=e0
 have ZU:Hid _:=Xt
 have TS:Hid _:=Xu
 have abw:t.cnt<=9000:=by have:=aZ.len;omega
 generalize t.cnt=tc at *
 clear hfm hf hin aZ hsh iG hwf hle hM hw L8 e0 Xt Xu
 go_enter Tryz.func54,Tryz.ntmps54
 go_wp2_with fail
 refine Xq.mono ?_
 rintro _ w1 ⟨v1,rfl,hf1,hi1⟩
 have dV:Hid _:=hf1
 have HI1:Hid _:=hi1
 clear hf1 hi1 Xq
 go_wp2_with fail
 refine (HFM.out _ _ dV.out HI1.out).mono ?_
 rintro _ w2 ⟨v2,rfl,hfr,bq⟩
 rw [HE0.out] at bq
 have HF:Hid _:=dV.out.trans hfr
 have HI:Hid _:=bq
 clear hfr bq dV HI1 HFM HE0
 go_wp2
 go_loopw [4] (fun a wr=>∃ (j:Nat) (vr:Value),j<=cn/\a=.int .i64 ((cn - j:Nat):Int)/\jU wb w wr v vr/\kz L wb wr nv ov vr (tx++ox++fx++List.replicate j 41)) (fun a _=>(intOf a).toNat)
 case atStart=>exact ⟨0,v2,by omega,by simp,HF.out,HI.out⟩
 case round =>
  obtain ⟨j,vr,hj,rfl,hfr,Jv⟩:=hrel
  have qI:Hid _:=hfr
  have ZV:Hid _:=Jv
  clear hfr Jv HF HI
  by_cases hlt:j < cn
  ·have Pf:=ZU.out j
   have Jw:Hid _:=Pf
   clear Pf
   obtain ⟨z,hz⟩:∃ z,cn - j=z+1:=⟨cn - j - 1,by omega⟩
   rw [hz]
   have hzz:cn - (j+1)=z:=by omega
   go_wp2_with fail
   refine (TR.out _ _ _ ZV.out (by simp;omega)).mono ?_
   rintro _ w3 ⟨v3,rfl,hf3,rW⟩
   rw [Jw.out] at rW
   have dK:Hid _:=qI.out.trans hf3
   have HI3:Hid _:=rW
   clear hf3 rW qI ZV
   go_wp2
   go_roundw
   case rel=>exact ⟨j+1,v3,by omega,by rw [hzz];first | done | go_num,dK.out,HI3.out⟩
   case measure=>simp [intOf]
  ·have hj2:j=cn:=by omega
   subst hj2
   have hi:=ZV.out
   rw [TS.out] at hi
   have HI2:Hid _:=hi
   clear hi ZV
   rw [show j - j=0 by omega]
   go_wp2
   refine bodyPost_end (v:=.tuple #[]) (by simp [results,Tryz.results54,go_sem]) rfl ⟨vr,rfl,qI.out,HI2.out⟩
theorem P6 (L:Ly) (wb:Nat) (x1:Option Addr) (n1 c1:Nat) (x2:Option Addr) (n2 c2:Nat) (ns:List NR) (op:List Int) (p:Nat) (s:List UInt8):L5 L wb (.slice x1 n1 c1) (.slice x2 n2 c2) ns op (.name p s):=by
 intro base w v tx hsh iG hwf hle nK hin aZ
 simp only [fG] at hsh
 obtain ⟨n,hn,hf,hwd⟩:=hsh
 simp only [PT.bL] at iG
 simp only [PT.cnt] at hle nK
 have hno:=ew w (.slice x1 n1 c1) (.slice x2 n2 c2) ns op (aZ.tree w (Below.refl _ _)) base n hn aZ.len
 have hbl:=aZ.len
 have hb:=hin.blk
 have y0:w.cell? ⟨wb,0,none⟩=some (.slice x1 n1 c1):=by rw [aa hb];rfl
 have y1:w.cell? ⟨wb,1,none⟩=some (.slice x2 n2 c2):=by rw [aa hb];rfl
 have hput:=fun w' (h:kz L wb w' (.slice x1 n1 c1) (.slice x2 n2 c2) v tx)=>lP wb w' _ _ v tx s h (by omega)
 have HP:Hid _:=hput
 have mq:Hid _:=hin
 have hlt:=af hb
 unfold aJ aI at hno
 rw [hf,hwd] at hno
 simp only [PT.vF,PT.cnt]
 rw [show (((base+1:Nat):Int) - 1)=(base:Int) from by omega]
 clear hb hin aZ hput hn
 go_enter Tryz.func77,Tryz.ntmps77
 go_wp2_with (first
  | (go_at_call 61;refine hno.mono ?_;rintro _ w1 ⟨rfl,hb1⟩)
  | (go_at_call 78;refine (HP.out _ (mq.out.below (hb1.alloc hb1.size _))).mono ?_;rintro _ w2 ⟨v',rfl,hfr,pT⟩))
 refine bodyPost_end (v:=.tuple #[]) (by simp [results,Tryz.results77,go_sem]) rfl ⟨v',rfl,(jU.jI v (hb1.alloc hb1.size _)).trans hfr,pT⟩
theorem TT (L:Ly) (wb:Nat) (x1:Option Addr) (n1 c1:Nat) (x2:Option Addr) (n2 c2:Nat) (ns:List NR) (op:List Int) (p:Nat) (s:List UInt8):L5 L wb (.slice x1 n1 c1) (.slice x2 n2 c2) ns op (.num p s):=by
 intro base w v tx hsh iG hwf hle nK hin aZ
 simp only [fG] at hsh
 obtain ⟨n,hn,hf,pO⟩:=hsh
 simp only [PT.bL] at iG
 simp only [PT.cnt] at hle nK
 obtain ⟨m,hm⟩:∃ m:Nat,aq s=m:=⟨(aq s).toNat,by omega⟩
 have hno:=ew w (.slice x1 n1 c1) (.slice x2 n2 c2) ns op (aZ.tree w (Below.refl _ _)) base n hn aZ.len
 have hbl:=aZ.len
 have hb:=hin.blk
 have y0:w.cell? ⟨wb,0,none⟩=some (.slice x1 n1 c1):=by rw [aa hb];rfl
 have y1:w.cell? ⟨wb,1,none⟩=some (.slice x2 n2 c2):=by rw [aa hb];rfl
 have hd4:=kT m (by omega)
 have hput:=fun w' (h:kz L wb w' (.slice x1 n1 c1) (.slice x2 n2 c2) v tx)=>lP wb w' _ _ v tx (decDigits m) h (by omega)
 have hlt:=af hb
 have hit:∀ w',Below w.heap.size w w'->Calls Tryz.prog 24 #[.int .i64 m] w' fun e w2=>e=.returned (.string (bs (decDigits m)))/\Below w'.heap.size w' w2 :=
  fun w' h=>vD w' (aZ.tab w' (h.mono (Nat.le_of_lt hlt))) m w' (by omega) (Below.refl _ _)
 have Sb:Hid _:=hit
 have HP:Hid _:=hput
 have mq:Hid _:=hin
 unfold aJ aI at hno
 rw [hf,pO,hm] at hno
 simp only [PT.vF,PT.cnt]
 rw [show (((base+1:Nat):Int) - 1)=(base:Int) from by omega,hm,Int.toNat_natCast]
 clear hb hin aZ hput hn hit iG
 go_enter Tryz.func77,Tryz.ntmps77
 go_wp2_with (first
  | (go_at_call 61;refine hno.mono ?_;rintro _ w1 ⟨rfl,hb1⟩)
  | (go_at_call 24;refine (Sb.out _ (hb1.alloc hb1.size _)).mono ?_;rintro _ w2 ⟨rfl,hb2⟩)
  | (go_at_call 78;refine (HP.out _ (mq.out.below ((hb1.alloc hb1.size _).trans (hb2.mono (hb1.alloc hb1.size _).size)))).mono ?_;rintro _ w3 ⟨v',rfl,hfr,pT⟩))
 refine bodyPost_end (v:=.tuple #[]) (by simp [results,Tryz.results77,go_sem]) rfl ⟨v',rfl,(jU.jI v ((hb1.alloc hb1.size _).trans (hb2.mono (hb1.alloc hb1.size _).size))).trans hfr,pT⟩
def dX (E fs:List Nat) (ns:List NR):List Int:=ns.map (fun n=>if n.form=4 then lI fs (bu E n.at_) else -1)
theorem Fu (E fs:List Nat) (l:List NR) (n:NR):dX E fs (l++[n])=dX E fs l++[if n.form=4 then lI fs (bu E n.at_) else -1]:=by unfold dX;rw [List.map_append];rfl
theorem zq (w:World) (x1:Option Addr) (n1 c1:Nat) (x2:Option Addr) (n2 c2:Nat) (ns:List NR) (op:List Int) (hT:bg w (.slice x1 n1 c1) (.slice x2 n2 c2) ns op) (ho:wq ns op) (hl:ns.length<=9000) (tk:∀ n∈ns,n.small) (n0:NR) (h0:ns[ns.length - 1]?=some n0) (hB:n0.aR<=9000) (hat:∀ n∈ns,n.at_ < n0.aR) (hsz:jm [] (ns.map atR)) (E fs:List Nat) (hE:E=sj [] (List.range n0.aR) ns) (hfs:fs=bb E (bE ns op)) :
  Calls Tryz.prog 52 #[aJ (.slice x1 n1 c1) (.slice x2 n2 c2)] w fun e w'=>∃ rv,e=.returned (.tuple #[rv,.int .i64 fs.length])/\w'.ownsRow w.heap.size 3 1 rv ns.length (gr (dX E fs ns))/\Below w.heap.size w w':=by
 have Pb:E.length=n0.aR:=by rw [hE,G8,List.length_range]
 have hsh:=fun (W:World) (hb:Below w.heap.size w W)=>zj W x1 n1 c1 x2 n2 c2 ns op (hT.below hb) hl tk n0 h0 hB hat hsz
 rw [<- hE,<- Pb] at hsh
 have hfi:=fun (W:World) (hb:Below w.heap.size w W) (sb:Nat) (ev:Value) (hc:W.cell? ⟨sb,2,none⟩=some ev) (hr:W.ownsRow 0 3 1 ev E.length (cF E))=>Fm W sb ev _ _ E ns op (hT.below hb) ho hl hc hr (by omega) (fun n hn=>by have:=hat n hn;omega)
 rw [<- hfs] at hfi
 have hfl:fs.length<=9000:=by have:=oh E (bE ns op);rw [kP,ho.1] at this;rw [hfs];omega
 have hlen:=fun (w':World) (hb:Below w.heap.size w w')=>gJ w' _ _ ns op (hT.below hb)
 have mR:=fun (w':World) (hb:Below w.heap.size w w') (k:Nat) (n:NR) (hk:ns[k]?=some n)=>ew w' _ _ ns op (hT.below hb) k n hk hl
 obtain ⟨i0,hi,hz0,hz1,hz2⟩:=info_parts Tryz.oV
 have HI:Hid _:=hi
 have pZ:Hid _:=hz0
 have p8:Hid _:=hz1
 have p9:Hid _:=hz2
 obtain ⟨m,hm⟩:∃ m,m=ns.length:=⟨_,rfl⟩
 have HM:Hid _:=hm
 rw [<- hm] at hl hlen ⊢
 have hE9:E.length<=9000:=by omega
 have Xv:∀ n∈ns,n.at_<=9000:=fun n hn=>by have:=hat n hn;omega
 unfold aJ at hsh hfi hlen mR
 unfold ptr at hfi
 unfold aI at mR
 unfold aJ
 have HSH:Hid _:=hsh
 have Jx:Hid _:=hfi
 have l7:Hid _:=hlen
 have E9:Hid _:=mR
 have Lv:Hid _:=Xv
 clear hi hz0 hz1 hz2 hsh hfi hlen mR hT ho tk h0 hsz hE hfs hat hm Pb hB Xv
 obtain ⟨WB,qL⟩:∃ WB,WB=w.alloc (.cells #[.slice x1 n1 c1,.slice x2 n2 c2] 62):=⟨_,rfl⟩
 have dP:Hid (Below w.heap.size w WB):=(show Below w.heap.size w WB by rw [qL];exact cB (Below.refl _ _) _)
 have pQ:Hid (∀ wr,Below WB.heap.size WB wr->wr.cell? ⟨w.heap.size,0,none⟩=some (.slice x1 n1 c1)/\wr.cell? ⟨w.heap.size,1,none⟩=some (.slice x2 n2 c2)/\w.heap.size < wr.heap.size):=by
  intro wr hb
  rw [qL] at hb
  exact dm hb
 have O8:Hid _:=qL
 clear qL
 go_enter Tryz.func52,Tryz.ntmps52
 go_wp2_with fail
 rw [<- O8.out]
 refine Calls.mono (HSH.out WB dP.out) ?_
 rintro _ w1 ⟨pa,pn,pc,ta,tn,tc,ev,rfl,hb1,hr1,CU⟩
 obtain ⟨ea,ec,qj⟩:=aF hr1
 subst qj
 have hc1:=aj w1 (.cells #[.slice pa pn pc,.slice ta tn tc,.slice ea E.length ec] 130 (0,0))
 have P7:Below w1.heap.size w1 (w1.alloc (.cells #[.slice pa pn pc,.slice ta tn tc,.slice ea E.length ec] 130)):=(Below.refl _ w1).alloc (Nat.le_refl _) _
 have P8:Below WB.heap.size WB (w1.alloc (.cells #[.slice pa pn pc,.slice ta tn tc,.slice ea E.length ec] 130)):=hb1.alloc hb1.size _
 have TU:=aB hr1 P7
 obtain ⟨b0,b1,bl⟩:=pQ.out _ P8
 have CV:=dP.out.trans (P8.mono dP.out.size)
 have hfc:=Jx.out _ CV w1.heap.size _ (by rw [aa hc1];rfl) TU
 obtain ⟨c0,c1',VZ⟩:w1.cell? ⟨w.heap.size,0,none⟩=some (.slice x1 n1 c1)/\w1.cell? ⟨w.heap.size,1,none⟩=some (.slice x2 n2 c2)/\w.heap.size < w1.heap.size:=pQ.out _ hb1
 have aak:=Nat.ne_of_lt VZ
 have Ha:Hid _:=TU
 have dG:Hid _:=P8
 have zi:Hid _:=hc1
 clear hr1 hb1 CU P7 P8 hc1 TU CV HSH Jx b0 b1 bl
 go_wp2_with fail
 refine Calls.mono hfc ?_
 rintro _ w2 ⟨fv,rfl,eH,hb2⟩
 have dU:Hid _:=dG.out.trans (hb2.mono dG.out.size)
 have TQ:Hid _:=aB Ha.out hb2
 have V9:Hid _:=(hb2.block _ (af zi.out)).trans zi.out
 have cx:Hid _:=eH
 have TG:w1.heap.size < w2.heap.size:=by have:=hb2.size;simp at this;omega
 have Xw:=dU.out.size
 clear hb2 eH hfc c0 c1' VZ aak dG zi Ha
 have e2:w2.cell? ⟨w1.heap.size,2,none⟩=some (.slice ea E.length ec):=by rw [aa V9.out];rfl
 have he2:=TQ.out
 have Xx:∀ wr,Below w2.heap.size w2 wr->∀ p:Nat,p<=10000->Calls Tryz.prog 73 #[.pointer (some ⟨w1.heap.size,0,none⟩),.int .i64 p] wr fun v w'=>v=.returned (.int .i64 (bu E p))/\w'=wr:=fun wr hb p hp=>o6 wr w1.heap.size 0 (.slice ea E.length ec) E p ((hb.cell (p:=⟨w1.heap.size,2,none⟩) TG).trans e2) (aB he2 hb) hE9 hp
 have TV:∀ wr,Below w2.heap.size w2 wr->∀ x:Nat,Calls Tryz.prog 74 #[fv,.int .i64 x] wr fun v w'=>v=.returned (.int .i64 (lI fs x))/\w'=wr:=fun wr hb x=>CW wr _ fv fs x (aB cx.out hb) hfl
 obtain ⟨fa,fc,Wb⟩:=aF cx.out
 rw [Wb] at TV
 have TJ:Hid _:=Xx
 have aal:Hid _:=TV
 clear Xx TV he2 e2
 subst Wb
 go_wp2
 go_loopw [6,7,8,9,10] (fun v6 i _ _ _ wr=>∃ (k:Nat),k<=m/\i=.int .i64 k/\wr.ownsRow w2.heap.size 3 1 v6 k (gr (dX E fs (ns.take k)))/\Below w2.heap.size w2 wr) (fun _ i _ _ _ _=>m - (intOf i).toNat)
 case atStart =>
  refine ⟨0,Nat.zero_le _,rfl,⟨rfl,Or.inr ⟨w2.heap.size,0,#[],rfl,Nat.le_refl _,?_,Nat.le_refl _,by unfold maxLen;omega,rfl,rfl⟩⟩,(Below.refl _ w2).alloc (Nat.le_refl _) _⟩
  exact aj _ _
 case round =>
  obtain ⟨k,hk,rfl,hown,dF⟩:=hrel
  have KZ:=dU.out.trans (dF.mono Xw)
  obtain ⟨b0,b1,bl⟩:=pQ.out _ KZ
  have zg:=dP.out.trans (KZ.mono dP.out.size)
  have il:=l7.out _ zg
  have l9:=dF.size
  by_cases hlt:k < m
  ·have hkl:k < ns.length:=by have:=HM.out;omega
   obtain ⟨n,hn⟩:∃ n,ns[k]?=some n:=⟨ns[k],List.getElem?_eq_getElem hkl⟩
   have hat:=Lv.out n (List.mem_of_getElem? hn)
   have gY:=Fu E fs (ns.take k) n
   rw [<- take_one ns k n hn] at gY
   have lF:Hid _:=gY
   have HN:Hid _:=hn
   have dY:Hid _:=hown
   have iA:Hid _:=dF
   clear hn gY hown hkl KZ zg
   go_wp2_with fail
   refine il.mono ?_
   rintro _ w3 ⟨rfl,hb3⟩
   have Xy:=dF.trans (hb3.mono l9)
   have TW:=dU.out.trans (Xy.mono Xw)
   clear b0 b1 bl
   obtain ⟨b0,b1,bl⟩:=pQ.out _ TW
   have hno:=E9.out w3 (dP.out.trans (TW.mono dP.out.size)) k n HN.out
   have iV:Hid _:=hb3
   clear Xy TW hb3 il dF
   go_wp2_with fail
   refine hno.mono ?_
   rintro _ w4 ⟨rfl,hb4⟩
   have CX:Below wr.heap.size wr w4:=iV.out.trans (hb4.mono iV.out.size)
   have hr5:Below wr.heap.size wr (w4.alloc (bU n)):=CX.alloc CX.size (bU n)
   have mF:Below w2.heap.size w2 (w4.alloc (bU n)):=iA.out.trans (hr5.mono l9)
   have P9:=TJ.out _ mF n.at_ (by omega)
   have L9:=aal.out _ mF (bu E n.at_)
   have PN:Hid _:=aB dY.out hr5
   have CG:Hid _:=mF
   have abD:=CX.size
   unfold bU za at P9 L9 PN CG
   clear hb4 CX hr5 mF hno b0 b1 bl iV
   by_cases h4:n.form=4
   case' pos =>
    have q4:((n.form:Int) == 4)=true:=aH (b:=4) h4
    have gY:=lF.out
    rw [if_pos h4] at gY
    obtain ⟨RG,Xz⟩:∃ RG,RG=lI fs (bu E n.at_):=⟨_,rfl⟩
    rw [<- Xz] at L9 gY
    have kS:Hid _:=gY
    generalize bu E n.at_=ft at *
    clear gY lF h4 Xz
    go_wp2_with fail
    refine P9.mono ?_
    rintro _ _ ⟨rfl,rfl⟩
    go_wp2_with fail
    refine L9.mono ?_
    rintro _ _ ⟨rfl,rfl⟩
    clear P9 L9
   case' neg =>
    have q4:((n.form:Int) == 4)=false:=ah (b:=4) h4
    have gY:=lF.out
    rw [if_neg h4] at gY
    obtain ⟨RG,Xz⟩:∃ RG:Int,RG=-1:=⟨_,rfl⟩
    rw [<- Xz] at gY
    have kS:Hid _:=gY
    clear gY lF h4 P9 L9
   all_goals
    obtain ⟨W5,wQ⟩:∃ W5,W5=w4.alloc (.cells #[.int .i64 n.form,.int .i64 n.at_,.int .i64 n.aR,.int .i64 n.num,.string (bs n.word),.int .i64 n.region,.int .i64 n.source,.int .i64 n.p0,.int .i64 n.p1,.int .i64 n.p2] 108):=⟨_,rfl⟩
    rw [<- wQ] at PN CG
    have Qa:W5.heap.size=w4.heap.size+1:=by rw [wQ];simp
    have Ch:Hid (Below w2.heap.size w2 (W5.alloc (.cells #[.int .i64 RG] 3))):=CG.out.alloc CG.out.size _
    have PO:Hid ((W5.alloc (.cells #[.int .i64 RG] 3)).ownsRow w2.heap.size 3 1 u6 k (gr (dX E fs (ns.take k)))):=aB PN.out (cB (Below.refl _ _) _)
    have zi:Hid (∀ (j:Nat) (u:Value),([.int .i64 RG]:List Value)[j]?=some u->(W5.alloc (.cells #[.int .i64 RG] 3)).cell? ((⟨w4.heap.size+1,0,none⟩:Addr).add j)=some u):=by
     intro j u hj
     have hq:=bJ W5 [.int .i64 RG] 3 j
     rw [Qa] at hq
     rw [<- hj,<- hq];first | done | rfl
    have wo:Hid (∀ u∈([.int .i64 RG]:List Value),u.oneCell'=true):=by intro v hv;simp only [List.mem_singleton] at hv;subst hv;rfl
    subst wQ
    have abE:w2.heap.size<=w4.heap.size+1:=by have:=CG.out.size;simp at this;omega
    clear Qa
    try subst Xz
    go_wp2_with (at_builtin;go_must (refine wpList_append_own _ rfl (.tmp 34) (.tmp 36) 22 rfl w2.heap.size 3 i0 _ 1 8 Tryz.oY HI.out pZ.out p8.out p9.out rfl (by decide) u6 k (gr (dX E fs (ns.take k))) rfl PO.out ⟨w4.heap.size+1,0,none⟩ 1 1 [.int .i64 _] rfl rfl zi.out wo.out ?c3 ?c4 ?c5 ?_))
    case c3=>unfold maxLen;omega
    case c4=>omega
    case c5=>first | omega | (simp;omega)
    intro v' w7 hown' hgrow hnil
    have K7:Hid (Below w2.heap.size w2 w7):=(Ch.out).grown hgrow Ch.out.size (fun b hb=>(World.ownsRow.lt PO.out b hb).1)
    have HO7:Hid (w7.ownsRow w2.heap.size 3 1 v' (k+1) (gr (dX E fs (ns.take (k+1))))):=by
     show w7.ownsRow w2.heap.size 3 1 v' (k+1) (gr (dX E fs (ns.take (k+1))))
     rw [kS.out]
     unfold gr at hown' ⊢
     rw [List.map_append]
     exact hown'
    clear hown' hgrow hnil
    go_wp2
    go_roundw
    case rel=>exact ⟨k+1,by omega,by go_num,HO7.out,K7.out⟩
    case measure=>simp [intOf];omega
  ·have G6:k=m:=by omega
   have htk:ns.take k=ns:=List.take_of_length_le (by have:=HM.out;omega)
   rw [htk,G6] at hown
   have EM:Hid _:=zg
   have dY:Hid _:=hown
   clear dF hown G6 htk KZ
   go_wp2_with fail
   refine il.mono ?_
   rintro _ w3 ⟨rfl,hb3⟩
   have dG:Hid _:=EM.out.trans (hb3.mono EM.out.size)
   have RZ:Hid _:=aB dY.out hb3
   clear hb3 il b0 b1 bl
   go_wp2
   refine bodyPost_ret (v:=.tuple #[u6,.int .i64 fs.length]) (by simp [results,Tryz.results52,go_sem]) rfl ⟨_,rfl,?_,dG.out⟩
   exact dn RZ.out (fun k hk=>by have:=dP.out.size;have:=(World.ownsRow.lt RZ.out k hk).1;omega)
def gT (T:List Ty) (ns:List NR) (n0:NR) (c:Nat):List Int:=(List.range c).map fun r=>eQ T r (dI T r ns 0 n0.aR n0.at_).1 (dI T r ns 0 n0.aR n0.at_).2 ns 0
theorem Fv (T:List Ty) (ns:List NR) (n0:NR) (c:Nat):gT T ns n0 (c+1)=gT T ns n0 c++[eQ T c (dI T c ns 0 n0.aR n0.at_).1 (dI T c ns 0 n0.aR n0.at_).2 ns 0]:=by
 unfold gT;rw [List.range_succ,List.map_append];rfl
theorem CY (w:World) (x1:Option Addr) (n1 c1:Nat) (x2:Option Addr) (n2 c2:Nat) (ns:List NR) (op:List Int) (hT:bg w (.slice x1 n1 c1) (.slice x2 n2 c2) ns op) (hl:ns.length<=9000) (tk:∀ n∈ns,n.small) (n0:NR) (h0:ns[ns.length - 1]?=some n0) (rv:Value) (regs:List Int) (CZ:w.ownsRow 0 3 1 rv regs.length (gr regs)) (hrl:regs.length=ns.length) (c:Nat) (hc:c<=9000)
  (zt:List NR) (h2:∀ (k:Nat) n r,ns[k]?=some n->regs[k]?=some r->zt.drop k=fL n r::zt.drop (k+1)/\(n.form=4->0<=r)) (Wc:zt.length=ns.length) (hsz:jm [] zt) :
  Calls Tryz.prog 53 #[aJ (.slice x1 n1 c1) (.slice x2 n2 c2),rv,.int .i64 c] w fun e w'=>∃ av,e=.returned av/\w'.ownsRow w.heap.size 3 1 av c (gr (gT (bC [] zt) ns n0 c))/\Below w.heap.size w w':=by
 obtain ⟨i0,hi,hz0,hz1,hz2⟩:=info_parts Tryz.oV
 have HI:Hid _:=hi
 have pZ:Hid _:=hz0
 have p8:Hid _:=hz1
 have p9:Hid _:=hz2
 have hlen:=fun (w':World) (hb:Below w.heap.size w w')=>gJ w' _ _ ns op (hT.below hb)
 have mR:=fun (w':World) (hb:Below w.heap.size w w') (k:Nat) (n:NR) (hk:ns[k]?=some n)=>ew w' _ _ ns op (hT.below hb) k n hk hl
 obtain ⟨m,hm⟩:∃ m,m=ns.length:=⟨_,rfl⟩
 have mn:1<=m:=by have:=(List.getElem?_eq_some_iff.1 h0).1;omega
 rw [<- hm] at hrl hlen Wc
 rw [hrl] at CZ
 obtain ⟨rg,abF,aam⟩:=fK CZ (by omega)
 subst aam
 have TZ:rg < w.heap.size:=(CZ.lt rg rfl).2
 have hrc:∀ (k:Nat) (r:Int),regs[k]?=some r->w.cell? ⟨rg,k,none⟩=some (.int .i64 r):=fun k r hk=>by
  rw [CZ.cellAt k (by have:=(List.getElem?_eq_some_iff.1 hk).1;omega)];unfold gr;rw [List.getElem?_map,hk];rfl
 have hTB:=fun (w':World) (hb:Below w.heap.size w w')=>hT.below hb
 have HM:Hid _:=hm
 have HRC:Hid _:=hrc
 have Lx:Hid _:=hrl
 have KW:Hid _:=hTB
 have Tg:Hid _:=tk
 have HH2:Hid _:=h2
 have H2L:Hid _:=Wc
 have Tq:Hid _:=hsz
 have HH0:Hid _:=h0
 unfold aJ at hlen mR
 unfold aI at mR
 have l7:Hid _:=hlen
 have E9:Hid _:=mR
 have zu:m<=9000:=by omega
 clear hi hz0 hz1 hz2 hlen mR hm hrl CZ hrc hT hTB tk h2 Wc hsz h0
 obtain ⟨WB,qL⟩:∃ WB,WB=w.alloc (.cells #[.slice x1 n1 c1,.slice x2 n2 c2] 62):=⟨_,rfl⟩
 have dP:Hid (Below w.heap.size w WB):=(show Below w.heap.size w WB by rw [qL];exact cB (Below.refl _ _) _)
 have pQ:Hid (∀ wr,Below WB.heap.size WB wr->wr.cell? ⟨w.heap.size,0,none⟩=some (.slice x1 n1 c1)/\wr.cell? ⟨w.heap.size,1,none⟩=some (.slice x2 n2 c2)/\w.heap.size < wr.heap.size):=by
  intro wr hb
  rw [qL] at hb
  exact dm hb
 have WG:Hid (fJ WB.heap.size 2 #[.slice x1 n1 c1,.slice x2 n2 c2,.slice none 0 0,.slice none 0 0] 135 (WB.alloc (.cells #[.slice x1 n1 c1,.slice x2 n2 c2,.slice none 0 0,.slice none 0 0] 135)) (.slice none 0 0) (.slice none 0 0) [] []):=⟨aj _ _,rfl,rfl,World.ownsRow_nil _ _ _ _,World.ownsRow_nil _ _ _ _,by simp [Value.ownBlock],by simp [Value.ownBlock],fun g hg=>by simp [Value.ownBlock] at hg⟩
 have A2:w.heap.size<=WB.heap.size:=dP.out.size
 have O8:Hid _:=qL
 have HWS:Hid (w.heap.size+1=WB.heap.size):=(show w.heap.size+1=WB.heap.size by rw [qL];simp)
 clear qL
 unfold aJ
 go_enter Tryz.func53,Tryz.ntmps53
 go_wp2
 rw [<- O8.out,HWS.out]
 go_loopw [8,9] (fun i _ wr=>∃ (k:Nat) (pv tv:Value) (tb:List TP) (D:List Ty) (K:List Nat) (T:List Ty),k<=m/\i=.int .i64 k/\fJ WB.heap.size 2 #[.slice x1 n1 c1,.slice x2 n2 c2,pv,tv] 135 wr pv tv tb K/\Rel tb D K T/\K.length=k/\tb.length<=k/\Hid (bC [] zt=bC T (zt.drop k))/\jm T (zt.drop k)/\Below WB.heap.size WB wr/\WB.heap.size < wr.heap.size/\(∀ g,pv.ownBlock=some g->WB.heap.size<=g)/\(∀ g,tv.ownBlock=some g->WB.heap.size<=g)) (fun i _ _=>m - (intOf i).toNat)
 case atStart=>exact ⟨0,_,_,[],[],[],[],Nat.zero_le _,rfl,WG.out,Ls,rfl,Nat.le_refl _,(rfl:bC [] zt=bC [] (zt.drop 0)),Tq.out,(Below.refl _ WB).alloc (Nat.le_refl _) _,by simp,by simp [Value.ownBlock],by simp [Value.ownBlock]⟩
 case round =>
  obtain ⟨k,pv,tv,tb,D,K,T,hk,rfl,hC,jS,E8,htl,HF,zW,dF,hbs,rS,wu⟩:=hrel
  have qK:Below w.heap.size w wr:=dP.out.trans (dF.mono A2)
  obtain ⟨b0,b1,bl⟩:=pQ.out _ dF
  have il:=l7.out wr qK
  have qd:=dF.size
  by_cases hlt:k < m
  ·have hkl:k < ns.length:=by have:=HM.out;omega
   obtain ⟨n,hn⟩:∃ n,ns[k]?=some n:=⟨ns[k],List.getElem?_eq_getElem hkl⟩
   obtain ⟨r,hr⟩:∃ r,regs[k]?=some r:=⟨regs[k]'(by have:=Lx.out;omega),List.getElem?_eq_getElem _⟩
   obtain ⟨ml,CX⟩:=HH2.out k n r hn hr
   have dS:=Tg.out n (List.mem_of_getElem? hn)
   have hst:=HF.out
   rw [ml] at hst zW
   simp only [bC] at hst
   simp only [jm] at zW
   obtain ⟨D',CL⟩:=LJ jS (fL n r) zW.1
   have iB:Rel (ic tb K n r.toNat).2 D' (K++[(ic tb K n r.toNat).1]) (T++[cR T (fL n r)]):=CL
   have hok:Ta tb K n:=⟨by omega,by omega,fun i=>by have:=(jS.known i).2.1;omega,fun j=>by have:=jS.GX j;omega,⟨by have:=dS.1;omega,by have:=dS.1;omega⟩,⟨by have:=dS.2.1;omega,by have:=dS.2.1;omega⟩,⟨by have:=dS.2.2.1;omega,by have:=dS.2.2.1;omega⟩,⟨by have:=dS.2.2.2;omega,by have:=dS.2.2.2;omega⟩⟩
   have uY:(ic tb K n r.toNat).2.length<=k+1:=by
    have hpl:=mB tb r.toNat (au K n.p0) (au K n.p1)
    unfold ic
    repeat' split
    all_goals first | (simp only;omega) | omega
   have hadd:=fun (w':World) (hb:Below wr.heap.size wr w')=>wm w' WB.heap.size 2 _ _ pv tv tb K n r r.toNat (fun h=>by have:=CX h;omega) (hC.below hb) hok
   have Jy:∀ w',Below w.heap.size w w'->w'.cell? ⟨rg,k,none⟩=some (.int .i64 r):=fun w' hb=>by rw [hb.cell (p:=⟨rg,k,none⟩) TZ];exact HRC.out k r hr
   have zw:Hid _:=hadd
   have HCR:Hid _:=Jy
   have jf:Hid _:=hst
   have Tr:Hid _:=zW.2
   have aan:Hid _:=iB
   have HN:Hid _:=hn
   have iA:Hid _:=dF
   have HC:Hid _:=hC
   have RX:Hid _:=rS
   have aao:Hid _:=wu
   have WI:Hid _:=E8
   have RY:Hid _:=uY
   unfold aI at zw
   clear hn hr ml CX dS hst zW CL iB hok uY hadd Jy HF hC jS E8 htl dF rS wu hkl qK
   generalize ic tb K n r.toNat=X at *
   generalize T++[cR T (fL n r)]=T' at *
   go_wp2_with fail
   refine il.mono ?_
   rintro _ w1 ⟨rfl,hb1⟩
   have jF:=iA.out.trans (hb1.mono qd)
   clear b0 b1 bl
   obtain ⟨b0,b1,bl⟩:=pQ.out _ jF
   have hno:=E9.out w1 (dP.out.trans (jF.mono A2)) k n HN.out
   have dG:Hid _:=hb1
   clear hb1 jF il
   go_wp2_with fail
   refine hno.mono ?_
   rintro _ w2 ⟨rfl,hb2⟩
   have eH:Below wr.heap.size wr w2:=dG.out.trans (hb2.mono dG.out.size)
   have r9:=eH.alloc eH.size (bU n)
   have Jy:=HCR.out _ (dP.out.trans ((iA.out.trans (r9.mono qd)).mono A2))
   have hnb:=aj w2 (bU n)
   obtain ⟨d0,d1,d2,d3,d4,d5,d6,d7,d8,d9⟩:=aC hnb
   have kN:=af hnb
   obtain ⟨W3,hW3⟩:∃ W3,W3=w2.alloc (bU n):=⟨_,rfl⟩
   have abG:rg < W3.heap.size:=by rw [hW3];have:=eH.size;have:=iA.out.size;simp;omega
   rw [<- hW3] at r9 Jy hnb kN d0 d1 d2 d3 d4 d5 d6 d7 d8 d9
   have EO:Hid _:=r9
   have G5:Hid _:=hW3
   unfold bU za at G5
   clear hb2 eH r9 hno b0 b1 bl hnb hW3
   go_upto_region 6 with fail
   rw [<- G5.out]
   go_region_law (refine kR rfl 62 #[.pointer (some ⟨WB.heap.size,2,none⟩),.agg #[.int .i64 n.form,.int .i64 n.at_,.int .i64 n.aR,.int .i64 n.num,.string (bs n.word),.int .i64 n.region,.int .i64 n.source,.int .i64 n.p0,.int .i64 n.p1,.int .i64 n.p2],.int .i64 r] ?_ ?_
                  ·go_simp
                  refine Calls.mono (zw.out _ ?_) ?_
                  ·repeat (first | with_reducible exact EO.out | with_reducible refine tH ?_ | with_reducible refine fU ?_)
                  rintro e w4 ⟨rfl,pv4,tv4,ij,Tl⟩
                  refine ⟨_,rfl,?_⟩)
   all_goals
    have ES:Below WB.heap.size WB W3:=iA.out.trans (EO.out.mono qd)
    have Xm:WB.heap.size<=W3.heap.size:=ES.size
    obtain ⟨g1,g2,g3⟩:=ij.toBelow (B:=WB.heap.size) (w0:=WB) (by repeat (first | with_reducible exact ES | with_reducible refine tH ?_ | with_reducible refine fU ?_)) (Nat.le_refl _) (by exact Xm) RX.out aao.out
    have Tj:=ij.size
    have aap:WB.heap.size < w4.heap.size:=by have:=af Tl.y;exact this
    have WL:Hid (fJ WB.heap.size 2 #[.slice x1 n1 c1,.slice x2 n2 c2,pv4,tv4] 135 w4 pv4 tv4 X.2 (K++[X.1])):=Tl
    have Ti:Hid _:=g1
    have HG2:Hid _:=g2
    have WK:Hid _:=g3
    clear ij Tl g1 g2 g3 ES Jy d0 d1 d2 d3 d4 d5 d6 d7 d8 d9 kN Tj
    go_wp2
    go_roundw
    case rel=>exact ⟨k+1,pv4,tv4,X.2,D',_,T',by omega,by go_num,WL.out,aan.out,by simp [WI.out],RY.out,jf.out,Tr.out,Ti.out,aap,HG2.out,WK.out⟩
    case measure=>simp [intOf];omega
  ·have HTT:Hid (bC [] zt=T):=by
    have hd:zt.drop k=[]:=List.drop_eq_nil_of_le (by have:=H2L.out;omega)
    have hst:=HF.out
    rw [hd] at hst
    exact hst
   have HC:Hid _:=hC
   have XA:Hid _:=jS
   have iA:Hid _:=dF
   have CV:=qK
   clear hC jS HF zW dF rS wu
   go_wp2_with fail
   refine il.mono ?_
   rintro _ w1 ⟨rfl,hb1⟩
   have jF:Below WB.heap.size WB w1:=iA.out.trans (hb1.mono qd)
   have hC1:=HC.out.below hb1
   have Qb:Below w.heap.size w w1:=dP.out.trans (jF.mono A2)
   have mr:=KW.out w1 Qb
   have hab:∀ wx,Below w1.heap.size w1 wx->∀ r:Nat,Calls Tryz.prog 75 #[.pointer (some ⟨WB.heap.size,0,none⟩),.int .i64 r] wx fun v w'=>v=.returned (.int .i64 (eQ T r (dI T r ns 0 n0.aR n0.at_).1 (dI T r ns 0 n0.aR n0.at_).2 ns 0))/\Below wx.heap.size wx w':=fun wx hb r=>Jl WB.heap.size wx x1 n1 c1 x2 n2 c2 pv tv tb K ns op D T ⟨hC1.below hb,mr.below hb⟩ XA.out (by omega) (by omega) (by have:=HM.out;omega) r n0 HH0.out
   have PF:Hid _:=hab
   have Qc:Hid _:=Qb
   have aaq:=Qb.size
   clear hb1 jF hC1 mr hab Qb il b0 b1 bl qK HC XA E8 htl CV
   go_wp2
   go_loopw [10,11,12] (fun v10 i _ wx=>∃ (j:Nat),j<=c/\i=.int .i64 j/\wx.ownsRow w1.heap.size 3 1 v10 j (gr (gT T ns n0 j))/\Below w1.heap.size w1 wx) (fun _ i _ _=>c - (intOf i).toNat)
   case atStart =>
    refine ⟨0,Nat.zero_le _,rfl,⟨rfl,Or.inr ⟨w1.heap.size,0,#[],rfl,Nat.le_refl _,?_,Nat.le_refl _,by unfold maxLen;omega,rfl,rfl⟩⟩,(Below.refl _ w1).alloc (Nat.le_refl _) _⟩
    exact aj _ _
   case round =>
    obtain ⟨j,hj,rfl,hown,hbx⟩:=hrel
    have hxs:=hbx.size
    by_cases Jz:j < c
    ·have hac:=PF.out _ hbx j
     have gY:=Fv T ns n0 j
     generalize eQ T j (dI T j ns 0 n0.aR n0.at_).1 (dI T j ns 0 n0.aR n0.at_).2 ns 0=RG at *
     have lF:Hid _:=gY
     have dY:Hid _:=hown
     have T9:Hid _:=hbx
     clear gY hown hbx
     go_wp2_with fail
     refine hac.mono ?_
     rintro _ w5 ⟨rfl,mF⟩
     have ZW:Below w1.heap.size w1 w5:=T9.out.trans (mF.mono hxs)
     have Ch:Hid (Below w1.heap.size w1 (w5.alloc (.cells #[.int .i64 RG] 3))):=ZW.alloc ZW.size _
     have PO:Hid ((w5.alloc (.cells #[.int .i64 RG] 3)).ownsRow w1.heap.size 3 1 u10 j (gr (gT T ns n0 j))):=aB (aB dY.out mF) (cB (Below.refl _ _) _)
     have zi:Hid (∀ (i:Nat) (u:Value),([.int .i64 RG]:List Value)[i]?=some u->(w5.alloc (.cells #[.int .i64 RG] 3)).cell? ((⟨w5.heap.size,0,none⟩:Addr).add i)=some u):=by
      intro i u hi
      have hq:=bJ w5 [.int .i64 RG] 3 i
      rw [<- hi,<- hq];first | done | rfl
     have wo:Hid (∀ u∈([.int .i64 RG]:List Value),u.oneCell'=true):=by intro v hv;simp only [List.mem_singleton] at hv;subst hv;rfl
     have hw5:=ZW.size
     clear hac mF ZW
     go_wp2_with (at_builtin;go_must (refine wpList_append_own _ rfl (.tmp 45) (.tmp 47) 22 rfl w1.heap.size 3 i0 _ 1 8 Tryz.oY HI.out pZ.out p8.out p9.out rfl (by decide) u10 j (gr (gT T ns n0 j)) rfl PO.out ⟨w5.heap.size,0,none⟩ 1 1 [.int .i64 RG] rfl rfl zi.out wo.out ?c3 ?c4 ?c5 ?_))
     case c3=>unfold maxLen;omega
     case c4=>omega
     case c5=>first | omega | (simp;omega)
     intro v' w7 hown' hgrow hnil
     have K7:Hid (Below w1.heap.size w1 w7):=(Ch.out).grown hgrow Ch.out.size (fun b hb=>(World.ownsRow.lt PO.out b hb).1)
     have HO7:Hid (w7.ownsRow w1.heap.size 3 1 v' (j+1) (gr (gT T ns n0 (j+1)))):=by
      show w7.ownsRow w1.heap.size 3 1 v' (j+1) (gr (gT T ns n0 (j+1)))
      rw [lF.out]
      unfold gr at hown' ⊢
      rw [List.map_append]
      exact hown'
     clear hown' hgrow hnil
     go_wp2
     go_roundw
     case rel=>exact ⟨j+1,by omega,by go_num,HO7.out,K7.out⟩
     case measure=>simp [intOf];omega
    ·have hjc:j=c:=by omega
     subst hjc
     have dY:Hid _:=hown
     have T9:Hid _:=hbx
     clear hown hbx
     go_wp2
     go_ret
     refine ⟨_,rfl,?_,Qc.out.trans (T9.out.mono aaq)⟩
     rw [HTT.out]
     exact dn dY.out (fun k hk=>by have:=(World.ownsRow.lt dY.out k hk).1;omega)
theorem Ue (L:Ly) (wb:Nat) (x1:Option Addr) (n1 c1:Nat) (x2:Option Addr) (n2 c2:Nat) (ns:List NR) (op:List Int) (p:Nat) (nm rg:List UInt8) (x:PT) (ih:Aa L wb (.slice x1 n1 c1) (.slice x2 n2 c2) ns op x):L5 L wb (.slice x1 n1 c1) (.slice x2 n2 c2) ns op (.node p .new nm rg [x]):=by
 intro base w v tx hsh iG hwf hle nK hin aZ
 simp only [fG,fM] at hsh
 obtain ⟨⟨n,hn,hf',hwd,oU,gI,vA⟩,hx,_⟩:=hsh
 have hf:n.form=12:=hf'
 simp only [PT.bL,bI] at iG
 simp only [PT.wf,oZ] at hwf
 simp only [PT.cnt,az,Nat.add_zero] at hle nK hn
 have ZT:=cH x
 obtain ⟨M,hM⟩:∃ M:Nat,(((base+x.cnt:Nat):Int) - 1)=(M:Int):=⟨base+x.cnt - 1,by omega⟩
 have hMb:M<=9000:=by have:=aZ.len;omega
 have XB:n.p0=(M:Int):=by rw [oU,<- hM];rfl
 have hno:=ew w (.slice x1 n1 c1) (.slice x2 n2 c2) ns op (aZ.tree w (Below.refl _ _)) (base+x.cnt) n hn aZ.len
 have hbl:=aZ.len
 have hb:=hin.blk
 have y0:w.cell? ⟨wb,0,none⟩=some (.slice x1 n1 c1):=by rw [aa hb];rfl
 have y1:w.cell? ⟨wb,1,none⟩=some (.slice x2 n2 c2):=by rw [aa hb];rfl
 have hcall:=fun w' (h1:kz L wb w' (.slice x1 n1 c1) (.slice x2 n2 c2) v tx) (h2:pS L wb w' (.slice x1 n1 c1) (.slice x2 n2 c2) ns op)=>ih base w' v tx hx iG.2.1 hwf.2.1 (by omega) (by omega) h1 h2
 rw [hM] at hcall
 have HC:Hid _:=hcall
 have mq:Hid _:=hin
 have ow:Hid _:=aZ
 have hlt:=af hb
 unfold aJ aI at hno
 rw [hf,XB] at hno
 generalize n.p1=m1 at hno
 generalize n.p2=m2 at hno
 generalize n.region=m3 at hno
 generalize n.source=m4 at hno
 generalize n.num=m5 at hno
 have e1:PT.vF L.regs L.news (.node p .new nm rg [x]) base=x.u7 L.regs L.news base:=by simp [PT.vF,gz,PT.u7]
 rw [e1]
 simp only [PT.cnt,az,Nat.add_zero]
 rw [show (((base+(1+x.cnt):Nat):Int) - 1)=((base+x.cnt:Nat):Int) from by omega]
 generalize base+x.cnt=K at *
 clear hb hin aZ hcall hn hf' hf hwd oU gI vA hx XB ih iG hwf nK e1
 go_enter Tryz.func77,Tryz.ntmps77
 go_wp2_with fail
 refine hno.mono ?_
 rintro _ w1 ⟨rfl,hb1⟩
 have hs1:=hb1.size
 go_wp2_with fail
 have hB:=hb1.alloc hb1.size (.cells #[.int .i64 12,.int .i64 n.at_,.int .i64 n.aR,.int .i64 m5,.string (bs n.word),.int .i64 m3,.int .i64 m4,.int .i64 M,.int .i64 m1,.int .i64 m2] 108)
 refine (HC.out _ (mq.out.below hB) (ow.out.on (hB.mono (Nat.le_of_lt hlt)))).mono ?_
 rintro _ w3 ⟨v',rfl,hfr,pT⟩
 go_wp2_with fail
 refine bodyPost_end (v:=.tuple #[]) (by simp [results,Tryz.results77,go_sem]) rfl ⟨v',rfl,(jU.jI v hB).trans hfr,pT⟩
end Go.Proofs.YtpicaknklgccoabGreatDoor
