import Derived.Test.YtpicaknklgccoabGreatDoorS14
import Derived.Shelf.Lay
import Derived.Shelf.LaysM
import Derived.Shelf.Strconv.Itoa3
import Derived.Lib.AppendIntMem
set_option maxHeartbeats 16000000
set_option maxRecDepth 100000
namespace Go.Proofs.YtpicaknklgccoabGreatDoor
open Go.RowKit
theorem Jl (fb:Nat) (w:World) (x1:Option Addr) (n1 c1:Nat) (x2:Option Addr) (n2 c2:Nat) (pv tv:Value) (tb:List TP) (K:List Nat) (ns:List NR) (op:List Int) (D:List Ty) (T:List Ty) (h:Jj fb w (.slice x1 n1 c1) (.slice x2 n2 c2) pv tv tb K ns op) (hR:Rel tb D K T) (hl:tb.length<=9000) (hK:K.length<=9000) (hn:ns.length<=9000) (rg:Nat) (n0:NR) (h0:ns[ns.length - 1]?=some n0) :
  Calls Tryz.prog 75 #[ptr fb,.int .i64 rg] w fun v w'=>v=.returned (.int .i64 (eQ T rg (dI T rg ns 0 n0.aR n0.at_).1 (dI T rg ns 0 n0.aR n0.at_).2 ns 0))/\Below w.heap.size w w':=by
 obtain ⟨m,hm⟩:∃ m,m=ns.length:=⟨_,rfl⟩
 have V6:∀ W',Below w.heap.size w W'->W'.cell? ⟨fb,0,none⟩=some (.slice x1 n1 c1)/\W'.cell? ⟨fb,1,none⟩=some (.slice x2 n2 c2)/\fb < W'.heap.size:=fun W' hb=>by
  have:=(h.below hb).c.y
  exact ⟨by rw [aa this];rfl,by rw [aa this];rfl,af this⟩
 have Jk:∀ W',Below w.heap.size w W'->∀ (k:Nat) (n:NR),ns[k]?=some n->Calls Tryz.prog 61 #[.agg #[.slice x1 n1 c1,.slice x2 n2 c2],.int .i64 k] W' fun v w'=>v=.returned (aI n)/\Below w.heap.size w w':=fun W' hb k n hk=>by
  refine (ew W' _ _ ns op (h.below hb).t k n hk hn).mono ?_
  rintro _ w' ⟨rfl,hb'⟩
  exact ⟨rfl,hb.trans (hb'.mono hb.size)⟩
 have R4:∀ W',Below w.heap.size w W'->Calls Tryz.prog 60 #[.agg #[.slice x1 n1 c1,.slice x2 n2 c2]] W' fun v w'=>v=.returned (.int .i64 m)/\Below w.heap.size w w':=fun W' hb=>by
  have:=gJ W' _ _ ns op (h.below hb).t
  rw [<- hm] at this
  refine this.mono ?_
  rintro _ w' ⟨rfl,hb'⟩
  exact ⟨rfl,hb.trans (hb'.mono hb.size)⟩
 have W8:∀ W',Below w.heap.size w W'->∀ i:Nat,i < m->Calls Tryz.prog 95 #[.pointer (some ⟨fb,0,none⟩),.int .i64 i,.int .i64 rg] W' fun v w'=>v=.returned (.bool ((ai T i).has rg))/\Below w.heap.size w w':=fun W' hb i hi=>by
  refine (qo fb W' _ _ pv tv tb K ns op D T (h.below hb) hR hl hK i rg (by omega)).mono ?_
  rintro _ w' ⟨rfl,hb'⟩
  exact ⟨rfl,hb.trans (hb'.mono hb.size)⟩
 have Xa:=LO fb w x1 n1 c1 x2 n2 c2 pv tv tb K ns op D T h hR hl hK hn rg n0 h0
 obtain ⟨sa,sb,hsp⟩:∃ sa sb,dI T rg ns 0 n0.aR n0.at_=(sa,sb):=⟨_,_,rfl⟩
 rw [hsp] at Xa ⊢
 simp only at Xa ⊢
 obtain ⟨R,Tx⟩:∃ R,R=eQ T rg sa sb ns 0:=⟨_,rfl⟩
 rw [<- Tx]
 unfold aI at Jk
 unfold ptr at Xa
 have Tz:Hid _:=V6
 have qQ:Hid _:=Jk
 have K4:Hid _:=R4
 have PR:Hid _:=W8
 have HSP:Hid _:=Xa
 have HM:Hid _:=hm
 have R5:Hid _:=Tx
 rw [<- hm] at hn
 clear V6 Jk R4 W8 h hR hm Tx h0 Xa hsp
 show Calls _ _ #[Value.pointer (some ⟨fb,0,none⟩),_] w _
 go_enter Tryz.func75,Tryz.ntmps75
 go_wp2_with fail
 refine Calls.mono HSP.out ?_
 rintro _ w0 ⟨rfl,hb0⟩
 have EV:Hid _:=hb0
 clear hb0 HSP
 go_wp2
 go_loopw [7,8] (fun i _ wr=>∃ (k:Nat),k<=m/\i=.int .i64 k/\Hid (eQ T rg sa sb ns 0=eQ T rg sa sb (ns.drop k) k)/\Below w.heap.size w wr) (fun i _ _=>m - (intOf i).toNat)
 case atStart=>exact ⟨0,Nat.zero_le _,rfl,(rfl:eQ T rg sa sb ns 0=eQ T rg sa sb (ns.drop 0) 0),EV.out⟩
 case round =>
  obtain ⟨k,hk,rfl,HF,dF⟩:=hrel
  obtain ⟨b0,b1,bl⟩:=Tz.out _ dF
  have il:=K4.out _ dF
  by_cases hlt:k < m
  ·have hkl:k < ns.length:=by have:=HM.out;omega
   obtain ⟨n,hn'⟩:∃ n,ns[k]?=some n:=⟨ns[k],List.getElem?_eq_getElem hkl⟩
   have ml:ns.drop k=n::ns.drop (k+1):=by
    rw [List.drop_eq_getElem_cons hkl];rw [List.getElem?_eq_getElem hkl] at hn';simp only [Option.some.injEq] at hn';rw [hn']
   have hst:=HF.out
   rw [ml] at hst
   simp only [eQ] at hst
   have jf:Hid _:=hst
   have HN:Hid _:=hn'
   clear hst ml hn' HF dF hkl
   go_wp2_with fail
   refine il.mono ?_
   rintro _ w1 ⟨rfl,hb1⟩
   have hno:=qQ.out w1 hb1 k n HN.out
   clear il b0 b1 bl
   obtain ⟨b0,b1,bl⟩:=Tz.out _ hb1
   clear hb1
   go_wp2_with fail
   refine hno.mono ?_
   rintro _ w2 ⟨rfl,hb2⟩
   have hb3:=cB hb2 (bU n)
   have hme:=PR.out _ hb3 k hlt
   have iV:Hid _:=hb3
   unfold bU za at hme iV
   clear hno hb2 hb3 b0 b1 bl
   by_cases ha:n.at_<=sa
   ·have qa:(n.at_:Int)<=(sa:Int):=by omega
    by_cases hb:sb<=n.aR
    ·have qb:(sb:Int)<=(n.aR:Int):=by omega
     have hst:=jf.out
     cases hmm:(ai T (k:Int)).has rg with
     | false =>
      rw [hmm] at hme
      rw [if_pos ⟨ha,hb,hmm⟩] at hst
      have HA:Hid (R=(k:Int)):=(show R=(k:Int) by rw [R5.out,hst])
      clear hst jf hmm ha hb
      go_wp2_with fail
      refine hme.mono ?_
      rintro _ w4 ⟨rfl,hb4⟩
      have pP:Hid _:=hb4
      clear hb4 hme
      go_wp2
      go_ret
      exact ⟨by rw [HA.out];first | done | rfl,pP.out⟩
     | true =>
      rw [hmm] at hme
      rw [if_neg (fun h=>by rw [hmm] at h;exact absurd h.2.2 (by decide))] at hst
      have eA:Hid _:=hst
      clear hst jf hmm ha hb
      go_wp2_with fail
      refine hme.mono ?_
      rintro _ w4 ⟨rfl,hb4⟩
      have pP:Hid _:=hb4
      clear hb4 hme
      go_wp2
      go_roundw
      case rel=>exact ⟨k+1,by omega,by go_num,eA.out,pP.out⟩
      case measure=>simp [intOf];omega
    ·have qb:¬ (sb:Int)<=(n.aR:Int):=by omega
     have hst:=jf.out
     rw [if_neg (fun h=>hb h.2.1)] at hst
     have eA:Hid _:=hst
     clear hst jf ha hb hme
     go_wp2
     go_roundw
     case rel=>exact ⟨k+1,by omega,by go_num,eA.out,iV.out⟩
     case measure=>simp [intOf];omega
   ·have qa:¬ (n.at_:Int)<=(sa:Int):=by omega
    have hst:=jf.out
    rw [if_neg (fun h=>ha h.1)] at hst
    have eA:Hid _:=hst
    clear hst jf ha hme
    go_wp2
    go_roundw
    case rel=>exact ⟨k+1,by omega,by go_num,eA.out,iV.out⟩
    case measure=>simp [intOf];omega
  ·have V2:Hid (R=-1):=by
    have hd:ns.drop k=[]:=List.drop_eq_nil_of_le (by have:=HM.out;omega)
    have hst:=HF.out
    rw [hd] at hst
    rw [R5.out,hst];exact rfl
   clear HF dF
   go_wp2_with fail
   refine il.mono ?_
   rintro _ w1 ⟨rfl,hb1⟩
   have dG:Hid _:=hb1
   clear hb1 il
   go_wp2
   go_ret
   exact ⟨by rw [V2.out];first | done | rfl,dG.out⟩
theorem zj (w:World) (x1:Option Addr) (n1 c1:Nat) (x2:Option Addr) (n2 c2:Nat) (ns:List NR) (op:List Int) (hT:bg w (.slice x1 n1 c1) (.slice x2 n2 c2) ns op) (hl:ns.length<=9000) (tk:∀ n∈ns,n.small) (n0:NR) (h0:ns[ns.length - 1]?=some n0) (hB:n0.aR<=9000) (hat:∀ n∈ns,n.at_ < n0.aR) (hsz:jm [] (ns.map atR)) :
  Calls Tryz.prog 71 #[aJ (.slice x1 n1 c1) (.slice x2 n2 c2)] w fun e w'=>∃ pa pn pc ta tn tc ev,e=.returned (.agg #[.slice pa pn pc,.slice ta tn tc,ev])/\Below w.heap.size w w'/\w'.ownsRow 0 3 1 ev n0.aR (cF (sj [] (List.range n0.aR) ns))/\(∀ g,ev.ownBlock=some g->w.heap.size<=g):=by
 obtain ⟨m,hm⟩:∃ m,m=ns.length:=⟨_,rfl⟩
 have mn:1<=m:=by have:=(List.getElem?_eq_some_iff.1 h0).1;omega
 have hm9:m<=9000:=by omega
 have Tv:1<=n0.aR:=by have:=hat n0 (List.mem_of_getElem? h0);omega
 obtain ⟨W0,G9⟩:∃ W0,W0=((w.alloc (.cells #[.slice x1 n1 c1,.slice x2 n2 c2] 62)).alloc (.cells #[.slice none 0 0,.slice none 0 0,.slice none 0 0] 130)).alloc (.cells #[.slice none 0 0,.slice none 0 0,.slice none 0 0] 130):=⟨_,rfl⟩
 have hw0:Below w.heap.size w W0:=by rw [G9];exact cB (cB (cB (Below.refl _ _) _) _) _
 have hs0:W0.heap.size=w.heap.size+1+1+1:=by rw [G9];simp
 have hbx:W0.heap[w.heap.size]?=some (.cells #[.slice x1 n1 c1,.slice x2 n2 c2] 62 (0,0)):=by
  have h1:=aj w (.cells #[.slice x1 n1 c1,.slice x2 n2 c2] 62 (0,0))
  have h2:=cB (cB (Below.refl (w.alloc (.cells #[.slice x1 n1 c1,.slice x2 n2 c2] 62)).heap.size (w.alloc (.cells #[.slice x1 n1 c1,.slice x2 n2 c2] 62))) (.cells #[.slice none 0 0,.slice none 0 0,.slice none 0 0] 130)) (.cells #[.slice none 0 0,.slice none 0 0,.slice none 0 0] 130)
  rw [G9,h2.block _ (by simp)];exact h1
 have hsb:W0.heap[w.heap.size+1+1]?=some (.cells #[.slice none 0 0,.slice none 0 0,.slice none 0 0] 130 (0,0)):=by
  have:=aj ((w.alloc (.cells #[.slice x1 n1 c1,.slice x2 n2 c2] 62)).alloc (.cells #[.slice none 0 0,.slice none 0 0,.slice none 0 0] 130)) (.cells #[.slice none 0 0,.slice none 0 0,.slice none 0 0] 130 (0,0))
  rw [G9];simpa using this
 have qd:W0.heap[w.heap.size+1]?=some (.cells #[.slice none 0 0,.slice none 0 0,.slice none 0 0] 130 (0,0)):=by
  have h1:=aj (w.alloc (.cells #[.slice x1 n1 c1,.slice x2 n2 c2] 62)) (.cells #[.slice none 0 0,.slice none 0 0,.slice none 0 0] 130 (0,0))
  have h2:=cB (Below.refl ((w.alloc (.cells #[.slice x1 n1 c1,.slice x2 n2 c2] 62)).alloc (.cells #[.slice none 0 0,.slice none 0 0,.slice none 0 0] 130)).heap.size ((w.alloc (.cells #[.slice x1 n1 c1,.slice x2 n2 c2] 62)).alloc (.cells #[.slice none 0 0,.slice none 0 0,.slice none 0 0] 130))) (.cells #[.slice none 0 0,.slice none 0 0,.slice none 0 0] 130)
  rw [G9,h2.block _ (by simp)];simpa using h1
 obtain ⟨sb,TB⟩:∃ sb,sb=w.heap.size+1+1:=⟨_,rfl⟩
 have hBC:∀ W',Below sb W0 W'->W'.cell? ⟨w.heap.size,0,none⟩=some (.slice x1 n1 c1)/\W'.cell? ⟨w.heap.size,1,none⟩=some (.slice x2 n2 c2)/\w.heap.size < W'.heap.size:=fun W' hb=>by
  have h1:W'.heap[w.heap.size]?=some (.cells #[.slice x1 n1 c1,.slice x2 n2 c2] 62 (0,0)):=by rw [hb.block _ (by omega)];exact hbx
  exact ⟨by rw [aa h1];rfl,by rw [aa h1];rfl,af h1⟩
 have ZK:∀ W',Below sb W0 W'->bg W' (.slice x1 n1 c1) (.slice x2 n2 c2) ns op:=fun W' hb=>hT.below (hw0.trans (hb.mono (by omega)))
 have W6:∀ W',Below W0.heap.size W0 W'->Calls Tryz.prog 55 #[.agg #[.slice x1 n1 c1,.slice x2 n2 c2]] W' fun v w'=>v=.returned (.int .i64 ((m - 1:Nat):Int))/\Below W0.heap.size W0 w'/\Below W'.heap.size W' w':=fun W' hb=>by
  refine (sr W' _ _ ns op (ZK W' (hb.mono (by omega))) hl).mono ?_
  rintro _ w' ⟨rfl,hb'⟩
  exact ⟨by congr 2;omega,hb.trans (hb'.mono hb.size),hb'⟩
 have Jk:∀ W',Below sb W0 W'->∀ (k:Nat) (n:NR),ns[k]?=some n->Calls Tryz.prog 61 #[.agg #[.slice x1 n1 c1,.slice x2 n2 c2],.int .i64 k] W' fun v w'=>v=.returned (aI n)/\Below W'.heap.size W' w':=fun W' hb k n hk=>ew W' _ _ ns op (ZK W' hb) k n hk hl
 have Tw:∀ W',Below W0.heap.size W0 W'->Calls Tryz.prog 61 #[.agg #[.slice x1 n1 c1,.slice x2 n2 c2],.int .i64 ((m - 1:Nat):Int)] W' fun v w'=>v=.returned (aI n0)/\Below W0.heap.size W0 w'/\Below W'.heap.size W' w':=fun W' hb=>by
  refine (Jk W' (hb.mono (by omega)) (m - 1) n0 (by rw [hm];exact h0)).mono ?_
  rintro _ w' ⟨rfl,hb'⟩
  exact ⟨rfl,hb.trans (hb'.mono hb.size),hb'⟩
 have R4:∀ W',Below sb W0 W'->Calls Tryz.prog 60 #[.agg #[.slice x1 n1 c1,.slice x2 n2 c2]] W' fun v w'=>v=.returned (.int .i64 m)/\Below W'.heap.size W' w':=fun W' hb=>by
  have:=gJ W' _ _ ns op (ZK W' hb)
  rw [<- hm] at this;exact this
 obtain ⟨i0,hi,hz0,hz1,hz2⟩:=info_parts Tryz.oV
 have HI:Hid _:=hi
 have pZ:Hid _:=hz0
 have p8:Hid _:=hz1
 have p9:Hid _:=hz2
 unfold aI at Tw Jk
 have P3:Hid _:=hBC
 have K3:Hid _:=W6
 have qQ:Hid _:=Jk
 have W9:Hid _:=Tw
 have K4:Hid _:=R4
 have TC:Hid _:=hsb
 have HRS:Hid _:=qd
 have V7:Hid _:=hw0
 have HM:Hid _:=hm
 have TD:Hid _:=G9
 have Tg:Hid _:=tk
 have Lv:Hid _:=hat
 have Tq:Hid _:=hsz
 clear hi hz0 hz1 hz2 hBC W6 Jk Tw R4 hsb qd hw0 hm G9 tk hat hsz hT ZK hbx h0
 have hsW:sb < W0.heap.size:=by omega
 have aai:w.heap.size < sb:=by omega
 have HS0:Hid _:=hs0
 clear hs0
 unfold aJ
 go_enter Tryz.func71,Tryz.ntmps71
 go_upto_region 2 with fail
 rw [<- TD.out,<- TB]
 have HSE:Hid _:=TB
 clear TB
 obtain ⟨b0,b1,bl⟩:=P3.out W0 (Below.refl _ _)
 go_cut [4] from 11 to 14 (fun t4 wx=>∃ q,t4=.pointer (some ⟨q,0,none⟩)/\wx.heap[q]?=some (bU n0)/\W0.heap.size<=q/\Below W0.heap.size W0 wx)
 case first =>
  go_region_law (first
   | (refine kR rfl 55 #[.agg #[.slice x1 n1 c1,.slice x2 n2 c2]] ?_ ?_
      ·go_simp
      refine Calls.mono (K3.out _ ?_) ?_
      ·repeat (first | with_reducible exact Below.refl _ _ | with_reducible refine cB ?_ _ | with_reducible refine tH ?_ | with_reducible refine fU ?_)
      rintro e w2 ⟨rfl,hb2,TA⟩
      obtain ⟨b0,b1,bl⟩:=P3.out _ (hb2.mono (by omega))
      have LP:=hb2.size
      try (have hz:w2.heap[W0.heap.size]?=some (.cells nz 108 (0,0)):=(TA.block _ (by simp)).trans (aj _ _))
      refine ⟨_,rfl,?_⟩)
   | (refine kR rfl 61 #[.agg #[.slice x1 n1 c1,.slice x2 n2 c2],.int .i64 ((m - 1:Nat):Int)] ?_ ?_
      ·go_simp
      refine Calls.mono (W9.out _ ?_) ?_
      ·repeat (first | with_reducible exact Below.refl _ _ | with_reducible exact hb2 | with_reducible refine cB ?_ _ | with_reducible refine tH ?_ | with_reducible refine fU ?_)
      rintro e w3 ⟨rfl,hb3,LQ⟩
      try (have PY:w3.heap[w2.heap.size]?=some (.cells nz 108 (0,0)):=(LQ.block _ (by simp)).trans (aj _ _))
      try (have PZ:w3.heap[W0.heap.size]?=some (.cells nz 108 (0,0)):=(LQ.block _ (af hz)).trans hz)
      try (obtain ⟨z0,z1,z2,z3,z4,z5,z6,z7,z8,z9⟩:=su PY;obtain ⟨f0,f1,f2,f3,f4,f5,f6,f7,f8,f9⟩:=vC PY;have hzl:=af PY)
      try (obtain ⟨z0,z1,z2,z3,z4,z5,z6,z7,z8,z9⟩:=su PZ;obtain ⟨f0,f1,f2,f3,f4,f5,f6,f7,f8,f9⟩:=vC PZ;have hzl:=af PZ)
      refine ⟨_,rfl,?_⟩))
  all_goals (go_wp2_with fail;go_meet)
  all_goals first
   | (have hE:=A9 (.int .i64 n0.form) (.int .i64 n0.at_) (.int .i64 n0.aR) (.int .i64 n0.num) (.string (bs n0.word)) (.int .i64 n0.region) (.int .i64 n0.source) (.int .i64 n0.p0) (.int .i64 n0.p1) (.int .i64 n0.p2) hb3 LP PY;exact ⟨_,rfl,hE.1,LP,hE.2⟩)
   | (have hE:=A9 (.int .i64 n0.form) (.int .i64 n0.at_) (.int .i64 n0.aR) (.int .i64 n0.num) (.string (bs n0.word)) (.int .i64 n0.region) (.int .i64 n0.source) (.int .i64 n0.p0) (.int .i64 n0.p1) (.int .i64 n0.p2) hb3 (Nat.le_refl _) PZ;exact ⟨_,rfl,hE.1,Nat.le_refl _,hE.2⟩)
   | exact ⟨_,rfl,aj _ _,hb3.size,cB hb3 _⟩
   | skip
 case rest =>
  obtain ⟨q,rfl,hq,hsq,hbc⟩:=hcut
  have O9:wc.cell? ⟨q,2,none⟩=some (.int .i64 n0.aR):=(aC hq).2.2.1
  have V5:=af hq
  have hsc:wc.heap[sb]?=some (.cells #[.slice none 0 0,.slice none 0 0,.slice none 0 0] 130 (0,0)):=by rw [hbc.block _ hsW,HSE.out];exact TC.out
  have H1:Hid (V4 W0 sb q n0 wc (.slice none 0 0) 0):=⟨hbc.mono (by omega),hsc,hq,World.ownsRow_nil _ _ _ _,fun g hg=>by simp [Value.ownBlock] at hg,by omega⟩
  clear hq hbc hsc K3 W9 b0 b1 bl O9 TC
  obtain ⟨B,hBe⟩:∃ B,B=n0.aR:=⟨_,rfl⟩
  rw [<- hBe] at hB Lv Tv
  have Pa:Hid _:=hBe
  clear hBe
  go_wp2
  go_loopw [5] (fun i wr=>∃ (k:Nat) (ev:Value),k<=B/\i=.int .i64 k/\V4 W0 sb q n0 wr ev k) (fun i _=>B - (intOf i).toNat)
  case atStart=>exact ⟨0,_,Nat.zero_le _,rfl,H1.out⟩
  case round =>
   obtain ⟨k,ev,hk,rfl,hS⟩:=hrel
   have d2:wr.cell? ⟨q,2,none⟩=some (.int .i64 B):=by rw [Pa.out];exact (aC hS.n).2.2.1
   have dl:=af hS.n
   by_cases hlt:k < B
   ·obtain ⟨ao,oc,qj⟩:=aF hS.r
    have y2:wr.cell? ⟨sb,2,none⟩=some (.slice ao k oc):=by rw [aa hS.y,<- qj];rfl
    have yl:=af hS.y
    have dY:Hid ((wr.alloc (.cells #[.int .i64 k] 3)).ownsRow 0 3 1 (.slice ao k oc) k (cF (List.range k))):=by
     have:=hS.r.alloc (.cells #[.int .i64 k] 3)
     rw [qj] at this;exact this
    have EL:Hid ((wr.alloc (.cells #[.int .i64 k] 3)).heap[sb]?=some (.cells #[.slice none 0 0,.slice none 0 0,ev] 130 (0,0))):=aN _ hS.y
    have wo:Hid (∀ u∈([.int .i64 k]:List Value),u.oneCell'=true):=by intro v hv;simp only [List.mem_singleton] at hv;subst hv;rfl
    have ZL:Hid _:=qj
    have HS:Hid _:=hS
    clear hS qj
    go_wp2_with (at_builtin;go_must (refine oX _ rfl (.tmp 22) (.tmp 24) 22 rfl 3 i0 _ 1 8 Tryz.oY HI.out pZ.out p8.out p9.out rfl (by decide) (.slice ao k oc) k (cF (List.range k)) rfl dY.out ⟨wr.heap.size,0,none⟩ 1 1 [.int .i64 k] rfl rfl ?c1 wo.out (by decide) ?c3 ?c4 ?_))
    case c1 =>
     intro j v hj
     rw [<- hj]
     first | rfl | exact bJ _ _ _ _
    case c3=>unfold maxLen;omega
    case c4=>omega
    intro g cap w4 hown hgrow ik
    have hsl:sb < w4.heap.size:=by have:=hgrow.size;simp at this;omega
    have uX:=cE hgrow EL.out (fun e=>by have:=(HS.out.e sb (by rw [ZL.out];exact e)).1;omega)
    have z1:w4.cell? ⟨sb,2,none⟩=some (.slice ao k oc):=by rw [aa uX,<- ZL.out];rfl
    have zf:=ag uX 2
    have HAD:Hid _:=V4.add (g:=g) (cap:=cap) HS.out ((Below.refl _ wr).alloc (Nat.le_refl _) (.cells #[.int .i64 k] 3)) (by rw [ZL.out];exact hgrow) hown (by rw [ZL.out,show (wr.alloc (.cells #[.int .i64 k] 3)).heap.size=wr.heap.size+1 from by simp];exact ik)
    clear hown hgrow ik uX
    go_wp2
    go_roundw
    case rel=>exact ⟨k+1,_,by omega,by go_num,HAD.out⟩
    case measure=>simp [intOf];omega
   ·have hkB:k=B:=by omega
    subst hkB
    have HS:Hid _:=hS
    obtain ⟨g,cap,qj⟩:=fK hS.r (by omega)
    subst qj
    have H2:Hid (EU W0 sb g cap k wr (.slice none 0 0) (.slice none 0 0) [] [] (List.range k)) :=
     ⟨hS.b,⟨hS.y,rfl,rfl,World.ownsRow_nil _ _ _ _,World.ownsRow_nil _ _ _ _,by simp [Value.ownBlock],by simp [Value.ownBlock],fun j hj=>by simp [Value.ownBlock] at hj⟩,hS.r,(hS.e g rfl).1,by simp [Value.ownBlock],by simp [Value.ownBlock],fun j hj=>by simp [Value.ownBlock] at hj,fun j hj=>by simp [Value.ownBlock] at hj⟩
    obtain ⟨Xb,Xc⟩:∃ Xb,Xb=sj [] (List.range k) ns:=⟨_,rfl⟩
    have j8:Hid _:=Xc
    clear hS hlt HS Xc
    go_wp2
    go_loopw [6,7,8,9] (fun i _ _ _ wx=>∃ (j:Nat) (pv tv:Value) (tb:List TP) (D:List Ty) (K:List Nat) (T:List Ty) (E:List Nat),j<=m/\i=.int .i64 j/\EU W0 sb g cap k wx pv tv tb K E/\Rel tb D K T/\K.length=j/\tb.length<=j/\ZJ k tb/\E.length=k/\Hid (Xb=sj T E (ns.drop j))/\jm T ((ns.drop j).map atR)) (fun i _ _ _ _=>m - (intOf i).toNat)
    case atStart=>exact ⟨0,_,_,[],[],[],[],List.range k,Nat.zero_le _,rfl,H2.out,Ls,rfl,Nat.le_refl _,fun j=>by simp [fD];omega,List.length_range,(j8.out:Xb=sj [] (List.range k) (ns.drop 0)),Tq.out⟩
    case round =>
     obtain ⟨j,pv,tv,tb,D,K,T,E,hj,rfl,hS,jS,E8,htl,V8,Pb,HF,zW⟩:=hrel
     obtain ⟨b0,b1,bl⟩:=P3.out _ hS.b
     have il:=K4.out _ hS.b
     by_cases hlt:j < m
     ·have hjl:j < ns.length:=by have:=HM.out;omega
      obtain ⟨n,hn⟩:∃ n,ns[j]?=some n:=⟨ns[j],List.getElem?_eq_getElem hjl⟩
      have hnm:=List.mem_of_getElem? hn
      have dS:=Tg.out n hnm
      have hat:=Lv.out n hnm
      have ml:ns.drop j=n::ns.drop (j+1):=by
       rw [List.drop_eq_getElem_cons hjl];rw [List.getElem?_eq_getElem hjl] at hn;simp only [Option.some.injEq] at hn;rw [hn]
      have hst:=HF.out
      rw [ml] at zW hst
      simp only [List.map_cons,jm] at zW
      simp only [sj] at hst
      obtain ⟨D',CL⟩:=LJ jS (atR n) zW.1
      have iB:Rel (ic tb K n n.at_).2 D' (K++[(ic tb K n n.at_).1]) (T++[cR T (atR n)]):=CL
      have hok:Ta tb K n:=⟨by omega,by omega,fun i=>by have:=(jS.known i).2.1;omega,fun j=>by have:=jS.GX j;omega,⟨by have:=dS.1;omega,by have:=dS.1;omega⟩,⟨by have:=dS.2.1;omega,by have:=dS.2.1;omega⟩,⟨by have:=dS.2.2.1;omega,by have:=dS.2.2.1;omega⟩,⟨by have:=dS.2.2.2;omega,by have:=dS.2.2.2;omega⟩⟩
      have uY:(ic tb K n n.at_).2.length<=j+1:=by
       have hpl:=mB tb n.at_ (au K n.p0) (au K n.p1)
       unfold ic
       repeat' split
       all_goals first | (simp only;omega) | omega
      have TE:=WY V8 K n n.at_ hat
      have hadd:=fun (w':World) (h':EU W0 sb g cap k w' pv tv tb K E)=>wm w' sb 0 _ _ pv tv tb K n n.at_ n.at_ (fun _=>rfl) h'.c hok
      have Xd:-10<=n.p1/\n.p1<=10000:=⟨by have:=dS.2.2.1;omega,by have:=dS.2.2.1;omega⟩
      have Xe:-10<=n.p2/\n.p2<=10000:=⟨by have:=dS.2.2.2;omega,by have:=dS.2.2.2;omega⟩
      obtain ⟨k1,k2,_⟩:=iB.known n.p1
      obtain ⟨l1,l2,_⟩:=iB.known n.p2
      have hmT:=fun f hf=>wC iB f E (au (K++[(ic tb K n n.at_).1]) n.p1) (au (K++[(ic tb K n n.at_).1]) n.p2) hf k2 l2
      rw [<- k1,<- l1] at hmT
      have hmL:=cK (ai (T++[cR T (atR n)]) n.p1) (ai (T++[cR T (atR n)]) n.p2) E
      have Xf:(K++[(ic tb K n n.at_).1]).length=j+1:=by simp [E8]
      have hlow:=iB.low
      have hKK:∀ (w':World) (mO pY:Value),EU W0 sb g cap k w' mO pY (ic tb K n n.at_).2 (K++[(ic tb K n n.at_).1]) E->∀ i:Int,-10<=i/\i<=10000->Calls Tryz.prog 85 #[.pointer (some ⟨sb,0,none⟩),.int .i64 i] w' fun v w''=>v=.returned (.int .i64 (au (K++[(ic tb K n n.at_).1]) i))/\w''=w':=fun w' mO pY h' i hi=>gN w' sb 0 pY _ i h'.c.c1 h'.c.t (by omega) hi
      have hMM:∀ (w':World) (mO pY:Value),EU W0 sb g cap k w' mO pY (ic tb K n n.at_).2 (K++[(ic tb K n n.at_).1]) E->Calls Tryz.prog 93 #[.pointer (some ⟨sb,0,none⟩),.int .i64 (au (K++[(ic tb K n n.at_).1]) n.p1),.int .i64 (au (K++[(ic tb K n n.at_).1]) n.p2)] w' fun v w''=>v=.returned (.tuple #[])/\EU W0 sb g cap k w'' mO pY (ic tb K n n.at_).2 (K++[(ic tb K n n.at_).1]) (cJ E (ai (T++[cR T (atR n)]) n.p1) (ai (T++[cR T (atR n)]) n.p2))/\yS g w' w'':=fun w' mO pY h'=>by
       have:=Ji sb g cap mO (ic tb K n n.at_).2 (by omega) hlow (by have:=h'.gs;omega) h'.pg (au (K++[(ic tb K n n.at_).1]) n.p1+1) (au (K++[(ic tb K n n.at_).1]) n.p1) (au (K++[(ic tb K n n.at_).1]) n.p2) E w' (by omega) (by omega) (by omega) (by omega) (by rw [Pb];exact TE) h'.c.c0 (by rw [aa h'.c.y,Pb];rfl) h'.c.p (by rw [Pb];exact h'.r)
       rw [hmT _ (by omega),Pb] at this
       refine this.mono ?_
       rintro _ w'' ⟨rfl,hf,hr⟩
       exact ⟨rfl,h'.ZI hf hr,hf⟩
      have jf:Hid _:=hst
      have HN:Hid _:=hn
      have HS:Hid _:=hS
      have Lx:Hid _:=iB
      have Tr:Hid _:=zW.2
      unfold aI at hadd
      have HAD:Hid _:=hadd
      have tI:Hid _:=hKK
      have Xg:Hid _:=hMM
      have KW:Hid _:=TE
      have l7:Hid _:=uY
      have TF:Hid _:=Xf
      have HML:Hid _:=hmL
      have HEL:Hid _:=Pb
      clear hS jS E8 htl V8 Pb HF zW hnm dS ml hst CL iB hok hadd hmT k1 k2 l1 l2 hlow hKK hMM hn hjl uY TE Xf hmL
      generalize ic tb K n n.at_=X at *
      generalize T++[cR T (atR n)]=T' at *
      generalize cJ E (ai T' n.p1) (ai T' n.p2)=E' at *
      go_wp2_with fail
      refine il.mono ?_
      rintro _ w1 ⟨rfl,hb1⟩
      have CM:=HS.out.below hb1
      clear il b0 b1 bl
      obtain ⟨b0,b1,bl⟩:=P3.out _ CM.b
      have hno:=qQ.out w1 CM.b j n HN.out
      have R6:Hid _:=CM.c.lt
      have Jn:Hid _:=CM
      clear CM hb1 HS
      go_wp2_with fail
      refine hno.mono ?_
      rintro _ w2 ⟨rfl,hb2⟩
      have R2:Below w1.heap.size w1 (w2.alloc (bU n)):=hb2.alloc hb2.size (bU n)
      have TG:=hb2.size
      have TH:=Jn.out.below R2
      have hnb:=aj w2 (bU n)
      have had:=HAD.out _ TH
      have V9:Hid _:=TH
      have KX:Hid _:=hnb
      have hsl2:=af TH.c.y
      unfold bU za at had
      clear hb2 R2 TH hnb hno b0 b1 Jn HAD
      go_wp2_with fail
      refine had.mono ?_
      rintro _ w3 ⟨rfl,Jc,O7,bQ,EK⟩
      have hS3:EU W0 sb g cap k w3 Jc O7 X.2 (K++[X.1]) E:=V9.out.add bQ EK
      have Jo:w3.heap[w2.heap.size]?=some (bU n):=by
       obtain ⟨l1,l2,l3⟩:=R6.out
       rw [bQ.blk w2.heap.size (by simp) (by omega) (fun e=>by have:=l1 _ e;omega) (fun e=>by have:=l2 _ e;omega)]
       exact KX.out
      obtain ⟨d0,d1,d2,d3,d4,d5,d6,d7,d8,d9⟩:=aC Jo
      have kN:=af Jo
      have K5:Hid _:=hS3
      have abA:Hid _:=Jo
      clear bQ EK hS3 Jo had V9 KX R6
      by_cases h7:n.form=7
      ·have q7:((n.form:Int) == 7)=true:=aH (b:=7) h7
       have hst:=jf.out
       rw [if_pos (Or.inl h7)] at hst
       have eA:Hid _:=hst
       have Xh:=tI.out _ _ _ K5.out n.p1 Xd
       have Xi:=tI.out _ _ _ K5.out n.p2 Xe
       have hmm:=Xg.out _ _ _ K5.out
       clear hst jf h7 tI Xg
       go_wp2_with fail
       refine Xh.mono ?_
       rintro _ _ ⟨rfl,rfl⟩
       go_wp2_with fail
       refine Xi.mono ?_
       rintro _ _ ⟨rfl,rfl⟩
       go_wp2_with fail
       refine hmm.mono ?_
       rintro _ w4 ⟨rfl,Xj,_⟩
       have HS4:Hid _:=Xj
       clear Xj hmm Xh Xi
       go_wp2
       go_roundw
       case rel=>exact ⟨j+1,Jc,O7,X.2,D',_,T',E',by omega,by go_num,HS4.out,Lx.out,TF.out,l7.out,KW.out,HML.out.trans HEL.out,eA.out,Tr.out⟩
       case measure=>simp [intOf];omega
      ·have q7:((n.form:Int) == 7)=false:=ah (b:=7) h7
       by_cases h11:n.form=11
       ·have zb:((n.form:Int) == 11)=true:=aH (b:=11) h11
        have hst:=jf.out
        rw [if_pos (Or.inr h11)] at hst
        have eA:Hid _:=hst
        have Xh:=tI.out _ _ _ K5.out n.p1 Xd
        have Xi:=tI.out _ _ _ K5.out n.p2 Xe
        have hmm:=Xg.out _ _ _ K5.out
        clear hst jf h7 h11 tI Xg
        go_wp2_with fail
        refine Xh.mono ?_
        rintro _ _ ⟨rfl,rfl⟩
        go_wp2_with fail
        refine Xi.mono ?_
        rintro _ _ ⟨rfl,rfl⟩
        go_wp2_with fail
        refine hmm.mono ?_
        rintro _ w4 ⟨rfl,Xj,_⟩
        have HS4:Hid _:=Xj
        clear Xj hmm Xh Xi
        go_wp2
        go_roundw
        case rel=>exact ⟨j+1,Jc,O7,X.2,D',_,T',E',by omega,by go_num,HS4.out,Lx.out,TF.out,l7.out,KW.out,HML.out.trans HEL.out,eA.out,Tr.out⟩
        case measure=>simp [intOf];omega
       ·have zb:((n.form:Int) == 11)=false:=ah (b:=11) h11
        have hst:=jf.out
        rw [if_neg (fun h=>h.elim h7 h11)] at hst
        have eA:Hid _:=hst
        clear hst jf h7 h11 tI Xg
        go_wp2
        go_roundw
        case rel=>exact ⟨j+1,Jc,O7,X.2,D',_,T',E,by omega,by go_num,K5.out,Lx.out,TF.out,l7.out,KW.out,HEL.out,eA.out,Tr.out⟩
        case measure=>simp [intOf];omega
     ·have HA:Hid (Xb=E):=by
       have hd:ns.drop j=[]:=List.drop_eq_nil_of_le (by have:=HM.out;omega)
       have hst:=HF.out
       rw [hd] at hst
       rw [hst];exact rfl
      have HS:Hid _:=hS
      clear hS jS E8 htl V8 Pb HF zW
      go_wp2_with fail
      refine il.mono ?_
      rintro _ w1 ⟨rfl,hb1⟩
      have CM:=HS.out.below hb1
      have e0:w1.cell? ⟨sb,0,none⟩=some pv:=CM.c.c0
      have e1:w1.cell? ⟨sb,1,none⟩=some tv:=CM.c.c1
      have e2:w1.cell? ⟨sb,2,none⟩=some (.slice (some ⟨g,0,none⟩) k cap):=by rw [aa CM.c.y];rfl
      have el:=af CM.c.y
      have hr1:w1.heap[w.heap.size+1]?=some (.cells #[.slice none 0 0,.slice none 0 0,.slice none 0 0] 130 (0,0)):=by rw [CM.b.block _ (by have:=HSE.out;omega)];exact HRS.out
      have r0:w1.cell? ⟨w.heap.size+1,0,none⟩=some (.slice none 0 0):=by rw [aa hr1];rfl
      have r1:w1.cell? ⟨w.heap.size+1,1,none⟩=some (.slice none 0 0):=by rw [aa hr1];rfl
      have r2:w1.cell? ⟨w.heap.size+1,2,none⟩=some (.slice none 0 0):=by rw [aa hr1];rfl
      have g0:=ag hr1 0
      have g1:=ag hr1 1
      have g2:=ag hr1 2
      have rl:=af hr1
      obtain ⟨pa,pn,pc,rfl⟩:∃ a n c,pv=.slice a n c:=by obtain ⟨a,c,e⟩:=aF CM.c.p;exact ⟨_,_,_,e⟩
      obtain ⟨ta,tn,tc,rfl⟩:∃ a n c,tv=.slice a n c:=by obtain ⟨a,c,e⟩:=aF CM.c.t;exact ⟨_,_,_,e⟩
      have Jn:Hid _:=CM
      have Ha:Hid _:=hr1
      clear CM hr1 hb1 il b0 b1 HS
      go_wp2
      obtain ⟨WF,Pc⟩:∃ WF,WF=((w1.setCell ⟨w.heap.size+1,0,none⟩ (.slice pa pn pc)).setCell ⟨w.heap.size+1,1,none⟩ (.slice ta tn tc)).setCell ⟨w.heap.size+1,2,none⟩ (.slice (some ⟨g,0,none⟩) k cap):=⟨_,rfl⟩
      have hF:WF.heap[w.heap.size+1]?=some (.cells #[.slice pa pn pc,.slice ta tn tc,.slice (some ⟨g,0,none⟩) k cap] 130 (0,0)):=by rw [Pc];exact ay (ay (ay Ha.out 0 _) 1 _) 2 _
      have u0:WF.cell? ⟨w.heap.size+1,0,none⟩=some (.slice pa pn pc):=by rw [aa hF];rfl
      have u1:WF.cell? ⟨w.heap.size+1,1,none⟩=some (.slice ta tn tc):=by rw [aa hF];rfl
      have u2:WF.cell? ⟨w.heap.size+1,2,none⟩=some (.slice (some ⟨g,0,none⟩) k cap):=by rw [aa hF];rfl
      rw [<- Pc]
      refine bodyPost_ret (v:=.agg #[.slice pa pn pc,.slice ta tn tc,.slice (some ⟨g,0,none⟩) k cap]) (by simp [results,Tryz.results71,go_sem,u0,u1,u2]) rfl ⟨_,_,_,_,_,_,_,rfl,?_,?_,?_⟩
      ·rw [Pc]
       exact (V7.out.trans ((Jn.out.b.mono (Nat.le_of_lt aai)))).trans (eO (eO (eO (Below.refl _ _) (by omega)) (by omega)) (by omega))
      ·rw [<- Pa.out,<- j8.out,HA.out,Pc]
       exact ax Jn.out.r (fun i hi=>by
        simp only [Value.ownBlock,Option.some.injEq] at hi
        subst hi
        have:=Jn.out.gs
        rw [ak _ _ (by simp only;omega),ak _ _ (by simp only;omega),ak _ _ (by simp only;omega)])
      ·intro i hi
       simp only [Value.ownBlock,Option.some.injEq] at hi
       have:=Jn.out.gs
       omega
def bb (E:List Nat) (l:List NR):List Nat:=(l.filter (fun n=>n.form == 4 && bu E n.at_ == n.at_)).map (·.at_)
theorem Ba (E:List Nat) (l:List NR) (n:NR):bb E (l++[n])=bb E l++(if n.form=4/\bu E n.at_=n.at_ then [n.at_] else []):=by
 unfold bb
 rw [List.filter_append,List.map_append]
 by_cases h:n.form=4/\bu E n.at_=n.at_
 ·rw [if_pos h];simp [h.1,h.2]
 ·rw [if_neg h]
  have:(n.form == 4 && bu E n.at_ == n.at_)=false:=by
   rw [Bool.and_eq_false_iff]
   by_cases h4:n.form=4
   ·right;rw [beq_eq_false_iff_ne];exact fun e=>h ⟨h4,e⟩
   ·left;rw [beq_eq_false_iff_ne];exact h4
  simp [this]
theorem oh (E:List Nat) (l:List NR):(bb E l).length<=l.length:=by
 unfold bb;rw [List.length_map];exact List.length_filter_le _ _
theorem take_one {α:Type} (l:List α) (k:Nat) (x:α) (h:l[k]?=some x):l.take (k+1)=l.take k++[x]:=by rw [List.take_add_one,h];rfl
theorem Fm (w:World) (sb:Nat) (ev nv ov:Value) (E:List Nat) (ns:List NR) (op:List Int) (h:bg w nv ov ns op) (ho:wq ns op) (hl:ns.length<=9000) (hc:w.cell? ⟨sb,2,none⟩=some ev) (hr:w.ownsRow 0 3 1 ev E.length (cF E)) (hE:E.length<=9000) (hat:∀ n∈ns,n.at_<=9000) :
  Calls Tryz.prog 72 #[ptr sb,aJ nv ov] w fun e w'=>∃ fv,e=.returned fv/\w'.ownsRow w.heap.size 3 1 fv (bb E (bE ns op)).length (cF (bb E (bE ns op)))/\Below w.heap.size w w':=by
 obtain ⟨i0,hi,hz0,hz1,hz2⟩:=info_parts Tryz.oV
 have HI:Hid _:=hi
 have pZ:Hid _:=hz0
 have p8:Hid _:=hz1
 have p9:Hid _:=hz2
 clear hi hz0 hz1 hz2
 have aaj:=World.block_lt_of_cell? _ _ hc
 have hlen:=fun (w':World) (hb:Below w.heap.size w w')=>gJ w' nv ov ns op (h.below hb)
 have gO:=fun (w':World) (hb:Below w.heap.size w w') (k i:Nat) (n:NR) (hk:op[k]?=some (i:Int)) (hi:ns[i]?=some n)=>mS w' nv ov ns op (h.below hb) k i n hk hi hl (by rw [ho.1];omega)
 have TI:=fun (w':World) (hb:Below w.heap.size w w') (p:Nat) (hp:p<=10000)=>o6 w' sb 0 ev E p (by rw [hb.cell (p:=⟨sb,2,none⟩) aaj];exact hc) (aB hr hb) hE hp
 have Xk:∀ n∈bE ns op,n.at_<=9000:=fun n hn=>by
  unfold bE at hn
  obtain ⟨x,hx,rfl⟩:=List.mem_map.1 hn
  cases e:ns[x.toNat]? with
  | none=>simp [Fc]
  | some y=>exact hat y (List.mem_of_getElem? e)
 obtain ⟨a0,j7,e0⟩:=aF h.nd
 obtain ⟨a1,kO,e1⟩:=aF h.op
 rw [ho.1] at e1
 obtain ⟨m,hm⟩:∃ m,m=ns.length:=⟨_,rfl⟩
 rw [<- hm] at e0 e1 hl
 subst e0
 subst e1
 have HO:Hid _:=ho
 have HM:Hid _:=hm
 unfold aJ at hlen gO
 unfold aJ
 unfold ptr at TI
 unfold aI at gO
 rw [<- hm] at hlen
 have l7:Hid _:=hlen
 have Ff:Hid _:=gO
 have TJ:Hid _:=TI
 have Lv:Hid _:=Xk
 obtain ⟨O,hO⟩:∃ O,O=bE ns op:=⟨_,rfl⟩
 have hOl:O.length=m:=by rw [hO,kP,ho.1,hm]
 rw [<- hO] at Lv ⊢
 have HOE:Hid _:=hO
 clear hlen gO ho h hm TI Xk hO hc hr hat
 have Cg:Below w.heap.size w (w.alloc (.cells #[.slice a0 m j7,.slice a1 m kO] 62)):=(Below.refl _ w).alloc (Nat.le_refl _) _
 have dP:Hid _:=Cg
 clear Cg
 show Calls _ _ #[Value.pointer (some ⟨sb,0,none⟩),_] w _
 go_enter Tryz.func72,Tryz.ntmps72
 go_wp2
 obtain ⟨WB,qL⟩:∃ WB,WB=w.alloc (.cells #[.slice a0 m j7,.slice a1 m kO] 62):=⟨_,rfl⟩
 have CD:Hid (WB.heap.size=w.heap.size+1):=(show WB.heap.size=w.heap.size+1 by rw [qL];simp)
 have pQ:Hid (∀ wr,Below WB.heap.size WB wr->wr.cell? ⟨w.heap.size,0,none⟩=some (.slice a0 m j7)/\wr.cell? ⟨w.heap.size,1,none⟩=some (.slice a1 m kO)/\w.heap.size < wr.heap.size):=by
  intro wr hb
  rw [qL] at hb
  exact dm hb
 rw [<- qL] at dP ⊢
 clear qL
 go_loopw [5,6,7] (fun v5 i _ wr=>∃ (k:Nat),k<=m/\i=.int .i64 k/\wr.ownsRow WB.heap.size 3 1 v5 (bb E (O.take k)).length (cF (bb E (O.take k)))/\Below WB.heap.size WB wr) (fun _ i _ _=>m - (intOf i).toNat)
 case atStart =>
  refine ⟨0,Nat.zero_le _,rfl,⟨rfl,Or.inr ⟨w.heap.size+1,0,#[],rfl,by rw [CD.out];exact Nat.le_refl _,?_,Nat.le_refl _,by unfold maxLen;omega,rfl,rfl⟩⟩,(Below.refl _ WB).alloc (Nat.le_refl _) _⟩
  rw [<- CD.out];exact aj _ _
 case round =>
  obtain ⟨k,hk,rfl,hown,dF⟩:=hrel
  obtain ⟨b0,b1,bl⟩:=pQ.out _ dF
  have zg:=dP.out.trans (dF.mono dP.out.size)
  have il:=l7.out _ zg
  have l9:=dF.size
  by_cases hlt:k < m
  ·obtain ⟨i,n,hop,hni,ml,hmem⟩:=A4 HO.out k (by have:=HM.out;omega)
   rw [<- HOE.out] at ml hmem
   have hOk:O[k]?=some n:=by
    have:=congrArg (fun l=>l[0]?) ml
    simpa using this
   have hat:=Lv.out n hmem
   have gY:=Ba E (O.take k) n
   rw [<- take_one O k n hOk] at gY
   have lF:Hid _:=gY
   have Jh:Hid _:=hop
   have WM:Hid _:=hni
   have dY:Hid _:=hown
   have iA:Hid _:=dF
   have hfl:(bb E (O.take k)).length<=k:=by have:=oh E (O.take k);simp only [List.length_take] at this;omega
   clear hop hni ml hown gY hOk hmem
   go_wp2_with fail
   refine il.mono ?_
   rintro _ w1 ⟨rfl,hb1⟩
   have jF:=dF.trans (hb1.mono l9)
   obtain ⟨d0,d1,dl⟩:=pQ.out _ jF
   have gO:=Ff.out w1 (dP.out.trans (jF.mono dP.out.size)) k i n Jh.out WM.out
   have dG:Hid _:=hb1
   clear jF hb1 il b0 b1 dF
   go_wp2_with fail
   refine gO.mono ?_
   rintro _ w2 ⟨rfl,hb2⟩
   have eH:Below wr.heap.size wr w2:=dG.out.trans (hb2.mono dG.out.size)
   have hW3:Below wr.heap.size wr (w2.alloc (bU n)):=eH.alloc eH.size (bU n)
   have TK:=iA.out.trans (hW3.mono l9)
   have hfi:=fun nq=>TJ.out ((w2.alloc (bU n)).drewN nq) (fU (dP.out.trans (TK.mono dP.out.size))) n.at_ (by omega)
   have G5:Hid _:=hW3
   have iV:Hid _:=TK
   have Fh:Hid _:=aB dY.out hW3
   have abB:=iA.out.size
   have abC:=G5.out.size
   unfold bU za at hfi G5 iV Fh
   clear hb2 eH hW3 gO d0 d1 TK
   by_cases h4:n.form=4
   ·have q4:((n.form:Int) == 4)=true:=aH (b:=4) h4
    by_cases hf:bu E n.at_=n.at_
    ·have q5:(((bu E n.at_:Nat):Int) == (n.at_:Int))=true:=by rw [hf];simp
     have gY:=lF.out
     rw [if_pos ⟨h4,hf⟩] at gY
     have kS:Hid _:=gY
     generalize bu E n.at_=ft at *
     clear gY lF h4 hf
     obtain ⟨W3,sw⟩:∃ W3,W3=w2.alloc (.cells #[.int .i64 n.form,.int .i64 n.at_,.int .i64 n.aR,.int .i64 n.num,.string (bs n.word),.int .i64 n.region,.int .i64 n.source,.int .i64 n.p0,.int .i64 n.p1,.int .i64 n.p2] 108):=⟨_,rfl⟩
     rw [<- sw] at hfi iV Fh
     have hnb:W3.heap[w2.heap.size]?=some (bU n):=by rw [sw];exact aj _ _
     obtain ⟨d0,d1,d2,d3,d4,d5,d6,d7,d8,d9⟩:=aC hnb
     have kN:=af hnb
     have TD:Hid _:=sw
     clear sw hnb
     go_upto_region 6 with fail
     rw [<- TD.out]
     go_quiet ((go_at_call 73;exact Calls.quiet_of_same (hfi _)))
     have pP:Hid (Below WB.heap.size WB ((W3.drewN nq).alloc (.cells #[.int .i64 n.at_] 3))):=by
      have h1:=fU (n:=nq) iV.out
      exact h1.alloc h1.size _
     have KY:Hid (((W3.drewN nq).alloc (.cells #[.int .i64 n.at_] 3)).ownsRow WB.heap.size 3 1 u5 (bb E (O.take k)).length (cF (bb E (O.take k)))):=(aB Fh.out (fU (Below.refl _ _))).alloc _
     have Xl:(W3.drewN nq).heap.size=W3.heap.size:=rfl
     have zi:Hid (∀ (j:Nat) (u:Value),([.int .i64 n.at_]:List Value)[j]?=some u->((W3.drewN nq).alloc (.cells #[.int .i64 n.at_] 3)).cell? ((⟨W3.heap.size,0,none⟩:Addr).add j)=some u):=by
      intro j u hj
      have hq:=bJ (W3.drewN nq) [.int .i64 n.at_] 3 j
      rw [Xl] at hq
      rw [<- hj,<- hq];first | done | rfl
     have wo:Hid (∀ u∈([.int .i64 n.at_]:List Value),u.oneCell'=true):=by intro v hv;simp only [List.mem_singleton] at hv;subst hv;rfl
     clear Xl
     have Xm:WB.heap.size<=W3.heap.size:=iV.out.size
     go_wp2_with (at_builtin;go_must (refine wpList_append_own _ rfl (.tmp 30) (.tmp 33) 22 rfl WB.heap.size 3 i0 _ 1 8 Tryz.oY HI.out pZ.out p8.out p9.out rfl (by decide) u5 (bb E (O.take k)).length (cF (bb E (O.take k))) rfl KY.out ⟨W3.heap.size,0,none⟩ 1 1 [.int .i64 n.at_] rfl rfl zi.out wo.out ?c3 ?c4 ?c5 ?_))
     case c3=>unfold maxLen;omega
     case c4=>omega
     case c5=>first | omega | (simp;omega)
     intro v' w6 hown' hgrow hnil
     have Ch:Hid (Below WB.heap.size WB w6):=(pP.out).grown hgrow pP.out.size (fun b hb=>(World.ownsRow.lt KY.out b hb).1)
     have PO:Hid (w6.ownsRow WB.heap.size 3 1 v' (bb E (O.take (k+1))).length (cF (bb E (O.take (k+1))))):=by
      show w6.ownsRow WB.heap.size 3 1 v' (bb E (O.take (k+1))).length (cF (bb E (O.take (k+1))))
      rw [kS.out,List.length_append]
      unfold cF at hown' ⊢
      rw [List.map_append]
      exact hown'
     clear hown' hgrow hnil
     go_wp2
     go_roundw
     case rel=>exact ⟨k+1,by omega,by go_num,PO.out,Ch.out⟩
     case measure=>simp [intOf];omega
    ·have q5:(((bu E n.at_:Nat):Int) == (n.at_:Int))=false:=by rw [beq_eq_false_iff_ne];omega
     have gY:=lF.out
     rw [if_neg (fun h=>hf h.2),List.append_nil] at gY
     have kS:Hid _:=gY
     generalize bu E n.at_=ft at *
     clear gY lF h4 hf
     obtain ⟨W3,sw⟩:∃ W3,W3=w2.alloc (.cells #[.int .i64 n.form,.int .i64 n.at_,.int .i64 n.aR,.int .i64 n.num,.string (bs n.word),.int .i64 n.region,.int .i64 n.source,.int .i64 n.p0,.int .i64 n.p1,.int .i64 n.p2] 108):=⟨_,rfl⟩
     rw [<- sw] at hfi iV Fh
     have hnb:W3.heap[w2.heap.size]?=some (bU n):=by rw [sw];exact aj _ _
     obtain ⟨d0,d1,d2,d3,d4,d5,d6,d7,d8,d9⟩:=aC hnb
     have kN:=af hnb
     have TD:Hid _:=sw
     clear sw hnb
     go_upto_region 6 with fail
     rw [<- TD.out]
     go_quiet ((go_at_call 73;exact Calls.quiet_of_same (hfi _)))
     have KY:Hid ((W3.drewN nq).ownsRow WB.heap.size 3 1 u5 (bb E (O.take (k+1))).length (cF (bb E (O.take (k+1))))):=by
      show (W3.drewN nq).ownsRow WB.heap.size 3 1 u5 (bb E (O.take (k+1))).length (cF (bb E (O.take (k+1))))
      rw [kS.out];exact aB Fh.out (fU (Below.refl _ _))
     have pP:Hid _:=fU (n:=nq) iV.out
     go_wp2
     go_roundw
     case rel=>exact ⟨k+1,by omega,by go_num,KY.out,pP.out⟩
     case measure=>simp [intOf];omega
   ·have q4:((n.form:Int) == 4)=false:=ah (b:=4) h4
    have gY:=lF.out
    rw [if_neg (fun h=>h4 h.1),List.append_nil] at gY
    have kS:Hid _:=gY
    clear gY lF h4 hfi
    obtain ⟨W3,sw⟩:∃ W3,W3=w2.alloc (.cells #[.int .i64 n.form,.int .i64 n.at_,.int .i64 n.aR,.int .i64 n.num,.string (bs n.word),.int .i64 n.region,.int .i64 n.source,.int .i64 n.p0,.int .i64 n.p1,.int .i64 n.p2] 108):=⟨_,rfl⟩
    rw [<- sw] at iV Fh
    have hnb:W3.heap[w2.heap.size]?=some (bU n):=by rw [sw];exact aj _ _
    obtain ⟨d0,d1,d2,d3,d4,d5,d6,d7,d8,d9⟩:=aC hnb
    have kN:=af hnb
    have TD:Hid _:=sw
    clear sw hnb
    go_upto_region 6 with fail
    rw [<- TD.out]
    go_quiet (fail)
    have KY:Hid ((W3.drewN nq).ownsRow WB.heap.size 3 1 u5 (bb E (O.take (k+1))).length (cF (bb E (O.take (k+1))))):=by
     show (W3.drewN nq).ownsRow WB.heap.size 3 1 u5 (bb E (O.take (k+1))).length (cF (bb E (O.take (k+1))))
     rw [kS.out];exact aB Fh.out (fU (Below.refl _ _))
    have pP:Hid _:=fU (n:=nq) iV.out
    go_wp2
    go_roundw
    case rel=>exact ⟨k+1,by omega,by go_num,KY.out,pP.out⟩
    case measure=>simp [intOf];omega
  ·have G6:O.take k=O:=by rw [List.take_of_length_le (by omega)]
   rw [G6] at hown
   have iA:Hid _:=dF
   have dY:Hid _:=hown
   clear dF hown G6
   go_wp2_with fail
   refine il.mono ?_
   rintro _ w1 ⟨rfl,hb1⟩
   have dG:Hid _:=dP.out.trans ((iA.out.trans (hb1.mono l9)).mono dP.out.size)
   have RZ:Hid _:=aB dY.out hb1
   clear hb1 il
   go_wp2
   go_ret
   exact ⟨_,rfl,dn RZ.out (fun k hk=>by have:=CD.out;have:=(World.ownsRow.lt RZ.out k hk).1;omega),dG.out⟩
open Go.Lib (decDigits)
def bP (k:Kw) (nm:List UInt8) (i:Nat) (x:List UInt8):List UInt8:=(if (k=.aT/\i=0)\/(k=.loop/\i=1) then 32::nm else [])++(32::x)
def bn (k:Kw) (nm:List UInt8):Nat->List (List UInt8)->List UInt8
 | _,[]=>[]
 | i,x::r=>bP k nm i x++bn k nm (i+1) r
theorem qR (k:Kw) (nm:List UInt8) (x:List UInt8):∀ (l:List (List UInt8)) (i:Nat),bn k nm i (l++[x])=bn k nm i l++bP k nm (i+l.length) x
 | [],i=>by simp [bn]
 | y::r,i=>by
  simp only [List.cons_append,bn,qR k nm x r (i+1),List.append_assoc,List.length_cons]
  rw [show i+1+r.length=i+(r.length+1) from by omega]
mutual
def PT.lO:PT->List UInt8
 | .num _ s=>decDigits (aq s).toNat
 | .name _ s=>s
 | .node _ k nm _ kids=>if k=.new then (ig kids).headD [] else 40::(k.bytes++(bn k nm 0 (ig kids)++[41]))
def ig:List PT->List (List UInt8)
 | []=>[]
 | t::r=>t.lO::ig r
end
theorem CN:∀ ts:List PT,(ig ts).length=ts.length
 | []=>rfl
 | _::r=>by simp [ig,CN r]
mutual
def PT.bL:PT->Prop
 | .num _ s=>0<=aq s/\aq s<=9999
 | .name _ s=>s.length<=9000
 | .node _ _ nm _ kids=>nm.length<=9000/\bI kids
def bI:List PT->Prop
 | []=>True
 | t::r=>t.bL/\bI r
end
theorem kT (u:Nat) (h:u<=9999):(decDigits u).length<=4:=by
 rw [Go.Lib.decDigits];split
 ·simp
 ·rw [Go.Lib.decDigits];split
  ·simp
  ·rw [Go.Lib.decDigits];split
   ·simp
   ·rw [Go.Lib.decDigits];split
    ·simp
    ·omega
theorem Fo (k:Kw) (nm:List UInt8) (i:Nat) (x:List UInt8) (h:nm.length<=9000):(bP k nm i x).length<=9002+x.length:=by
 unfold bP;split <;> simp <;> omega
theorem wF (lo hi:Int):∀ (l:List UInt8) (c:UInt8),c∈l.take (run lo hi l)->jX lo hi c=true
 | [],c,h=>by simp at h
 | d::r,c,h=>by
  simp only [run] at h
  split at h
  ·rename_i hd
   rw [List.take_succ_cons,List.mem_cons] at h
   rcases h with h | h
   ·rw [h];exact hd
   ·exact wF lo hi r c h
  ·simp at h
theorem wG:∀ (l:List UInt8) (a:Int),(∀ c∈l,jX 48 57 c=true)->0<=a ->
  0<=l.foldl (fun n c=>if c=35 then n else 10 * n+(c.toNat:Int) - 48) a/\l.foldl (fun n c=>if c=35 then n else 10 * n+(c.toNat:Int) - 48) a<=(a+1) * ((10 ^ l.length:Nat):Int) - 1
 | [],a,_,h=>by simp;omega
 | c::r,a,hd,h=>by
  have hc:=hd c (by simp)
  simp only [jX,Bool.and_eq_true,decide_eq_true_eq] at hc
  have Bb:c≠35:=by intro e;subst e;simp at hc
  have ih:=wG r (10 * a+(c.toNat:Int) - 48) (fun x hx=>hd x (by simp [hx])) (by omega)
  simp only [List.foldl_cons,if_neg Bb,List.length_cons]
  refine ⟨ih.1,Int.le_trans ih.2 ?_⟩
  have e:((10 ^ (r.length+1):Nat):Int)=10 * ((10 ^ r.length:Nat):Int):=by rw [Nat.pow_succ];omega
  rw [e]
  have hp:(0:Int)<=((10 ^ r.length:Nat):Int):=Int.natCast_nonneg _
  have h2:(10 * a+(c.toNat:Int) - 48+1)<=(a+1) * 10:=by omega
  have h3:=Int.mul_le_mul_of_nonneg_right h2 hp
  rw [Int.mul_assoc] at h3
  omega
def mg (t:Tk):Prop:=(t.c=.num->0<=aq t.s/\aq t.s<=9999)/\(t.c=.yX->t.s.length<=9000)
theorem LR (l:List UInt8):((aK l).2=.num->0<=aq (l.take (aK l).1)/\aq (l.take (aK l).1)<=9999)/\((aK l).2=.yX->(aK l).1<=9000):=by
 unfold aK
 split
 ·refine ⟨fun h=>?_,fun h=>?_⟩
  ·simp only [ep] at h
   split at h
   ·simp at h
   ·split at h <;> simp at h
  ·simp only [ep] at h
   split at h
   ·simp at h
   ·split at h
    ·simp only;omega
    ·simp at h
 ·split
  ·refine ⟨fun h=>?_,fun h=>?_⟩
   ·simp only at h
    split at h
    ·rename_i hn
     simp only [cj,Bool.and_eq_true,decide_eq_true_eq] at hn
     have hf:=wG (l.take (run 48 57 l)) 0 (fun c hc=>wF 48 57 l c hc) (by omega)
     have hp:10 ^ (l.take (run 48 57 l)).length<=10 ^ 4:=Nat.pow_le_pow_right (by omega) hn.1.2
     unfold aq
     simp only
     omega
    ·simp at h
   ·simp only at h
    split at h <;> simp at h
  ·split
   ·simp
   ·split
    ·refine ⟨fun h=>?_,fun h=>?_⟩ <;> (simp only at h;split at h <;> simp at h)
    ·refine ⟨fun h=>?_,fun _=>by simp⟩
     simp only at h
     split at h
     ·simp at h
     ·split at h <;> simp at h
theorem eJ (l:List UInt8):∀ t∈tokens l,mg t:=by
 intro t ht
 obtain ⟨l',_,hs,hc⟩:=si _ _ _ t ht
 have h:=LR l'
 unfold mg
 rw [hs,hc]
 exact ⟨h.1,fun e=>by have:=h.2 e;simp;omega⟩
mutual
theorem PE.bL {ae:Bool}:∀ {l:List Tk} {e:PT} {r:List Tk},PE ae l e r->(∀ t∈l,mg t)->e.bL/\∀ t∈r,mg t
 | _,_,_,.num (t:=t) h,ha=>⟨by simp only [PT.bL];exact (ha t (by simp)).1 h,fun x hx=>ha x (by simp [hx])⟩
 | _,_,_,.name (t:=t) h,ha=>⟨by simp only [PT.bL];exact (ha t (by simp)).2 h,fun x hx=>ha x (by simp [hx])⟩
 | _,_,_,.node _ _ _ h4,ha=>by
  have h:=PW.bL h4 (fun x hx=>ha x (by simp [hx]))
  exact ⟨by simp only [PT.bL];exact ⟨h.1,h.2.1⟩,h.2.2⟩
theorem PW.bL {ae:Bool}:∀ {ws:List Wt} {l:List Tk} {nm rg:List UInt8} {kids:List PT} {r:List Tk},PW ae ws l nm rg kids r->(∀ t∈l,mg t)->nm.length<=9000/\bI kids/\∀ t∈r,mg t
 | _,_,_,_,_,_,.nil,ha=>⟨by simp,by simp [bI],ha⟩
 | _,_,_,_,_,_,.close _ h1,ha=>PW.bL h1 (fun x hx=>ha x (by simp [hx]))
 | _,_,_,_,_,_,.name (t:=t) h h1,ha=>by
  have h':=PW.bL h1 (fun x hx=>ha x (by simp [hx]))
  exact ⟨(ha t (by simp)).2 h,h'.2⟩
 | _,_,_,_,_,_,.region _ h1,ha=>PW.bL h1 (fun x hx=>ha x (by simp [hx]))
 | _,_,_,_,_,_,.e h0 h1,ha=>by
  have a:=PE.bL h0 ha
  have b:=PW.bL h1 a.2
  exact ⟨b.1,by simp only [bI];exact ⟨a.1,b.2.1⟩,b.2.2⟩
end
open Go.RowKit Go.Shelf Go.Sort
def wH (w0:World):Prop:=∀ (n:Nat) (w:World),n<=9999->Below w0.heap.size w0 w->Calls Tryz.prog 24 #[.int .i64 n] w fun e w'=>e=.returned (.string (bs (decDigits n)))/\Below w.heap.size w w'
shelf_lay LaysM.n171 Nm 171 at Tryz as Tryz.LS
theorem vD (w0:World) (htab:Lib.TabIs Tryz.prog w0 "internal/strconv.uint64pow10" .u64 Lib.pow10Tab):wH w0:=by
 intro n w hn hb
 refine (Any.strconv_Itoa Tryz.LS (n:Int) (by omega) (by omega) w (Lib.tabBelow_of_tabIs htab w hb)).mono ?_
 rintro e w' ⟨rfl,k,os,rfl⟩
 refine ⟨?_,Lib.below_grow _ _ (Nat.le_refl _) k os⟩
 have e1:Lib.itoa (n:Int)=decDigits n:=by
  unfold Lib.itoa;rw [if_neg (by omega)];rfl
 rw [e1];rfl
end Go.Proofs.YtpicaknklgccoabGreatDoor
