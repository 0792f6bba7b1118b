import Derived.Test.YtpicaknklgccoabGreatDoorS7
set_option maxHeartbeats 8000000
set_option maxRecDepth 100000
namespace Go.Proofs.YtpicaknklgccoabGreatDoor
open Go.RowKit
theorem Tryz.VR:(Tryz.prog.info? 146).map (fun i=>(i.zero,i.size,i.bytes))=some (some (.agg #[.int .i64 0,.int .i64 0,.int .i64 0,.int .i64 0]),4,32):=by kernel_rfl
theorem Tryz.VT:Tryz.prog.underlying 100=some (.slice 146):=by kernel_rfl
def ji (r a b:Nat) (p:TP):Bool:=p.r == r && p.a == a && p.b == b
def dh (tb:List TP) (r a b:Nat):Nat × List TP:=match tb.findIdx? (ji r a b) with
 | some i=>(i+1,tb)
 | none=>(tb.length+1,tb++[⟨r,a,b,1+(fD tb a).sz+(fD tb b).sz⟩])
structure uB (cb:Nat) (w w':World) (pv tv mO pY:Value):Prop where
 os:w'.os=w.os
 tape:w'.tape=w.tape
 output:w'.output=w.output
 size:w.heap.size<=w'.heap.size
 blk:∀ k,k < w.heap.size->k≠cb->pv.ownBlock≠some k->tv.ownBlock≠some k->w'.heap[k]?=w.heap[k]?
 p:∀ g,mO.ownBlock=some g->pv.ownBlock=some g\/w.heap.size<=g
 t:∀ g,pY.ownBlock=some g->tv.ownBlock=some g\/w.heap.size<=g
theorem uB.trans {cb:Nat} {w w1 w2:World} {pv tv pv1 tv1 Zx tv2:Value} (h:uB cb w w1 pv tv pv1 tv1) (h':uB cb w1 w2 pv1 tv1 Zx tv2):uB cb w w2 pv tv Zx tv2:=by
 refine ⟨h'.os.trans h.os,h'.tape.trans h.tape,h'.output.trans h.output,Nat.le_trans h.size h'.size,?_,?_,?_⟩
 ·intro k hk hc hp ht
  rw [h'.blk k (Nat.lt_of_lt_of_le hk h.size) hc (fun e=>by rcases h.p k e with e | e;exact hp e;omega) (fun e=>by rcases h.t k e with e | e;exact ht e;omega)]
  exact h.blk k hk hc hp ht
 ·intro g hg
  rcases h'.p g hg with e | e
  ·exact h.p g e
  ·exact Or.inr (Nat.le_trans h.size e)
 ·intro g hg
  rcases h'.t g hg with e | e
  ·exact h.t g e
  ·exact Or.inr (Nat.le_trans h.size e)
theorem uB.below {w w':World} (cb:Nat) (pv tv:Value) (h:Below w.heap.size w w'):uB cb w w' pv tv pv tv:=⟨h.os,h.tape,h.output,h.size,fun k hk _ _ _=>h.block k hk,fun _ h=>Or.inl h,fun _ h=>Or.inl h⟩
theorem A1.lt {cb:Nat} {w:World} {pv tv:Value} {tb:List TP} {K:List Nat} (h:A1 cb w pv tv tb K):(∀ k,pv.ownBlock=some k->k < w.heap.size)/\(∀ k,tv.ownBlock=some k->k < w.heap.size)/\cb < w.heap.size :=
 ⟨fun k hk=>(h.p.lt k hk).2,fun k hk=>(h.t.lt k hk).2,af h.y⟩
theorem fJ.lt {cb o:Nat} {A:Array Value} {T:TypeId} {w:World} {pv tv:Value} {tb:List TP} {K:List Nat} (h:fJ cb o A T w pv tv tb K):(∀ k,pv.ownBlock=some k->k < w.heap.size)/\(∀ k,tv.ownBlock=some k->k < w.heap.size)/\cb < w.heap.size :=
 ⟨fun k hk=>(h.p.lt k hk).2,fun k hk=>(h.t.lt k hk).2,af h.y⟩
theorem fJ.abv {cb o:Nat} {A:Array Value} {T:TypeId} {w W0 w':World} {pv tv:Value} {tb:List TP} {K:List Nat} (h:fJ cb o A T w pv tv tb K) (x:TP) {g cap:Nat} (hW:Below w.heap.size w W0) (hg:W0.grownBy w' pv.ownBlock)
  (hown:w'.ownsRow 0 146 4 (.slice (some ⟨g,0,none⟩) (tb.length+1) cap) (tb.length+1) (tb.flatMap Ci++Ci x)) (ik:pv.ownBlock=some g\/W0.heap.size<=g) :
  uB cb w (w'.setCell ⟨cb,o,none⟩ (.slice (some ⟨g,0,none⟩) (tb.length+1) cap)) pv tv (.slice (some ⟨g,0,none⟩) (tb.length+1) cap) tv/\fJ cb o (A.setIfInBounds o (.slice (some ⟨g,0,none⟩) (tb.length+1) cap)) T (w'.setCell ⟨cb,o,none⟩ (.slice (some ⟨g,0,none⟩) (tb.length+1) cap)) (.slice (some ⟨g,0,none⟩) (tb.length+1) cap) tv (tb++[x]) K:=by
 obtain ⟨l1,l2,l3⟩:=h.lt
 have lH:=hW.size
 have hgs:=hg.size
 have yW:W0.heap[cb]?=some (.cells A T (0,0)):=by rw [hW.block cb l3];exact h.y
 have yw:=cE hg yW h.py
 have n8:g≠cb:=by
  rcases ik with e | e
  ·intro e';rw [e'] at e;exact h.py e
  ·omega
 have kp:∀ k,k < w.heap.size->k≠cb->pv.ownBlock≠some k->(w'.setCell ⟨cb,o,none⟩ (.slice (some ⟨g,0,none⟩) (tb.length+1) cap)).heap[k]?=w.heap[k]?:=by
  intro k hk hkp hne
  rw [ak _ _ (by simpa using hkp),hg.block k (by omega) (fun e=>hne e.symm),hW.block k hk]
 refine ⟨⟨hg.os.trans hW.os,hg.tape.trans hW.tape,hg.output.trans hW.output,by simp only [World.setCell,Array.size_modify];omega,fun k hk hp hs _=>kp k hk hp hs,fun g' hg'=>by simp only [Value.ownBlock,Option.some.injEq] at hg';subst hg';rcases ik with e | e;exact Or.inl e;exact Or.inr (by omega),fun _ h=>Or.inl h⟩,?_⟩
 refine ⟨ay yw o _,by rw [Array.getElem?_setIfInBounds,if_pos rfl,if_pos (Array.getElem?_eq_some_iff.1 h.a).1],by rw [Array.getElem?_setIfInBounds,if_neg (by omega)];exact h.b,by have:=ax (w':=w'.setCell ⟨cb,o,none⟩ (.slice (some ⟨g,0,none⟩) (tb.length+1) cap)) hown (fun k hk=>by simp only [Value.ownBlock,Option.some.injEq] at hk;subst hk;exact ak _ _ (by simpa using n8));simpa using this,ax h.t (fun k hk=>kp k (l2 k hk) (fun e=>h.ty (by rw [hk,e])) (fun e=>h.pt k e hk)),by simp only [Value.ownBlock,ne_eq,Option.some.injEq];exact n8,h.ty,fun k hk hk'=>by
   simp only [Value.ownBlock,Option.some.injEq] at hk
   rcases ik with e | e
   ·rw [hk] at e;exact h.pt k e hk'
   ·have:=l2 k hk';omega⟩
theorem KV {tb:List TP} {r a b:Nat} (h:∀ (j:Nat) (p:TP),tb[j]?=some p->ji r a b p=false):tb.findIdx? (ji r a b)=none:=by
 rw [List.findIdx?_eq_none_iff]
 intro x hx
 obtain ⟨j,hj⟩:=List.mem_iff_getElem?.1 hx
 exact h j x hj
theorem O4 {tb:List TP} {r a b k:Nat} {p:TP} (hk:tb[k]?=some p) (hp:ji r a b p=true) (h:∀ (j:Nat) (q:TP),j < k->tb[j]?=some q->ji r a b q=false):tb.findIdx? (ji r a b)=some k:=by
 obtain ⟨hk1,hk2⟩:=List.getElem?_eq_some_iff.1 hk
 rw [List.findIdx?_eq_some_iff_getElem]
 refine ⟨hk1,by rw [hk2];exact hp,fun j hj=>?_⟩
 have:=h j tb[j] hj (List.getElem?_eq_getElem (by omega))
 rw [this];simp
theorem wrap_small (n:Int) (h:-1000000<=n/\n<=1000000):IntKind.i64.wrap n=n:=by
 have e:IntKind.i64.wrap n=(n+9223372036854775808) % 18446744073709551616 - 9223372036854775808:=by simp [IntKind.wrap,IntKind.bits,IntKind.signed];omega
 rw [e];omega
theorem VU (a b:Nat):((a:Int) == (b:Int))=(a == b):=by
 rw [Bool.eq_iff_iff];simp only [beq_iff_eq];omega
theorem Jb (w:World) (cb o:Nat) (A:Array Value) (T:TypeId) (pv tv:Value) (tb:List TP) (K:List Nat) (r a b:Nat) (h:fJ cb o A T w pv tv tb K) (hl:tb.length<=8999) (ha:a<=9500) (hb:b<=9500) (hsz:(fD tb a).sz<=10000/\(fD tb b).sz<=10000) :
  Calls Tryz.prog 106 #[.pointer (some ⟨cb,o,none⟩),.int .i64 r,.int .i64 a,.int .i64 b] w fun v w'=>v=.returned (.int .i64 (dh tb r a b).1)/\∃ mO,uB cb w w' pv tv mO tv/\fJ cb o (A.setIfInBounds o mO) T w' mO tv (dh tb r a b).2 K:=by
 obtain ⟨i0,hi,hz0,hz1,hz2⟩:=info_parts Tryz.VR
 have HI:Hid _:=hi
 have pZ:Hid _:=hz0
 have p8:Hid _:=hz1
 have p9:Hid _:=hz2
 clear hi hz0 hz1 hz2
 have HH:Hid _:=h
 obtain ⟨m,hm⟩:∃ m,m=tb.length:=⟨_,rfl⟩
 obtain ⟨ao,oc,Ss⟩:=aF h.p
 rw [<- hm] at Ss hl
 have y0:w.cell? ⟨cb,o,none⟩=some (.slice ao m oc):=by rw [h.c0,<- Ss]
 have yQ:=h.lt.2.2
 have HM:Hid _:=hm
 have Pj:Hid _:=Ss
 have VV:=fun (w':World) (hb':Below w.heap.size w w')=>oT w' cb o pv tb a (by rw [hb'.cell (p:=⟨cb,o,none⟩) yQ,h.c0]) (aB h.p hb') (by omega) (by omega)
 have VW:=fun (w':World) (hb':Below w.heap.size w w')=>oT w' cb o pv tb b (by rw [hb'.cell (p:=⟨cb,o,none⟩) yQ,h.c0]) (aB h.p hb') (by omega) (by omega)
 unfold uC at VV VW
 have Lz:Hid _:=VV
 have PF:Hid _:=VW
 clear VV VW h hm Ss
 obtain ⟨R,hR⟩:∃ R,R=dh tb r a b:=⟨_,rfl⟩
 rw [<- hR]
 have HR:Hid _:=hR
 clear hR
 obtain ⟨pa,VQ⟩:∃ pa,pa=fD tb a:=⟨_,rfl⟩
 obtain ⟨pb,rS⟩:∃ pb,pb=fD tb b:=⟨_,rfl⟩
 rw [<- VQ,<- rS] at hsz
 rw [<- VQ] at Lz
 rw [<- rS] at PF
 have Lg:Hid _:=VQ
 have RX:Hid _:=rS
 clear VQ rS
 show Calls _ _ #[Value.pointer (some ⟨cb,o,none⟩),_,_,_] w _
 go_enter Tryz.func106,Tryz.ntmps106
 go_wp2
 go_loopw [9,10] (fun i _ wr=>∃ k:Nat,k<=m/\i=.int .i64 k/\Hid (∀ j q,j < k->tb[j]?=some q->ji r a b q=false)/\Below w.heap.size w wr) (fun i _ _=>m - (intOf i).toNat)
 case atStart=>exact ⟨0,by omega,rfl,(fun j q hj=>absurd hj (by omega):∀ j q,j < 0->tb[j]?=some q->ji r a b q=false),Below.refl _ _⟩
 case round =>
  obtain ⟨k,hk,rfl,qQ,dF⟩:=hrel
  have z0:wr.cell? ⟨cb,o,none⟩=some (.slice ao m oc):=by rw [dF.cell (p:=⟨cb,o,none⟩) yQ];exact y0
  have Jy:cb < wr.heap.size:=by have:=dF.size;omega
  by_cases hlt:k < m
  ·have hkl:k < tb.length:=by have:=HM.out;omega
   obtain ⟨p,hp⟩:∃ p,tb[k]?=some p:=⟨tb[k],List.getElem?_eq_getElem hkl⟩
   have hrow:=aB HH.out.p dF
   obtain ⟨g,cap,hsl⟩:=fK hrow (by omega)
   rw [hsl] at hrow
   obtain ⟨c0,c1,c2,c3⟩:=wA hrow k p hp
   have hgw:g < wr.heap.size:=(hrow.lt g rfl).2
   have eao:ao=some ⟨g,0,none⟩:=by
    have h1:=Pj.out
    rw [hsl] at h1
    simp only [Value.slice.injEq] at h1;exact h1.1.symm
   subst eao
   have e1:=VU p.r r
   have e2:=VU p.a a
   have e3:=VU p.b b
   have HP:Hid _:=hp
   have iA:Hid _:=dF
   clear hp hrow hsl dF hkl
   cases q1:(p.r == r) with
   | false =>
    rw [q1] at e1
    have hno:ji r a b p=false:=by unfold ji;rw [q1];rfl
    have O5:Hid _:=hno
    clear hno q1 e2 e3
    go_wp2
    go_roundw
    case rel=>exact ⟨k+1,by omega,by go_num,(fun j q hj hq=>by
     rcases Nat.lt_succ_iff_lt_or_eq.1 hj with h1 | h1
     ·exact qQ.out j q h1 hq
     ·subst h1;rw [HP.out] at hq;cases hq;exact O5.out:∀ j q,j < k+1->tb[j]?=some q->ji r a b q=false),iA.out.alloc (by have:=iA.out.size;omega) _⟩
    case measure=>simp [intOf];omega
   | true =>
    rw [q1] at e1
    cases q2:(p.a == a) with
    | false =>
     rw [q2] at e2
     have hno:ji r a b p=false:=by unfold ji;rw [q1,q2];rfl
     have O5:Hid _:=hno
     clear hno q1 q2 e3
     go_wp2
     go_roundw
     case rel=>exact ⟨k+1,by omega,by go_num,(fun j q hj hq=>by
      rcases Nat.lt_succ_iff_lt_or_eq.1 hj with h1 | h1
      ·exact qQ.out j q h1 hq
      ·subst h1;rw [HP.out] at hq;cases hq;exact O5.out:∀ j q,j < k+1->tb[j]?=some q->ji r a b q=false),iA.out.alloc (by have:=iA.out.size;omega) _⟩
     case measure=>simp [intOf];omega
    | true =>
     rw [q2] at e2
     cases q3:(p.b == b) with
     | false =>
      rw [q3] at e3
      have hno:ji r a b p=false:=by unfold ji;rw [q1,q2,q3];rfl
      have O5:Hid _:=hno
      clear hno q1 q2 q3
      go_wp2
      go_roundw
      case rel=>exact ⟨k+1,by omega,by go_num,(fun j q hj hq=>by
       rcases Nat.lt_succ_iff_lt_or_eq.1 hj with h1 | h1
       ·exact qQ.out j q h1 hq
       ·subst h1;rw [HP.out] at hq;cases hq;exact O5.out:∀ j q,j < k+1->tb[j]?=some q->ji r a b q=false),iA.out.alloc (by have:=iA.out.size;omega) _⟩
      case measure=>simp [intOf];omega
     | true =>
      rw [q3] at e3
      have Zv:ji r a b p=true:=by unfold ji;rw [q1,q2,q3];rfl
      have R5:Hid (R=(k+1,tb)):=by
       rw [HR.out];unfold dh;rw [O4 HP.out Zv qQ.out];exact rfl
      clear Zv q1 q2 q3
      go_wp2
      go_ret
      rw [R5.out]
      have hB:=iA.out.alloc (by have:=iA.out.size;omega) (.cells #[.int .i64 p.r,.int .i64 p.a,.int .i64 p.b,.int .i64 p.sz] 146)
      exact ⟨lM (by simp),pv,uB.below cb pv tv hB,(HH.out.below hB).self⟩
  ·have R5:Hid (R=(tb.length+1,tb++[⟨r,a,b,1+pa.sz+pb.sz⟩])):=by
    have hn:tb.findIdx? (ji r a b)=none:=KV (fun j p hj=>qQ.out j p (by have:=(List.getElem?_eq_some_iff.1 hj).1;have:=HM.out;omega) hj)
    rw [HR.out];unfold dh;rw [hn,Lg.out,RX.out];exact rfl
   have hA:=Lz.out wr dF
   have iA:Hid _:=dF
   clear dF
   go_wp2_with fail
   refine hA.mono ?_
   rintro _ w1 ⟨rfl,hb1⟩
   have CV:Below w.heap.size w w1:=iA.out.trans (hb1.mono iA.out.size)
   have O6:=CV.alloc CV.size (.cells #[.int .i64 pa.r,.int .i64 pa.a,.int .i64 pa.b,.int .i64 pa.sz] 146)
   have hB:=PF.out _ O6
   have VX:Hid _:=O6
   clear hb1 CV O6 hA
   go_wp2_with fail
   refine hB.mono ?_
   rintro _ w2 ⟨rfl,hb2⟩
   have hq:w2.heap[w1.heap.size]?=some (.cells #[.int .i64 pa.r,.int .i64 pa.a,.int .i64 pa.b,.int .i64 pa.sz] 146 (0,0)):=by
    rw [hb2.block _ (by simp)];exact aj _ _
   have xa:w2.cell? ⟨w1.heap.size,3,none⟩=some (.int .i64 pa.sz):=by rw [aa hq];rfl
   have xl:=af hq
   have xn:=Nat.ne_of_lt xl
   have qK:Below w.heap.size w w2:=VX.out.trans (hb2.mono VX.out.size)
   have z2:w2.cell? ⟨cb,o,none⟩=some (.slice ao m oc):=by rw [qK.cell (p:=⟨cb,o,none⟩) yQ];exact y0
   have hc2:cb < w2.heap.size:=by have:=qK.size;omega
   obtain ⟨Y,hY⟩:∃ Y:Obj,Y=.cells #[.int .i64 pb.r,.int .i64 pb.a,.int .i64 pb.b,.int .i64 pb.sz] 146:=⟨_,rfl⟩
   obtain ⟨Z,hZ⟩:∃ Z:Obj,Z=.cells #[.int .i64 r,.int .i64 a,.int .i64 b,.int .i64 (1+(pa.sz:Int)+(pb.sz:Int))] 146:=⟨_,rfl⟩
   have hW:Below w.heap.size w ((w2.alloc Y).alloc Z).drew:=((qK.alloc qK.size Y).alloc (by have:=qK.size;simp;omega) Z).trans ⟨rfl,rfl,rfl,Nat.le_refl _,fun _ _=>rfl⟩
   have htp:Ci ⟨r,a,b,1+pa.sz+pb.sz⟩=[.int .i64 r,.int .i64 a,.int .i64 b,.int .i64 (1+(pa.sz:Int)+(pb.sz:Int))]:=by
    unfold Ci;simp only [Int.natCast_add];rfl
   have HW:Hid _:=hW
   have dY:Hid (((w2.alloc Y).alloc Z).drew.ownsRow 0 146 4 (.slice ao m oc) m (tb.flatMap Ci)):=by
    have:=aB HH.out.p hW
    rw [Pj.out,<- HM.out] at this;exact this
   have zi:Hid (∀ (j:Nat) (u:Value),([.int .i64 r,.int .i64 a,.int .i64 b,.int .i64 (1+(pa.sz:Int)+(pb.sz:Int))]:List Value)[j]?=some u->((w2.alloc Y).alloc Z).drew.cell? ((⟨w2.heap.size+1,0,none⟩:Addr).add j)=some u):=by
    intro j u hj
    have hq:=bJ (w2.alloc Y) [.int .i64 r,.int .i64 a,.int .i64 b,.int .i64 (1+(pa.sz:Int)+(pb.sz:Int))] 146 j
    have e:(w2.alloc Y).heap.size=w2.heap.size+1:=by simp
    rw [e] at hq
    rw [<- hj,<- hq,hZ];rfl
   have wo:Hid (∀ u∈([.int .i64 r,.int .i64 a,.int .i64 b,.int .i64 (1+(pa.sz:Int)+(pb.sz:Int))]:List Value),u.oneCell'=true):=by
    intro u hu;simp only [List.mem_cons,List.not_mem_nil,or_false] at hu;rcases hu with rfl | rfl | rfl | rfl <;> rfl
   have EL:Hid (((w2.alloc Y).alloc Z).drew.heap[cb]?=some (.cells A T (0,0))):=by
    show ((w2.alloc Y).alloc Z).drew.heap[cb]?=_
    rw [hW.block cb yQ];exact HH.out.y
   have HPY:Hid ((Value.slice ao m oc).ownBlock≠some cb):=by have:=HH.out.py;rw [Pj.out] at this;exact this
   have HTP:Hid _:=htp
   subst hY
   subst hZ
   have hw1:IntKind.i64.wrap (1+(pa.sz:Int))=1+(pa.sz:Int):=wrap_small _ (by omega)
   have hw2:IntKind.i64.wrap (1+(pa.sz:Int)+(pb.sz:Int))=1+(pa.sz:Int)+(pb.sz:Int):=wrap_small _ (by omega)
   clear hb2 hq qK hW htp hB iA VX Lz PF
   go_wp2
   go_region_law (refine sJ rfl (.tmp 57) (.tmp 68) 100 rfl 146 i0 _ 4 32 Tryz.VT HI.out pZ.out p8.out p9.out rfl (by decide) (.slice ao m oc) m (tb.flatMap Ci) (by simp [Act.eval]) dY.out ⟨w2.heap.size+1,0,none⟩ 1 1 _ (by simp [Act.eval]) rfl zi.out wo.out (by decide) (by unfold maxLen;omega) (by omega) ?_;intro g cap w' hown hgrow ik;have uX:=cE hgrow EL.out HPY.out;have c0:w'.cell? ⟨cb,o,none⟩=some pv:=(by rw [aa uX];exact HH.out.a);have f0:=ag uX o)
   all_goals
    have hadd:=fJ.abv (g:=g) (cap:=cap) HH.out ⟨r,a,b,1+pa.sz+pb.sz⟩ HW.out (by rw [Pj.out];exact hgrow) (by rw [<- HM.out,HTP.out];exact hown) (by rw [Pj.out];exact ik)
    rw [<- HM.out] at hadd
    have zw:Hid _:=hadd
    clear hadd hown hgrow ik
    go_wp2
    go_ret
    rw [R5.out]
    exact ⟨lM (by have:=HM.out;simp;omega),_,zw.out⟩
end Go.Proofs.YtpicaknklgccoabGreatDoor
