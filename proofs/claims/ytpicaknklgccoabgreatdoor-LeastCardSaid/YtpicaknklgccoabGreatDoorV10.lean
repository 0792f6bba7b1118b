import Derived.Test.YtpicaknklgccoabGreatDoorV8
set_option maxHeartbeats 8000000
set_option maxRecDepth 100000
namespace Go.Proofs.YtpicaknklgccoabGreatDoor
open Go.RowKit
theorem Tryz.UW:(Tryz.prog.info? 146).map (λi=>(i.zero,i.size,i.bytes))=some (some (.agg #[.int .i64 0,.int .i64 0,.int .i64 0,.int .i64 0]),4,32):=by kernel_rfl
theorem Tryz.UX:Tryz.prog.underlying 100=some (.slice 146):=by kernel_rfl
def jR (r a b:Nat) (p:TP):Bool:=p.r==r && p.a==a && p.b==b
def dH (tb:List TP) (r a b:Nat):Nat × List TP:=match tb.findIdx? (jR r a b) with
 | some i=>(i+1,tb)
 | none=>(tb.length+1,tb++[⟨r,a,b,1+(fW tb a).sz+(fW tb b).sz⟩])
structure vZ (cb:Nat) (w w':World) (pv tv nS qJ:Value):Prop where
 os:w'.os=w.os
 tape:w'.tape=w.tape
 output:w'.output=w.output
 size:w.heap.size<=w'.heap.size
 blk:∀ k,k<w.heap.size->k≠cb->pv.ownBlock≠some k->tv.ownBlock≠some k->w'.heap[k]?=w.heap[k]?
 p:∀ g,nS.ownBlock=some g->pv.ownBlock=some g\/w.heap.size<=g
 t:∀ g,qJ.ownBlock=some g->tv.ownBlock=some g\/w.heap.size<=g
theorem vZ.trans {cb:Nat} {w w1 w2:World} {pv tv pv1 Yj pv2 Yk:Value} (h:vZ cb w w1 pv tv pv1 Yj) (h':vZ cb w1 w2 pv1 Yj pv2 Yk):vZ cb w w2 pv tv pv2 Yk:=by
 refine⟨h'.os.trans h.os,h'.tape.trans h.tape,h'.output.trans h.output,Nat.le_trans h.size h'.size,?_,?_,?_⟩
 ·intro k hk hc hp ht
  rw[h'.blk k (Nat.lt_of_lt_of_le hk h.size) hc (λe=>by rcases h.p k e with e | e;exact hp e;omega) (λe=>by rcases h.t k e with e | e;exact ht e;omega)];exact h.blk k hk hc hp ht
 ·intro g hg
  rcases h'.p g hg with e | e
  ·exact h.p g e
  ·exact Or.inr (Nat.le_trans h.size e)
 ·intro g hg
  rcases h'.t g hg with e | e
  ·exact h.t g e
  ·exact Or.inr (Nat.le_trans h.size e)
theorem vZ.below {w w':World} (cb:Nat) (pv tv:Value) (h:Below w.heap.size w w'):vZ cb w w' pv tv pv tv:=⟨h.os,h.tape,h.output,h.size,λk hk _ _ _=>h.block k hk,λ_ h=>Or.inl h,λ_ h=>Or.inl h⟩
theorem Cc.lt {cb:Nat} {w:World} {pv tv:Value} {tb:List TP} {K:List Nat} (h:Cc cb w pv tv tb K):(∀ k,pv.ownBlock=some k->k<w.heap.size)/\(∀ k,tv.ownBlock=some k->k<w.heap.size)/\cb<w.heap.size :=
 ⟨λk hk=>(h.p.lt k hk).2,λk hk=>(h.t.lt k hk).2,af h.y⟩
theorem gj.lt {cb o:Nat} {A:Array Value} {T:TypeId} {w:World} {pv tv:Value} {tb:List TP} {K:List Nat} (h:gj cb o A T w pv tv tb K):(∀ k,pv.ownBlock=some k->k<w.heap.size)/\(∀ k,tv.ownBlock=some k->k<w.heap.size)/\cb<w.heap.size :=
 ⟨λk hk=>(h.p.lt k hk).2,λk hk=>(h.t.lt k hk).2,af h.y⟩
theorem gj.aba {cb o:Nat} {A:Array Value} {T:TypeId} {w W0 w':World} {pv tv:Value} {tb:List TP} {K:List Nat} (h:gj cb o A T w pv tv tb K) (x:TP) {g cap:Nat} (hW:Below w.heap.size w W0) (hg:W0.grownBy w' pv.ownBlock)
  (hown:w'.ownsRow 0 146 4 (.slice (some ⟨g,0,none⟩) (tb.length+1) cap) (tb.length+1) (tb.flatMap Ds++Ds x)) (jC:pv.ownBlock=some g\/W0.heap.size<=g) :
  vZ cb w (w'.setCell ⟨cb,o,none⟩ (.slice (some ⟨g,0,none⟩) (tb.length+1) cap)) pv tv (.slice (some ⟨g,0,none⟩) (tb.length+1) cap) tv/\gj cb o (A.setIfInBounds o (.slice (some ⟨g,0,none⟩) (tb.length+1) cap)) T (w'.setCell ⟨cb,o,none⟩ (.slice (some ⟨g,0,none⟩) (tb.length+1) cap)) (.slice (some ⟨g,0,none⟩) (tb.length+1) cap) tv (tb++[x]) K:=by
 obtain⟨l1,l2,l3⟩:=h.lt;have mr:=hW.size;have hgs:=hg.size
 have yW:W0.heap[cb]?=some (.cells A T (0,0)):=by rw[hW.block cb l3];exact h.y
 have yw:=cY hg yW h.py
 have pM:g≠cb:=by
  rcases jC with e | e
  ·intro e';rw[e'] at e;exact h.py e
  ·omega
 have kp:∀ k,k<w.heap.size->k≠cb->pv.ownBlock≠some k->(w'.setCell ⟨cb,o,none⟩ (.slice (some ⟨g,0,none⟩) (tb.length+1) cap)).heap[k]?=w.heap[k]?:=by
  intro k hk hkp hne;rw[aq _ _ (by simpa using hkp),hg.block k (by omega) (λe=>hne e.symm),hW.block k hk]
 refine⟨⟨hg.os.trans hW.os,hg.tape.trans hW.tape,hg.output.trans hW.output,by simp only[World.setCell,Array.size_modify];omega,λk hk hp hs _=>kp k hk hp hs,λg' hg'=>by simp only[Value.ownBlock,Option.some.injEq] at hg';subst hg';rcases jC with e | e;exact Or.inl e;exact Or.inr (by omega),λ_ h=>Or.inl h⟩,?_⟩
 refine ⟨aA yw o _,by rw[Array.getElem?_setIfInBounds,if_pos rfl,if_pos (Array.getElem?_eq_some_iff.1 h.a).1],by rw[Array.getElem?_setIfInBounds,if_neg (by omega)];exact h.b,by have:=ay (w':=w'.setCell ⟨cb,o,none⟩ (.slice (some ⟨g,0,none⟩) (tb.length+1) cap)) hown (λk hk=>by simp only[Value.ownBlock,Option.some.injEq] at hk;subst hk;exact aq _ _ (by simpa using pM));simpa using this,ay h.t (λk hk=>kp k (l2 k hk) (λe=>h.ty (by rw[hk,e])) (λe=>h.pt k e hk)),by simp only[Value.ownBlock,ne_eq,Option.some.injEq];exact pM,h.ty,λk hk hk'=>by
   simp only[Value.ownBlock,Option.some.injEq] at hk
   rcases jC with e | e
   ·rw[hk] at e;exact h.pt k e hk'
   ·have:=l2 k hk';omega⟩
theorem KD {tb:List TP} {r a b:Nat} (h:∀ (j:Nat) (p:TP),tb[j]?=some p->jR r a b p=false):tb.findIdx? (jR r a b)=none:=by
 rw[List.findIdx?_eq_none_iff];intro x hx;obtain⟨j,hj⟩:=List.mem_iff_getElem?.1 hx;exact h j x hj
theorem MX {tb:List TP} {r a b k:Nat} {p:TP} (hk:tb[k]?=some p) (hp:jR r a b p=true) (h:∀ (j:Nat) (q:TP),j<k->tb[j]?=some q->jR r a b q=false):tb.findIdx? (jR r a b)=some k:=by
 obtain⟨hk1,hk2⟩:=List.getElem?_eq_some_iff.1 hk;rw[List.findIdx?_eq_some_iff_getElem];refine⟨hk1,by rw[hk2];exact hp,λj hj=>?_⟩;have:=h j tb[j] hj (List.getElem?_eq_getElem (by omega));rw[this];simp
theorem wrap_small (n:Int) (h:-1000000<=n/\n<=1000000):IntKind.i64.wrap n=n:=by
 have e:IntKind.i64.wrap n=(n+9223372036854775808) % 18446744073709551616-9223372036854775808:=by simp[IntKind.wrap,IntKind.bits,IntKind.signed];omega
 rw[e];omega
theorem UY (a b:Nat):((a:Int)==(b:Int))=(a==b):=by
 rw[Bool.eq_iff_iff];simp only[beq_iff_eq];omega
theorem KF (w:World) (cb o:Nat) (A:Array Value) (T:TypeId) (pv tv:Value) (tb:List TP) (K:List Nat) (r a b:Nat) (h:gj cb o A T w pv tv tb K) (hl:tb.length<=8999) (ha:a<=9500) (hb:b<=9500) (hsz:(fW tb a).sz<=10000/\(fW tb b).sz<=10000) :
  Calls Tryz.prog 106 #[.pointer (some ⟨cb,o,none⟩),.int .i64 r,.int .i64 a,.int .i64 b] w λv w'=>v=.returned (.int .i64 (dH tb r a b).1)/\∃ nS,vZ cb w w' pv tv nS tv/\gj cb o (A.setIfInBounds o nS) T w' nS tv (dH tb r a b).2 K:=by
 obtain⟨i0,hi,hz0,hz1,hz2⟩:=info_parts Tryz.UW;have HI:Hid _:=hi;have rR:Hid _:=hz0;have rS:Hid _:=hz1;have rT:Hid _:=hz2;clear hi hz0 hz1 hz2;have HH:Hid _:=h;obtain⟨m,hm⟩:∃ m,m=tb.length:=⟨_,rfl⟩;obtain⟨ao,oc,Tt⟩:=aG h.p;rw[<- hm] at Tt hl
 have y0:w.cell? ⟨cb,o,none⟩=some (.slice ao m oc):=by rw[h.c0,<- Tt]
 have Al:=h.lt.2.2;have HM:Hid _:=hm;have Qu:Hid _:=Tt
 have UZ:=λ(w':World) (hb':Below w.heap.size w w')=>qK w' cb o pv tb a (by rw[hb'.cell (p:=⟨cb,o,none⟩) Al,h.c0]) (aB h.p hb') (by omega) (by omega)
 have U0:=λ(w':World) (hb':Below w.heap.size w w')=>qK w' cb o pv tb b (by rw[hb'.cell (p:=⟨cb,o,none⟩) Al,h.c0]) (aB h.p hb') (by omega) (by omega)
 unfold we at UZ U0;have MY:Hid _:=UZ;have Mr:Hid _:=U0;clear UZ U0 h hm Tt;obtain⟨R,hR⟩:∃ R,R=dH tb r a b:=⟨_,rfl⟩;rw[<- hR];have HR:Hid _:=hR;clear hR;obtain⟨pa,DJ⟩:∃ pa,pa=fW tb a:=⟨_,rfl⟩;obtain⟨pb,mQ⟩:∃ pb,pb=fW tb b:=⟨_,rfl⟩;rw[<- DJ,<- mQ] at hsz;rw[<- DJ] at MY;rw[<- mQ] at Mr;have Ms:Hid _:=DJ;have Tu:Hid _:=mQ;clear DJ mQ
 show Calls _ _ #[Value.pointer (some ⟨cb,o,none⟩),_,_,_] w _
 go_enter Tryz.func106,Tryz.ntmps106
 go_wp2
 go_loopw [9,10] (λi _ wr=>∃ k:Nat,k<=m/\i=.int .i64 k/\Hid (∀ j q,j<k->tb[j]?=some q->jR r a b q=false)/\Below w.heap.size w wr) (λi _ _=>m-(intOf i).toNat)
 case atStart=>exact⟨0,by omega,rfl,(λj q hj=>absurd hj (by omega):∀ j q,j<0->tb[j]?=some q->jR r a b q=false),Below.refl _ _⟩
 case round =>
  obtain⟨k,hk,rfl,uN,dI⟩:=hrel
  have z0:wr.cell? ⟨cb,o,none⟩=some (.slice ao m oc):=by rw[dI.cell (p:=⟨cb,o,none⟩) Al];exact y0
  have KG:cb<wr.heap.size:=by have:=dI.size;omega
  by_cases hlt:k<m
  ·have hkl:k<tb.length:=by have:=HM.out;omega
   obtain⟨p,hp⟩:∃ p,tb[k]?=some p:=⟨tb[k],List.getElem?_eq_getElem hkl⟩;have hrow:=aB HH.out.p dI;obtain⟨g,cap,hsl⟩:=gp hrow (by omega);rw[hsl] at hrow;obtain⟨c0,c1,c2,c3⟩:=xH hrow k p hp;have hgw:g<wr.heap.size:=(hrow.lt g rfl).2
   have eao:ao=some ⟨g,0,none⟩:=by
    have h1:=Qu.out;rw[hsl] at h1;simp only[Value.slice.injEq] at h1;exact h1.1.symm
   subst eao;have e1:=UY p.r r;have e2:=UY p.a a;have e3:=UY p.b b;have HP:Hid _:=hp;have ji:Hid _:=dI;clear hp hrow hsl dI hkl
   cases q1:(p.r==r) with
   | false =>
    rw[q1] at e1
    have hno:jR r a b p=false:=by unfold jR;rw[q1];rfl
    have MZ:Hid _:=hno;clear hno q1 e2 e3
    go_wp2
    go_roundw
    case rel=>exact⟨k+1,by omega,by go_num,(λj q hj hq=>by
     rcases Nat.lt_succ_iff_lt_or_eq.1 hj with h1 | h1
     ·exact uN.out j q h1 hq
     ·subst h1;rw[HP.out] at hq;cases hq;exact MZ.out:∀ j q,j<k+1->tb[j]?=some q->jR r a b q=false),ji.out.alloc (by have:=ji.out.size;omega) _⟩
    case measure=>simp[intOf];omega
   | true =>
    rw[q1] at e1
    cases q2:(p.a==a) with
    | false =>
     rw[q2] at e2
     have hno:jR r a b p=false:=by unfold jR;rw[q1,q2];rfl
     have MZ:Hid _:=hno;clear hno q1 q2 e3
     go_wp2
     go_roundw
     case rel=>exact⟨k+1,by omega,by go_num,(λj q hj hq=>by
      rcases Nat.lt_succ_iff_lt_or_eq.1 hj with h1 | h1
      ·exact uN.out j q h1 hq
      ·subst h1;rw[HP.out] at hq;cases hq;exact MZ.out:∀ j q,j<k+1->tb[j]?=some q->jR r a b q=false),ji.out.alloc (by have:=ji.out.size;omega) _⟩
     case measure=>simp[intOf];omega
    | true =>
     rw[q2] at e2
     cases q3:(p.b==b) with
     | false =>
      rw[q3] at e3
      have hno:jR r a b p=false:=by unfold jR;rw[q1,q2,q3];rfl
      have MZ:Hid _:=hno;clear hno q1 q2 q3
      go_wp2
      go_roundw
      case rel=>exact⟨k+1,by omega,by go_num,(λj q hj hq=>by
       rcases Nat.lt_succ_iff_lt_or_eq.1 hj with h1 | h1
       ·exact uN.out j q h1 hq
       ·subst h1;rw[HP.out] at hq;cases hq;exact MZ.out:∀ j q,j<k+1->tb[j]?=some q->jR r a b q=false),ji.out.alloc (by have:=ji.out.size;omega) _⟩
      case measure=>simp[intOf];omega
     | true =>
      rw[q3] at e3
      have Yl:jR r a b p=true:=by unfold jR;rw[q1,q2,q3];rfl
      have Tv:Hid (R=(k+1,tb)):=by
       rw[HR.out];unfold dH;rw[MX HP.out Yl uN.out];exact rfl
      clear Yl q1 q2 q3
      go_wp2
      go_ret
      rw[Tv.out];have hB:=ji.out.alloc (by have:=ji.out.size;omega) (.cells #[.int .i64 p.r,.int .i64 p.a,.int .i64 p.b,.int .i64 p.sz] 146);exact⟨mF (by simp),pv,vZ.below cb pv tv hB,(HH.out.below hB).self⟩
  ·have Tv:Hid (R=(tb.length+1,tb++[⟨r,a,b,1+pa.sz+pb.sz⟩])):=by
    have hn:tb.findIdx? (jR r a b)=none:=KD (λj p hj=>uN.out j p (by have:=(List.getElem?_eq_some_iff.1 hj).1;have:=HM.out;omega) hj);rw[HR.out];unfold dH;rw[hn,Ms.out,Tu.out];exact rfl
   have hA:=MY.out wr dI;have ji:Hid _:=dI;clear dI
   go_wp2_with fail
   refine hA.mono ?_;rintro _ w1 ⟨rfl,hb1⟩;have DK:Below w.heap.size w w1:=ji.out.trans (hb1.mono ji.out.size);have M0:=DK.alloc DK.size (.cells #[.int .i64 pa.r,.int .i64 pa.a,.int .i64 pa.b,.int .i64 pa.sz] 146);have hB:=Mr.out _ M0;have U4:Hid _:=M0;clear hb1 DK M0 hA
   go_wp2_with fail
   refine hB.mono ?_;rintro _ w2 ⟨rfl,hb2⟩
   have hq:w2.heap[w1.heap.size]?=some (.cells #[.int .i64 pa.r,.int .i64 pa.a,.int .i64 pa.b,.int .i64 pa.sz] 146 (0,0)):=by
    rw[hb2.block _ (by simp)];exact aj _ _
   have xa:w2.cell? ⟨w1.heap.size,3,none⟩=some (.int .i64 pa.sz):=by rw[aa hq];rfl
   have xl:=af hq;have xn:=Nat.ne_of_lt xl;have sx:Below w.heap.size w w2:=U4.out.trans (hb2.mono U4.out.size)
   have z2:w2.cell? ⟨cb,o,none⟩=some (.slice ao m oc):=by rw[sx.cell (p:=⟨cb,o,none⟩) Al];exact y0
   have hc2:cb<w2.heap.size:=by have:=sx.size;omega
   obtain⟨Y,hY⟩:∃ Y:Obj,Y=.cells #[.int .i64 pb.r,.int .i64 pb.a,.int .i64 pb.b,.int .i64 pb.sz] 146:=⟨_,rfl⟩;obtain⟨Z,hZ⟩:∃ Z:Obj,Z=.cells #[.int .i64 r,.int .i64 a,.int .i64 b,.int .i64 (1+(pa.sz:Int)+(pb.sz:Int))] 146:=⟨_,rfl⟩;have hW:Below w.heap.size w ((w2.alloc Y).alloc Z).drew:=((sx.alloc sx.size Y).alloc (by have:=sx.size;simp;omega) Z).trans ⟨rfl,rfl,rfl,Nat.le_refl _,λ_ _=>rfl⟩
   have htp:Ds ⟨r,a,b,1+pa.sz+pb.sz⟩=[.int .i64 r,.int .i64 a,.int .i64 b,.int .i64 (1+(pa.sz:Int)+(pb.sz:Int))]:=by
    unfold Ds;simp only[Int.natCast_add];rfl
   have HW:Hid _:=hW
   have eK:Hid (((w2.alloc Y).alloc Z).drew.ownsRow 0 146 4 (.slice ao m oc) m (tb.flatMap Ds)):=by
    have:=aB HH.out.p hW;rw[Qu.out,<- HM.out] at this;exact this
   have Ay:Hid (∀ (j:Nat) (u:Value),([.int .i64 r,.int .i64 a,.int .i64 b,.int .i64 (1+(pa.sz:Int)+(pb.sz:Int))]:List Value)[j]?=some u->((w2.alloc Y).alloc Z).drew.cell? ((⟨w2.heap.size+1,0,none⟩:Addr).add j)=some u):=by
    intro j u hj;have hq:=bV (w2.alloc Y) [.int .i64 r,.int .i64 a,.int .i64 b,.int .i64 (1+(pa.sz:Int)+(pb.sz:Int))] 146 j
    have e:(w2.alloc Y).heap.size=w2.heap.size+1:=by simp
    rw[e] at hq;rw[<- hj,<- hq,hZ];rfl
   have xI:Hid (∀ u∈([.int .i64 r,.int .i64 a,.int .i64 b,.int .i64 (1+(pa.sz:Int)+(pb.sz:Int))]:List Value),u.oneCell'=true):=by
    intro u hu;simp only[List.mem_cons,List.not_mem_nil,or_false] at hu;rcases hu with rfl | rfl | rfl | rfl <;> rfl
   have Ge:Hid (((w2.alloc Y).alloc Z).drew.heap[cb]?=some (.cells A T (0,0))):=by
    show ((w2.alloc Y).alloc Z).drew.heap[cb]?=_
    rw[hW.block cb Al];exact HH.out.y
   have HPY:Hid ((Value.slice ao m oc).ownBlock≠some cb):=by have:=HH.out.py;rw[Qu.out] at this;exact this
   have HTP:Hid _:=htp;subst hY;subst hZ;have hw1:IntKind.i64.wrap (1+(pa.sz:Int))=1+(pa.sz:Int):=wrap_small _ (by omega);have hw2:IntKind.i64.wrap (1+(pa.sz:Int)+(pb.sz:Int))=1+(pa.sz:Int)+(pb.sz:Int):=wrap_small _ (by omega);clear hb2 hq sx hW htp hB ji U4 MY Mr
   go_wp2
   go_region_law (refine tK rfl (.tmp 57) (.tmp 68) 100 rfl 146 i0 _ 4 32 Tryz.UX HI.out rR.out rS.out rT.out rfl (by decide) (.slice ao m oc) m (tb.flatMap Ds) (by simp[Act.eval]) eK.out ⟨w2.heap.size+1,0,none⟩ 1 1 _ (by simp[Act.eval]) rfl Ay.out xI.out (by decide) (by unfold maxLen;omega) (by omega) ?_;intro g cap w' hown hgrow jC;have wE:=cY hgrow Ge.out HPY.out;have c0:w'.cell? ⟨cb,o,none⟩=some pv:=(by rw[aa wE];exact HH.out.a);have f0:=ag wE o)
   all_goals
    have hadd:=gj.aba (g:=g) (cap:=cap) HH.out ⟨r,a,b,1+pa.sz+pb.sz⟩ HW.out (by rw[Qu.out];exact hgrow) (by rw[<- HM.out,HTP.out];exact hown) (by rw[Qu.out];exact jC);rw[<- HM.out] at hadd;have Az:Hid _:=hadd;clear hadd hown hgrow jC
    go_wp2
    go_ret
    rw[Tv.out];exact⟨mF (by have:=HM.out;simp;omega),_,Az.out⟩
end Go.Proofs.YtpicaknklgccoabGreatDoor
