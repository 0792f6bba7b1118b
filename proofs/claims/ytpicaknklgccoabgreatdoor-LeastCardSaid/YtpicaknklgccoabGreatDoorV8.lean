import Derived.Test.YtpicaknklgccoabGreatDoorV7
import Derived.Test.YtpicaknklgccoabGreatDoorV6
set_option maxHeartbeats 8000000
set_option maxRecDepth 100000
namespace Go.Proofs.YtpicaknklgccoabGreatDoor
def cw (NS:List NR) (i:Int):Option Nat:=match NS[i.toNat]? with
 | some n=>if n.form=4 then some n.at_ else none
 | none=>none
theorem I3 (k:Kw):aZ k=4↔k=.pair:=by cases k <;> decide
mutual
theorem ve (NS:List NR):∀ (t:PT) (scope:Sc) (base:Nat) (ns:List NR),NA scope t base ns->(∀ j,j<ns.length->NS[base+j]?=ns[j]?)->(opn t base).filterMap (cw NS)=t.Q3.map (·.1)
 | .num p s,scope,base,ns,h,hN=>by
  simp only[NA] at h;subst h;have:=hN 0 (by simp);simp only[Nat.add_zero] at this;simp[opn,cw,this,PT.Q3]
 | .name p s,scope,base,ns,h,hN=>by
  simp only[NA] at h;subst h;have:=hN 0 (by simp);simp only[Nat.add_zero] at this;simp[opn,cw,this,PT.Q3]
 | .node p k nm rg kids,scope,base,ns,h,hN=>by
  simp only[NA] at h;obtain⟨ks,aL,h1,rfl⟩:=h;have hl:=h1.len;have hk:=Ai NS kids scope nm (bU k) base ks h1 (λj hj=>by rw[hN j (by simp;omega),List.getElem?_append_left hj]);have hs:=hN ks.length (by simp);rw[hl,<- hl,List.getElem?_append_right (Nat.le_refl _)] at hs;simp only[Nat.sub_self,List.getElem?_cons_zero] at hs;simp only[opn,List.filterMap_cons,PT.Q3]
  have hp:cw NS ((base+ax kids:Nat):Int)=if k=.pair then some p else none:=by
   unfold cw;rw[Int.toNat_natCast,<- hl,hs];simp only[I3]
  rw[hp,hk]
  by_cases hkp:k=.pair
  ·simp[hkp]
  ·simp[hkp]
theorem Ai (NS:List NR):∀ (ts:List PT) (scope:Sc) (nm:List UInt8) (bs:List Bool) (base:Nat) (ns:List NR),cK scope nm ts bs base ns->(∀ j,j<ns.length->NS[base+j]?=ns[j]?)->(jS ts base).filterMap (cw NS)=(I2 ts).map (·.1)
 | [],_,_,_,_,_,_,_=>by simp[jS,I2]
 | _::_,_,_,[],_,_,h,_=>by simp[cK] at h
 | t::r,scope,nm,b::bs,base,ns,h,hN=>by
  simp only[cK] at h;obtain⟨a,c,h1,h2,rfl⟩:=h;have hl:=h1.len;have e1:=ve NS t _ base a h1 (λj hj=>by rw[hN j (by simp;omega),List.getElem?_append_left hj])
  have e2:=Ai NS r scope nm bs (base+t.cnt) c h2 (λj hj=>by
   have:=hN (t.cnt+j) (by simp;omega);rw[<- Nat.add_assoc] at this;rw[this,List.getElem?_append_right (by omega)]
   congr 1;omega)
  simp only[jS,I2,List.filterMap_append,e1,e2,List.map_append]
end
open Go.RowKit
theorem eX.acJ {s:ByteArray} {ae:Bool} {pb:Nat} {w:World} {sv nv:Value} {st:PS} {g cap:Nat} (h:eX s ae pb w sv nv (.slice (some ⟨g,0,none⟩) st.opened.length cap) st) (k:Nat) (x:Int) :
  bL pb pb w (w.setCell ⟨g,k,none⟩ (o9 x)) sv nv (.slice (some ⟨g,0,none⟩) st.opened.length cap) sv nv (.slice (some ⟨g,0,none⟩) st.opened.length cap) /\
  eX s ae pb (w.setCell ⟨g,k,none⟩ (o9 x)) sv nv (.slice (some ⟨g,0,none⟩) st.opened.length cap) { st with opened:=st.opened.set k x }:=by
 obtain⟨fr,y1,y2,y3⟩:=h.y
 have pM:g≠pb:=λe=>h.oy (by rw[e];rfl)
 have kp:∀ k',k'≠g->(w.setCell ⟨g,k,none⟩ (o9 x)).heap[k']?=w.heap[k']?:=λk' hk=>aq _ _ (by simpa using hk)
 have hst:=(h.op.stored k (o9 x)).1;refine⟨⟨rfl,rfl,rfl,by simp only[World.setCell,Array.size_modify];omega,λk' _ _ _ _ _ ho=>kp k' (λe=>ho (by rw[e];rfl)),λ_ h=>Or.inl h,λ_ h=>Or.inl h,λ_ h=>Or.inl h⟩,?_⟩;refine⟨⟨fr,y1,y2,by rw[kp pb (λe=>pM e.symm)];exact y3⟩,ay h.sc (λk' hk=>kp k' (λe=>h.so k' hk (by rw[e];rfl))),ay h.nd (λk' hk=>kp k' (λe=>h.no k' hk (by rw[e];rfl))),?_,h.sy,h.ny,h.oy,h.sn,h.so,h.no⟩
 have e:(st.opened.set k x).map o9=(st.opened.map o9).set k (o9 x):=by rw[List.map_set]
 simp only[List.length_set];rw[e];exact hst
theorem Ku (s:ByteArray) (ae:Bool) (pb:Nat) (f:PS->Int × PS) (w:World) (sv nv ov:Value) (st:PS) (h:eX s ae pb w sv nv ov st) (hl:st.opened.length<=50000)
  (hA:∀ (w:World) (ov:Value),eX s ae pb w sv nv ov { st with opened:=st.opened++[-1] }->Calls Tryz.prog 117 #[ptr pb] w λv w'=>v=.returned (.int .i64 (f { st with opened:=st.opened++[-1] }).1) /\
   ∃ fV bJ gh,bL pb pb w w' sv nv ov fV bJ gh/\eX s ae pb w' fV bJ gh (f { st with opened:=st.opened++[-1] }).2)
  (BU:st.opened.length+1<=(f { st with opened:=st.opened++[-1] }).2.opened.length) :
  Calls Tryz.prog 91 #[ptr pb] w λv w'=>v=.returned (.int .i64 (jg f st).1)/\∃ fV bJ gh,bL pb pb w w' sv nv ov fV bJ gh/\eX s ae pb w' fV bJ gh (jg f st).2:=by
 obtain⟨i0,hi,hz0,hz1,hz2⟩:=info_parts Tryz.qL;have HI:Hid _:=hi;have rR:Hid _:=hz0;have rS:Hid _:=hz1;have rT:Hid _:=hz2;clear hi hz0 hz1 hz2;have HPS:Hid (jg f st=((f { st with opened:=st.opened++[-1] }).1,{ (f { st with opened:=st.opened++[-1] }).2 with opened:=(f { st with opened:=st.opened++[-1] }).2.opened.set st.opened.length (f { st with opened:=st.opened++[-1] }).1 })):=rfl;obtain⟨R,hR⟩:∃ R,R=jg f st:=⟨_,rfl⟩;rw[<- hR] at HPS ⊢;clear hR;generalize f { st with opened:=st.opened++[-1] }=X at *;obtain⟨fr,hf1,hf2,hf3⟩:=h.y;have mQ:=af hf3;have Xy:=h.op;obtain⟨n,hn⟩:∃ n,n=st.opened.length:=⟨_,rfl⟩
 obtain⟨ao,oc,rfl⟩:∃ ao oc,ov=.slice ao n oc:=by
  rcases Xy.2 with ⟨h1,h2⟩ | ⟨g,cap,cur,h1,_⟩
  ·exact⟨none,0,by rw[h1,hn,h2]⟩
  ·exact⟨_,_,by rw[h1,hn]⟩
 have y7:w.cell? ⟨pb,7,none⟩=some (.slice ao n oc):=by rw[aa hf3];rfl
 have hW:Below w.heap.size w (w.alloc (.cells #[.int .i64 (-1)] 3)):=(Below.refl _ w).alloc (Nat.le_refl _) _;have HW:Hid _:=hW
 have eK:Hid ((w.alloc (.cells #[.int .i64 (-1)] 3)).ownsRow 0 3 1 (.slice ao n oc) n (st.opened.map o9)):=by
  have:=aB Xy hW;rw[<- hn] at this;exact this
 have Ge:Hid ((w.alloc (.cells #[.int .i64 (-1)] 3)).heap[pb]?=some (.cells (gb s ae fr st.fl.isSome (st.fl.getD 0) sv nv (.slice ao n oc)) 127 (0,0))):=aR _ hf3;have HH:Hid _:=h;have HN:Hid _:=hn
 have xI:Hid (∀ u∈[o9 (-1)],u.oneCell'=true):=by intro v hv;simp only[List.mem_singleton] at hv;subst hv;rfl
 unfold ptr at hA;have HA:Hid _:=hA;rw[<- hn] at BU hl;clear hf1 hf2 hf3 h hW Xy hA hn
 show Calls _ _ #[Value.pointer (some ⟨pb,0,none⟩)] w _
 go_enter Tryz.func91,Tryz.ntmps91
 go_wp2_with (at_builtin;go_must (refine qM _ rfl (.tmp 16) (.tmp 17) 22 rfl 3 i0 _ 1 8 Tryz.qN HI.out rR.out rS.out rT.out rfl (by decide) (.slice ao n oc) n (st.opened.map o9) rfl eK.out ⟨w.heap.size,0,none⟩ 1 1 [o9 (-1)] rfl rfl ?c1 xI.out (by decide) ?c3 ?c4 ?_))
 case c1 =>
  intro j v hj;rw[<- hj]
  first | rfl | exact bV _ _ _ _
 case c3=>unfold maxLen;omega
 case c4=>omega
 intro g cap w' hown hgrow jC;have qp:=cY hgrow Ge.out HH.out.oy
 have c7:w'.cell? ⟨pb,7,none⟩=some (.slice ao n oc):=by rw[aa qp];rfl
 have f7:=ag qp 7;have hadd:=eX.abN (g:=g) (cap:=cap) HH.out (-1) HW.out hgrow (by rw[<- HN.out];exact hown) (by rw[show (w.alloc (.cells #[.int .i64 (-1)] 3)).heap.size=w.heap.size+1 from by simp];exact jC);rw[<- HN.out] at hadd;have hA1:=HA.out _ _ hadd.2;have Az:Hid _:=hadd.1;clear hown hgrow jC qp hadd
 go_wp2_with fail
 refine hA1.mono ?_;rintro _ w2 ⟨rfl,JS,cO,Ip,dD,bC⟩
 obtain⟨g2,cap2,rfl⟩:∃ g2 cap2,Ip=.slice (some ⟨g2,0,none⟩) X.2.opened.length cap2:=by
  rcases bC.op.2 with ⟨h1,h2⟩ | ⟨g,cap,cur,h1,_⟩
  ·omega
  ·exact⟨_,_,h1⟩
 obtain⟨fr2,_,_,Uz⟩:=bC.y
 have d7:w2.cell? ⟨pb,7,none⟩=some (.slice (some ⟨g2,0,none⟩) X.2.opened.length cap2):=by rw[aa Uz];rfl
 have o1:=bC.op
 have hoc:w2.cell? ⟨g2,n,none⟩=some (o9 (X.2.opened[n]'(by omega))):=by
  rw[o1.cellAt n (by omega),List.getElem?_map,List.getElem?_eq_getElem (by omega)];rfl
 have hfz:w2.frozen? ⟨g2,n,none⟩=false:=o1.frozenAt n;have hset:=eX.acJ bC n X.1;have cS:Hid _:=Az.out.trans (dD.trans hset.1);have HI2:Hid _:=hset.2;unfold o9 at hoc;clear dD bC hA1 hset o1 Uz
 go_wp2
 go_ret
 rw[HPS.out];exact⟨rfl,_,_,_,cS.out,by rw[<- HN.out];exact HI2.out⟩
theorem Tm (s:ByteArray) (ae:Bool) (pb:Nat) (hs:s.size<=9000):∀ n:Nat,W9 s ae pb (fG ae s.size n) n:=by
 intro n
 induction n with
 | zero =>
  intro w sv nv ov st h hl hb;have Vz:st.l=[]:=List.length_eq_zero_iff.1 (by omega)
  have dI:∀ n:NR,({ st with opened:=st.opened++[-1] }:PS).l≠[]->Gs ({ st with opened:=st.opened++[-1] }:PS).tail ((λ(_:NR) (st:PS)=>((-1:Int),st)) n ({ st with opened:=st.opened++[-1] }:PS).tail).2 3 1:=λ_ hne=>absurd Vz hne
  have hg:=Cz s.size { st with opened:=st.opened++[-1] } dI;unfold fG;refine Ku s ae pb _ w sv nv ov st h (by have:=hb.2.2;omega) (λw ov h'=>Kq s ae pb _ hs w sv nv ov _ h' ⟨hb.1,hb.2.1,by simp;have:=hb.2.2;omega⟩ (λhne=>absurd Vz hne)) ?_;have:=hg.2.2.2.2
  simpa using this
 | succ m ih =>
  intro w sv nv ov st h hl hb;have hG:=Rg ae s.size m
  have htl:st.tail.l.length<=m:=by simp[PS.tail];omega
  have dI:∀ n:NR,({ st with opened:=st.opened++[-1] }:PS).l≠[]->Gs ({ st with opened:=st.opened++[-1] }:PS).tail (ig ae s.size (fG ae s.size m) n ({ st with opened:=st.opened++[-1] }:PS).tail).2 3 1:=λn _=>yx hG ae s.size n _ htl
  have hg:=Cz s.size { st with opened:=st.opened++[-1] } dI;unfold fG;refine Ku s ae pb _ w sv nv ov st h (by have:=hb.2.2;omega) (λw ov h'=>Kq s ae pb _ hs w sv nv ov _ h' ⟨hb.1,hb.2.1,by simp;have:=hb.2.2;omega⟩ (λhne w n h''=>?_)) ?_
  ·have IW:0<st.l.length:=List.length_pos_iff.2 hne
   refine FC s ae pb (fG ae s.size m) m hs ih hG w sv nv ov _ n h'' htl ⟨?_,?_,?_⟩
   ·show st.scope.length+st.l.tail.length<=8999
    have:=hb.1;simp;omega
   ·show st.nodes.length+st.l.tail.length<=8999
    have:=hb.2.1;simp;omega
   ·show (st.opened++[-1]).length+4*st.l.tail.length<=49997
    have:=hb.2.2;simp;omega
  ·have:=hg.2.2.2.2
   simpa using this
def aQ (nv ov:Value):Value:=.agg #[nv,ov]
theorem Qr {s:ByteArray} {ae:Bool} {fr a:Nat} {fl:Bool} {w:World} {pb:Nat} {sv nv ov:Value} {t:TypeId} (h:w.heap[pb]?=some (.cells (gb s ae fr fl a sv nv ov) t (0,0))) :
  w.cell? ⟨pb,3,none⟩=some (.bool fl)/\w.cell? ⟨pb,4,none⟩=some (.int .i64 a)/\w.cell? ⟨pb,6,none⟩=some nv/\w.cell? ⟨pb,7,none⟩=some ov :=
 ⟨by rw[aa h];rfl,by rw[aa h];rfl,by rw[aa h];rfl,by rw[aa h];rfl⟩
theorem wg (s:ByteArray) (ae:Bool) (pb:Nat) (hs:s.size<=9000) (w:World) (sv nv ov:Value) (l:List Tk) (hl:l.length<=9000) (h:eX s ae pb w sv nv ov (ps0 l)) :
  Calls Tryz.prog 70 #[ptr pb] w λv w'=>∃ fV bJ gh,bL pb pb w w' sv nv ov fV bJ gh/\eX s ae pb w' fV bJ gh (kB ae s.size l) /\
   ((∃ q:Nat,(kB ae s.size l).fl=some q/\v=.returned (.tuple #[aQ (.slice none 0 0) (.slice none 0 0),.int .i64 q,.bool false])) \/
    ((kB ae s.size l).fl=none/\v=.returned (.tuple #[aQ bJ gh,.int .i64 0,.bool true]))):=by
 have hE:=Tm s ae pb hs l.length (w.alloc (.cells #[.slice none 0 0,.slice none 0 0] 62)) sv nv ov (ps0 l) (h.alloc _) (Nat.le_refl _) ⟨by simp[ps0];omega,by simp[ps0];omega,by simp[ps0];omega⟩
 have hex:=λw sv nv ov h=>l7 s ae pb w sv nv ov (fG ae s.size l.length (ps0 l)).2 0 hs h
 have hPP:(fG ae s.size l.length (ps0 l)).2.expect s.size 0=kB ae s.size l:=rfl;rw[hPP] at hex;have hnew:=Bk.new h (.cells #[.slice none 0 0,.slice none 0 0] 62);unfold jh ptr at hex;unfold ptr at hE;have QV:Hid _:=hnew;have DI:Hid _:=hex;have HH:Hid _:=h;clear hPP hex hnew h;generalize kB ae s.size l=P at *
 show Calls _ _ #[Value.pointer (some ⟨pb,0,none⟩)] w _
 go_enter Tryz.func70,Tryz.ntmps70
 go_wp2_with fail
 refine hE.mono ?_;rintro _ w1 ⟨rfl,AJ,sL,wG,sY,oC⟩;have hx:=DI.out _ _ _ _ oC;have dZ:Hid _:=QV.out.keep sY;have eH:Hid _:=sY;clear sY oC hE QV DI
 go_wp2_with fail
 refine hx.mono ?_;rintro _ w2 ⟨rfl,dD,bC⟩;have mi:=dZ.out.keep dD;have hF2:=eH.out.trans dD;obtain⟨fr,y1,y2,y3⟩:=bC.y;obtain⟨p3,p4,p6,p7⟩:=Qr y3
 have r0:w2.cell? ⟨w.heap.size,0,none⟩=some (.slice none 0 0):=by rw[aa mi.b];rfl
 have r1:w2.cell? ⟨w.heap.size,1,none⟩=some (.slice none 0 0):=by rw[aa mi.b];rfl
 have f0:=ag mi.b 0;have f1:=ag mi.b 1;have hne:=mi.ne
 have IW:pb≠w.heap.size:=λe=>mi.ne e.symm
 have eC:Hid _:=mi;have HI2:Hid _:=bC;have cS:Hid _:=hF2;clear dD bC mi hF2 y1 y2 y3 dZ eH hx
 cases hfl:P.fl with
 | some q =>
  rw[hfl] at p3 p4;simp only[Option.isSome_some,Option.getD_some] at p3 p4;have My:Hid _:=hfl;clear hfl
  go_wp2
  go_region
  all_goals
   go_wp2
   obtain⟨a1,a2,a3⟩:=eC.out.set HI2.out 0 (.slice none 0 0);obtain⟨b1,b2,b3⟩:=a3.set a2 1 (.slice none 0 0);have pq:Below ((w2.setCell ⟨w.heap.size,0,none⟩ (.slice none 0 0)).setCell ⟨w.heap.size,1,none⟩ (.slice none 0 0)).heap.size ((w2.setCell ⟨w.heap.size,0,none⟩ (.slice none 0 0)).setCell ⟨w.heap.size,1,none⟩ (.slice none 0 0)) ((w2.setCell ⟨w.heap.size,0,none⟩ (.slice none 0 0)).setCell ⟨w.heap.size,1,none⟩ (.slice none 0 0)).drew:=⟨rfl,rfl,rfl,Nat.le_refl _,λ_ _=>rfl⟩;have hF:=((((cS.out.nb (nb:=w.heap.size)).trans a1).trans b1).trans (bL.below pb w.heap.size AJ sL wG pq)).drop rfl;refine bodyPost_ret (v:=.tuple #[.agg #[.slice none 0 0,.slice none 0 0],.int .i64 q,.bool false]) (by simp[results,Tryz.results70,go_sem,r0,r1]) rfl ⟨AJ,sL,wG,hF,b2.below pq,Or.inl ⟨q,My.out,rfl⟩⟩
 | none =>
  rw[hfl] at p3 p4;simp only[Option.isSome_none,Option.getD_none] at p3 p4;have My:Hid _:=hfl;clear hfl
  obtain⟨x6,n6,c6,e6⟩:∃ a n c,sL=.slice a n c:=by
   rcases HI2.out.nd.2 with ⟨h1,_⟩ | ⟨g,cap,cur,h1,_⟩
   ·exact⟨_,_,_,h1⟩
   ·exact⟨_,_,_,h1⟩
  obtain⟨x7,n7,c7,e7⟩:∃ a n c,wG=.slice a n c:=by
   rcases HI2.out.op.2 with ⟨h1,_⟩ | ⟨g,cap,cur,h1,_⟩
   ·exact⟨_,_,_,h1⟩
   ·exact⟨_,_,_,h1⟩
  subst e6;subst e7;obtain⟨a1,a2,a3⟩:=eC.out.set HI2.out 0 (.slice x6 n6 c6);obtain⟨b1,b2,b3⟩:=a3.set a2 1 (.slice x7 n7 c7);have hF:=(((cS.out.nb (nb:=w.heap.size)).trans a1).trans b1).drop rfl;have ee:Hid _:=hF;have HI3:Hid _:=b2;clear a1 a2 a3 b1 b2 b3 hF
  go_wp2
  refine bodyPost_ret (v:=.tuple #[.agg #[.slice x6 n6 c6,.slice x7 n7 c7],.int .i64 0,.bool true]) (by simp[results,Tryz.results70,go_sem,r0,r1]) rfl ⟨AJ,_,_,ee.out,HI3.out,Or.inr ⟨My.out,rfl⟩⟩
theorem I4 (s:ByteArray):gK s.data.toList 0=tokens s.data.toList:=by unfold gK tokens;simp
theorem xU (s:ByteArray) (hs:s.size<=9000):(tokens s.data.toList).length<=9000:=by
 have:=DD s.data.toList.length 0 s.data.toList;unfold tokens;rw[ez] at this ⊢;omega
structure bB (w:World) (nv ov:Value) (ns:List NR) (op:List Int):Prop where
 nd:w.ownsRow 0 108 10 nv ns.length (ns.flatMap rV)
 op:w.ownsRow 0 3 1 ov op.length (op.map o9)
theorem bB.below {w w':World} {nv ov:Value} {ns:List NR} {op:List Int} (h:bB w nv ov ns op) (hb:Below w.heap.size w w'):bB w' nv ov ns op:=⟨aB h.nd hb,aB h.op hb⟩
theorem Nl (s:ByteArray) (ae:Bool) (w:World) (R:Obj):eX s ae (w.heap.size+1) ((w.alloc R).alloc (.cells (gb s ae 0 false 0 (.slice none 0 0) (.slice none 0 0) (.slice none 0 0)) 127)) (.slice none 0 0) (.slice none 0 0) (.slice none 0 0) (ps0 (tokens s.data.toList)):=by
 refine⟨⟨0,Nat.zero_le _,I4 s,?_⟩,World.ownsRow_nil _ _ _ _,World.ownsRow_nil _ _ _ _,World.ownsRow_nil _ _ _ _,by simp[Value.ownBlock],by simp[Value.ownBlock],by simp[Value.ownBlock],λg hg=>by simp[Value.ownBlock] at hg,λg hg=>by simp[Value.ownBlock] at hg,λg hg=>by simp[Value.ownBlock] at hg⟩;have h:=aj (w.alloc R) (.cells (gb s ae 0 false 0 (.slice none 0 0) (.slice none 0 0) (.slice none 0 0)) 127)
 have e:(w.alloc R).heap.size=w.heap.size+1:=by simp
 rw[e] at h;exact h
def tQ (s:ByteArray) (ae:Bool) (w:World) (v:Ending) (w':World):Prop :=
 Below w.heap.size w w' /\
 ((∃ q:Nat,(kB ae s.size (tokens s.data.toList)).fl=some q/\v=.returned (.tuple #[aQ (.slice none 0 0) (.slice none 0 0),.int .i64 q,.bool false])) \/
  ((kB ae s.size (tokens s.data.toList)).fl=none/\∃ nv ov,v=.returned (.tuple #[aQ nv ov,.int .i64 0,.bool true])/\bB w' nv ov (kB ae s.size (tokens s.data.toList)).nodes (kB ae s.size (tokens s.data.toList)).opened))
theorem bL.toBelow {w w':World} {A B:Obj} {fV bJ gh:Value} (h:bL (w.heap.size+1) (w.heap.size+1) ((w.alloc A).alloc B) w' (.slice none 0 0) (.slice none 0 0) (.slice none 0 0) fV bJ gh):Below w.heap.size w w'/\w'.heap[w.heap.size]?=some A/\w.heap.size+2<=w'.heap.size:=by
 have e:((w.alloc A).alloc B).heap.size=w.heap.size+2:=by simp
 have hs:=h.size;rw[e] at hs;have hb:Below w.heap.size w ((w.alloc A).alloc B):=((Below.refl _ w).alloc (Nat.le_refl _) A).alloc (by simp) B;refine⟨⟨h.os.trans hb.os,h.tape.trans hb.tape,h.output.trans hb.output,by omega,λk hk=>?_⟩,?_,hs⟩
 ·rw[h.blk k (by omega) (by omega) (by omega) (by simp[Value.ownBlock]) (by simp[Value.ownBlock]) (by simp[Value.ownBlock])]
  exact hb.block k hk
 ·rw[h.blk w.heap.size (by omega) (by omega) (by omega) (by simp[Value.ownBlock]) (by simp[Value.ownBlock]) (by simp[Value.ownBlock])]
  exact aR _ (aj w A)
theorem zu (s:ByteArray) (w:World) (hs:s.size<=9000):Calls Tryz.prog 51 #[.string s] w λv w'=>tQ s false w v w':=by
 have jN:=wg s false (w.heap.size+1) hs _ _ _ _ _ (xU s hs) (Nl s false w (.cells #[.slice none 0 0,.slice none 0 0] 62));unfold ptr gb at jN;unfold tQ;generalize kB false s.size (tokens s.data.toList)=P at *
 go_enter Tryz.func51,Tryz.ntmps51
 go_wp2_with fail
 refine jN.mono ?_;rintro v w1 ⟨AJ,sL,wG,hfr,hin,hv⟩;obtain⟨hb,hr,hsz⟩:=hfr.toBelow
 have r0:w1.cell? ⟨w.heap.size,0,none⟩=some (.slice none 0 0):=by rw[aa hr];rfl
 have r1:w1.cell? ⟨w.heap.size,1,none⟩=some (.slice none 0 0):=by rw[aa hr];rfl
 have f0:=ag hr 0;have f1:=ag hr 1;have HB:Hid _:=hb
 rcases hv with ⟨q,hfl,rfl⟩ | ⟨hfl,rfl⟩
 ·have My:Hid _:=hfl
  unfold aQ;clear hfl hfr hin hb hr jN
  go_wp2
  refine bodyPost_ret (v:=.tuple #[.agg #[.slice none 0 0,.slice none 0 0],.int .i64 q,.bool false]) (by simp[results,Tryz.results51,go_sem,r0,r1]) rfl ⟨?_,Or.inl ⟨q,My.out,rfl⟩⟩;exact (HB.out.setCell (p:=⟨w.heap.size,0,none⟩) (Nat.le_refl _) _).setCell (p:=⟨w.heap.size,1,none⟩) (Nat.le_refl _) _
 ·have My:Hid _:=hfl
  obtain⟨x6,n6,c6,e6⟩:∃ a n c,sL=.slice a n c:=by
   rcases hin.nd.2 with ⟨h1,_⟩ | ⟨g,cap,cur,h1,_⟩
   ·exact⟨_,_,_,h1⟩
   ·exact⟨_,_,_,h1⟩
  obtain⟨x7,n7,c7,e7⟩:∃ a n c,wG=.slice a n c:=by
   rcases hin.op.2 with ⟨h1,_⟩ | ⟨g,cap,cur,h1,_⟩
   ·exact⟨_,_,_,h1⟩
   ·exact⟨_,_,_,h1⟩
  have pz:∀ k,sL.ownBlock=some k->k≠w.heap.size:=λk hk=>by
   rcases hfr.n k hk with e | e
   ·simp[Value.ownBlock] at e
   ·simp at e;omega
  have hro:∀ k,wG.ownBlock=some k->k≠w.heap.size:=λk hk=>by
   rcases hfr.o k hk with e | e
   ·simp[Value.ownBlock] at e
   ·simp at e;omega
  subst e6;subst e7
  have HT:Hid (bB ((w1.setCell ⟨w.heap.size,0,none⟩ (.slice x6 n6 c6)).setCell ⟨w.heap.size,1,none⟩ (.slice x7 n7 c7)) (.slice x6 n6 c6) (.slice x7 n7 c7) P.nodes P.opened):=by
   refine⟨ay hin.nd (λk hk=>?_),ay hin.op (λk hk=>?_)⟩
   ·rw[aq _ _ (by simpa using pz k hk),aq _ _ (by simpa using pz k hk)]
   ·rw[aq _ _ (by simpa using hro k hk),aq _ _ (by simpa using hro k hk)]
  unfold aQ;clear hfl hfr hin hb hr jN pz hro
  go_wp2
  refine bodyPost_ret (v:=.tuple #[.agg #[.slice x6 n6 c6,.slice x7 n7 c7],.int .i64 0,.bool true]) (by simp[results,Tryz.results51,go_sem,r0,r1]) rfl ⟨?_,Or.inr ⟨My.out,_,_,rfl,HT.out⟩⟩;exact (HB.out.setCell (p:=⟨w.heap.size,0,none⟩) (Nat.le_refl _) _).setCell (p:=⟨w.heap.size,1,none⟩) (Nat.le_refl _) _
theorem Kv (n:NR):(rV n).length=10:=rfl
theorem Qs:∀ (l:List NR) (i j:Nat),j<10->(l.flatMap rV)[i*10+j]?=(l[i]?).bind (λn=>(rV n)[j]?)
 | [],i,j,_=>by simp
 | x::l,0,j,hj=>by
  rw[List.flatMap_cons,List.getElem?_append_left (by rw[Kv];omega)];simp
 | x::l,i+1,j,hj=>by
  have:=Qs l i j hj;rw[List.flatMap_cons,show (i+1)*10+j=(rV x).length+(i*10+j) from by rw[Kv];omega,List.getElem?_append_right (by omega),Nat.add_sub_cancel_left]
  simpa using this
theorem gp {w:World} {base:Nat} {e:TypeId} {size:Nat} {v:Value} {n:Nat} {xs:List Value} (h:w.ownsRow base e size v n xs) (hn:0<n):∃ g cap,v=.slice (some ⟨g,0,none⟩) n cap:=by
 rcases h.2 with ⟨_,h2⟩ | ⟨g,cap,cur,h1,_⟩
 ·omega
 ·exact⟨_,_,h1⟩
theorem aG {w:World} {base:Nat} {e:TypeId} {size:Nat} {v:Value} {n:Nat} {xs:List Value} (h:w.ownsRow base e size v n xs):∃ a cap,v=.slice a n cap:=by
 rcases h.2 with ⟨h1,h2⟩ | ⟨g,cap,cur,h1,_⟩
 ·exact⟨none,0,by rw[h1,h2]⟩
 ·exact⟨_,_,h1⟩
theorem iC (w:World) (nv ov:Value) (ns:List NR) (op:List Int) (h:bB w nv ov ns op):Calls Tryz.prog 60 #[aQ nv ov] w λv w'=>v=.returned (.int .i64 ns.length)/\Below w.heap.size w w':=by
 obtain⟨a,cap,rfl⟩:=aG h.nd;obtain⟨a',cap',rfl⟩:=aG h.op;clear h;unfold aQ
 go_enter Tryz.func60,Tryz.ntmps60
 go_wp2
 go_ret
 exact⟨rfl,(Below.refl _ _).alloc (Nat.le_refl _) _⟩
theorem xM {w:World} {ns:List NR} {g cap:Nat} (h:w.ownsRow 0 108 10 (.slice (some ⟨g,0,none⟩) ns.length cap) ns.length (ns.flatMap rV)) (k:Nat) (hk:k<ns.length) :
  w.cell? ⟨g,k*10,none⟩=some (.int .i64 ns[k].form)/\w.cell? ⟨g,k*10+1,none⟩=some (.int .i64 ns[k].at_)/\w.cell? ⟨g,k*10+2,none⟩=some (.int .i64 ns[k].aL)/\w.cell? ⟨g,k*10+3,none⟩=some (.int .i64 ns[k].num)/\w.cell? ⟨g,k*10+4,none⟩=some (.string (bs ns[k].word)) /\
  w.cell? ⟨g,k*10+5,none⟩=some (.int .i64 ns[k].region)/\w.cell? ⟨g,k*10+6,none⟩=some (.int .i64 ns[k].source)/\w.cell? ⟨g,k*10+7,none⟩=some (.int .i64 ns[k].p0)/\w.cell? ⟨g,k*10+8,none⟩=some (.int .i64 ns[k].p1)/\w.cell? ⟨g,k*10+9,none⟩=some (.int .i64 ns[k].p2):=by
 have key:∀ j,j<10->w.cell? ⟨g,k*10+j,none⟩=(rV ns[k])[j]?:=by
  intro j hj;rw[h.cellAt (k*10+j) (by omega),Qs ns k j hj,List.getElem?_eq_getElem hk];rfl
 exact⟨key 0 (by omega),key 1 (by omega),key 2 (by omega),key 3 (by omega),key 4 (by omega),key 5 (by omega),key 6 (by omega),key 7 (by omega),key 8 (by omega),key 9 (by omega)⟩
theorem Kx (w:World) (nv ov:Value) (ns:List NR) (op:List Int) (h:bB w nv ov ns op) (k:Nat) (hk:k<ns.length) (hl:ns.length<=9000):Calls Tryz.prog 61 #[aQ nv ov,.int .i64 k] w λv w'=>v=.returned (aK ns[k])/\Below w.heap.size w w':=by
 obtain⟨g,cap,rfl⟩:=gp h.nd (by omega);obtain⟨a',cap',rfl⟩:=aG h.op;obtain⟨c0,c1,c2,c3,c4,c5,c6,c7,c8,c9⟩:=xM h.nd k hk;have hg:g<w.heap.size:=(h.nd.lt g rfl).2;generalize ns[k]=n at *;generalize ns.length=m at *;clear h;unfold aQ aK
 go_enter Tryz.func61,Tryz.ntmps61
 go_wp2
 refine bodyPost_ret (v:=.agg #[.int .i64 n.form,.int .i64 n.at_,.int .i64 n.aL,.int .i64 n.num,.string (bs n.word),.int .i64 n.region,.int .i64 n.source,.int .i64 n.p0,.int .i64 n.p1,.int .i64 n.p2]) (by simp[results,Tryz.results61,go_sem]) rfl ⟨rfl,((Below.refl _ _).alloc (Nat.le_refl _) _).alloc (by simp) _⟩
theorem Tn {w w2:World} {A B:Obj} (hb:Below ((w.alloc A).alloc B).drew.heap.size ((w.alloc A).alloc B).drew w2):Below w.heap.size w w2:=by
 have h1:Below w.heap.size w ((w.alloc A).alloc B).drew:=(((Below.refl _ w).alloc (Nat.le_refl _) A).alloc (by simp) B).trans ⟨rfl,rfl,rfl,Nat.le_refl _,λ_ _=>rfl⟩;exact h1.trans (hb.mono (by show w.heap.size<=((w.alloc A).alloc B).heap.size;simp;omega))
theorem Mp {w:World} {op:List Int} {g cap:Nat} (h:w.ownsRow 0 3 1 (.slice (some ⟨g,0,none⟩) op.length cap) op.length (op.map o9)) (k:Nat) (hk:k<op.length):w.cell? ⟨g,k,none⟩=some (.int .i64 op[k]):=by
 rw[h.cellAt k (by omega),List.getElem?_map,List.getElem?_eq_getElem hk];rfl
theorem Mq (w:World) (nv ov:Value) (ns:List NR) (op:List Int) (h:bB w nv ov ns op) (k i:Nat) (hk:k<op.length) (hi:i<ns.length) (hki:op[k]=(i:Int)) (hl:ns.length<=9000) (hl2:op.length<=60000):Calls Tryz.prog 64 #[aQ nv ov,.int .i64 k] w λv w'=>v=.returned (aK ns[i])/\Below w.heap.size w w':=by
 have hno:=λ(w':World) (hb:Below w.heap.size w w')=>Kx w' nv ov ns op (h.below hb) i hi hl
 obtain⟨g0,kW,rfl⟩:=gp h.nd (by omega);obtain⟨g,cap,rfl⟩:=gp h.op (by omega);have c0:=Mp h.op k hk;rw[hki] at c0;have hg:g<w.heap.size:=(h.op.lt g rfl).2;clear h hki;generalize ns[i]=n at *;generalize ns.length=m at *;generalize op.length=m2 at *;unfold aQ aK at hno;unfold aQ aK;have uN:Hid _:=hno;clear hno
 go_enter Tryz.func64,Tryz.ntmps64
 go_wp2
 go_region_with (go_at_call 61;refine (uN.out _ ?_).mono ?_;exact (((Below.refl _ w).alloc (Nat.le_refl _) _).alloc (by simp) _).trans ⟨rfl,rfl,rfl,Nat.le_refl _,λ_ _=>rfl⟩;rintro e w2 ⟨rfl,hb2⟩;(have Yf:=kF hb2;obtain⟨c0,c1,c2,c3,c4,c5,c6,c7,c8,c9⟩:=Kp Yf;obtain⟨f0,f1,f2,f3,f4,f5,f6,f7,f8,f9⟩:=Ql Yf))
 all_goals go_wp2
 all_goals
  have hB:=Tn hb2;refine bodyPost_ret (v:=.agg #[.int .i64 n.form,.int .i64 n.at_,.int .i64 n.aL,.int .i64 n.num,.string (bs n.word),.int .i64 n.region,.int .i64 n.source,.int .i64 n.p0,.int .i64 n.p1,.int .i64 n.p2]) (by simp[results,Tryz.results64,go_sem,c0,c1,c2,c3,c4,c5,c6,c7,c8,c9]) rfl ⟨rfl,((((((((((hB.setCell (p:=⟨w.heap.size+1,0,none⟩) (by simp) _).setCell (p:=⟨w.heap.size+1,1,none⟩) (by simp) _).setCell (p:=⟨w.heap.size+1,2,none⟩) (by simp) _).setCell (p:=⟨w.heap.size+1,3,none⟩) (by simp) _).setCell (p:=⟨w.heap.size+1,4,none⟩) (by simp) _).setCell (p:=⟨w.heap.size+1,5,none⟩) (by simp) _).setCell (p:=⟨w.heap.size+1,6,none⟩) (by simp) _).setCell (p:=⟨w.heap.size+1,7,none⟩) (by simp) _).setCell (p:=⟨w.heap.size+1,8,none⟩) (by simp) _).setCell (p:=⟨w.heap.size+1,9,none⟩) (by simp) _)⟩
theorem eT (w:World) (nv ov:Value) (ns:List NR) (op:List Int) (h:bB w nv ov ns op) (k:Nat) (n:NR) (hk:ns[k]?=some n) (hl:ns.length<=9000):Calls Tryz.prog 61 #[aQ nv ov,.int .i64 k] w λv w'=>v=.returned (aK n)/\Below w.heap.size w w':=by
 obtain⟨h1,h2⟩:=List.getElem?_eq_some_iff.1 hk;rw[<- h2];exact Kx w nv ov ns op h k h1 hl
theorem nZ (w:World) (nv ov:Value) (ns:List NR) (op:List Int) (h:bB w nv ov ns op) (k i:Nat) (n:NR) (hk:op[k]?=some (i:Int)) (hi:ns[i]?=some n) (hl:ns.length<=9000) (hl2:op.length<=60000):Calls Tryz.prog 64 #[aQ nv ov,.int .i64 k] w λv w'=>v=.returned (aK n)/\Below w.heap.size w w':=by
 obtain⟨h1,h2⟩:=List.getElem?_eq_some_iff.1 hk;obtain⟨h3,h4⟩:=List.getElem?_eq_some_iff.1 hi;rw[<- h4];exact Mq w nv ov ns op h k i h1 h3 h2 hl hl2
def xK (ns:List NR) (op:List Int):Prop:=op.length=ns.length/\∀ x∈op,0<=x/\x.toNat<ns.length
def fX (ns:List NR) (op:List Int):Nat × Nat:=if 100<(op.filterMap (cw ns)).length then (3,((op.filterMap (cw ns))[100]?).getD 0) else (0,0)
theorem dK {w W:World} {a b:Value} {t:TypeId} (h:Below (w.alloc (.cells #[a,b] t)).heap.size (w.alloc (.cells #[a,b] t)) W):W.cell? ⟨w.heap.size,0,none⟩=some a/\W.cell? ⟨w.heap.size,1,none⟩=some b/\w.heap.size<W.heap.size:=by
 have hb:W.heap[w.heap.size]?=some (.cells #[a,b] t (0,0)):=by rw[h.block _ (by simp)];exact aj _ _
 exact⟨by rw[aa hb];rfl,by rw[aa hb];rfl,af hb⟩
theorem AE (w:World) (nv ov:Value) (ns:List NR) (op:List Int) (h:bB w nv ov ns op) (ho:xK ns op) (hl:ns.length<=9000) :
  Calls Tryz.prog 59 #[aQ nv ov] w λv w'=>v=.returned (.tuple #[.int .i64 (fX ns op).1,.int .i64 (fX ns op).2])/\Below w.heap.size w w':=by
 have hlen:=λ(w':World) (hb:Below w.heap.size w w')=>iC w' nv ov ns op (h.below hb)
 have iI:=λ(w':World) (hb:Below w.heap.size w w') (k i:Nat) (n:NR) (hk:op[k]?=some (i:Int)) (hi:ns[i]?=some n)=>nZ w' nv ov ns op (h.below hb) k i n hk hi hl (by rw[ho.1];omega)
 obtain⟨a0,kW,e0⟩:=aG h.nd;obtain⟨a1,lL,e1⟩:=aG h.op;rw[ho.1] at e1;obtain⟨m,hm⟩:∃ m,m=ns.length:=⟨_,rfl⟩;rw[<- hm] at e0 e1 hl;subst e0;subst e1;have HO:Hid _:=ho;have HM:Hid _:=hm;unfold aQ at hlen iI;unfold aQ;unfold aK at iI;rw[<- hm] at hlen;have mR:Hid _:=hlen;have GU:Hid _:=iI;obtain⟨ans,dm⟩:∃ ans,ans=fX ns op:=⟨_,rfl⟩;rw[<- dm];have kX:Hid _:=dm;clear hlen iI ho h hm dm;have Du:Below w.heap.size w (w.alloc (.cells #[.slice a0 m kW,.slice a1 m lL] 62)):=(Below.refl _ w).alloc (Nat.le_refl _) _;have eE:Hid _:=Du;clear Du
 go_enter Tryz.func59,Tryz.ntmps59
 go_wp2
 go_loopw [4,5,6] (λc i _ wr=>∃ k p:Nat,k<=m/\i=.int .i64 k/\c=.int .i64 p/\p<=100/\Hid (p=((op.take k).filterMap (cw ns)).length)/\Below (w.alloc (.cells #[.slice a0 m kW,.slice a1 m lL] 62)).heap.size (w.alloc (.cells #[.slice a0 m kW,.slice a1 m lL] 62)) wr) (λ_ i _ _=>m-(intOf i).toNat)
 case atStart=>exact⟨0,0,by omega,rfl,rfl,by omega,(by simp:(0:Nat)=((op.take 0).filterMap (cw ns)).length),Below.refl _ _⟩
 case round =>
  obtain⟨k,p,hk,rfl,rfl,hp,HP,dI⟩:=hrel;obtain⟨b0,b1,bl⟩:=dK dI;have AF:Below w.heap.size w wr:=eE.out.trans (dI.mono (by simp));have ja:=mR.out wr AF;have Cf:=AF.size;have mS:=dI.size
  by_cases hlt:k<m
  ·have hkl:k<op.length:=by have:=HO.out.1;have:=HM.out;omega
   obtain⟨x0,x1⟩:=HO.out.2 op[k] (List.getElem_mem hkl);obtain⟨i,hi⟩:∃ i:Nat,op[k]=(i:Int):=⟨op[k].toNat,by omega⟩
   have mG:i<ns.length:=by omega
   obtain⟨n,hn⟩:∃ n,ns[i]?=some n:=⟨ns[i],List.getElem?_eq_getElem mG⟩
   have aa4:op[k]?=some (i:Int):=by rw[List.getElem?_eq_getElem hkl,hi]
   have DJ:cw ns (i:Int)=if n.form=4 then some n.at_ else none:=by unfold cw;rw[Int.toNat_natCast,hn]
   have htk:(op.take (k+1)).filterMap (cw ns)=(op.take k).filterMap (cw ns)++(cw ns (i:Int)).toList:=by
    rw[List.take_succ_eq_append_getElem hkl,List.filterMap_append,hi]
    cases hc:cw ns (i:Int) <;> simp[hc]
   rw[DJ] at htk;have jG:Hid _:=htk;have HN:Hid _:=hn;have acK:Hid _:=aa4;clear x0 x1 hi mG hn aa4 DJ htk hkl
   go_wp2_with fail
   refine ja.mono ?_;rintro _ w1 ⟨rfl,hb1⟩;have ky:=dI.trans (hb1.mono mS);obtain⟨d0,d1,dl⟩:=dK ky;have iI:=GU.out w1 (eE.out.trans (ky.mono (by simp))) k i n acK.out HN.out;have Ml:Hid _:=ky;clear ky hb1 ja b0 b1 dI
   go_wp2_with fail
   refine iI.mono ?_;rintro _ w2 ⟨rfl,hb2⟩;have GP:=Ml.out.trans (hb2.mono Ml.out.size);have Tp:Hid _:=GP.alloc GP.size (cA n);clear GP hb2 iI Ml d0 d1;unfold cA AA at Tp
   by_cases h4:n.form=4
   ·have q4:((n.form:Int)==4)=true:=aJ (b:=4) h4
    have htk:=jG.out;rw[if_pos h4] at htk;have ub:Hid _:=htk;clear htk jG h4
    by_cases D4:p<100
    ·go_wp2
     go_roundw
     case rel=>exact⟨k+1,p+1,by omega,by go_num,by go_num,by omega,(by rw[ub.out,List.length_append,<- HP.out];rfl:p+1=((op.take (k+1)).filterMap (cw ns)).length),Tp.out⟩
     case measure=>simp[intOf];omega
    ·have UO:p=100:=by omega
     have HA:Hid (ans=(3,n.at_)):=by
      have e:op.filterMap (cw ns)=((op.take k).filterMap (cw ns)++[n.at_])++(op.drop (k+1)).filterMap (cw ns):=by
       have h1:=List.take_append_drop (k+1) op
       conv=>lhs;rw[<- h1]
       rw[List.filterMap_append,ub.out];rfl
      have hlen:((op.take k).filterMap (cw ns)).length=100:=by rw[<- HP.out];exact UO
      have aa5:(op.filterMap (cw ns))[100]?=some n.at_:=by
       rw[e,List.getElem?_append_left (by simp[hlen]),List.getElem?_append_right (by omega),hlen];rfl
      have Qo:100<(op.filterMap (cw ns)).length:=(List.getElem?_eq_some_iff.1 aa5).1;rw[kX.out];unfold fX;rw[if_pos Qo,aa5];exact rfl
     clear UO
     go_wp2
     go_quiet (fail)
     go_wp2
     refine bodyPost_ret (v:=.tuple #[.int .i64 3,.int .i64 n.at_]) (by simp[results,Tryz.results59,go_sem]) rfl ⟨by rw[HA.out];rfl,?_⟩;exact (eE.out.trans (Tp.out.mono (by simp))).trans ⟨rfl,rfl,rfl,Nat.le_refl _,λ_ _=>rfl⟩
   ·have q4:((n.form:Int)==4)=false:=ah (b:=4) h4
    have htk:=jG.out;rw[if_neg h4] at htk;have ub:Hid _:=htk;clear htk jG h4
    go_wp2
    go_roundw
    case rel=>exact⟨k+1,p,by omega,by go_num,rfl,by omega,(by rw[ub.out,Option.toList_none,List.append_nil];exact HP.out:p=((op.take (k+1)).filterMap (cw ns)).length),Tp.out⟩
    case measure=>simp[intOf];omega
  ·have HA:Hid (ans=(0,0)):=by
    have Je:op.take k=op:=List.take_of_length_le (by have:=HO.out.1;have:=HM.out;omega);have h1:=HP.out;rw[Je] at h1;rw[kX.out];unfold fX;rw[if_neg (by omega)];exact rfl
   have ji:Hid _:=dI;clear dI
   go_wp2_with fail
   refine ja.mono ?_;rintro _ w1 ⟨rfl,hb1⟩;have dZ:Hid _:=eE.out.trans ((ji.out.trans (hb1.mono mS)).mono (by simp));clear hb1 ja
   go_wp2
   refine bodyPost_ret (v:=.tuple #[.int .i64 0,.int .i64 0]) (by simp[results,Tryz.results59,go_sem]) rfl ⟨by rw[HA.out];rfl,dZ.out⟩
structure TP where
 r:Nat
 a:Nat
 b:Nat
 sz:Nat
 deriving DecidableEq
def Ds (p:TP):List Value:=[.int .i64 p.r,.int .i64 p.a,.int .i64 p.b,.int .i64 p.sz]
def we (p:TP):Value:=.agg #[.int .i64 p.r,.int .i64 p.a,.int .i64 p.b,.int .i64 p.sz]
def fW (tb:List TP) (k:Nat):TP:=if k=0 then ⟨0,0,0,0⟩ else (tb[k-1]?).getD ⟨0,0,0,0⟩
theorem UQ:∀ (l:List TP) (i j:Nat),j<4->(l.flatMap Ds)[i*4+j]?=(l[i]?).bind (λn=>(Ds n)[j]?)
 | [],i,j,_=>by simp
 | x::l,0,j,hj=>by
  rw[List.flatMap_cons,List.getElem?_append_left (by show 0*4+j<4;omega)];simp
 | x::l,i+1,j,hj=>by
  have:=UQ l i j hj;rw[List.flatMap_cons,show (i+1)*4+j=(Ds x).length+(i*4+j) from by show _=4+_;omega,List.getElem?_append_right (by omega),Nat.add_sub_cancel_left]
  simpa using this
theorem xH {w:World} {tb:List TP} {g cap:Nat} (h:w.ownsRow 0 146 4 (.slice (some ⟨g,0,none⟩) tb.length cap) tb.length (tb.flatMap Ds)) (k:Nat) (p:TP) (hk:tb[k]?=some p) :
  w.cell? ⟨g,k*4,none⟩=some (.int .i64 p.r)/\w.cell? ⟨g,k*4+1,none⟩=some (.int .i64 p.a)/\w.cell? ⟨g,k*4+2,none⟩=some (.int .i64 p.b)/\w.cell? ⟨g,k*4+3,none⟩=some (.int .i64 p.sz):=by
 have hkl:=(List.getElem?_eq_some_iff.1 hk).1
 have key:∀ j,j<4->w.cell? ⟨g,k*4+j,none⟩=(Ds p)[j]?:=by
  intro j hj;rw[h.cellAt (k*4+j) (by omega),UQ tb k j hj,hk];rfl
 exact⟨key 0 (by omega),key 1 (by omega),key 2 (by omega),key 3 (by omega)⟩
theorem qK (w:World) (cb o:Nat) (pv:Value) (tb:List TP) (k:Nat) (hc:w.cell? ⟨cb,o,none⟩=some pv) (hr:w.ownsRow 0 146 4 pv tb.length (tb.flatMap Ds)) (hl:tb.length<=9000) (hk:k<=10000) :
  Calls Tryz.prog 86 #[.pointer (some ⟨cb,o,none⟩),.int .i64 k] w λv w'=>v=.returned (we (fW tb k))/\Below w.heap.size w w':=by
 have Al:=World.block_lt_of_cell? _ _ hc
 show Calls _ _ #[Value.pointer (some ⟨cb,o,none⟩),_] w _
 by_cases h0:k=0\/tb.length<k
 ·have e:fW tb k=⟨0,0,0,0⟩:=by
   unfold fW
   split
   ·rfl
   ·rw[List.getElem?_eq_none (by omega)];rfl
  rw[e];obtain⟨a,cap,rfl⟩:=aG hr;generalize tb.length=m at *;clear hr e;unfold we
  rcases h0 with h0 | h0
  ·have h0':k<1:=by omega
   clear h0
   go_enter Tryz.func86,Tryz.ntmps86
   go_wp2
   refine bodyPost_ret (v:=.agg #[.int .i64 0,.int .i64 0,.int .i64 0,.int .i64 0]) (by simp[results,Tryz.results86,go_sem]) rfl ⟨rfl,(Below.refl _ _).alloc (Nat.le_refl _) _⟩
  ·have h1:1<=k:=by omega
   go_enter Tryz.func86,Tryz.ntmps86
   go_wp2
   refine bodyPost_ret (v:=.agg #[.int .i64 0,.int .i64 0,.int .i64 0,.int .i64 0]) (by simp[results,Tryz.results86,go_sem]) rfl ⟨rfl,(Below.refl _ _).alloc (Nat.le_refl _) _⟩
 ·obtain⟨g,cap,rfl⟩:=gp hr (by omega)
  obtain⟨j,rfl⟩:∃ j,k=j+1:=⟨k-1,by omega⟩
  have hj:j<tb.length:=by omega
  obtain⟨p,hp⟩:∃ p,tb[j]?=some p:=⟨tb[j],List.getElem?_eq_getElem hj⟩
  have e:fW tb (j+1)=p:=by unfold fW;rw[if_neg (by omega),Nat.add_sub_cancel,hp];rfl
  rw[e];obtain⟨c0,c1,c2,c3⟩:=xH hr j p hp;have hg:g<w.heap.size:=(hr.lt g rfl).2
  have ej:((j+1:Nat):Int)=(j:Int)+1:=by omega
  have ej2:(j:Int)+1-1=(j:Int):=by omega
  generalize tb.length=m at *;clear hr e hp h0;unfold we;rw[ej]
  go_enter Tryz.func86,Tryz.ntmps86
  go_wp2
  refine bodyPost_ret (v:=.agg #[.int .i64 p.r,.int .i64 p.a,.int .i64 p.b,.int .i64 p.sz]) (by simp[results,Tryz.results86,go_sem]) rfl ⟨rfl,(Below.refl _ _).alloc (Nat.le_refl _) _⟩
theorem U7 (w:World) (cb:Nat) (pv:Value) (tb:List TP) (k:Nat) (hc:w.cell? ⟨cb,0,none⟩=some pv) (hr:w.ownsRow 0 146 4 pv tb.length (tb.flatMap Ds)) (hl:tb.length<=9000) (hk:k<=10000) :
  Calls Tryz.prog 86 #[ptr cb,.int .i64 k] w λv w'=>v=.returned (we (fW tb k))/\Below w.heap.size w w' :=
 qK w cb 0 pv tb k hc hr hl hk
structure Cc (cb:Nat) (w:World) (pv tv:Value) (tb:List TP) (K:List Nat):Prop where
 y:w.heap[cb]?=some (.cells #[pv,tv] 104 (0,0))
 p:w.ownsRow 0 146 4 pv tb.length (tb.flatMap Ds)
 t:w.ownsRow 0 3 1 tv K.length (K.map λ(k:Nat)=>Value.int .i64 k)
 py:pv.ownBlock≠some cb
 ty:tv.ownBlock≠some cb
 pt:apart pv tv
theorem Cc.below {cb:Nat} {w w':World} {pv tv:Value} {tb:List TP} {K:List Nat} (h:Cc cb w pv tv tb K) (hb:Below w.heap.size w w'):Cc cb w' pv tv tb K :=
 ⟨by rw[hb.block cb (af h.y)];exact h.y,aB h.p hb,aB h.t hb,h.py,h.ty,h.pt⟩
def au (K:List Nat) (i:Int):Nat:=if 0<=i then (K[i.toNat]?).getD 0 else 0
structure gj (cb o:Nat) (A:Array Value) (T:TypeId) (w:World) (pv tv:Value) (tb:List TP) (K:List Nat):Prop where
 y:w.heap[cb]?=some (.cells A T (0,0))
 a:A[o]?=some pv
 b:A[o+1]?=some tv
 p:w.ownsRow 0 146 4 pv tb.length (tb.flatMap Ds)
 t:w.ownsRow 0 3 1 tv K.length (K.map λ(k:Nat)=>Value.int .i64 k)
 py:pv.ownBlock≠some cb
 ty:tv.ownBlock≠some cb
 pt:apart pv tv
theorem gj.below {cb o:Nat} {A:Array Value} {T:TypeId} {w w':World} {pv tv:Value} {tb:List TP} {K:List Nat} (h:gj cb o A T w pv tv tb K) (hb:Below w.heap.size w w'):gj cb o A T w' pv tv tb K :=
 ⟨by rw[hb.block cb (af h.y)];exact h.y,h.a,h.b,aB h.p hb,aB h.t hb,h.py,h.ty,h.pt⟩
theorem gj.c0 {cb o:Nat} {A:Array Value} {T:TypeId} {w:World} {pv tv:Value} {tb:List TP} {K:List Nat} (h:gj cb o A T w pv tv tb K):w.cell? ⟨cb,o,none⟩=some pv:=by rw[aa h.y];exact h.a
theorem gj.c1 {cb o:Nat} {A:Array Value} {T:TypeId} {w:World} {pv tv:Value} {tb:List TP} {K:List Nat} (h:gj cb o A T w pv tv tb K):w.cell? ⟨cb,o+1,none⟩=some tv:=by rw[aa h.y];exact h.b
theorem Qt {A:Array Value} {o:Nat} {v:Value} (h:A[o]?=some v):A.setIfInBounds o v=A:=by
 apply Array.ext_getElem?
 intro i;rw[Array.getElem?_setIfInBounds]
 split
 ·next e=>subst e;split;exact h.symm;next hn=>rw[Array.getElem?_eq_none (by omega)]
 ·rfl
theorem gj.self {cb o:Nat} {A:Array Value} {T:TypeId} {w:World} {pv tv:Value} {tb:List TP} {K:List Nat} (h:gj cb o A T w pv tv tb K):gj cb o (A.setIfInBounds o pv) T w pv tv tb K:=by rw[Qt h.a];exact h
theorem Cc.toO {cb:Nat} {w:World} {pv tv:Value} {tb:List TP} {K:List Nat} (h:Cc cb w pv tv tb K):gj cb 0 #[pv,tv] 104 w pv tv tb K:=⟨h.y,rfl,rfl,h.p,h.t,h.py,h.ty,h.pt⟩
theorem gj.toC {cb:Nat} {w:World} {pv tv:Value} {tb:List TP} {K:List Nat} (h:gj cb 0 #[pv,tv] 104 w pv tv tb K):Cc cb w pv tv tb K:=⟨h.y,h.p,h.t,h.py,h.ty,h.pt⟩
theorem iG (w:World) (cb o:Nat) (tv:Value) (K:List Nat) (i:Int) (y1:w.cell? ⟨cb,o+1,none⟩=some tv) (ht:w.ownsRow 0 3 1 tv K.length (K.map λ(k:Nat)=>Value.int .i64 k)) (hl:K.length<=9000) (hi:-10<=i/\i<=10000) :
  Calls Tryz.prog 85 #[.pointer (some ⟨cb,o,none⟩),.int .i64 i] w λv w'=>v=.returned (.int .i64 (au K i))/\w'=w:=by
 show Calls _ _ #[Value.pointer (some ⟨cb,o,none⟩),_] w _
 by_cases h0:i<0
 ·have e:au K i=0:=by unfold au;rw[if_neg (by omega)]
  rw[e];obtain⟨a,cap,rfl⟩:=aG ht;clear ht e
  go_enter Tryz.func85,Tryz.ntmps85
  go_wp2
  go_ret
  exact⟨rfl,rfl⟩
 ·obtain⟨j,rfl⟩:∃ j:Nat,i=(j:Int):=⟨i.toNat,by omega⟩
  by_cases hj:j<K.length
  ·obtain⟨g,cap,rfl⟩:=gp ht (by omega)
   have e:au K (j:Int)=K[j]:=by unfold au;rw[if_pos (by omega),Int.toNat_natCast,List.getElem?_eq_getElem hj];rfl
   rw[e]
   have c:w.cell? ⟨g,j,none⟩=some (.int .i64 K[j]):=by rw[ht.cellAt j (by omega),List.getElem?_map,List.getElem?_eq_getElem hj];rfl
   generalize K[j]=x at *;generalize K.length=m at *;clear ht e
   go_enter Tryz.func85,Tryz.ntmps85
   go_wp2
   go_ret
   exact⟨rfl,rfl⟩
  ·have e:au K (j:Int)=0:=by unfold au;rw[if_pos (by omega),Int.toNat_natCast,List.getElem?_eq_none (by omega)];rfl
   rw[e];obtain⟨a,cap,rfl⟩:=aG ht;clear ht e
   go_enter Tryz.func85,Tryz.ntmps85
   go_wp2
   go_ret
   exact⟨rfl,rfl⟩
theorem lp (w:World) (cb:Nat) (pv tv:Value) (tb:List TP) (K:List Nat) (i:Int) (h:Cc cb w pv tv tb K) (hl:K.length<=9000) (hi:-10<=i/\i<=10000) :
  Calls Tryz.prog 85 #[ptr cb,.int .i64 i] w λv w'=>v=.returned (.int .i64 (au K i))/\w'=w :=
 iG w cb 0 tv K i (by rw[aa h.y];rfl) h.t hl hi
def dc (E:List Nat):List Value:=E.map λ(k:Nat)=>Value.int .i64 k
theorem Aj {w:World} {E:List Nat} {g cap base:Nat} (h:w.ownsRow base 3 1 (.slice (some ⟨g,0,none⟩) E.length cap) E.length (dc E)) (k:Nat) (hk:k<E.length):w.cell? ⟨g,k,none⟩=some (.int .i64 E[k]):=by
 rw[h.cellAt k (by omega)];unfold dc;rw[List.getElem?_map,List.getElem?_eq_getElem hk];rfl
theorem rz (w:World) (sb base:Nat) (ev:Value) (E:List Nat) (p:Nat) (hc:w.cell? ⟨sb,2,none⟩=some ev) (hr:w.ownsRow base 3 1 ev E.length (dc E)) (hl:E.length<=9000) (hp:p<=10000) :
  Calls Tryz.prog 73 #[ptr sb,.int .i64 p] w λv w'=>v=.returned (.int .i64 (aX E p))/\w'=w:=by
 have hsb:=World.block_lt_of_cell? _ _ hc;obtain⟨ans,dm⟩:∃ ans,ans=aX E p:=⟨_,rfl⟩;rw[<- dm];have HA:Hid _:=dm;clear dm
 show Calls _ _ #[Value.pointer (some ⟨sb,0,none⟩),_] w _
 rcases hr.2 with ⟨hv,hn⟩ | ⟨g,cap,cur,hv,hx⟩
 ·subst hv
  have HE:Hid (ans=p):=(show ans=p by rw[HA.out,gZ,List.getElem?_eq_none (by omega)]);clear hr HA
  go_enter Tryz.func73,Tryz.ntmps73
  go_wp2
  go_loopw [1] (λi wr=>i=.int .i64 p/\wr=w) (λ_ _=>0)
  case atStart=>exact⟨rfl,rfl⟩
  case round =>
   obtain⟨rfl,rfl⟩:=hrel
   go_wp2
   go_ret
   exact⟨by rw[HE.out];first | done | rfl,rfl⟩
 ·subst hv
  have hgl:g<w.heap.size:=(hr.lt g rfl).2
  have HC:Hid (∀ k (hk:k<E.length),w.cell? ⟨g,k,none⟩=some (.int .i64 E[k])):=λk hk=>Aj hr k hk
  obtain⟨m,hm⟩:∃ m,m=E.length:=⟨_,rfl⟩;rw[<- hm] at hc hl;have HM:Hid _:=hm;clear hr hx hm
  go_enter Tryz.func73,Tryz.ntmps73
  go_wp2
  go_loopw [1] (λi wr=>∃ k:Nat,i=.int .i64 k/\k<=10000/\wr=w/\Hid (aX E p=aX E k)) (λi _=>(intOf i).toNat)
  case atStart=>exact⟨p,rfl,hp,rfl,(rfl:aX E p=aX E p)⟩
  case round =>
   obtain⟨k,rfl,hk,rfl,HF⟩:=hrel
   by_cases hlt:k<m
   ·have hkl:k<E.length:=by have:=HM.out;omega
    have c0:=HC.out k hkl;have hst:=gZ E k;rw[List.getElem?_eq_getElem hkl] at hst;simp only at hst;obtain⟨x,hx⟩:∃ x,x=E[k]:=⟨_,rfl⟩;rw[<- hx] at c0 hst;clear hx
    by_cases hxk:x<k
    ·have cS:Hid (aX E p=aX E x):=(show aX E p=_ by rw[HF.out,hst,if_pos hxk])
     have hz:(x:Int)<(k:Int):=by omega
     clear hst
     go_wp2
     go_roundw
     case rel=>exact⟨x,rfl,by omega,by first | rfl | trivial,cS.out⟩
     case measure=>simp[intOf];omega
    ·have HE:Hid (ans=k):=(show ans=k by rw[HA.out,HF.out,hst,if_neg hxk])
     have hz:¬ (x:Int)<(k:Int):=by omega
     clear hst
     go_wp2
     go_ret
     exact⟨by rw[HE.out];first | done | rfl,rfl⟩
   ·have HE:Hid (ans=k):=(show ans=k by rw[HA.out,HF.out,gZ,List.getElem?_eq_none (by have:=HM.out;omega)])
    go_wp2
    go_ret
    exact⟨by rw[HE.out];first | done | rfl,rfl⟩
def gW (row:List Nat) (x:Nat):Int:=match row.findIdx? (·==x) with
 | some i=>(i:Int)
 | none=>-1
theorem FQ (row:List Nat) (x k:Nat) (hk:k<row.length) (hf:∀ i y,i<k->row[i]?=some y->y≠x):(row[k]=x->gW row x=(k:Int)):=by
 intro e;unfold gW
 have:row.findIdx? (·==x)=some k:=by
  rw[List.findIdx?_eq_some_iff_getElem];refine⟨hk,by simpa using e,λj hj=>?_⟩;have:=hf j row[j] hj (List.getElem?_eq_getElem (by omega))
  simpa using this
 rw[this]
theorem Gd (row:List Nat) (x:Nat) (hf:∀ i y,i<row.length->row[i]?=some y->y≠x):gW row x=-1:=by
 unfold gW
 have:row.findIdx? (·==x)=none:=by
  rw[List.findIdx?_eq_none_iff];intro y hy;obtain⟨i,hi⟩:=List.getElem?_of_mem hy;have:=hf i y (List.getElem?_eq_some_iff.1 hi).1 hi
  simpa using this
 rw[this]
theorem Fm (w:World) (base:Nat) (ev:Value) (E:List Nat) (x:Nat) (hr:w.ownsRow base 3 1 ev E.length (dc E)) (hl:E.length<=9000) :
  Calls Tryz.prog 74 #[ev,.int .i64 x] w λv w'=>v=.returned (.int .i64 (gW E x))/\w'=w:=by
 obtain⟨ans,dm⟩:∃ ans,ans=gW E x:=⟨_,rfl⟩;rw[<- dm];have HA:Hid _:=dm;clear dm
 rcases hr.2 with ⟨hv,hn⟩ | ⟨g,cap,cur,hv,hx⟩
 ·subst hv
  have HE:Hid (ans=-1):=(show ans=-1 by rw[HA.out];exact Gd E x (λi y hi=>by omega));clear hr HA
  go_enter Tryz.func74,Tryz.ntmps74
  go_wp2
  go_loopw [5] (λi wr=>i=.int .i64 0/\wr=w) (λ_ _=>0)
  case atStart=>exact⟨rfl,rfl⟩
  case round =>
   obtain⟨rfl,rfl⟩:=hrel
   go_wp2
   go_ret
   exact⟨by rw[HE.out];first | done | rfl,rfl⟩
 ·subst hv
  have hgl:g<w.heap.size:=(hr.lt g rfl).2
  have HC:Hid (∀ k (hk:k<E.length),w.cell? ⟨g,k,none⟩=some (.int .i64 E[k])):=λk hk=>Aj hr k hk
  obtain⟨m,hm⟩:∃ m,m=E.length:=⟨_,rfl⟩;rw[<- hm] at hl ⊢;have HM:Hid _:=hm;clear hr hx hm
  go_enter Tryz.func74,Tryz.ntmps74
  go_wp2
  go_loopw [5] (λi wr=>∃ k:Nat,i=.int .i64 k/\k<=m/\wr=w/\Hid (∀ i y,i<k->E[i]?=some y->y≠x)) (λi _=>m-(intOf i).toNat)
  case atStart=>exact⟨0,rfl,Nat.zero_le _,rfl,(λi y h=>by omega:∀ i y,i<0->E[i]?=some y->y≠x)⟩
  case round =>
   obtain⟨k,rfl,hk,rfl,HF⟩:=hrel
   by_cases hlt:k<m
   ·have hkl:k<E.length:=by have:=HM.out;omega
    have c0:=HC.out k hkl;have hi:=FQ E x k hkl HF.out
    have iL:E[k]≠x->∀ i y,i<k+1->E[i]?=some y->y≠x:=by
     intro hne i y hi hy
     by_cases e:i=k
     ·subst e;rw[List.getElem?_eq_getElem hkl] at hy;rw[<- Option.some.inj hy];exact hne
     ·exact HF.out i y (by omega) hy
    obtain⟨z,hz⟩:∃ z,z=E[k]:=⟨_,rfl⟩;rw[<- hz] at c0 hi iL;clear hz
    by_cases hzx:z=x
    ·have q:((z:Int)==(x:Int))=true:=by rw[hzx];simp
     have HE:Hid (ans=(k:Int)):=(show ans=k by rw[HA.out,hi hzx]);clear hi iL hzx
     go_wp2
     go_ret
     exact⟨by rw[HE.out];first | done | rfl,rfl⟩
    ·have q:((z:Int)==(x:Int))=false:=by rw[beq_eq_false_iff_ne];omega
     have cS:Hid _:=iL hzx;clear hi iL hzx
     go_wp2
     go_roundw
     case rel=>exact⟨k+1,by go_num,by omega,by first | rfl | trivial,cS.out⟩
     case measure=>simp[intOf];omega
   ·have HE:Hid (ans=-1):=(show ans=-1 by rw[HA.out];exact Gd E x (λi y hi hy=>HF.out i y (by have:=HM.out;omega) hy))
    go_wp2
    go_ret
    exact⟨by rw[HE.out];first | done | rfl,rfl⟩
end Go.Proofs.YtpicaknklgccoabGreatDoor
