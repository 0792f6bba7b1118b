import Derived.Test.YtpicaknklgccoabGreatDoorS6
import Derived.Test.YtpicaknklgccoabGreatDoorS5
set_option maxHeartbeats 8000000
set_option maxRecDepth 100000
namespace Go.Proofs.YtpicaknklgccoabGreatDoor
def bS (NS:List NR) (i:Int):Option Nat:=match NS[i.toNat]? with
 | some n=>if n.form=4 then some n.at_ else none
 | none=>none
theorem GN (k:Kw):aY k=4↔k=.pair:=by cases k <;> decide
mutual
theorem tJ (NS:List NR):∀ (t:PT) (scope:Sc) (base:Nat) (ns:List NR),NA scope t base ns->(∀ j,j < ns.length->NS[base+j]?=ns[j]?)->(opn t base).filterMap (bS NS)=t.EW.map (·.1)
 | .num p s,scope,base,ns,h,hN=>by
  simp only [NA] at h
  subst h
  have:=hN 0 (by simp)
  simp only [Nat.add_zero] at this
  simp [opn,bS,this,PT.EW]
 | .name p s,scope,base,ns,h,hN=>by
  simp only [NA] at h
  subst h
  have:=hN 0 (by simp)
  simp only [Nat.add_zero] at this
  simp [opn,bS,this,PT.EW]
 | .node p k nm rg kids,scope,base,ns,h,hN=>by
  simp only [NA] at h
  obtain ⟨ks,aR,h1,rfl⟩:=h
  have hl:=h1.len
  have hk:=yO NS kids scope nm (cf k) base ks h1 (fun j hj=>by rw [hN j (by simp;omega),List.getElem?_append_left hj])
  have hs:=hN ks.length (by simp)
  rw [hl,<- hl,List.getElem?_append_right (Nat.le_refl _)] at hs
  simp only [Nat.sub_self,List.getElem?_cons_zero] at hs
  simp only [opn,List.filterMap_cons,PT.EW]
  have hp:bS NS ((base+az kids:Nat):Int)=if k=.pair then some p else none:=by
   unfold bS
   rw [Int.toNat_natCast,<- hl,hs]
   simp only [GN]
  rw [hp,hk]
  by_cases hkp:k=.pair
  ·simp [hkp]
  ·simp [hkp]
theorem yO (NS:List NR):∀ (ts:List PT) (scope:Sc) (nm:List UInt8) (bs:List Bool) (base:Nat) (ns:List NR),cY scope nm ts bs base ns->(∀ j,j < ns.length->NS[base+j]?=ns[j]?)->(mC ts base).filterMap (bS NS)=(tT ts).map (·.1)
 | [],_,_,_,_,_,_,_=>by simp [mC,tT]
 | _::_,_,_,[],_,_,h,_=>by simp [cY] at h
 | t::r,scope,nm,b::bs,base,ns,h,hN=>by
  simp only [cY] at h
  obtain ⟨a,c,h1,h2,rfl⟩:=h
  have hl:=h1.len
  have e1:=tJ NS t _ base a h1 (fun j hj=>by rw [hN j (by simp;omega),List.getElem?_append_left hj])
  have e2:=yO NS r scope nm bs (base+t.cnt) c h2 (fun j hj=>by
   have:=hN (t.cnt+j) (by simp;omega)
   rw [<- Nat.add_assoc] at this
   rw [this,List.getElem?_append_right (by omega)]
   congr 1;omega)
  simp only [mC,tT,List.filterMap_append,e1,e2,List.map_append]
end
open Go.RowKit
theorem eC.abt {s:ByteArray} {ae:Bool} {pb:Nat} {w:World} {sv nv:Value} {st:PS} {g cap:Nat} (h:eC s ae pb w sv nv (.slice (some ⟨g,0,none⟩) st.opened.length cap) st) (k:Nat) (x:Int) :
  bz pb pb w (w.setCell ⟨g,k,none⟩ (nL x)) sv nv (.slice (some ⟨g,0,none⟩) st.opened.length cap) sv nv (.slice (some ⟨g,0,none⟩) st.opened.length cap) /\
  eC s ae pb (w.setCell ⟨g,k,none⟩ (nL x)) sv nv (.slice (some ⟨g,0,none⟩) st.opened.length cap) { st with opened:=st.opened.set k x }:=by
 obtain ⟨fr,y1,y2,y3⟩:=h.y
 have n8:g≠pb:=fun e=>h.oy (by rw [e];rfl)
 have kp:∀ k',k'≠g->(w.setCell ⟨g,k,none⟩ (nL x)).heap[k']?=w.heap[k']?:=fun k' hk=>ak _ _ (by simpa using hk)
 have hst:=(h.op.stored k (nL x)).1
 refine ⟨⟨rfl,rfl,rfl,by simp only [World.setCell,Array.size_modify];omega,fun k' _ _ _ _ _ ho=>kp k' (fun e=>ho (by rw [e];rfl)),fun _ h=>Or.inl h,fun _ h=>Or.inl h,fun _ h=>Or.inl h⟩,?_⟩
 refine ⟨⟨fr,y1,y2,by rw [kp pb (fun e=>n8 e.symm)];exact y3⟩,ax h.sc (fun k' hk=>kp k' (fun e=>h.so k' hk (by rw [e];rfl))),ax h.nd (fun k' hk=>kp k' (fun e=>h.no k' hk (by rw [e];rfl))),?_,h.sy,h.ny,h.oy,h.sn,h.so,h.no⟩
 have e:(st.opened.set k x).map nL=(st.opened.map nL).set k (nL x):=by rw [List.map_set]
 simp only [List.length_set]
 rw [e];exact hst
theorem I2 (s:ByteArray) (ae:Bool) (pb:Nat) (f:PS->Int × PS) (w:World) (sv nv ov:Value) (st:PS) (h:eC s ae pb w sv nv ov st) (hl:st.opened.length<=50000)
  (hA:∀ (w:World) (ov:Value),eC s ae pb w sv nv ov { st with opened:=st.opened++[-1] }->Calls Tryz.prog 117 #[ptr pb] w fun v w'=>v=.returned (.int .i64 (f { st with opened:=st.opened++[-1] }).1) /\
   ∃ fC bB fH,bz pb pb w w' sv nv ov fC bB fH/\eC s ae pb w' fC bB fH (f { st with opened:=st.opened++[-1] }).2)
  (hup:st.opened.length+1<=(f { st with opened:=st.opened++[-1] }).2.opened.length) :
  Calls Tryz.prog 91 #[ptr pb] w fun v w'=>v=.returned (.int .i64 (iy f st).1)/\∃ fC bB fH,bz pb pb w w' sv nv ov fC bB fH/\eC s ae pb w' fC bB fH (iy f st).2:=by
 obtain ⟨i0,hi,hz0,hz1,hz2⟩:=info_parts Tryz.oV
 have HI:Hid _:=hi
 have pZ:Hid _:=hz0
 have p8:Hid _:=hz1
 have p9:Hid _:=hz2
 clear hi hz0 hz1 hz2
 have HPS:Hid (iy f st=((f { st with opened:=st.opened++[-1] }).1,{ (f { st with opened:=st.opened++[-1] }).2 with opened:=(f { st with opened:=st.opened++[-1] }).2.opened.set st.opened.length (f { st with opened:=st.opened++[-1] }).1 })):=rfl
 obtain ⟨R,hR⟩:∃ R,R=iy f st:=⟨_,rfl⟩
 rw [<- hR] at HPS ⊢
 clear hR
 generalize f { st with opened:=st.opened++[-1] }=X at *
 obtain ⟨fr,hf1,hf2,hf3⟩:=h.y
 have rS:=af hf3
 have VP:=h.op
 obtain ⟨n,hn⟩:∃ n,n=st.opened.length:=⟨_,rfl⟩
 obtain ⟨ao,oc,rfl⟩:∃ ao oc,ov=.slice ao n oc:=by
  rcases VP.2 with ⟨h1,h2⟩ | ⟨g,cap,cur,h1,_⟩
  ·exact ⟨none,0,by rw [h1,hn,h2]⟩
  ·exact ⟨_,_,by rw [h1,hn]⟩
 have y7:w.cell? ⟨pb,7,none⟩=some (.slice ao n oc):=by rw [aa hf3];rfl
 have hW:Below w.heap.size w (w.alloc (.cells #[.int .i64 (-1)] 3)):=(Below.refl _ w).alloc (Nat.le_refl _) _
 have HW:Hid _:=hW
 have dY:Hid ((w.alloc (.cells #[.int .i64 (-1)] 3)).ownsRow 0 3 1 (.slice ao n oc) n (st.opened.map nL)):=by
  have:=aB VP hW
  rw [<- hn] at this;exact this
 have EL:Hid ((w.alloc (.cells #[.int .i64 (-1)] 3)).heap[pb]?=some (.cells (fF s ae fr st.fl.isSome (st.fl.getD 0) sv nv (.slice ao n oc)) 127 (0,0))):=aN _ hf3
 have HH:Hid _:=h
 have HN:Hid _:=hn
 have wo:Hid (∀ u∈[nL (-1)],u.oneCell'=true):=by intro v hv;simp only [List.mem_singleton] at hv;subst hv;rfl
 unfold ptr at hA
 have HA:Hid _:=hA
 rw [<- hn] at hup hl
 clear hf1 hf2 hf3 h hW VP hA hn
 show Calls _ _ #[Value.pointer (some ⟨pb,0,none⟩)] w _
 go_enter Tryz.func91,Tryz.ntmps91
 go_wp2_with (at_builtin;go_must (refine oX _ rfl (.tmp 16) (.tmp 17) 22 rfl 3 i0 _ 1 8 Tryz.oY HI.out pZ.out p8.out p9.out rfl (by decide) (.slice ao n oc) n (st.opened.map nL) rfl dY.out ⟨w.heap.size,0,none⟩ 1 1 [nL (-1)] rfl rfl ?c1 wo.out (by decide) ?c3 ?c4 ?_))
 case c1 =>
  intro j v hj
  rw [<- hj]
  first | rfl | exact bJ _ _ _ _
 case c3=>unfold maxLen;omega
 case c4=>omega
 intro g cap w' hown hgrow ik
 have oD:=cE hgrow EL.out HH.out.oy
 have c7:w'.cell? ⟨pb,7,none⟩=some (.slice ao n oc):=by rw [aa oD];rfl
 have f7:=ag oD 7
 have hadd:=eC.aaV (g:=g) (cap:=cap) HH.out (-1) HW.out hgrow (by rw [<- HN.out];exact hown) (by rw [show (w.alloc (.cells #[.int .i64 (-1)] 3)).heap.size=w.heap.size+1 from by simp];exact ik)
 rw [<- HN.out] at hadd
 have hA1:=HA.out _ _ hadd.2
 have zw:Hid _:=hadd.1
 clear hown hgrow ik oD hadd
 go_wp2_with fail
 refine hA1.mono ?_
 rintro _ w2 ⟨rfl,Hr,cz,Fx,cW,bq⟩
 obtain ⟨g2,cap2,rfl⟩:∃ g2 cap2,Fx=.slice (some ⟨g2,0,none⟩) X.2.opened.length cap2:=by
  rcases bq.op.2 with ⟨h1,h2⟩ | ⟨g,cap,cur,h1,_⟩
  ·omega
  ·exact ⟨_,_,h1⟩
 obtain ⟨fr2,_,_,SX⟩:=bq.y
 have d7:w2.cell? ⟨pb,7,none⟩=some (.slice (some ⟨g2,0,none⟩) X.2.opened.length cap2):=by rw [aa SX];rfl
 have o1:=bq.op
 have hoc:w2.cell? ⟨g2,n,none⟩=some (nL (X.2.opened[n]'(by omega))):=by
  rw [o1.cellAt n (by omega),List.getElem?_map,List.getElem?_eq_getElem (by omega)];rfl
 have hfz:w2.frozen? ⟨g2,n,none⟩=false:=o1.frozenAt n
 have hset:=eC.abt bq n X.1
 have cx:Hid _:=zw.out.trans (cW.trans hset.1)
 have HI2:Hid _:=hset.2
 unfold nL at hoc
 clear cW bq hA1 hset o1 SX
 go_wp2
 go_ret
 rw [HPS.out]
 exact ⟨rfl,_,_,_,cx.out,by rw [<- HN.out];exact HI2.out⟩
theorem RQ (s:ByteArray) (ae:Bool) (pb:Nat) (hs:s.size<=9000):∀ n:Nat,Vf s ae pb (fe ae s.size n) n:=by
 intro n
 induction n with
 | zero =>
  intro w sv nv ov st h hl hb
  have QW:st.l=[]:=List.length_eq_zero_iff.1 (by omega)
  have dF:∀ n:NR,({ st with opened:=st.opened++[-1] }:PS).l≠[]->Gs ({ st with opened:=st.opened++[-1] }:PS).tail ((fun (_:NR) (st:PS)=>((-1:Int),st)) n ({ st with opened:=st.opened++[-1] }:PS).tail).2 3 1:=fun _ hne=>absurd QW hne
  have hg:=Bi s.size { st with opened:=st.opened++[-1] } dF
  unfold fe
  refine I2 s ae pb _ w sv nv ov st h (by have:=hb.2.2;omega) (fun w ov h'=>IZ s ae pb _ hs w sv nv ov _ h' ⟨hb.1,hb.2.1,by simp;have:=hb.2.2;omega⟩ (fun hne=>absurd QW hne)) ?_
  have:=hg.2.2.2.2
  simpa using this
 | succ m ih =>
  intro w sv nv ov st h hl hb
  have hG:=Qk ae s.size m
  have htl:st.tail.l.length<=m:=by simp [PS.tail];omega
  have dF:∀ n:NR,({ st with opened:=st.opened++[-1] }:PS).l≠[]->Gs ({ st with opened:=st.opened++[-1] }:PS).tail (gF ae s.size (fe ae s.size m) n ({ st with opened:=st.opened++[-1] }:PS).tail).2 3 1:=fun n _=>wU hG ae s.size n _ htl
  have hg:=Bi s.size { st with opened:=st.opened++[-1] } dF
  unfold fe
  refine I2 s ae pb _ w sv nv ov st h (by have:=hb.2.2;omega) (fun w ov h'=>IZ s ae pb _ hs w sv nv ov _ h' ⟨hb.1,hb.2.1,by simp;have:=hb.2.2;omega⟩ (fun hne w n h''=>?_)) ?_
  ·have GA:0 < st.l.length:=List.length_pos_iff.2 hne
   refine Ex s ae pb (fe ae s.size m) m hs ih hG w sv nv ov _ n h'' htl ⟨?_,?_,?_⟩
   ·show st.scope.length+st.l.tail.length<=8999
    have:=hb.1;simp;omega
   ·show st.nodes.length+st.l.tail.length<=8999
    have:=hb.2.1;simp;omega
   ·show (st.opened++[-1]).length+4 * st.l.tail.length<=49997
    have:=hb.2.2;simp;omega
  ·have:=hg.2.2.2.2
   simpa using this
def aJ (nv ov:Value):Value:=.agg #[nv,ov]
theorem O0 {s:ByteArray} {ae:Bool} {fr a:Nat} {fl:Bool} {w:World} {pb:Nat} {sv nv ov:Value} {t:TypeId} (h:w.heap[pb]?=some (.cells (fF s ae fr fl a sv nv ov) t (0,0))) :
  w.cell? ⟨pb,3,none⟩=some (.bool fl)/\w.cell? ⟨pb,4,none⟩=some (.int .i64 a)/\w.cell? ⟨pb,6,none⟩=some nv/\w.cell? ⟨pb,7,none⟩=some ov :=
 ⟨by rw [aa h];rfl,by rw [aa h];rfl,by rw [aa h];rfl,by rw [aa h];rfl⟩
theorem uE (s:ByteArray) (ae:Bool) (pb:Nat) (hs:s.size<=9000) (w:World) (sv nv ov:Value) (l:List Tk) (hl:l.length<=9000) (h:eC s ae pb w sv nv ov (ps0 l)) :
  Calls Tryz.prog 70 #[ptr pb] w fun v w'=>∃ fC bB fH,bz pb pb w w' sv nv ov fC bB fH/\eC s ae pb w' fC bB fH (jH ae s.size l) /\
   ((∃ q:Nat,(jH ae s.size l).fl=some q/\v=.returned (.tuple #[aJ (.slice none 0 0) (.slice none 0 0),.int .i64 q,.bool false])) \/
    ((jH ae s.size l).fl=none/\v=.returned (.tuple #[aJ bB fH,.int .i64 0,.bool true]))):=by
 have hE:=RQ s ae pb hs l.length (w.alloc (.cells #[.slice none 0 0,.slice none 0 0] 62)) sv nv ov (ps0 l) (h.alloc _) (Nat.le_refl _) ⟨by simp [ps0];omega,by simp [ps0];omega,by simp [ps0];omega⟩
 have hex:=fun w sv nv ov h=>ll s ae pb w sv nv ov (fe ae s.size l.length (ps0 l)).2 0 hs h
 have hPP:(fe ae s.size l.length (ps0 l)).2.expect s.size 0=jH ae s.size l:=rfl
 rw [hPP] at hex
 have hnew:=Bk.new h (.cells #[.slice none 0 0,.slice none 0 0] 62)
 unfold iz ptr at hex
 unfold ptr at hE
 have PK:Hid _:=hnew
 have Cw:Hid _:=hex
 have HH:Hid _:=h
 clear hPP hex hnew h
 generalize jH ae s.size l=P at *
 show Calls _ _ #[Value.pointer (some ⟨pb,0,none⟩)] w _
 go_enter Tryz.func70,Tryz.ntmps70
 go_wp2_with fail
 refine hE.mono ?_
 rintro _ w1 ⟨rfl,zk,tq,u4,qX,mT⟩
 have hx:=Cw.out _ _ _ _ mT
 have dG:Hid _:=PK.out.keep qX
 have dV:Hid _:=qX
 clear qX mT hE PK Cw
 go_wp2_with fail
 refine hx.mono ?_
 rintro _ w2 ⟨rfl,cW,bq⟩
 have lE:=dG.out.keep cW
 have hF2:=dV.out.trans cW
 obtain ⟨fr,y1,y2,y3⟩:=bq.y
 obtain ⟨p3,p4,p6,p7⟩:=O0 y3
 have r0:w2.cell? ⟨w.heap.size,0,none⟩=some (.slice none 0 0):=by rw [aa lE.b];rfl
 have r1:w2.cell? ⟨w.heap.size,1,none⟩=some (.slice none 0 0):=by rw [aa lE.b];rfl
 have f0:=ag lE.b 0
 have f1:=ag lE.b 1
 have hne:=lE.ne
 have GA:pb≠w.heap.size:=fun e=>lE.ne e.symm
 have dU:Hid _:=lE
 have HI2:Hid _:=bq
 have cx:Hid _:=hF2
 clear cW bq lE hF2 y1 y2 y3 dG dV hx
 cases hfl:P.fl with
 | some q =>
  rw [hfl] at p3 p4
  simp only [Option.isSome_some,Option.getD_some] at p3 p4
  have K6:Hid _:=hfl
  clear hfl
  go_wp2
  go_region
  all_goals
   go_wp2
   obtain ⟨a1,a2,a3⟩:=dU.out.set HI2.out 0 (.slice none 0 0)
   obtain ⟨b1,b2,b3⟩:=a3.set a2 1 (.slice none 0 0)
   have ml:Below ((w2.setCell ⟨w.heap.size,0,none⟩ (.slice none 0 0)).setCell ⟨w.heap.size,1,none⟩ (.slice none 0 0)).heap.size ((w2.setCell ⟨w.heap.size,0,none⟩ (.slice none 0 0)).setCell ⟨w.heap.size,1,none⟩ (.slice none 0 0)) ((w2.setCell ⟨w.heap.size,0,none⟩ (.slice none 0 0)).setCell ⟨w.heap.size,1,none⟩ (.slice none 0 0)).drew:=⟨rfl,rfl,rfl,Nat.le_refl _,fun _ _=>rfl⟩
   have hF:=((((cx.out.nb (nb:=w.heap.size)).trans a1).trans b1).trans (bz.below pb w.heap.size zk tq u4 ml)).drop rfl
   refine bodyPost_ret (v:=.tuple #[.agg #[.slice none 0 0,.slice none 0 0],.int .i64 q,.bool false]) (by simp [results,Tryz.results70,go_sem,r0,r1]) rfl ⟨zk,tq,u4,hF,b2.below ml,Or.inl ⟨q,K6.out,rfl⟩⟩
 | none =>
  rw [hfl] at p3 p4
  simp only [Option.isSome_none,Option.getD_none] at p3 p4
  have K6:Hid _:=hfl
  clear hfl
  obtain ⟨x6,n6,c6,e6⟩:∃ a n c,tq=.slice a n c:=by
   rcases HI2.out.nd.2 with ⟨h1,_⟩ | ⟨g,cap,cur,h1,_⟩
   ·exact ⟨_,_,_,h1⟩
   ·exact ⟨_,_,_,h1⟩
  obtain ⟨x7,n7,c7,e7⟩:∃ a n c,u4=.slice a n c:=by
   rcases HI2.out.op.2 with ⟨h1,_⟩ | ⟨g,cap,cur,h1,_⟩
   ·exact ⟨_,_,_,h1⟩
   ·exact ⟨_,_,_,h1⟩
  subst e6
  subst e7
  obtain ⟨a1,a2,a3⟩:=dU.out.set HI2.out 0 (.slice x6 n6 c6)
  obtain ⟨b1,b2,b3⟩:=a3.set a2 1 (.slice x7 n7 c7)
  have hF:=(((cx.out.nb (nb:=w.heap.size)).trans a1).trans b1).drop rfl
  have dK:Hid _:=hF
  have HI3:Hid _:=b2
  clear a1 a2 a3 b1 b2 b3 hF
  go_wp2
  refine bodyPost_ret (v:=.tuple #[.agg #[.slice x6 n6 c6,.slice x7 n7 c7],.int .i64 0,.bool true]) (by simp [results,Tryz.results70,go_sem,r0,r1]) rfl ⟨zk,_,_,dK.out,HI3.out,Or.inr ⟨K6.out,rfl⟩⟩
theorem GP (s:ByteArray):gj s.data.toList 0=tokens s.data.toList:=by unfold gj tokens;simp
theorem wK (s:ByteArray) (hs:s.size<=9000):(tokens s.data.toList).length<=9000:=by
 have:=Cs s.data.toList.length 0 s.data.toList
 unfold tokens
 rw [dN] at this ⊢
 omega
structure bg (w:World) (nv ov:Value) (ns:List NR) (op:List Int):Prop where
 nd:w.ownsRow 0 108 10 nv ns.length (ns.flatMap qg)
 op:w.ownsRow 0 3 1 ov op.length (op.map nL)
theorem bg.below {w w':World} {nv ov:Value} {ns:List NR} {op:List Int} (h:bg w nv ov ns op) (hb:Below w.heap.size w w'):bg w' nv ov ns op:=⟨aB h.nd hb,aB h.op hb⟩
theorem LW (s:ByteArray) (ae:Bool) (w:World) (R:Obj):eC s ae (w.heap.size+1) ((w.alloc R).alloc (.cells (fF s ae 0 false 0 (.slice none 0 0) (.slice none 0 0) (.slice none 0 0)) 127)) (.slice none 0 0) (.slice none 0 0) (.slice none 0 0) (ps0 (tokens s.data.toList)):=by
 refine ⟨⟨0,Nat.zero_le _,GP s,?_⟩,World.ownsRow_nil _ _ _ _,World.ownsRow_nil _ _ _ _,World.ownsRow_nil _ _ _ _,by simp [Value.ownBlock],by simp [Value.ownBlock],by simp [Value.ownBlock],fun g hg=>by simp [Value.ownBlock] at hg,fun g hg=>by simp [Value.ownBlock] at hg,fun g hg=>by simp [Value.ownBlock] at hg⟩
 have h:=aj (w.alloc R) (.cells (fF s ae 0 false 0 (.slice none 0 0) (.slice none 0 0) (.slice none 0 0)) 127)
 have e:(w.alloc R).heap.size=w.heap.size+1:=by simp
 rw [e] at h
 exact h
def sx (s:ByteArray) (ae:Bool) (w:World) (v:Ending) (w':World):Prop :=
 Below w.heap.size w w' /\
 ((∃ q:Nat,(jH ae s.size (tokens s.data.toList)).fl=some q/\v=.returned (.tuple #[aJ (.slice none 0 0) (.slice none 0 0),.int .i64 q,.bool false])) \/
  ((jH ae s.size (tokens s.data.toList)).fl=none/\∃ nv ov,v=.returned (.tuple #[aJ nv ov,.int .i64 0,.bool true])/\bg w' nv ov (jH ae s.size (tokens s.data.toList)).nodes (jH ae s.size (tokens s.data.toList)).opened))
theorem bz.toBelow {w w':World} {A B:Obj} {fC bB fH:Value} (h:bz (w.heap.size+1) (w.heap.size+1) ((w.alloc A).alloc B) w' (.slice none 0 0) (.slice none 0 0) (.slice none 0 0) fC bB fH):Below w.heap.size w w'/\w'.heap[w.heap.size]?=some A/\w.heap.size+2<=w'.heap.size:=by
 have e:((w.alloc A).alloc B).heap.size=w.heap.size+2:=by simp
 have hs:=h.size
 rw [e] at hs
 have hb:Below w.heap.size w ((w.alloc A).alloc B):=((Below.refl _ w).alloc (Nat.le_refl _) A).alloc (by simp) B
 refine ⟨⟨h.os.trans hb.os,h.tape.trans hb.tape,h.output.trans hb.output,by omega,fun k hk=>?_⟩,?_,hs⟩
 ·rw [h.blk k (by omega) (by omega) (by omega) (by simp [Value.ownBlock]) (by simp [Value.ownBlock]) (by simp [Value.ownBlock])]
  exact hb.block k hk
 ·rw [h.blk w.heap.size (by omega) (by omega) (by omega) (by simp [Value.ownBlock]) (by simp [Value.ownBlock]) (by simp [Value.ownBlock])]
  exact aN _ (aj w A)
theorem xu (s:ByteArray) (w:World) (hs:s.size<=9000):Calls Tryz.prog 51 #[.string s] w fun v w'=>sx s false w v w':=by
 have jj:=uE s false (w.heap.size+1) hs _ _ _ _ _ (wK s hs) (LW s false w (.cells #[.slice none 0 0,.slice none 0 0] 62))
 unfold ptr fF at jj
 unfold sx
 generalize jH false s.size (tokens s.data.toList)=P at *
 go_enter Tryz.func51,Tryz.ntmps51
 go_wp2_with fail
 refine jj.mono ?_
 rintro v w1 ⟨zk,tq,u4,hfr,hin,hv⟩
 obtain ⟨hb,hr,hsz⟩:=hfr.toBelow
 have r0:w1.cell? ⟨w.heap.size,0,none⟩=some (.slice none 0 0):=by rw [aa hr];rfl
 have r1:w1.cell? ⟨w.heap.size,1,none⟩=some (.slice none 0 0):=by rw [aa hr];rfl
 have f0:=ag hr 0
 have f1:=ag hr 1
 have HB:Hid _:=hb
 rcases hv with ⟨q,hfl,rfl⟩ | ⟨hfl,rfl⟩
 ·have K6:Hid _:=hfl
  unfold aJ
  clear hfl hfr hin hb hr jj
  go_wp2
  refine bodyPost_ret (v:=.tuple #[.agg #[.slice none 0 0,.slice none 0 0],.int .i64 q,.bool false]) (by simp [results,Tryz.results51,go_sem,r0,r1]) rfl ⟨?_,Or.inl ⟨q,K6.out,rfl⟩⟩
  exact (HB.out.setCell (p:=⟨w.heap.size,0,none⟩) (Nat.le_refl _) _).setCell (p:=⟨w.heap.size,1,none⟩) (Nat.le_refl _) _
 ·have K6:Hid _:=hfl
  obtain ⟨x6,n6,c6,e6⟩:∃ a n c,tq=.slice a n c:=by
   rcases hin.nd.2 with ⟨h1,_⟩ | ⟨g,cap,cur,h1,_⟩
   ·exact ⟨_,_,_,h1⟩
   ·exact ⟨_,_,_,h1⟩
  obtain ⟨x7,n7,c7,e7⟩:∃ a n c,u4=.slice a n c:=by
   rcases hin.op.2 with ⟨h1,_⟩ | ⟨g,cap,cur,h1,_⟩
   ·exact ⟨_,_,_,h1⟩
   ·exact ⟨_,_,_,h1⟩
  have rT:∀ k,tq.ownBlock=some k->k≠w.heap.size:=fun k hk=>by
   rcases hfr.n k hk with e | e
   ·simp [Value.ownBlock] at e
   ·simp at e;omega
  have hro:∀ k,u4.ownBlock=some k->k≠w.heap.size:=fun k hk=>by
   rcases hfr.o k hk with e | e
   ·simp [Value.ownBlock] at e
   ·simp at e;omega
  subst e6
  subst e7
  have HT:Hid (bg ((w1.setCell ⟨w.heap.size,0,none⟩ (.slice x6 n6 c6)).setCell ⟨w.heap.size,1,none⟩ (.slice x7 n7 c7)) (.slice x6 n6 c6) (.slice x7 n7 c7) P.nodes P.opened):=by
   refine ⟨ax hin.nd (fun k hk=>?_),ax hin.op (fun k hk=>?_)⟩
   ·rw [ak _ _ (by simpa using rT k hk),ak _ _ (by simpa using rT k hk)]
   ·rw [ak _ _ (by simpa using hro k hk),ak _ _ (by simpa using hro k hk)]
  unfold aJ
  clear hfl hfr hin hb hr jj rT hro
  go_wp2
  refine bodyPost_ret (v:=.tuple #[.agg #[.slice x6 n6 c6,.slice x7 n7 c7],.int .i64 0,.bool true]) (by simp [results,Tryz.results51,go_sem,r0,r1]) rfl ⟨?_,Or.inr ⟨K6.out,_,_,rfl,HT.out⟩⟩
  exact (HB.out.setCell (p:=⟨w.heap.size,0,none⟩) (Nat.le_refl _) _).setCell (p:=⟨w.heap.size,1,none⟩) (Nat.le_refl _) _
theorem I3 (n:NR):(qg n).length=10:=rfl
theorem O1:∀ (l:List NR) (i j:Nat),j < 10->(l.flatMap qg)[i * 10+j]?=(l[i]?).bind (fun n=>(qg n)[j]?)
 | [],i,j,_=>by simp
 | x::l,0,j,hj=>by
  rw [List.flatMap_cons,List.getElem?_append_left (by rw [I3];omega)]
  simp
 | x::l,i+1,j,hj=>by
  have:=O1 l i j hj
  rw [List.flatMap_cons,show (i+1) * 10+j=(qg x).length+(i * 10+j) from by rw [I3];omega,List.getElem?_append_right (by omega),Nat.add_sub_cancel_left]
  simpa using this
theorem fK {w:World} {base:Nat} {e:TypeId} {size:Nat} {v:Value} {n:Nat} {xs:List Value} (h:w.ownsRow base e size v n xs) (hn:0 < n):∃ g cap,v=.slice (some ⟨g,0,none⟩) n cap:=by
 rcases h.2 with ⟨_,h2⟩ | ⟨g,cap,cur,h1,_⟩
 ·omega
 ·exact ⟨_,_,h1⟩
theorem aF {w:World} {base:Nat} {e:TypeId} {size:Nat} {v:Value} {n:Nat} {xs:List Value} (h:w.ownsRow base e size v n xs):∃ a cap,v=.slice a n cap:=by
 rcases h.2 with ⟨h1,h2⟩ | ⟨g,cap,cur,h1,_⟩
 ·exact ⟨none,0,by rw [h1,h2]⟩
 ·exact ⟨_,_,h1⟩
theorem gJ (w:World) (nv ov:Value) (ns:List NR) (op:List Int) (h:bg w nv ov ns op):Calls Tryz.prog 60 #[aJ nv ov] w fun v w'=>v=.returned (.int .i64 ns.length)/\Below w.heap.size w w':=by
 obtain ⟨a,cap,rfl⟩:=aF h.nd
 obtain ⟨a',cap',rfl⟩:=aF h.op
 clear h
 unfold aJ
 go_enter Tryz.func60,Tryz.ntmps60
 go_wp2
 go_ret
 exact ⟨rfl,(Below.refl _ _).alloc (Nat.le_refl _) _⟩
theorem wz {w:World} {ns:List NR} {g cap:Nat} (h:w.ownsRow 0 108 10 (.slice (some ⟨g,0,none⟩) ns.length cap) ns.length (ns.flatMap qg)) (k:Nat) (hk:k < ns.length) :
  w.cell? ⟨g,k * 10,none⟩=some (.int .i64 ns[k].form)/\w.cell? ⟨g,k * 10+1,none⟩=some (.int .i64 ns[k].at_)/\w.cell? ⟨g,k * 10+2,none⟩=some (.int .i64 ns[k].aR)/\w.cell? ⟨g,k * 10+3,none⟩=some (.int .i64 ns[k].num)/\w.cell? ⟨g,k * 10+4,none⟩=some (.string (bs ns[k].word)) /\
  w.cell? ⟨g,k * 10+5,none⟩=some (.int .i64 ns[k].region)/\w.cell? ⟨g,k * 10+6,none⟩=some (.int .i64 ns[k].source)/\w.cell? ⟨g,k * 10+7,none⟩=some (.int .i64 ns[k].p0)/\w.cell? ⟨g,k * 10+8,none⟩=some (.int .i64 ns[k].p1)/\w.cell? ⟨g,k * 10+9,none⟩=some (.int .i64 ns[k].p2):=by
 have key:∀ j,j < 10->w.cell? ⟨g,k * 10+j,none⟩=(qg ns[k])[j]?:=by
  intro j hj
  rw [h.cellAt (k * 10+j) (by omega),O1 ns k j hj,List.getElem?_eq_getElem hk];rfl
 exact ⟨key 0 (by omega),key 1 (by omega),key 2 (by omega),key 3 (by omega),key 4 (by omega),key 5 (by omega),key 6 (by omega),key 7 (by omega),key 8 (by omega),key 9 (by omega)⟩
theorem I4 (w:World) (nv ov:Value) (ns:List NR) (op:List Int) (h:bg w nv ov ns op) (k:Nat) (hk:k < ns.length) (hl:ns.length<=9000):Calls Tryz.prog 61 #[aJ nv ov,.int .i64 k] w fun v w'=>v=.returned (aI ns[k])/\Below w.heap.size w w':=by
 obtain ⟨g,cap,rfl⟩:=fK h.nd (by omega)
 obtain ⟨a',cap',rfl⟩:=aF h.op
 obtain ⟨c0,c1,c2,c3,c4,c5,c6,c7,c8,c9⟩:=wz h.nd k hk
 have hg:g < w.heap.size:=(h.nd.lt g rfl).2
 generalize ns[k]=n at *
 generalize ns.length=m at *
 clear h
 unfold aJ aI
 go_enter Tryz.func61,Tryz.ntmps61
 go_wp2
 refine bodyPost_ret (v:=.agg #[.int .i64 n.form,.int .i64 n.at_,.int .i64 n.aR,.int .i64 n.num,.string (bs n.word),.int .i64 n.region,.int .i64 n.source,.int .i64 n.p0,.int .i64 n.p1,.int .i64 n.p2]) (by simp [results,Tryz.results61,go_sem]) rfl ⟨rfl,((Below.refl _ _).alloc (Nat.le_refl _) _).alloc (by simp) _⟩
theorem RR {w w2:World} {A B:Obj} (hb:Below ((w.alloc A).alloc B).drew.heap.size ((w.alloc A).alloc B).drew w2):Below w.heap.size w w2:=by
 have h1:Below w.heap.size w ((w.alloc A).alloc B).drew:=(((Below.refl _ w).alloc (Nat.le_refl _) A).alloc (by simp) B).trans ⟨rfl,rfl,rfl,Nat.le_refl _,fun _ _=>rfl⟩
 exact h1.trans (hb.mono (by show w.heap.size<=((w.alloc A).alloc B).heap.size;simp;omega))
theorem KS {w:World} {op:List Int} {g cap:Nat} (h:w.ownsRow 0 3 1 (.slice (some ⟨g,0,none⟩) op.length cap) op.length (op.map nL)) (k:Nat) (hk:k < op.length):w.cell? ⟨g,k,none⟩=some (.int .i64 op[k]):=by
 rw [h.cellAt k (by omega),List.getElem?_map,List.getElem?_eq_getElem hk];rfl
theorem KU (w:World) (nv ov:Value) (ns:List NR) (op:List Int) (h:bg w nv ov ns op) (k i:Nat) (hk:k < op.length) (hi:i < ns.length) (hki:op[k]=(i:Int)) (hl:ns.length<=9000) (hl2:op.length<=60000):Calls Tryz.prog 64 #[aJ nv ov,.int .i64 k] w fun v w'=>v=.returned (aI ns[i])/\Below w.heap.size w w':=by
 have hno:=fun (w':World) (hb:Below w.heap.size w w')=>I4 w' nv ov ns op (h.below hb) i hi hl
 obtain ⟨g0,j7,rfl⟩:=fK h.nd (by omega)
 obtain ⟨g,cap,rfl⟩:=fK h.op (by omega)
 have c0:=KS h.op k hk
 rw [hki] at c0
 have hg:g < w.heap.size:=(h.op.lt g rfl).2
 clear h hki
 generalize ns[i]=n at *
 generalize ns.length=m at *
 generalize op.length=m2 at *
 unfold aJ aI at hno
 unfold aJ aI
 have qQ:Hid _:=hno
 clear hno
 go_enter Tryz.func64,Tryz.ntmps64
 go_wp2
 go_region_with (go_at_call 61;refine (qQ.out _ ?_).mono ?_;exact (((Below.refl _ w).alloc (Nat.le_refl _) _).alloc (by simp) _).trans ⟨rfl,rfl,rfl,Nat.le_refl _,fun _ _=>rfl⟩;rintro e w2 ⟨rfl,hb2⟩;(have Wx:=jK hb2;obtain ⟨c0,c1,c2,c3,c4,c5,c6,c7,c8,c9⟩:=IY Wx;obtain ⟨f0,f1,f2,f3,f4,f5,f6,f7,f8,f9⟩:=OM Wx))
 all_goals go_wp2
 all_goals
  have hB:=RR hb2
  refine bodyPost_ret (v:=.agg #[.int .i64 n.form,.int .i64 n.at_,.int .i64 n.aR,.int .i64 n.num,.string (bs n.word),.int .i64 n.region,.int .i64 n.source,.int .i64 n.p0,.int .i64 n.p1,.int .i64 n.p2]) (by simp [results,Tryz.results64,go_sem,c0,c1,c2,c3,c4,c5,c6,c7,c8,c9]) rfl ⟨rfl,((((((((((hB.setCell (p:=⟨w.heap.size+1,0,none⟩) (by simp) _).setCell (p:=⟨w.heap.size+1,1,none⟩) (by simp) _).setCell (p:=⟨w.heap.size+1,2,none⟩) (by simp) _).setCell (p:=⟨w.heap.size+1,3,none⟩) (by simp) _).setCell (p:=⟨w.heap.size+1,4,none⟩) (by simp) _).setCell (p:=⟨w.heap.size+1,5,none⟩) (by simp) _).setCell (p:=⟨w.heap.size+1,6,none⟩) (by simp) _).setCell (p:=⟨w.heap.size+1,7,none⟩) (by simp) _).setCell (p:=⟨w.heap.size+1,8,none⟩) (by simp) _).setCell (p:=⟨w.heap.size+1,9,none⟩) (by simp) _)⟩
theorem ew (w:World) (nv ov:Value) (ns:List NR) (op:List Int) (h:bg w nv ov ns op) (k:Nat) (n:NR) (hk:ns[k]?=some n) (hl:ns.length<=9000):Calls Tryz.prog 61 #[aJ nv ov,.int .i64 k] w fun v w'=>v=.returned (aI n)/\Below w.heap.size w w':=by
 obtain ⟨h1,h2⟩:=List.getElem?_eq_some_iff.1 hk
 rw [<- h2];exact I4 w nv ov ns op h k h1 hl
theorem mS (w:World) (nv ov:Value) (ns:List NR) (op:List Int) (h:bg w nv ov ns op) (k i:Nat) (n:NR) (hk:op[k]?=some (i:Int)) (hi:ns[i]?=some n) (hl:ns.length<=9000) (hl2:op.length<=60000):Calls Tryz.prog 64 #[aJ nv ov,.int .i64 k] w fun v w'=>v=.returned (aI n)/\Below w.heap.size w w':=by
 obtain ⟨h1,h2⟩:=List.getElem?_eq_some_iff.1 hk
 obtain ⟨h3,h4⟩:=List.getElem?_eq_some_iff.1 hi
 rw [<- h4];exact KU w nv ov ns op h k i h1 h3 h2 hl hl2
def wq (ns:List NR) (op:List Int):Prop:=op.length=ns.length/\∀ x∈op,0<=x/\x.toNat < ns.length
def fE (ns:List NR) (op:List Int):Nat × Nat:=if 100 < (op.filterMap (bS ns)).length then (3,((op.filterMap (bS ns))[100]?).getD 0) else (0,0)
theorem dm {w W:World} {a b:Value} {t:TypeId} (h:Below (w.alloc (.cells #[a,b] t)).heap.size (w.alloc (.cells #[a,b] t)) W):W.cell? ⟨w.heap.size,0,none⟩=some a/\W.cell? ⟨w.heap.size,1,none⟩=some b/\w.heap.size < W.heap.size:=by
 have hb:W.heap[w.heap.size]?=some (.cells #[a,b] t (0,0)):=by rw [h.block _ (by simp)];exact aj _ _
 exact ⟨by rw [aa hb];rfl,by rw [aa hb];rfl,af hb⟩
theorem ze (w:World) (nv ov:Value) (ns:List NR) (op:List Int) (h:bg w nv ov ns op) (ho:wq ns op) (hl:ns.length<=9000) :
  Calls Tryz.prog 59 #[aJ nv ov] w fun v w'=>v=.returned (.tuple #[.int .i64 (fE ns op).1,.int .i64 (fE ns op).2])/\Below w.heap.size w w':=by
 have hlen:=fun (w':World) (hb:Below w.heap.size w w')=>gJ w' nv ov ns op (h.below hb)
 have gO:=fun (w':World) (hb:Below w.heap.size w w') (k i:Nat) (n:NR) (hk:op[k]?=some (i:Int)) (hi:ns[i]?=some n)=>mS w' nv ov ns op (h.below hb) k i n hk hi hl (by rw [ho.1];omega)
 obtain ⟨a0,j7,e0⟩:=aF h.nd
 obtain ⟨a1,kO,e1⟩:=aF h.op
 rw [ho.1] at e1
 obtain ⟨m,hm⟩:∃ m,m=ns.length:=⟨_,rfl⟩
 rw [<- hm] at e0 e1 hl
 subst e0
 subst e1
 have HO:Hid _:=ho
 have HM:Hid _:=hm
 unfold aJ at hlen gO
 unfold aJ
 unfold aI at gO
 rw [<- hm] at hlen
 have l7:Hid _:=hlen
 have Ff:Hid _:=gO
 obtain ⟨ans,cQ⟩:∃ ans,ans=fE ns op:=⟨_,rfl⟩
 rw [<- cQ]
 have j8:Hid _:=cQ
 clear hlen gO ho h hm cQ
 have Cg:Below w.heap.size w (w.alloc (.cells #[.slice a0 m j7,.slice a1 m kO] 62)):=(Below.refl _ w).alloc (Nat.le_refl _) _
 have dP:Hid _:=Cg
 clear Cg
 go_enter Tryz.func59,Tryz.ntmps59
 go_wp2
 go_loopw [4,5,6] (fun c i _ wr=>∃ k p:Nat,k<=m/\i=.int .i64 k/\c=.int .i64 p/\p<=100/\Hid (p=((op.take k).filterMap (bS ns)).length)/\Below (w.alloc (.cells #[.slice a0 m j7,.slice a1 m kO] 62)).heap.size (w.alloc (.cells #[.slice a0 m j7,.slice a1 m kO] 62)) wr) (fun _ i _ _=>m - (intOf i).toNat)
 case atStart=>exact ⟨0,0,by omega,rfl,rfl,by omega,(by simp:(0:Nat)=((op.take 0).filterMap (bS ns)).length),Below.refl _ _⟩
 case round =>
  obtain ⟨k,p,hk,rfl,rfl,hp,HP,dF⟩:=hrel
  obtain ⟨b0,b1,bl⟩:=dm dF
  have zg:Below w.heap.size w wr:=dP.out.trans (dF.mono (by simp))
  have il:=l7.out wr zg
  have A2:=zg.size
  have l9:=dF.size
  by_cases hlt:k < m
  ·have hkl:k < op.length:=by have:=HO.out.1;have:=HM.out;omega
   obtain ⟨x0,x1⟩:=HO.out.2 op[k] (List.getElem_mem hkl)
   obtain ⟨i,hi⟩:∃ i:Nat,op[k]=(i:Int):=⟨op[k].toNat,by omega⟩
   have lN:i < ns.length:=by omega
   obtain ⟨n,hn⟩:∃ n,ns[i]?=some n:=⟨ns[i],List.getElem?_eq_getElem lN⟩
   have Zr:op[k]?=some (i:Int):=by rw [List.getElem?_eq_getElem hkl,hi]
   have VQ:bS ns (i:Int)=if n.form=4 then some n.at_ else none:=by unfold bS;rw [Int.toNat_natCast,hn]
   have htk:(op.take (k+1)).filterMap (bS ns)=(op.take k).filterMap (bS ns)++(bS ns (i:Int)).toList:=by
    rw [List.take_succ_eq_append_getElem hkl,List.filterMap_append,hi]
    cases hc:bS ns (i:Int) <;> simp [hc]
   rw [VQ] at htk
   have iY:Hid _:=htk
   have HN:Hid _:=hn
   have abu:Hid _:=Zr
   clear x0 x1 hi lN hn Zr VQ htk hkl
   go_wp2_with fail
   refine il.mono ?_
   rintro _ w1 ⟨rfl,hb1⟩
   have jF:=dF.trans (hb1.mono l9)
   obtain ⟨d0,d1,dl⟩:=dm jF
   have gO:=Ff.out w1 (dP.out.trans (jF.mono (by simp))) k i n abu.out HN.out
   have KO:Hid _:=jF
   clear jF hb1 il b0 b1 dF
   go_wp2_with fail
   refine gO.mono ?_
   rintro _ w2 ⟨rfl,hb2⟩
   have Fa:=KO.out.trans (hb2.mono KO.out.size)
   have RS:Hid _:=Fa.alloc Fa.size (bU n)
   clear Fa hb2 gO KO d0 d1
   unfold bU za at RS
   by_cases h4:n.form=4
   ·have q4:((n.form:Int) == 4)=true:=aH (b:=4) h4
    have htk:=iY.out
    rw [if_pos h4] at htk
    have sV:Hid _:=htk
    clear htk iY h4
    by_cases vH:p < 100
    ·go_wp2
     go_roundw
     case rel=>exact ⟨k+1,p+1,by omega,by go_num,by go_num,by omega,(by rw [sV.out,List.length_append,<- HP.out];rfl:p+1=((op.take (k+1)).filterMap (bS ns)).length),RS.out⟩
     case measure=>simp [intOf];omega
    ·have SZ:p=100:=by omega
     have HA:Hid (ans=(3,n.at_)):=by
      have e:op.filterMap (bS ns)=((op.take k).filterMap (bS ns)++[n.at_])++(op.drop (k+1)).filterMap (bS ns):=by
       have h1:=List.take_append_drop (k+1) op
       conv=>lhs;rw [<- h1]
       rw [List.filterMap_append,sV.out];rfl
      have hlen:((op.take k).filterMap (bS ns)).length=100:=by rw [<- HP.out];exact SZ
      have Zt:(op.filterMap (bS ns))[100]?=some n.at_:=by
       rw [e,List.getElem?_append_left (by simp [hlen]),List.getElem?_append_right (by omega),hlen];rfl
      have OY:100 < (op.filterMap (bS ns)).length:=(List.getElem?_eq_some_iff.1 Zt).1
      rw [j8.out];unfold fE;rw [if_pos OY,Zt];exact rfl
     clear SZ
     go_wp2
     go_quiet (fail)
     go_wp2
     refine bodyPost_ret (v:=.tuple #[.int .i64 3,.int .i64 n.at_]) (by simp [results,Tryz.results59,go_sem]) rfl ⟨by rw [HA.out];rfl,?_⟩
     exact (dP.out.trans (RS.out.mono (by simp))).trans ⟨rfl,rfl,rfl,Nat.le_refl _,fun _ _=>rfl⟩
   ·have q4:((n.form:Int) == 4)=false:=ah (b:=4) h4
    have htk:=iY.out
    rw [if_neg h4] at htk
    have sV:Hid _:=htk
    clear htk iY h4
    go_wp2
    go_roundw
    case rel=>exact ⟨k+1,p,by omega,by go_num,rfl,by omega,(by rw [sV.out,Option.toList_none,List.append_nil];exact HP.out:p=((op.take (k+1)).filterMap (bS ns)).length),RS.out⟩
    case measure=>simp [intOf];omega
  ·have HA:Hid (ans=(0,0)):=by
    have G6:op.take k=op:=List.take_of_length_le (by have:=HO.out.1;have:=HM.out;omega)
    have h1:=HP.out
    rw [G6] at h1
    rw [j8.out];unfold fE;rw [if_neg (by omega)];exact rfl
   have iA:Hid _:=dF
   clear dF
   go_wp2_with fail
   refine il.mono ?_
   rintro _ w1 ⟨rfl,hb1⟩
   have dG:Hid _:=dP.out.trans ((iA.out.trans (hb1.mono l9)).mono (by simp))
   clear hb1 il
   go_wp2
   refine bodyPost_ret (v:=.tuple #[.int .i64 0,.int .i64 0]) (by simp [results,Tryz.results59,go_sem]) rfl ⟨by rw [HA.out];rfl,dG.out⟩
structure TP where
 r:Nat
 a:Nat
 b:Nat
 sz:Nat
 deriving DecidableEq
def Ci (p:TP):List Value:=[.int .i64 p.r,.int .i64 p.a,.int .i64 p.b,.int .i64 p.sz]
def uC (p:TP):Value:=.agg #[.int .i64 p.r,.int .i64 p.a,.int .i64 p.b,.int .i64 p.sz]
def fD (tb:List TP) (k:Nat):TP:=if k=0 then ⟨0,0,0,0⟩ else (tb[k - 1]?).getD ⟨0,0,0,0⟩
theorem S5:∀ (l:List TP) (i j:Nat),j < 4->(l.flatMap Ci)[i * 4+j]?=(l[i]?).bind (fun n=>(Ci n)[j]?)
 | [],i,j,_=>by simp
 | x::l,0,j,hj=>by
  rw [List.flatMap_cons,List.getElem?_append_left (by show 0 * 4+j < 4;omega)]
  simp
 | x::l,i+1,j,hj=>by
  have:=S5 l i j hj
  rw [List.flatMap_cons,show (i+1) * 4+j=(Ci x).length+(i * 4+j) from by show _=4+_;omega,List.getElem?_append_right (by omega),Nat.add_sub_cancel_left]
  simpa using this
theorem wA {w:World} {tb:List TP} {g cap:Nat} (h:w.ownsRow 0 146 4 (.slice (some ⟨g,0,none⟩) tb.length cap) tb.length (tb.flatMap Ci)) (k:Nat) (p:TP) (hk:tb[k]?=some p) :
  w.cell? ⟨g,k * 4,none⟩=some (.int .i64 p.r)/\w.cell? ⟨g,k * 4+1,none⟩=some (.int .i64 p.a)/\w.cell? ⟨g,k * 4+2,none⟩=some (.int .i64 p.b)/\w.cell? ⟨g,k * 4+3,none⟩=some (.int .i64 p.sz):=by
 have hkl:=(List.getElem?_eq_some_iff.1 hk).1
 have key:∀ j,j < 4->w.cell? ⟨g,k * 4+j,none⟩=(Ci p)[j]?:=by
  intro j hj
  rw [h.cellAt (k * 4+j) (by omega),S5 tb k j hj,hk];rfl
 exact ⟨key 0 (by omega),key 1 (by omega),key 2 (by omega),key 3 (by omega)⟩
theorem oT (w:World) (cb o:Nat) (pv:Value) (tb:List TP) (k:Nat) (hc:w.cell? ⟨cb,o,none⟩=some pv) (hr:w.ownsRow 0 146 4 pv tb.length (tb.flatMap Ci)) (hl:tb.length<=9000) (hk:k<=10000) :
  Calls Tryz.prog 86 #[.pointer (some ⟨cb,o,none⟩),.int .i64 k] w fun v w'=>v=.returned (uC (fD tb k))/\Below w.heap.size w w':=by
 have yQ:=World.block_lt_of_cell? _ _ hc
 show Calls _ _ #[Value.pointer (some ⟨cb,o,none⟩),_] w _
 by_cases h0:k=0\/tb.length < k
 ·have e:fD tb k=⟨0,0,0,0⟩:=by
   unfold fD
   split
   ·rfl
   ·rw [List.getElem?_eq_none (by omega)];rfl
  rw [e]
  obtain ⟨a,cap,rfl⟩:=aF hr
  generalize tb.length=m at *
  clear hr e
  unfold uC
  rcases h0 with h0 | h0
  ·have h0':k < 1:=by omega
   clear h0
   go_enter Tryz.func86,Tryz.ntmps86
   go_wp2
   refine bodyPost_ret (v:=.agg #[.int .i64 0,.int .i64 0,.int .i64 0,.int .i64 0]) (by simp [results,Tryz.results86,go_sem]) rfl ⟨rfl,(Below.refl _ _).alloc (Nat.le_refl _) _⟩
  ·have h1:1<=k:=by omega
   go_enter Tryz.func86,Tryz.ntmps86
   go_wp2
   refine bodyPost_ret (v:=.agg #[.int .i64 0,.int .i64 0,.int .i64 0,.int .i64 0]) (by simp [results,Tryz.results86,go_sem]) rfl ⟨rfl,(Below.refl _ _).alloc (Nat.le_refl _) _⟩
 ·obtain ⟨g,cap,rfl⟩:=fK hr (by omega)
  obtain ⟨j,rfl⟩:∃ j,k=j+1:=⟨k - 1,by omega⟩
  have hj:j < tb.length:=by omega
  obtain ⟨p,hp⟩:∃ p,tb[j]?=some p:=⟨tb[j],List.getElem?_eq_getElem hj⟩
  have e:fD tb (j+1)=p:=by unfold fD;rw [if_neg (by omega),Nat.add_sub_cancel,hp];rfl
  rw [e]
  obtain ⟨c0,c1,c2,c3⟩:=wA hr j p hp
  have hg:g < w.heap.size:=(hr.lt g rfl).2
  have ej:((j+1:Nat):Int)=(j:Int)+1:=by omega
  have ej2:(j:Int)+1 - 1=(j:Int):=by omega
  generalize tb.length=m at *
  clear hr e hp h0
  unfold uC
  rw [ej]
  go_enter Tryz.func86,Tryz.ntmps86
  go_wp2
  refine bodyPost_ret (v:=.agg #[.int .i64 p.r,.int .i64 p.a,.int .i64 p.b,.int .i64 p.sz]) (by simp [results,Tryz.results86,go_sem]) rfl ⟨rfl,(Below.refl _ _).alloc (Nat.le_refl _) _⟩
theorem Tc (w:World) (cb:Nat) (pv:Value) (tb:List TP) (k:Nat) (hc:w.cell? ⟨cb,0,none⟩=some pv) (hr:w.ownsRow 0 146 4 pv tb.length (tb.flatMap Ci)) (hl:tb.length<=9000) (hk:k<=10000) :
  Calls Tryz.prog 86 #[ptr cb,.int .i64 k] w fun v w'=>v=.returned (uC (fD tb k))/\Below w.heap.size w w' :=
 oT w cb 0 pv tb k hc hr hl hk
structure A1 (cb:Nat) (w:World) (pv tv:Value) (tb:List TP) (K:List Nat):Prop where
 y:w.heap[cb]?=some (.cells #[pv,tv] 104 (0,0))
 p:w.ownsRow 0 146 4 pv tb.length (tb.flatMap Ci)
 t:w.ownsRow 0 3 1 tv K.length (K.map fun (k:Nat)=>Value.int .i64 k)
 py:pv.ownBlock≠some cb
 ty:tv.ownBlock≠some cb
 pt:apart pv tv
theorem A1.below {cb:Nat} {w w':World} {pv tv:Value} {tb:List TP} {K:List Nat} (h:A1 cb w pv tv tb K) (hb:Below w.heap.size w w'):A1 cb w' pv tv tb K :=
 ⟨by rw [hb.block cb (af h.y)];exact h.y,aB h.p hb,aB h.t hb,h.py,h.ty,h.pt⟩
def au (K:List Nat) (i:Int):Nat:=if 0<=i then (K[i.toNat]?).getD 0 else 0
structure fJ (cb o:Nat) (A:Array Value) (T:TypeId) (w:World) (pv tv:Value) (tb:List TP) (K:List Nat):Prop where
 y:w.heap[cb]?=some (.cells A T (0,0))
 a:A[o]?=some pv
 b:A[o+1]?=some tv
 p:w.ownsRow 0 146 4 pv tb.length (tb.flatMap Ci)
 t:w.ownsRow 0 3 1 tv K.length (K.map fun (k:Nat)=>Value.int .i64 k)
 py:pv.ownBlock≠some cb
 ty:tv.ownBlock≠some cb
 pt:apart pv tv
theorem fJ.below {cb o:Nat} {A:Array Value} {T:TypeId} {w w':World} {pv tv:Value} {tb:List TP} {K:List Nat} (h:fJ cb o A T w pv tv tb K) (hb:Below w.heap.size w w'):fJ cb o A T w' pv tv tb K :=
 ⟨by rw [hb.block cb (af h.y)];exact h.y,h.a,h.b,aB h.p hb,aB h.t hb,h.py,h.ty,h.pt⟩
theorem fJ.c0 {cb o:Nat} {A:Array Value} {T:TypeId} {w:World} {pv tv:Value} {tb:List TP} {K:List Nat} (h:fJ cb o A T w pv tv tb K):w.cell? ⟨cb,o,none⟩=some pv:=by rw [aa h.y];exact h.a
theorem fJ.c1 {cb o:Nat} {A:Array Value} {T:TypeId} {w:World} {pv tv:Value} {tb:List TP} {K:List Nat} (h:fJ cb o A T w pv tv tb K):w.cell? ⟨cb,o+1,none⟩=some tv:=by rw [aa h.y];exact h.b
theorem O2 {A:Array Value} {o:Nat} {v:Value} (h:A[o]?=some v):A.setIfInBounds o v=A:=by
 apply Array.ext_getElem?
 intro i
 rw [Array.getElem?_setIfInBounds]
 split
 ·next e=>subst e;split;exact h.symm;next hn=>rw [Array.getElem?_eq_none (by omega)]
 ·rfl
theorem fJ.self {cb o:Nat} {A:Array Value} {T:TypeId} {w:World} {pv tv:Value} {tb:List TP} {K:List Nat} (h:fJ cb o A T w pv tv tb K):fJ cb o (A.setIfInBounds o pv) T w pv tv tb K:=by rw [O2 h.a];exact h
theorem A1.toO {cb:Nat} {w:World} {pv tv:Value} {tb:List TP} {K:List Nat} (h:A1 cb w pv tv tb K):fJ cb 0 #[pv,tv] 104 w pv tv tb K:=⟨h.y,rfl,rfl,h.p,h.t,h.py,h.ty,h.pt⟩
theorem fJ.toC {cb:Nat} {w:World} {pv tv:Value} {tb:List TP} {K:List Nat} (h:fJ cb 0 #[pv,tv] 104 w pv tv tb K):A1 cb w pv tv tb K:=⟨h.y,h.p,h.t,h.py,h.ty,h.pt⟩
theorem gN (w:World) (cb o:Nat) (tv:Value) (K:List Nat) (i:Int) (y1:w.cell? ⟨cb,o+1,none⟩=some tv) (ht:w.ownsRow 0 3 1 tv K.length (K.map fun (k:Nat)=>Value.int .i64 k)) (hl:K.length<=9000) (hi:-10<=i/\i<=10000) :
  Calls Tryz.prog 85 #[.pointer (some ⟨cb,o,none⟩),.int .i64 i] w fun v w'=>v=.returned (.int .i64 (au K i))/\w'=w:=by
 show Calls _ _ #[Value.pointer (some ⟨cb,o,none⟩),_] w _
 by_cases h0:i < 0
 ·have e:au K i=0:=by unfold au;rw [if_neg (by omega)]
  rw [e]
  obtain ⟨a,cap,rfl⟩:=aF ht
  clear ht e
  go_enter Tryz.func85,Tryz.ntmps85
  go_wp2
  go_ret
  exact ⟨rfl,rfl⟩
 ·obtain ⟨j,rfl⟩:∃ j:Nat,i=(j:Int):=⟨i.toNat,by omega⟩
  by_cases hj:j < K.length
  ·obtain ⟨g,cap,rfl⟩:=fK ht (by omega)
   have e:au K (j:Int)=K[j]:=by unfold au;rw [if_pos (by omega),Int.toNat_natCast,List.getElem?_eq_getElem hj];rfl
   rw [e]
   have c:w.cell? ⟨g,j,none⟩=some (.int .i64 K[j]):=by rw [ht.cellAt j (by omega),List.getElem?_map,List.getElem?_eq_getElem hj];rfl
   generalize K[j]=x at *
   generalize K.length=m at *
   clear ht e
   go_enter Tryz.func85,Tryz.ntmps85
   go_wp2
   go_ret
   exact ⟨rfl,rfl⟩
  ·have e:au K (j:Int)=0:=by unfold au;rw [if_pos (by omega),Int.toNat_natCast,List.getElem?_eq_none (by omega)];rfl
   rw [e]
   obtain ⟨a,cap,rfl⟩:=aF ht
   clear ht e
   go_enter Tryz.func85,Tryz.ntmps85
   go_wp2
   go_ret
   exact ⟨rfl,rfl⟩
theorem ku (w:World) (cb:Nat) (pv tv:Value) (tb:List TP) (K:List Nat) (i:Int) (h:A1 cb w pv tv tb K) (hl:K.length<=9000) (hi:-10<=i/\i<=10000) :
  Calls Tryz.prog 85 #[ptr cb,.int .i64 i] w fun v w'=>v=.returned (.int .i64 (au K i))/\w'=w :=
 gN w cb 0 tv K i (by rw [aa h.y];rfl) h.t hl hi
def cF (E:List Nat):List Value:=E.map fun (k:Nat)=>Value.int .i64 k
theorem yP {w:World} {E:List Nat} {g cap base:Nat} (h:w.ownsRow base 3 1 (.slice (some ⟨g,0,none⟩) E.length cap) E.length (cF E)) (k:Nat) (hk:k < E.length):w.cell? ⟨g,k,none⟩=some (.int .i64 E[k]):=by
 rw [h.cellAt k (by omega)];unfold cF;rw [List.getElem?_map,List.getElem?_eq_getElem hk];rfl
theorem o6 (w:World) (sb base:Nat) (ev:Value) (E:List Nat) (p:Nat) (hc:w.cell? ⟨sb,2,none⟩=some ev) (hr:w.ownsRow base 3 1 ev E.length (cF E)) (hl:E.length<=9000) (hp:p<=10000) :
  Calls Tryz.prog 73 #[ptr sb,.int .i64 p] w fun v w'=>v=.returned (.int .i64 (bu E p))/\w'=w:=by
 have hsb:=World.block_lt_of_cell? _ _ hc
 obtain ⟨ans,cQ⟩:∃ ans,ans=bu E p:=⟨_,rfl⟩
 rw [<- cQ]
 have HA:Hid _:=cQ
 clear cQ
 show Calls _ _ #[Value.pointer (some ⟨sb,0,none⟩),_] w _
 rcases hr.2 with ⟨hv,hn⟩ | ⟨g,cap,cur,hv,hx⟩
 ·subst hv
  have HE:Hid (ans=p):=(show ans=p by rw [HA.out,gE,List.getElem?_eq_none (by omega)])
  clear hr HA
  go_enter Tryz.func73,Tryz.ntmps73
  go_wp2
  go_loopw [1] (fun i wr=>i=.int .i64 p/\wr=w) (fun _ _=>0)
  case atStart=>exact ⟨rfl,rfl⟩
  case round =>
   obtain ⟨rfl,rfl⟩:=hrel
   go_wp2
   go_ret
   exact ⟨by rw [HE.out];first | done | rfl,rfl⟩
 ·subst hv
  have hgl:g < w.heap.size:=(hr.lt g rfl).2
  have HC:Hid (∀ k (hk:k < E.length),w.cell? ⟨g,k,none⟩=some (.int .i64 E[k])):=fun k hk=>yP hr k hk
  obtain ⟨m,hm⟩:∃ m,m=E.length:=⟨_,rfl⟩
  rw [<- hm] at hc hl
  have HM:Hid _:=hm
  clear hr hx hm
  go_enter Tryz.func73,Tryz.ntmps73
  go_wp2
  go_loopw [1] (fun i wr=>∃ k:Nat,i=.int .i64 k/\k<=10000/\wr=w/\Hid (bu E p=bu E k)) (fun i _=>(intOf i).toNat)
  case atStart=>exact ⟨p,rfl,hp,rfl,(rfl:bu E p=bu E p)⟩
  case round =>
   obtain ⟨k,rfl,hk,rfl,HF⟩:=hrel
   by_cases hlt:k < m
   ·have hkl:k < E.length:=by have:=HM.out;omega
    have c0:=HC.out k hkl
    have hst:=gE E k
    rw [List.getElem?_eq_getElem hkl] at hst
    simp only at hst
    obtain ⟨x,hx⟩:∃ x,x=E[k]:=⟨_,rfl⟩
    rw [<- hx] at c0 hst
    clear hx
    by_cases hxk:x < k
    ·have cx:Hid (bu E p=bu E x):=(show bu E p=_ by rw [HF.out,hst,if_pos hxk])
     have hz:(x:Int) < (k:Int):=by omega
     clear hst
     go_wp2
     go_roundw
     case rel=>exact ⟨x,rfl,by omega,by first | rfl | trivial,cx.out⟩
     case measure=>simp [intOf];omega
    ·have HE:Hid (ans=k):=(show ans=k by rw [HA.out,HF.out,hst,if_neg hxk])
     have hz:¬ (x:Int) < (k:Int):=by omega
     clear hst
     go_wp2
     go_ret
     exact ⟨by rw [HE.out];first | done | rfl,rfl⟩
   ·have HE:Hid (ans=k):=(show ans=k by rw [HA.out,HF.out,gE,List.getElem?_eq_none (by have:=HM.out;omega)])
    go_wp2
    go_ret
    exact ⟨by rw [HE.out];first | done | rfl,rfl⟩
def lI (row:List Nat) (x:Nat):Int:=match row.findIdx? (· == x) with
 | some i=>(i:Int)
 | none=>-1
theorem O3 (row:List Nat) (x k:Nat) (hk:k < row.length) (hf:∀ i y,i < k->row[i]?=some y->y≠x):(row[k]=x->lI row x=(k:Int)):=by
 intro e
 unfold lI
 have:row.findIdx? (· == x)=some k:=by
  rw [List.findIdx?_eq_some_iff_getElem]
  refine ⟨hk,by simpa using e,fun j hj=>?_⟩
  have:=hf j row[j] hj (List.getElem?_eq_getElem (by omega))
  simpa using this
 rw [this]
theorem EJ (row:List Nat) (x:Nat) (hf:∀ i y,i < row.length->row[i]?=some y->y≠x):lI row x=-1:=by
 unfold lI
 have:row.findIdx? (· == x)=none:=by
  rw [List.findIdx?_eq_none_iff]
  intro y hy
  obtain ⟨i,hi⟩:=List.getElem?_of_mem hy
  have:=hf i y (List.getElem?_eq_some_iff.1 hi).1 hi
  simpa using this
 rw [this]
theorem CW (w:World) (base:Nat) (ev:Value) (E:List Nat) (x:Nat) (hr:w.ownsRow base 3 1 ev E.length (cF E)) (hl:E.length<=9000) :
  Calls Tryz.prog 74 #[ev,.int .i64 x] w fun v w'=>v=.returned (.int .i64 (lI E x))/\w'=w:=by
 obtain ⟨ans,cQ⟩:∃ ans,ans=lI E x:=⟨_,rfl⟩
 rw [<- cQ]
 have HA:Hid _:=cQ
 clear cQ
 rcases hr.2 with ⟨hv,hn⟩ | ⟨g,cap,cur,hv,hx⟩
 ·subst hv
  have HE:Hid (ans=-1):=(show ans=-1 by rw [HA.out];exact EJ E x (fun i y hi=>by omega))
  clear hr HA
  go_enter Tryz.func74,Tryz.ntmps74
  go_wp2
  go_loopw [5] (fun i wr=>i=.int .i64 0/\wr=w) (fun _ _=>0)
  case atStart=>exact ⟨rfl,rfl⟩
  case round =>
   obtain ⟨rfl,rfl⟩:=hrel
   go_wp2
   go_ret
   exact ⟨by rw [HE.out];first | done | rfl,rfl⟩
 ·subst hv
  have hgl:g < w.heap.size:=(hr.lt g rfl).2
  have HC:Hid (∀ k (hk:k < E.length),w.cell? ⟨g,k,none⟩=some (.int .i64 E[k])):=fun k hk=>yP hr k hk
  obtain ⟨m,hm⟩:∃ m,m=E.length:=⟨_,rfl⟩
  rw [<- hm] at hl ⊢
  have HM:Hid _:=hm
  clear hr hx hm
  go_enter Tryz.func74,Tryz.ntmps74
  go_wp2
  go_loopw [5] (fun i wr=>∃ k:Nat,i=.int .i64 k/\k<=m/\wr=w/\Hid (∀ i y,i < k->E[i]?=some y->y≠x)) (fun i _=>m - (intOf i).toNat)
  case atStart=>exact ⟨0,rfl,Nat.zero_le _,rfl,(fun i y h=>by omega:∀ i y,i < 0->E[i]?=some y->y≠x)⟩
  case round =>
   obtain ⟨k,rfl,hk,rfl,HF⟩:=hrel
   by_cases hlt:k < m
   ·have hkl:k < E.length:=by have:=HM.out;omega
    have c0:=HC.out k hkl
    have hi:=O3 E x k hkl HF.out
    have iH:E[k]≠x->∀ i y,i < k+1->E[i]?=some y->y≠x:=by
     intro hne i y hi hy
     by_cases e:i=k
     ·subst e;rw [List.getElem?_eq_getElem hkl] at hy;rw [<- Option.some.inj hy];exact hne
     ·exact HF.out i y (by omega) hy
    obtain ⟨z,hz⟩:∃ z,z=E[k]:=⟨_,rfl⟩
    rw [<- hz] at c0 hi iH
    clear hz
    by_cases Zu:z=x
    ·have q:((z:Int) == (x:Int))=true:=by rw [Zu];simp
     have HE:Hid (ans=(k:Int)):=(show ans=k by rw [HA.out,hi Zu])
     clear hi iH Zu
     go_wp2
     go_ret
     exact ⟨by rw [HE.out];first | done | rfl,rfl⟩
    ·have q:((z:Int) == (x:Int))=false:=by rw [beq_eq_false_iff_ne];omega
     have cx:Hid _:=iH Zu
     clear hi iH Zu
     go_wp2
     go_roundw
     case rel=>exact ⟨k+1,by go_num,by omega,by first | rfl | trivial,cx.out⟩
     case measure=>simp [intOf];omega
   ·have HE:Hid (ans=-1):=(show ans=-1 by rw [HA.out];exact EJ E x (fun i y hi hy=>HF.out i y (by have:=HM.out;omega) hy))
    go_wp2
    go_ret
    exact ⟨by rw [HE.out];first | done | rfl,rfl⟩
end Go.Proofs.YtpicaknklgccoabGreatDoor
