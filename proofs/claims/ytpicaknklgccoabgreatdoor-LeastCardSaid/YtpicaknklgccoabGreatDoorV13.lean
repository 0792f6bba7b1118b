import Derived.Test.YtpicaknklgccoabGreatDoorV12
set_option maxHeartbeats 32000000
set_option maxRecDepth 100000
namespace Go.Proofs.YtpicaknklgccoabGreatDoor
open Go.RowKit
theorem fO {a b:Nat} (h:a≠b):((a:Int) != (b:Int))=true:=by simp;omega
theorem eF {a b:Nat} (h:a=b):((a:Int) != (b:Int))=false:=by simp;omega
theorem DP (w:World) (cb:Nat) (pv tv:Value) (tb:List TP) (K:List Nat) (n:NR) (kind:Nat) (h:Cc cb w pv tv tb K) (hl:tb.length<=9000) (hK:K.length<=9000) (hkd:kind<=10000) (nT:-10<=n.p0/\n.p0<=10000) (fk:-10<=n.p1/\n.p1<=10000) (oU:-10<=n.p2/\n.p2<=10000) :
  Calls Tryz.prog 63 #[aK n,.int .i64 kind,ptr cb] w λv w'=>v=.returned (.int .i64 (Ym tb K n kind))/\Below w.heap.size w w':=by
 have hbx:Below w.heap.size w (w.alloc (cA n)):=(Below.refl _ _).alloc (Nat.le_refl _) _;have hin:=h.below hbx;have ko:=lp (w.alloc (cA n)) cb pv tv tb K n.p0 hin hK nT;have hk1:=lp (w.alloc (cA n)) cb pv tv tb K n.p1 hin hK fk;have hk2:=lp (w.alloc (cA n)) cb pv tv tb K n.p2 hin hK oU;have hat:=U7 (w.alloc (cA n)) cb pv tb kind (by rw[aa hin.y];rfl) hin.p hl hkd;have eE:Hid _:=hbx
 have jG:Hid (Ym tb K n kind=(if n.form=2 then (if n.source=-1 then 4 else 0)
  else if n.form=4 then (if 63<(fW tb kind).sz then 6 else 0)
  else if n.form=5 then (if au K n.p0=0 then 5 else 0)
  else if n.form=6 then (if au K n.p0=0 then 5 else 0)
  else if n.form=7 then (if au K n.p0=0/\au K n.p1=au K n.p2 then 0 else 5)
  else if n.form=11 then (if au K n.p0=0/\au K n.p1=au K n.p2 then 0 else 5)
  else if n.form=8 then (if au K n.p0=0/\au K n.p1=0 then 0 else 5)
  else if n.form=9 then (if au K n.p0=0/\au K n.p1=0 then 0 else 5)
  else if n.form=10 then (if au K n.p0=0/\au K n.p1=0 then 0 else 5)
  else 0)):=rfl
 obtain⟨R,hR⟩:∃ R,R=Ym tb K n kind:=⟨_,rfl⟩;rw[<- hR] at jG ⊢;clear hR h hin hbx;unfold ptr at ko hk1 hk2 hat;unfold we at hat;unfold aK;unfold cA AA at ko hk1 hk2 hat eE;have KJ:Hid _:=ko;have GL:Hid _:=hk1;have pj:Hid _:=hk2;have M7:Hid _:=hat;clear ko hk1 hk2 hat;generalize au K n.p0=ka at *;generalize au K n.p1=kb at *;generalize au K n.p2=kc at *;generalize fW tb kind=P at *
 show Calls _ _ #[_,_,Value.pointer (some ⟨cb,0,none⟩)] w _
 go_enter Tryz.func63,Tryz.ntmps63
 go_wp2_with fail
 refine Calls.mono KJ.out ?_;rintro _ _ ⟨rfl,rfl⟩
 go_wp2_with fail
 refine Calls.mono GL.out ?_;rintro _ _ ⟨rfl,rfl⟩
 go_wp2_with fail
 refine Calls.mono pj.out ?_;rintro _ _ ⟨rfl,rfl⟩
 go_wp2_with fail
 refine Calls.mono M7.out ?_;rintro _ w1 ⟨rfl,hb1⟩
 have hnb:w1.heap[w.heap.size]?=some (cA n):=by rw[hb1.block _ (by simp)];exact aj _ _
 obtain⟨d0,d1,d2,d3,d4,d5,d6,d7,d8,d9⟩:=aC hnb;have kJ:=af hnb;have hB:=(eE.out.trans (hb1.mono (by simp))).alloc (by have:=hb1.size;simp at this;omega) (.cells #[.int .i64 P.r,.int .i64 P.a,.int .i64 P.b,.int .i64 P.sz] 146);have HB:Hid _:=hB;clear hb1 hB hnb
 by_cases k2:n.form=2
 ·skip
  have q2:((n.form:Int)==2)=true:=aJ (b:=2) k2
  have hr:R=(if n.source=-1 then 4 else 0):=by have:=jG.out;simp only[if_pos k2] at this;exact this
  clear jG k2
  by_cases hc:n.source=-1
  ·have e1:(n.source==-1)=true:=by rw[hc];rfl
   have HR:Hid (R=4):=by rw[hr,if_pos hc];exact rfl
   clear hc hr
   go_wp2
   go_ret
   exact⟨by rw[HR.out];first | done | rfl,HB.out⟩
  ·have e1:(n.source==-1)=false:=by rw[beq_eq_false_iff_ne];exact hc
   have HR:Hid (R=0):=by rw[hr,if_neg hc];exact rfl
   clear hc hr
   go_wp2
   go_ret
   exact⟨by rw[HR.out];first | done | rfl,HB.out⟩
 by_cases k4:n.form=4
 ·skip
  have q2:((n.form:Int)==2)=false:=ah (b:=2) k2;have q4:((n.form:Int)==4)=true:=aJ (b:=4) k4
  have hr:R=(if 63<P.sz then 6 else 0):=by have:=jG.out;simp only[if_neg k2,if_pos k4] at this;exact this
  clear jG k2 k4
  by_cases hc:63<P.sz
  ·have HR:Hid (R=6):=by rw[hr,if_pos hc];exact rfl
   clear hr
   go_wp2
   go_ret
   exact⟨by rw[HR.out];first | done | rfl,HB.out⟩
  ·have HR:Hid (R=0):=by rw[hr,if_neg hc];exact rfl
   clear hr
   go_wp2
   go_ret
   exact⟨by rw[HR.out];first | done | rfl,HB.out⟩
 by_cases k5:n.form=5
 ·skip
  have q2:((n.form:Int)==2)=false:=ah (b:=2) k2;have q4:((n.form:Int)==4)=false:=ah (b:=4) k4;have q5:((n.form:Int)==5)=true:=aJ (b:=5) k5
  have hr:R=(if ka=0 then 5 else 0):=by have:=jG.out;simp only[if_neg k2,if_neg k4,if_pos k5] at this;exact this
  clear jG k2 k4 k5
  by_cases hc:ka=0
  ·have e1:((ka:Int)==0)=true:=aJ (b:=0) hc
   have HR:Hid (R=5):=by rw[hr,if_pos hc];exact rfl
   clear hc hr
   go_wp2
   go_ret
   exact⟨by rw[HR.out];first | done | rfl,HB.out⟩
  ·have e1:((ka:Int)==0)=false:=ah (b:=0) hc
   have HR:Hid (R=0):=by rw[hr,if_neg hc];exact rfl
   clear hc hr
   go_wp2
   go_ret
   exact⟨by rw[HR.out];first | done | rfl,HB.out⟩
 by_cases k6:n.form=6
 ·skip
  have q2:((n.form:Int)==2)=false:=ah (b:=2) k2;have q4:((n.form:Int)==4)=false:=ah (b:=4) k4;have q5:((n.form:Int)==5)=false:=ah (b:=5) k5;have q6:((n.form:Int)==6)=true:=aJ (b:=6) k6
  have hr:R=(if ka=0 then 5 else 0):=by have:=jG.out;simp only[if_neg k2,if_neg k4,if_neg k5,if_pos k6] at this;exact this
  clear jG k2 k4 k5 k6
  by_cases hc:ka=0
  ·have e1:((ka:Int)==0)=true:=aJ (b:=0) hc
   have HR:Hid (R=5):=by rw[hr,if_pos hc];exact rfl
   clear hc hr
   go_wp2
   go_ret
   exact⟨by rw[HR.out];first | done | rfl,HB.out⟩
  ·have e1:((ka:Int)==0)=false:=ah (b:=0) hc
   have HR:Hid (R=0):=by rw[hr,if_neg hc];exact rfl
   clear hc hr
   go_wp2
   go_ret
   exact⟨by rw[HR.out];first | done | rfl,HB.out⟩
 by_cases k7:n.form=7
 ·skip
  have q2:((n.form:Int)==2)=false:=ah (b:=2) k2;have q4:((n.form:Int)==4)=false:=ah (b:=4) k4;have q5:((n.form:Int)==5)=false:=ah (b:=5) k5;have q6:((n.form:Int)==6)=false:=ah (b:=6) k6;have q7:((n.form:Int)==7)=true:=aJ (b:=7) k7
  have hr:R=(if ka=0/\kb=kc then 0 else 5):=by have:=jG.out;simp only[if_neg k2,if_neg k4,if_neg k5,if_neg k6,if_pos k7] at this;exact this
  clear jG k2 k4 k5 k6 k7
  by_cases hc:ka=0
  ·have e1:((ka:Int) != 0)=false:=eF (b:=0) hc
   by_cases hd:kb=kc
   ·have e2:((kb:Int) != (kc:Int))=false:=eF (b:=kc) hd
    have HR:Hid (R=0):=by rw[hr,if_pos ⟨hc,hd⟩];exact rfl
    clear hc hd hr
    go_wp2
    go_ret
    exact⟨by rw[HR.out];first | done | rfl,HB.out⟩
   ·have e2:((kb:Int) != (kc:Int))=true:=fO (b:=kc) hd
    have HR:Hid (R=5):=by rw[hr,if_neg (λe=>hd e.2)];exact rfl
    clear hc hd hr
    go_wp2
    go_ret
    exact⟨by rw[HR.out];first | done | rfl,HB.out⟩
  ·have e1:((ka:Int) != 0)=true:=fO (b:=0) hc
   have HR:Hid (R=5):=by rw[hr,if_neg (λe=>hc e.1)];exact rfl
   clear hc hr
   go_wp2
   go_ret
   exact⟨by rw[HR.out];first | done | rfl,HB.out⟩
 by_cases k11:n.form=11
 ·skip
  have q2:((n.form:Int)==2)=false:=ah (b:=2) k2;have q4:((n.form:Int)==4)=false:=ah (b:=4) k4;have q5:((n.form:Int)==5)=false:=ah (b:=5) k5;have q6:((n.form:Int)==6)=false:=ah (b:=6) k6;have q7:((n.form:Int)==7)=false:=ah (b:=7) k7;have AB:((n.form:Int)==11)=true:=aJ (b:=11) k11
  have hr:R=(if ka=0/\kb=kc then 0 else 5):=by have:=jG.out;simp only[if_neg k2,if_neg k4,if_neg k5,if_neg k6,if_neg k7,if_pos k11] at this;exact this
  clear jG k2 k4 k5 k6 k7 k11
  by_cases hc:ka=0
  ·have e1:((ka:Int) != 0)=false:=eF (b:=0) hc
   by_cases hd:kb=kc
   ·have e2:((kb:Int) != (kc:Int))=false:=eF (b:=kc) hd
    have HR:Hid (R=0):=by rw[hr,if_pos ⟨hc,hd⟩];exact rfl
    clear hc hd hr
    go_wp2
    go_ret
    exact⟨by rw[HR.out];first | done | rfl,HB.out⟩
   ·have e2:((kb:Int) != (kc:Int))=true:=fO (b:=kc) hd
    have HR:Hid (R=5):=by rw[hr,if_neg (λe=>hd e.2)];exact rfl
    clear hc hd hr
    go_wp2
    go_ret
    exact⟨by rw[HR.out];first | done | rfl,HB.out⟩
  ·have e1:((ka:Int) != 0)=true:=fO (b:=0) hc
   have HR:Hid (R=5):=by rw[hr,if_neg (λe=>hc e.1)];exact rfl
   clear hc hr
   go_wp2
   go_ret
   exact⟨by rw[HR.out];first | done | rfl,HB.out⟩
 by_cases k8:n.form=8
 ·skip
  have q2:((n.form:Int)==2)=false:=ah (b:=2) k2;have q4:((n.form:Int)==4)=false:=ah (b:=4) k4;have q5:((n.form:Int)==5)=false:=ah (b:=5) k5;have q6:((n.form:Int)==6)=false:=ah (b:=6) k6;have q7:((n.form:Int)==7)=false:=ah (b:=7) k7;have AB:((n.form:Int)==11)=false:=ah (b:=11) k11;have q8:((n.form:Int)==8)=true:=aJ (b:=8) k8
  have hr:R=(if ka=0/\kb=0 then 0 else 5):=by have:=jG.out;simp only[if_neg k2,if_neg k4,if_neg k5,if_neg k6,if_neg k7,if_neg k11,if_pos k8] at this;exact this
  clear jG k2 k4 k5 k6 k7 k11 k8
  by_cases hc:ka=0
  ·have e1:((ka:Int) != 0)=false:=eF (b:=0) hc
   by_cases hd:kb=0
   ·have e2:((kb:Int) != 0)=false:=eF (b:=0) hd
    have HR:Hid (R=0):=by rw[hr,if_pos ⟨hc,hd⟩];exact rfl
    clear hc hd hr
    go_wp2
    go_ret
    exact⟨by rw[HR.out];first | done | rfl,HB.out⟩
   ·have e2:((kb:Int) != 0)=true:=fO (b:=0) hd
    have HR:Hid (R=5):=by rw[hr,if_neg (λe=>hd e.2)];exact rfl
    clear hc hd hr
    go_wp2
    go_ret
    exact⟨by rw[HR.out];first | done | rfl,HB.out⟩
  ·have e1:((ka:Int) != 0)=true:=fO (b:=0) hc
   have HR:Hid (R=5):=by rw[hr,if_neg (λe=>hc e.1)];exact rfl
   clear hc hr
   go_wp2
   go_ret
   exact⟨by rw[HR.out];first | done | rfl,HB.out⟩
 by_cases k9:n.form=9
 ·skip
  have q2:((n.form:Int)==2)=false:=ah (b:=2) k2;have q4:((n.form:Int)==4)=false:=ah (b:=4) k4;have q5:((n.form:Int)==5)=false:=ah (b:=5) k5;have q6:((n.form:Int)==6)=false:=ah (b:=6) k6;have q7:((n.form:Int)==7)=false:=ah (b:=7) k7;have AB:((n.form:Int)==11)=false:=ah (b:=11) k11;have q8:((n.form:Int)==8)=false:=ah (b:=8) k8;have q9:((n.form:Int)==9)=true:=aJ (b:=9) k9
  have hr:R=(if ka=0/\kb=0 then 0 else 5):=by have:=jG.out;simp only[if_neg k2,if_neg k4,if_neg k5,if_neg k6,if_neg k7,if_neg k11,if_neg k8,if_pos k9] at this;exact this
  clear jG k2 k4 k5 k6 k7 k11 k8 k9
  by_cases hc:ka=0
  ·have e1:((ka:Int) != 0)=false:=eF (b:=0) hc
   by_cases hd:kb=0
   ·have e2:((kb:Int) != 0)=false:=eF (b:=0) hd
    have HR:Hid (R=0):=by rw[hr,if_pos ⟨hc,hd⟩];exact rfl
    clear hc hd hr
    go_wp2
    go_ret
    exact⟨by rw[HR.out];first | done | rfl,HB.out⟩
   ·have e2:((kb:Int) != 0)=true:=fO (b:=0) hd
    have HR:Hid (R=5):=by rw[hr,if_neg (λe=>hd e.2)];exact rfl
    clear hc hd hr
    go_wp2
    go_ret
    exact⟨by rw[HR.out];first | done | rfl,HB.out⟩
  ·have e1:((ka:Int) != 0)=true:=fO (b:=0) hc
   have HR:Hid (R=5):=by rw[hr,if_neg (λe=>hc e.1)];exact rfl
   clear hc hr
   go_wp2
   go_ret
   exact⟨by rw[HR.out];first | done | rfl,HB.out⟩
 by_cases k10:n.form=10
 ·skip
  have q2:((n.form:Int)==2)=false:=ah (b:=2) k2;have q4:((n.form:Int)==4)=false:=ah (b:=4) k4;have q5:((n.form:Int)==5)=false:=ah (b:=5) k5;have q6:((n.form:Int)==6)=false:=ah (b:=6) k6;have q7:((n.form:Int)==7)=false:=ah (b:=7) k7;have AB:((n.form:Int)==11)=false:=ah (b:=11) k11;have q8:((n.form:Int)==8)=false:=ah (b:=8) k8;have q9:((n.form:Int)==9)=false:=ah (b:=9) k9;have q10:((n.form:Int)==10)=true:=aJ (b:=10) k10
  have hr:R=(if ka=0/\kb=0 then 0 else 5):=by have:=jG.out;simp only[if_neg k2,if_neg k4,if_neg k5,if_neg k6,if_neg k7,if_neg k11,if_neg k8,if_neg k9,if_pos k10] at this;exact this
  clear jG k2 k4 k5 k6 k7 k11 k8 k9 k10
  by_cases hc:ka=0
  ·have e1:((ka:Int) != 0)=false:=eF (b:=0) hc
   by_cases hd:kb=0
   ·have e2:((kb:Int) != 0)=false:=eF (b:=0) hd
    have HR:Hid (R=0):=by rw[hr,if_pos ⟨hc,hd⟩];exact rfl
    clear hc hd hr
    go_wp2
    go_ret
    exact⟨by rw[HR.out];first | done | rfl,HB.out⟩
   ·have e2:((kb:Int) != 0)=true:=fO (b:=0) hd
    have HR:Hid (R=5):=by rw[hr,if_neg (λe=>hd e.2)];exact rfl
    clear hc hd hr
    go_wp2
    go_ret
    exact⟨by rw[HR.out];first | done | rfl,HB.out⟩
  ·have e1:((ka:Int) != 0)=true:=fO (b:=0) hc
   have HR:Hid (R=5):=by rw[hr,if_neg (λe=>hc e.1)];exact rfl
   clear hc hr
   go_wp2
   go_ret
   exact⟨by rw[HR.out];first | done | rfl,HB.out⟩
 have q2:((n.form:Int)==2)=false:=ah (b:=2) k2;have q4:((n.form:Int)==4)=false:=ah (b:=4) k4;have q5:((n.form:Int)==5)=false:=ah (b:=5) k5;have q6:((n.form:Int)==6)=false:=ah (b:=6) k6;have q7:((n.form:Int)==7)=false:=ah (b:=7) k7;have AB:((n.form:Int)==11)=false:=ah (b:=11) k11;have q8:((n.form:Int)==8)=false:=ah (b:=8) k8;have q9:((n.form:Int)==9)=false:=ah (b:=9) k9;have q10:((n.form:Int)==10)=false:=ah (b:=10) k10
 have HR:Hid (R=0):=by have:=jG.out;simp only[if_neg k2,if_neg k4,if_neg k5,if_neg k6,if_neg k7,if_neg k11,if_neg k8,if_neg k9,if_neg k10] at this;exact this
 clear jG k2 k4 k5 k6 k7 k11 k8 k9 k10
 go_wp2
 go_ret
 exact⟨by rw[HR.out];first | done | rfl,HB.out⟩
theorem vZ.toBelow {cb B:Nat} {w0 w w':World} {pv tv nS qJ:Value} (h:vZ cb w w' pv tv nS qJ) (hb:Below B w0 w) (hc:B<=cb) (hB:B<=w.heap.size) (hp:∀ g,pv.ownBlock=some g->B<=g) (ht:∀ g,tv.ownBlock=some g->B<=g) :
  Below B w0 w'/\(∀ g,nS.ownBlock=some g->B<=g)/\(∀ g,qJ.ownBlock=some g->B<=g):=by
 refine⟨⟨h.os.trans hb.os,h.tape.trans hb.tape,h.output.trans hb.output,Nat.le_trans hb.size h.size,λk hk=>?_⟩,λg hg=>?_,λg hg=>?_⟩
 ·rw[h.blk k (by omega) (by omega) (λe=>by have:=hp k e;omega) (λe=>by have:=ht k e;omega)]
  exact hb.block k hk
 ·rcases h.p g hg with e | e
  ·exact hp g e
  ·omega
 ·rcases h.t g hg with e | e
  ·exact ht g e
  ·omega
theorem gj.abb {cb o:Nat} {A:Array Value} {T:TypeId} {w W0 w':World} {pv tv:Value} {tb:List TP} {K:List Nat} (h:gj cb o A T w pv tv tb K) (x:Nat) {g cap:Nat} (hW:Below w.heap.size w W0) (hg:W0.grownBy w' tv.ownBlock)
  (hown:w'.ownsRow 0 3 1 (.slice (some ⟨g,0,none⟩) (K.length+1) cap) (K.length+1) ((K.map λ(k:Nat)=>Value.int .i64 k)++[.int .i64 x])) (jC:tv.ownBlock=some g\/W0.heap.size<=g) :
  vZ cb w (w'.setCell ⟨cb,o+1,none⟩ (.slice (some ⟨g,0,none⟩) (K.length+1) cap)) pv tv pv (.slice (some ⟨g,0,none⟩) (K.length+1) cap)/\gj cb o (A.setIfInBounds (o+1) (.slice (some ⟨g,0,none⟩) (K.length+1) cap)) T (w'.setCell ⟨cb,o+1,none⟩ (.slice (some ⟨g,0,none⟩) (K.length+1) cap)) pv (.slice (some ⟨g,0,none⟩) (K.length+1) cap) tb (K++[x]):=by
 obtain⟨l1,l2,l3⟩:=h.lt;have mr:=hW.size;have hgs:=hg.size
 have yW:W0.heap[cb]?=some (.cells A T (0,0)):=by rw[hW.block cb l3];exact h.y
 have yw:=cY hg yW h.ty
 have pM:g≠cb:=by
  rcases jC with e | e
  ·intro e';rw[e'] at e;exact h.ty e
  ·omega
 have kp:∀ k,k<w.heap.size->k≠cb->tv.ownBlock≠some k->(w'.setCell ⟨cb,o+1,none⟩ (.slice (some ⟨g,0,none⟩) (K.length+1) cap)).heap[k]?=w.heap[k]?:=by
  intro k hk hkp hne;rw[aq _ _ (by simpa using hkp),hg.block k (by omega) (λe=>hne e.symm),hW.block k hk]
 refine⟨⟨hg.os.trans hW.os,hg.tape.trans hW.tape,hg.output.trans hW.output,by simp only[World.setCell,Array.size_modify];omega,λk hk hp _ hs=>kp k hk hp hs,λ_ h=>Or.inl h,λg' hg'=>by simp only[Value.ownBlock,Option.some.injEq] at hg';subst hg';rcases jC with e | e;exact Or.inl e;exact Or.inr (by omega)⟩,?_⟩
 refine ⟨aA yw (o+1) _,by rw[Array.getElem?_setIfInBounds,if_neg (by omega)];exact h.a,by rw[Array.getElem?_setIfInBounds,if_pos rfl,if_pos (Array.getElem?_eq_some_iff.1 h.b).1],ay h.p (λk hk=>kp k (l1 k hk) (λe=>h.py (by rw[hk,e])) (λe=>h.pt k hk e)),by have:=ay (w':=w'.setCell ⟨cb,o+1,none⟩ (.slice (some ⟨g,0,none⟩) (K.length+1) cap)) hown (λk hk=>by simp only[Value.ownBlock,Option.some.injEq] at hk;subst hk;exact aq _ _ (by simpa using pM));simpa using this,h.py,by simp only[Value.ownBlock,ne_eq,Option.some.injEq];exact pM,λk hk hk'=>by
   simp only[Value.ownBlock,Option.some.injEq] at hk'
   rcases jC with e | e
   ·rw[hk'] at e;exact h.pt k hk e
   ·have:=l1 k hk;omega⟩
theorem xJ (w:World) (cb o:Nat) (A:Array Value) (T:TypeId) (pv tv:Value) (tb:List TP) (K:List Nat) (n:NR) (ri:Int) (r:Nat) (hr:n.form=4->ri=r) (h:gj cb o A T w pv tv tb K) (ok:U5 tb K n) :
  Calls Tryz.prog 62 #[.pointer (some ⟨cb,o,none⟩),aK n,.int .i64 ri] w λv w'=>v=.returned (.int .i64 (iX tb K n r).1)/\∃ nS qJ,vZ cb w w' pv tv nS qJ/\gj cb o ((A.setIfInBounds o nS).setIfInBounds (o+1) qJ) T w' nS qJ (iX tb K n r).2 (K++[(iX tb K n r).1]):=by
 obtain⟨i0,hi,hz0,hz1,hz2⟩:=info_parts Tryz.qL;have HI:Hid _:=hi;have rR:Hid _:=hz0;have rS:Hid _:=hz1;have rT:Hid _:=hz2;clear hi hz0 hz1 hz2;have hbx:Below w.heap.size w (w.alloc (cA n)):=(Below.refl _ _).alloc (Nat.le_refl _) _;have hty:=DN (w.alloc (cA n)) cb o A T pv tv tb K n ri r hr (h.below hbx) ok;have GM:=ok.hK;have eE:Hid _:=vZ.below cb pv tv hbx;unfold aK at hty;unfold cA AA at hty eE;unfold aK;have QU:Hid _:=hty;clear hty h ok hr hbx;obtain⟨X,hX⟩:∃ X,X=iX tb K n r:=⟨_,rfl⟩;rw[<- hX] at QU ⊢;clear hX
 show Calls _ _ #[Value.pointer (some ⟨cb,o,none⟩),_,_] w _
 go_enter Tryz.func62,Tryz.ntmps62
 go_wp2_with fail
 refine Calls.mono QU.out ?_;rintro _ w3 ⟨rfl,KK,cj,Gg⟩;have U8:=Gg.y;have U9:=Gg.t;have Gh:=af U8;obtain⟨ao,oc,htv⟩:=aG U9
 have t1:w3.cell? ⟨cb,o+1,none⟩=some (.slice ao K.length oc):=by rw[Gg.c1,<- htv]
 have eK:Hid ((w3.alloc (.cells #[.int .i64 X.1] 3)).ownsRow 0 3 1 (.slice ao K.length oc) K.length (K.map λ(k:Nat)=>Value.int .i64 k)):=by
  have:=U9.alloc (.cells #[.int .i64 X.1] 3);rw[htv] at this;exact this
 have Ge:Hid ((w3.alloc (.cells #[.int .i64 X.1] 3)).heap[cb]?=some (.cells (A.setIfInBounds o KK) T (0,0))):=aR _ U8
 have xI:Hid (∀ u∈([.int .i64 X.1]:List Value),u.oneCell'=true):=by intro v hv;simp only[List.mem_singleton] at hv;subst hv;rfl
 have HTV:Hid _:=htv;have KL:Hid _:=Gg;have ee:Hid _:=eE.out.trans cj;clear U8 U9 htv Gg cj QU
 go_wp2_with (at_builtin;go_must (refine qM _ rfl (.tmp 16) (.tmp 18) 22 rfl 3 i0 _ 1 8 Tryz.qN HI.out rR.out rS.out rT.out rfl (by decide) (.slice ao K.length oc) K.length (K.map λ(k:Nat)=>Value.int .i64 k) rfl eK.out ⟨w3.heap.size,0,none⟩ 1 1 [.int .i64 X.1] rfl rfl ?c1 xI.out (by decide) ?c3 ?c4 ?_))
 case c1 =>
  intro j v hj;rw[<- hj]
  first | rfl | exact bV _ _ _ _
 case c3=>unfold maxLen;omega
 case c4=>omega
 intro g cap w4 hown hgrow jC;have wE:=cY hgrow Ge.out (by have:=KL.out.ty;rw[HTV.out] at this;exact this)
 have z1:w4.cell? ⟨cb,o+1,none⟩=some (.slice ao K.length oc):=by rw[aa wE,<- HTV.out];exact KL.out.b
 have zf:=ag wE (o+1);have zl:=af wE;have hadd:=gj.abb (g:=g) (cap:=cap) KL.out X.1 ((Below.refl _ w3).alloc (Nat.le_refl _) (.cells #[.int .i64 X.1] 3)) (by rw[HTV.out];exact hgrow) hown (by rw[HTV.out,show (w3.alloc (.cells #[.int .i64 X.1] 3)).heap.size=w3.heap.size+1 from by simp];exact jC);have HAD:Hid _:=hadd.2;have sC:Hid _:=ee.out.trans hadd.1;clear hown hgrow jC wE hadd
 go_wp2
 go_ret
 exact⟨rfl,KK,_,sC.out,HAD.out⟩
theorem Jc (w:World) (cb:Nat) (pv tv:Value) (tb:List TP) (K:List Nat) (n:NR) (ri:Int) (r:Nat) (hr:n.form=4->ri=r) (h:Cc cb w pv tv tb K) (ok:U5 tb K n) :
  Calls Tryz.prog 62 #[ptr cb,aK n,.int .i64 ri] w λv w'=>v=.returned (.int .i64 (iX tb K n r).1)/\∃ nS qJ,vZ cb w w' pv tv nS qJ/\Cc cb w' nS qJ (iX tb K n r).2 (K++[(iX tb K n r).1]) :=
 (xJ w cb 0 _ _ pv tv tb K n ri r hr h.toO ok).mono λ_ _ ⟨e,nS,qJ,f,g⟩=>⟨e,nS,qJ,f,g.toC⟩
def nW (ns:List NR) (op:List Int):Nat × Nat:=if (fX ns op).1≠0 then fX ns op else Tw [] [] ns
theorem pN (w:World) (nv ov:Value) (ns:List NR) (op:List Int) (h:bB w nv ov ns op) (ho:xK ns op) (hl:ns.length<=9000) (uO:∀ n∈ns,n.small) (hbk:∀ (j:Nat) (n:NR),ns[j]?=some n->n.p0<j/\n.p1<j/\n.p2<j) :
  Calls Tryz.prog 44 #[aQ nv ov] w λv w'=>v=.returned (.tuple #[.int .i64 (nW ns op).1,.int .i64 (nW ns op).2])/\Below w.heap.size w w':=by
 have hlen:=λ(w':World) (hb:Below w.heap.size w w')=>iC w' nv ov ns op (h.below hb)
 have nX:=λ(w':World) (hb:Below w.heap.size w w') (k:Nat) (n:NR) (hk:ns[k]?=some n)=>eT w' nv ov ns op (h.below hb) k n hk hl
 have Ve:=λ(w':World) (hb:Below w.heap.size w w')=>AE w' nv ov ns op (h.below hb) ho hl
 obtain⟨a0,kW,e0⟩:=aG h.nd;obtain⟨a1,lL,e1⟩:=aG h.op;rw[ho.1] at e1;obtain⟨m,hm⟩:∃ m,m=ns.length:=⟨_,rfl⟩;rw[<- hm] at e0 e1 hl;subst e0;subst e1;unfold aQ at hlen nX Ve;unfold aQ;unfold aK at nX;rw[<- hm] at hlen;have mR:Hid _:=hlen;have GN:Hid _:=nX;have Yn:Hid _:=Ve;have HM:Hid _:=hm;have Gi:Hid _:=uO;have HBK:Hid _:=hbk;obtain⟨ans,dm⟩:∃ ans,ans=nW ns op:=⟨_,rfl⟩;rw[<- dm];have kX:Hid _:=dm;clear hlen nX Ve ho h hm dm uO hbk;have Du:Below w.heap.size w (w.alloc (.cells #[.slice a0 m kW,.slice a1 m lL] 62)):=(Below.refl _ w).alloc (Nat.le_refl _) _;have eE:Hid _:=Du;have Qv:=Yn.out _ Du;clear Du Yn
 go_enter Tryz.func44,Tryz.ntmps44
 go_wp2_with fail
 refine Qv.mono ?_;rintro _ wb ⟨rfl,tD⟩;have Gj:Hid _:=tD;obtain⟨b0,b1,bl⟩:=dK tD;clear tD Qv
 by_cases hm0:(fX ns op).1≠0
 ·have HA:Hid (ans=fX ns op):=by rw[kX.out];unfold nW;rw[if_pos hm0];exact rfl
  have q:(((fX ns op).1:Int) != 0)=true:=by simp;omega
  generalize fX ns op=M at *;clear hm0
  go_wp2
  refine bodyPost_ret (v:=.tuple #[.int .i64 M.1,.int .i64 M.2]) (by simp[results,Tryz.results44,go_sem]) rfl ⟨by rw[HA.out],eE.out.trans (Gj.out.mono (by simp))⟩
 ·have HA:Hid (ans=Tw [] [] ns):=by rw[kX.out];unfold nW;rw[if_neg hm0];exact rfl
  have q:(((fX ns op).1:Int) != 0)=false:=by simp;omega
  generalize fX ns op=M at *;clear hm0;have AF:Below w.heap.size w wb:=eE.out.trans (Gj.out.mono (by simp));have Am:Hid _:=AF;have Cf:=AF.size;have hC0:Cc wb.heap.size (wb.alloc (.cells #[.slice none 0 0,.slice none 0 0] 104)) (.slice none 0 0) (.slice none 0 0) [] []:=⟨aj _ _,World.ownsRow_nil _ _ _ _,World.ownsRow_nil _ _ _ _,by simp[Value.ownBlock],by simp[Value.ownBlock],λg hg=>by simp[Value.ownBlock] at hg⟩;have Yo:Hid _:=hC0;clear hC0 AF
  go_wp2
  go_loopw [7,8,9,10] (λi _ _ _ wr=>∃ k:Nat,k<=m/\i=.int .i64 k/\∃ pv tv tb D K T,Cc wb.heap.size wr pv tv tb K/\Rel tb D K T/\K.length=k/\tb.length<=k/\Tw [] [] ns=Tw tb K (ns.drop k)/\Below wb.heap.size wb wr/\wb.heap.size<wr.heap.size/\(∀ g,pv.ownBlock=some g->wb.heap.size<=g)/\(∀ g,tv.ownBlock=some g->wb.heap.size<=g)) (λi _ _ _ _=>m-(intOf i).toNat)
  case atStart=>exact⟨0,by omega,rfl,_,_,[],[],[],[],Yo.out,M5,rfl,by simp,by simp,(Below.refl _ wb).alloc (Nat.le_refl _) _,by simp,by simp[Value.ownBlock],by simp[Value.ownBlock]⟩
  case round =>
   obtain⟨k,hk,rfl,pv,tv,tb,D,K,T,hC,kK,GM,htl,sD,dI,hbs,mQ,uZ⟩:=hrel;have sx:Below w.heap.size w wr:=Am.out.trans (dI.mono Cf);have GP:=Gj.out.trans (dI.mono Gj.out.size);obtain⟨x0,x1,xl⟩:=dK GP;have ja:=mR.out wr sx;have nj:=dI.size
   by_cases hlt:k<m
   ·have hkl:k<ns.length:=by have:=HM.out;omega
    obtain⟨n,hn⟩:∃ n,ns[k]?=some n:=⟨ns[k],List.getElem?_eq_getElem hkl⟩;have eG:=Gi.out n (List.mem_of_getElem? hn)
    have pq:ns.drop k=n::ns.drop (k+1):=by
     rw[List.drop_eq_getElem_cons hkl];rw[List.getElem?_eq_getElem hkl] at hn;simp only[Option.some.injEq] at hn;rw[hn]
    rw[pq] at sD;simp only[Tw] at sD;have hst:=DL kK n;have htk:=KI tb K n;have hok:U5 tb K n:=⟨by omega,by omega,λi=>by have:=(kK.known i).2.1;omega,λj=>by have:=kK.Ja j;omega,⟨by have:=eG.1;omega,by have:=eG.1;omega⟩,⟨by have:=eG.2.1;omega,by have:=eG.2.1;omega⟩,⟨by have:=eG.2.2.1;omega,by have:=eG.2.2.1;omega⟩,⟨by have:=eG.2.2.2;omega,by have:=eG.2.2.2;omega⟩⟩;have hback:=HBK.out k n hn;have hnew:=KH tb K n (by rw[GM];exact hback);have hpl:=nC tb 0 (au K n.p0) (au K n.p1)
    have wF:(iX tb K n 0).2.length<=k+1/\(iX tb K n 0).1<=10000:=by
     have ko:=hok.kn n.p0;have hk1:=hok.kn n.p1;have hks:=hok.kn n.source;have hab:=kK.M3 (au K n.p0);unfold iX
     split
     ·exact⟨by simp only;omega,by simp only;omega⟩
     split
     ·exact⟨by simp only;omega,by simp only;omega⟩
     split
     ·exact⟨by simp only;omega,by simp only;omega⟩
     split
     ·exact⟨by simp only;omega,by simp only;omega⟩
     split
     ·exact⟨by simp only;omega,by simp only;omega⟩
     split
     ·exact⟨by omega,by omega⟩
     split
     ·exact⟨by simp only;omega,by simp only;omega⟩
     split
     ·exact⟨by simp only;omega,by simp only;omega⟩
     ·exact⟨by simp only;omega,by simp only;omega⟩
    have hty:=λ(w':World) (hb:Below wr.heap.size wr w')=>Jc w' wb.heap.size pv tv tb K n 0 0 (λ_=>rfl) (hC.below hb) hok
    have hfa:=λ(w':World) (nS qJ:Value) (hC':Cc wb.heap.size w' nS qJ (iX tb K n 0).2 (K++[(iX tb K n 0).1]))=>DP w' wb.heap.size nS qJ (iX tb K n 0).2 (K++[(iX tb K n 0).1]) n (iX tb K n 0).1 hC' (by omega) (by simp;omega) wF.2 hok.p0 hok.p1 hok.p2
    rw[hnew.1] at hfa;unfold ptr aK at hty hfa;have QU:Hid _:=hty;have M8:Hid _:=hfa;have QV:Hid _:=hnew.2;have HN:Hid _:=hn;have Yp:Hid _:=sD;have jO:Hid _:=hst;have ji:Hid _:=dI;have HC:Hid _:=hC;have Tu:Hid _:=mQ;have Mt:Hid _:=uZ;have Yq:Hid _:=GM;have Tx:Hid _:=wF.1;clear hn eG pq sD hst htk hok hty kK hC dI GP mQ uZ hkl GM htl hfa hnew hback wF hpl
    go_wp2_with fail
    refine ja.mono ?_;rintro _ w1 ⟨rfl,hb1⟩;have Yr:=Gj.out.trans ((ji.out.trans (hb1.mono nj)).mono Gj.out.size);obtain⟨d0,d1,dl⟩:=dK Yr;have hno:=GN.out w1 (Am.out.trans ((ji.out.trans (hb1.mono nj)).mono Cf)) k n HN.out;have dZ:Hid _:=hb1;clear hb1 Yr ja x0 x1
    go_wp2_with fail
    refine hno.mono ?_;rintro _ w2 ⟨rfl,hb2⟩;have dV:Below wr.heap.size wr w2:=dZ.out.trans (hb2.mono dZ.out.size);have rH:=dV.alloc dV.size (cA n);have hty:=QU.out _ rH;have Gk:Hid _:=rH;have abc:=dV.size;clear hb2 dV hno d0 d1 rH QU;unfold cA AA at hty
    go_wp2_with fail
    refine hty.mono ?_;rintro _ w3 ⟨rfl,KK,Qw,cj,Gg⟩
    have hnb:w3.heap[w2.heap.size]?=some (cA n):=by
     rw[cj.blk w2.heap.size (by simp) (by omega) (λe=>by have:=(HC.out.lt.1 _ e);omega) (λe=>by have:=(HC.out.lt.2.1 _ e);omega)];exact aj _ _
    have Gl:Below wb.heap.size wb (w2.alloc (cA n)):=ji.out.trans (Gk.out.mono nj);obtain⟨g1,g2,g3⟩:=cj.toBelow Gl (Nat.le_refl _) (by simp;omega) Tu.out Mt.out;have Vf:=cj.size
    have abd:wb.heap.size<w3.heap.size:=by simp at Vf;omega
    have hfa:=M8.out w3 KK Qw Gg;obtain⟨d0,d1,d2,d3,d4,d5,d6,d7,d8,d9⟩:=aC hnb;have kJ:=af hnb;have KL:Hid _:=Gg;have Vg:Hid _:=g1;have HG2:Hid _:=g2;have Ys:Hid _:=g3;have Mu:Hid _:=hnb;clear cj Gg hnb Gl g1 g2 g3 hty Gk M8
    go_wp2_with fail
    refine hfa.mono ?_;rintro _ w4 ⟨rfl,hb4⟩
    have c1:w4.cell? ⟨w2.heap.size,1,none⟩=some (.int .i64 n.at_):=by rw[hb4.cell (p:=⟨w2.heap.size,1,none⟩) kJ];exact d1
    have rI:Hid _:=hb4;have Vh:=hb4.size;clear hb4 hfa d0 d1 d2 d3 d4 d5 d6 d7 d8 d9;generalize kQ tb K n=X at *
    by_cases hf:X.1.2=0
    ·have q2:((X.1.2:Int) != 0)=false:=by simp;omega
     have sD:=Yp.out;rw[if_neg (by omega)] at sD;obtain⟨D',jj⟩:=jO.out.2 (by rw[<- jO.out.1];exact hf);have hX:=QV.out hf;have Vi:=KL.out;have hTL:=Tx.out;rw[hX] at Vi hTL;have Yt:Hid _:=Vi.below rI.out;have abe:Hid _:=hTL;have Vj:Hid _:=sD;have M9:Hid _:=jj;clear hf sD jj hX Vi hTL KL Tx
     go_wp2
     go_roundw
     case rel=>exact⟨k+1,by omega,by go_num,KK,Qw,X.2,D',K++[X.1.1],_,Yt.out,M9.out,by simp[Yq.out],abe.out,Vj.out,Vg.out.trans (rI.out.mono (by omega)),by omega,HG2.out,Ys.out⟩
     case measure=>simp[intOf];omega
    ·have q2:((X.1.2:Int) != 0)=true:=by simp;omega
     have sD:=Yp.out;rw[if_pos hf] at sD
     have MY:Hid (ans=(X.1.2,n.at_)):=by rw[HA.out];exact sD
     clear hf sD
     go_wp2
     go_quiet (fail)
     go_wp2
     refine bodyPost_ret (v:=.tuple #[.int .i64 X.1.2,.int .i64 n.at_]) (by simp[results,Tryz.results44,go_sem]) rfl ⟨by rw[MY.out],?_⟩;exact (Am.out.trans ((Vg.out.trans (rI.out.mono (by omega))).mono Cf)).trans ⟨rfl,rfl,rfl,Nat.le_refl _,λ_ _=>rfl⟩
   ·have MY:Hid (ans=(0,0)):=by
     have hd:ns.drop k=[]:=List.drop_eq_nil_of_le (by have:=HM.out;omega);rw[hd] at sD;rw[HA.out,sD];exact rfl
    have ji:Hid _:=dI;clear dI hC kK sD GP mQ uZ
    go_wp2_with fail
    refine ja.mono ?_;rintro _ w1 ⟨rfl,hb1⟩;have dZ:Hid _:=Am.out.trans ((ji.out.trans (hb1.mono nj)).mono Cf);clear hb1 ja
    go_wp2
    refine bodyPost_ret (v:=.tuple #[.int .i64 0,.int .i64 0]) (by simp[results,Tryz.results44,go_sem]) rfl ⟨by rw[MY.out];rfl,dZ.out⟩
theorem tM:∀ (f p:Nat) (l:List UInt8) (t:Tk),t∈toks f p l->∃ l',l'≠[]/\t.s=l'.take (aN l').1/\t.c=(aN l').2
 | 0,_,_,t,h=>by simp[toks] at h
 | _+1,_,[],t,h=>by simp[toks] at h
 | f+1,p,c::r,t,h=>by
  simp only[toks] at h
  split at h
  ·exact tM f _ r t h
  ·rcases List.mem_cons.1 h with h | h
   ·subst h;exact⟨c::r,by simp,rfl,rfl⟩
   ·exact tM f _ _ t h
theorem PW.pO {ae:Bool}:∀ {ws:List Wt} {l:List Tk} {nm rg:List UInt8} {kids:List PT} {r:List Tk},PW ae ws l nm rg kids r->kids.length=MS ws
 | _,_,_,_,_,_,.nil=>rfl
 | _,_,_,_,_,_,.close _ h1=>by have:=PW.pO h1;simpa [MS] using this
 | _,_,_,_,_,_,.name _ h1=>by have:=PW.pO h1;simpa [MS] using this
 | _,_,_,_,_,_,.region _ h1=>by have:=PW.pO h1;simpa [MS] using this
 | _,_,_,_,_,_,.e _ h1=>by have:=PW.pO h1;simp[MS] at this ⊢;exact this
mutual
def PT.wf:PT->Prop
 | .num _ _=>True
 | .name _ _=>True
 | .node _ k _ _ kids=>kids.length=arity k/\qO kids
def qO:List PT->Prop
 | []=>True
 | t::r=>t.wf/\qO r
end
theorem Cg:∀ {ts:List PT},qO ts->∀ t∈ts,t.wf
 | [],_,t,h=>by simp at h
 | a::r,hw,t,h=>by
  simp only[qO] at hw
  rcases List.mem_cons.1 h with h | h
  ·subst h;exact hw.1
  ·exact Cg hw.2 t h
open Go.Lib (decDigits)
inductive Vl where
 | n (k:Nat)
 | p (a b:Vl)
def Vl.txt:Vl->List UInt8
 | .n k=>decDigits k
 | .p a b=>91::(a.txt++(32::(b.txt++[93])))
def Vl.num:Vl->Nat
 | .n k=>k
 | .p _ _=>0
def Vl.fst:Vl->Vl
 | .p a _=>a
 | .n _=>.n 0
def Vl.snd:Vl->Vl
 | .p _ b=>b
 | .n _=>.n 0
def Vl.size:Vl->Nat
 | .n _=>0
 | .p a b=>a.size+b.size+1
def Vl.has:Vl->Ty->Prop
 | .n k,.n=>k<=9999
 | .p a b,.p _ x y=>a.has x/\b.has y
 | _,_=>False
structure cu where
 steps:Nat
 cells:Nat
 e:Nat
abbrev ep:=List (List UInt8 × Vl)
def oK (env:ep) (s:List UInt8):Vl:=((env.reverse.find? (λx=>x.1==s)).map (·.2)).getD (.n 0)
def turns (f:Vl->cu->Vl × cu):Nat->Vl->cu->Vl × cu
 | 0,v,st=>(v,st)
 | k+1,v,st=>if st.e≠0 then (v,st) else turns f k (f v st).1 (f v st).2
def cT (k:Kw) (vs:List Vl) (st:cu):Vl × cu :=
 match k,vs with
 | .pair,[a,b]=>(.p a b,{ st with cells:=st.cells+1 })
 | .fst,[a]=>(a.fst,st)
 | .snd,[a]=>(a.snd,st)
 | .add,[a,b]=>(.n ((a.num+b.num) % 10000),st)
 | .sub,[a,b]=>(.n ((a.num+10000-b.num) % 10000),st)
 | .less,[a,b]=>(.n (if a.num<b.num then 1 else 0),st)
 | _,_=>(.n 0,st)
def begun (fuel:Nat) (st:cu) (f:cu->Vl × cu):Vl × cu :=
 if st.e≠0 then (.n 0,st) else if st.steps=fuel then (.n 0,{ st with e:=12 }) else f { st with steps:=st.steps+1 }
mutual
def ev (fuel:Nat):PT->ep->cu->Vl × cu
 | .num _ s,_,st=>begun fuel st (λst=>(.n (ak s).toNat,st))
 | .name _ s,env,st=>begun fuel st (λst=>(oK env s,st))
 | .node _ k nm _ kids,env,st=>begun fuel st (λst =>
   if k=.aP then gM fuel nm kids env st
   else if k=.di then mw fuel kids env st
   else if k=.loop then eu fuel nm kids env st
   else
    let x:=bM fuel kids env st
    if x.2.e≠0 then (.n 0,x.2) else cT k x.1 x.2)
def bM (fuel:Nat):List PT->ep->cu->List Vl × cu
 | [],_,st=>([],st)
 | a::r,env,st =>
  let x:=ev fuel a env st
  let y:=bM fuel r env x.2
  (x.1::y.1,y.2)
def gM (fuel:Nat) (nm:List UInt8):List PT->ep->cu->Vl × cu
 | [a,b],env,st =>
  let x:=ev fuel a env st
  ev fuel b (env++[(nm,x.1)]) x.2
 | _,_,st=>(.n 0,st)
def mw (fuel:Nat):List PT->ep->cu->Vl × cu
 | [a,b,c],env,st =>
  let x:=ev fuel a env st
  if x.1.num≠0 then ev fuel b env x.2 else ev fuel c env x.2
 | _,_,st=>(.n 0,st)
def eu (fuel:Nat) (nm:List UInt8):List PT->ep->cu->Vl × cu
 | [a,b,c],env,st =>
  let x:=ev fuel a env st
  let y:=ev fuel b env x.2
  turns (λv st=>ev fuel c (env++[(nm,v)]) st) x.1.num y.1 y.2
 | _,_,st=>(.n 0,st)
end
inductive WT:aV->PT->Ty->Prop
 | num {G:aV} {p:Nat} {s:List UInt8}:WT G (.num p s) .n
 | name {G:aV} {p:Nat} {s:List UInt8} {T:Ty} (h:look G s=some T):WT G (.name p s) T
 | aP {G:aV} {p:Nat} {nm rg:List UInt8} {a b:PT} {A B:Ty} (ha:WT G a A) (hb:WT (G++[(nm,A)]) b B):WT G (.node p .aP nm rg [a,b]) B
 | pair {G:aV} {p:Nat} {nm rg:List UInt8} {a b:PT} {A B:Ty} (ha:WT G a A) (hb:WT G b B) (hs:(Ty.p 0 A B).size<=63):WT G (.node p .pair nm rg [a,b]) (.p 0 A B)
 | fst {G:aV} {p:Nat} {nm rg:List UInt8} {a:PT} {A B:Ty} (ha:WT G a (.p 0 A B)):WT G (.node p .fst nm rg [a]) A
 | snd {G:aV} {p:Nat} {nm rg:List UInt8} {a:PT} {A B:Ty} (ha:WT G a (.p 0 A B)):WT G (.node p .snd nm rg [a]) B
 | di {G:aV} {p:Nat} {nm rg:List UInt8} {a b c:PT} {T:Ty} (ha:WT G a .n) (hb:WT G b T) (hc:WT G c T):WT G (.node p .di nm rg [a,b,c]) T
 | two {G:aV} {p:Nat} {k:Kw} {nm rg:List UInt8} {a b:PT} (hk:k=.add\/k=.sub\/k=.less) (ha:WT G a .n) (hb:WT G b .n):WT G (.node p k nm rg [a,b]) .n
 | loop {G:aV} {p:Nat} {nm rg:List UInt8} {a b c:PT} {T:Ty} (ha:WT G a .n) (hb:WT G b T) (hc:WT (G++[(nm,T)]) c T):WT G (.node p .loop nm rg [a,b,c]) T
 | new {G:aV} {p:Nat} {nm rg:List UInt8} {a:PT} {T:Ty} (ha:WT G a T):WT G (.node p .new nm rg [a]) T
def rU (env:aV):aV:=env.map (λx=>(x.1,x.2.bare))
theorem iH (t:Ty):t.bare.size=t.size:=by induction t <;> simp[Ty.bare,Ty.size, *]
theorem A6 (env:aV) (s:List UInt8):look (rU env) s=(look env s).map Ty.bare:=by
 unfold look rU;rw[<- List.map_reverse,List.find?_map];simp only[Function.comp_def,Option.map_map]
theorem nY (env:aV) (nm:List UInt8) (T:Ty):rU (env++[(nm,T)])=rU env++[(nm,T.bare)]:=by simp[rU]
theorem lq {st:fY} {e p:Nat} (he:e≠0) (h:(gC st e p).e=0):False:=u4 st e p he h
theorem xL {id p:Nat} {x:Ty × fY} (h:(fin id p x).2.e=0):x.2.e=0/\x.1.size<=63:=by
 unfold fin at h;simp only at h
 split at h
 ·exact (lq (by decide) h).elim
 ·rename_i hn
  refine⟨h,?_⟩
  rcases Nat.lt_or_ge 63 x.1.size with h1 | h1
  ·exact absurd ⟨h,h1⟩ hn
  ·exact h1
theorem GQ (id p:Nat) (x:Ty × fY):(fin id p x).1=x.1:=by unfold fin;rfl
def QW (G:aV):List PT->List Ty->Prop
 | [],[]=>True
 | a::r,T::Ts=>WT G a T/\QW G r Ts
 | _,_=>False
theorem QX {cls:List Nat} {k:Kw} {p site:Nat} {ks:List Ty} {st:fY} {G:aV} {nm rg:List UInt8} {kids:List PT} (hk1:k≠.aP) (hk2:k≠.loop) (hw:kids.length=arity k) (hks:QW G kids (ks.map Ty.bare))
  (h0:(cZ cls k p site ks st).2.e=0) (hsz:(cZ cls k p site ks st).1.size<=63):WT G (.node p k nm rg kids) (cZ cls k p site ks st).1.bare:=by
 unfold cZ at h0 hsz ⊢
 split at h0
 ·match kids,hw,hks with
  | [a],_,hks=>simp only[List.map_cons,QW] at hks;exact .new hks.1
 ·match kids,hw,hks with
  | [a,b],_,hks =>
   simp only[List.map_cons,List.map_nil,QW] at hks;simp only[Ty.size] at hsz;exact .pair hks.1 hks.2.1 (by simp only[Ty.size,iH];omega)
 ·match kids,hw,hks with
  | [a],_,hks=>simp only[List.map_cons,QW,Ty.bare] at hks;exact .fst hks.1
 ·match kids,hw,hks with
  | [a],_,hks=>simp only[List.map_cons,QW,Ty.bare] at hks;exact .snd hks.1
 ·match kids,hw,hks with
  | [a,b,c],_,hks =>
   simp only[List.map_cons,List.map_nil,QW] at hks
   split at h0
   ·rename_i hc
    simp only[if_pos hc];rw[hc.1] at hks;exact .di hks.1 hks.2.1 (by rw[hc.2];exact hks.2.2.1)
   ·exact (lq (by decide) h0).elim
 ·exact absurd rfl hk2
 all_goals first
  | (exact (lq (by decide) h0).elim)
  | (match kids,hw,hks with
     | [a,b],_,hks =>
      simp only[List.map_cons,List.map_nil,QW] at hks
      split at h0
      ·rename_i hc
       simp only[if_pos hc];rw[hc.1,hc.2] at hks;exact .two (by simp) hks.1 hks.2.1
      ·exact (lq (by decide) h0).elim)
mutual
theorem jT (cls:List Nat):∀ (t:PT) (id site:Nat) (env:aV) (st:fY),t.wf->(aH cls t id site env st).2.e=0->st.e=0/\(aH cls t id site env st).1.size<=63/\WT (rU env) t (aH cls t id site env st).1.bare
 | .num p s,id,site,env,st,_,h=>by
  simp only[aH] at h ⊢;have:=xL h;rw[GQ];exact⟨this.1,this.2,.num⟩
 | .name p s,id,site,env,st,_,h=>by
  simp only[aH] at h ⊢;have hz:=xL h;rw[GQ]
  split at hz
  ·rename_i t ht
   exact⟨hz.1,hz.2,.name (by rw[A6,ht];rfl)⟩
  ·exact (lq (by decide) hz.1).elim
 | .node p k nm rg kids,id,site,env,st,hw,h=>by
  simp only[PT.wf] at hw;simp only[aH] at h ⊢;have hz:=xL h;rw[GQ]
  by_cases hk:k=.aP
  ·subst hk
   simp only[if_pos] at hz ⊢;have:=Na cls nm p rg kids (id+1) site env st hw.1 hw.2 hz.1;exact⟨this.1,hz.2,this.2⟩
  ·simp only[if_neg hk] at hz ⊢
   by_cases hl:k=.loop
   ·subst hl
    simp only[if_pos] at hz ⊢
    split at hz
    ·rename_i hne;exact absurd hz.1 hne
    ·rename_i hne
     rw[if_neg hne]
     have h0:(bS cls nm kids (id+1) site env st).2.e=0:=by simpa using hne
     have:=KM cls nm p rg kids (id+1) site env st hw.1 hw.2 h0 p site hz.1;exact⟨this.1,hz.2,this.2⟩
   ·simp only[if_neg hl] at hz ⊢
    have hks:=A7 cls kids (id+1) (site+if k=.pair then 1 else 0) env st hw.2;generalize bW cls kids (id+1) (site+if k=.pair then 1 else 0) env st=x at hks hz ⊢
    by_cases hne:x.2.e≠0
    ·rw[if_pos hne] at hz;exact absurd hz.1 hne
    ·rw[if_neg hne] at hz ⊢
     have hks:=hks (by simpa using hne);exact⟨hks.1,hz.2,QX hk hl hw.1 hks.2 hz.1 hz.2⟩
theorem A7 (cls:List Nat):∀ (ts:List PT) (id site:Nat) (env:aV) (st:fY),qO ts->(bW cls ts id site env st).2.e=0->st.e=0/\QW (rU env) ts ((bW cls ts id site env st).1.map Ty.bare)
 | [],_,_,_,st,_,h=>by simp only[bW] at h ⊢;exact⟨h,trivial⟩
 | a::r,id,site,env,st,hw,h=>by
  simp only[qO] at hw;simp only[bW] at h ⊢;have h2:=A7 cls r (id+a.cnt) (site+a.bz) env _ hw.2 h;have h1:=jT cls a id site env st hw.1 h2.1;exact⟨h1.1,h1.2.2,h2.2⟩
theorem Na (cls:List Nat) (nm:List UInt8) (p:Nat) (rg:List UInt8):∀ (ts:List PT) (id site:Nat) (env:aV) (st:fY),ts.length=arity .aP->qO ts->(fZ cls nm ts id site env st).2.e=0->st.e=0/\WT (rU env) (.node p .aP nm rg ts) (fZ cls nm ts id site env st).1.bare
 | [a,b],id,site,env,st,_,hw,h=>by
  simp only[qO] at hw;simp only[fZ] at h ⊢;have h2:=jT cls b (id+a.cnt) (site+a.bz) _ _ hw.2.1 h;have h1:=jT cls a id site env st hw.1 h2.1;rw[nY] at h2;exact⟨h1.1,.aP h1.2.2 h2.2.2⟩
 | [],_,_,_,_,hl,_,_=>by simp[arity] at hl
 | [_],_,_,_,_,hl,_,_=>by simp[arity] at hl
 | _::_::_::_,_,_,_,_,hl,_,_=>by simp[arity] at hl
theorem KM (cls:List Nat) (nm:List UInt8) (p:Nat) (rg:List UInt8):∀ (ts:List PT) (id site:Nat) (env:aV) (st:fY),ts.length=arity .loop->qO ts->(bS cls nm ts id site env st).2.e=0 ->
  ∀ q s,(cZ cls .loop q s (bS cls nm ts id site env st).1 (bS cls nm ts id site env st).2).2.e=0->st.e=0/\WT (rU env) (.node p .loop nm rg ts) (cZ cls .loop q s (bS cls nm ts id site env st).1 (bS cls nm ts id site env st).2).1.bare
 | [a,b,c],id,site,env,st,_,hw,h,q,s,hm=>by
  simp only[qO] at hw;simp only[bS] at h hm ⊢;have h3:=jT cls c (id+a.cnt+b.cnt) (site+a.bz+b.bz) _ _ hw.2.2.1 h;have h2:=jT cls b (id+a.cnt) (site+a.bz) env _ hw.2.1 h3.1;have h1:=jT cls a id site env st hw.1 h2.1;rw[nY] at h3;simp only[cZ] at hm ⊢
  split at hm
  ·rename_i hc
   rw[if_pos hc];refine⟨h1.1,?_⟩;have ha:=h1.2.2;rw[hc.1] at ha;exact .loop ha h2.2.2 (by have:=h3.2.2;rw[<- hc.2] at this;exact this)
  ·exact (lq (by decide) hm).elim
 | [],_,_,_,_,hl,_,_,_,_,_=>by simp[arity] at hl
 | [_],_,_,_,_,hl,_,_,_,_,_=>by simp[arity] at hl
 | [_,_],_,_,_,_,hl,_,_,_,_,_=>by simp[arity] at hl
 | _::_::_::_::_,_,_,_,_,hl,_,_,_,_,_=>by simp[arity] at hl
end
def Ty.u7:Ty->List Nat
 | .n=>[]
 | .p r a b=>r::(a.u7++b.u7)
end Go.Proofs.YtpicaknklgccoabGreatDoor
