import Derived.Test.YtpicaknklgccoabGreatDoorS11
set_option maxHeartbeats 32000000
set_option maxRecDepth 100000
namespace Go.Proofs.YtpicaknklgccoabGreatDoor
open Go.RowKit
theorem fk {a b:Nat} (h:a≠b):((a:Int) != (b:Int))=true:=by simp;omega
theorem dR {a b:Nat} (h:a=b):((a:Int) != (b:Int))=false:=by simp;omega
theorem CA (w:World) (cb:Nat) (pv tv:Value) (tb:List TP) (K:List Nat) (n:NR) (kind:Nat) (h:A1 cb w pv tv tb K) (hl:tb.length<=9000) (hK:K.length<=9000) (Zw:kind<=10000) (oU:-10<=n.p0/\n.p0<=10000) (gI:-10<=n.p1/\n.p1<=10000) (vA:-10<=n.p2/\n.p2<=10000) :
  Calls Tryz.prog 63 #[aI n,.int .i64 kind,ptr cb] w fun v w'=>v=.returned (.int .i64 (WC tb K n kind))/\Below w.heap.size w w':=by
 have hbx:Below w.heap.size w (w.alloc (bU n)):=(Below.refl _ _).alloc (Nat.le_refl _) _
 have hin:=h.below hbx
 have pX:=ku (w.alloc (bU n)) cb pv tv tb K n.p0 hin hK oU
 have hk1:=ku (w.alloc (bU n)) cb pv tv tb K n.p1 hin hK gI
 have hk2:=ku (w.alloc (bU n)) cb pv tv tb K n.p2 hin hK vA
 have hat:=Tc (w.alloc (bU n)) cb pv tb kind (by rw [aa hin.y];rfl) hin.p hl Zw
 have dP:Hid _:=hbx
 have iY:Hid (WC tb K n kind=(if n.form=2 then (if n.source=-1 then 4 else 0)
  else if n.form=4 then (if 63 < (fD tb kind).sz then 6 else 0)
  else if n.form=5 then (if au K n.p0=0 then 5 else 0)
  else if n.form=6 then (if au K n.p0=0 then 5 else 0)
  else if n.form=7 then (if au K n.p0=0/\au K n.p1=au K n.p2 then 0 else 5)
  else if n.form=11 then (if au K n.p0=0/\au K n.p1=au K n.p2 then 0 else 5)
  else if n.form=8 then (if au K n.p0=0/\au K n.p1=0 then 0 else 5)
  else if n.form=9 then (if au K n.p0=0/\au K n.p1=0 then 0 else 5)
  else if n.form=10 then (if au K n.p0=0/\au K n.p1=0 then 0 else 5)
  else 0)):=rfl
 obtain ⟨R,hR⟩:∃ R,R=WC tb K n kind:=⟨_,rfl⟩
 rw [<- hR] at iY ⊢
 clear hR h hin hbx
 unfold ptr at pX hk1 hk2 hat
 unfold uC at hat
 unfold aI
 unfold bU za at pX hk1 hk2 hat dP
 have Lu:Hid _:=pX
 have E7:Hid _:=hk1
 have nQ:Hid _:=hk2
 have Lv:Hid _:=hat
 clear pX hk1 hk2 hat
 generalize au K n.p0=ka at *
 generalize au K n.p1=kb at *
 generalize au K n.p2=kc at *
 generalize fD tb kind=P at *
 show Calls _ _ #[_,_,Value.pointer (some ⟨cb,0,none⟩)] w _
 go_enter Tryz.func63,Tryz.ntmps63
 go_wp2_with fail
 refine Calls.mono Lu.out ?_
 rintro _ _ ⟨rfl,rfl⟩
 go_wp2_with fail
 refine Calls.mono E7.out ?_
 rintro _ _ ⟨rfl,rfl⟩
 go_wp2_with fail
 refine Calls.mono nQ.out ?_
 rintro _ _ ⟨rfl,rfl⟩
 go_wp2_with fail
 refine Calls.mono Lv.out ?_
 rintro _ w1 ⟨rfl,hb1⟩
 have hnb:w1.heap[w.heap.size]?=some (bU n):=by rw [hb1.block _ (by simp)];exact aj _ _
 obtain ⟨d0,d1,d2,d3,d4,d5,d6,d7,d8,d9⟩:=aC hnb
 have kN:=af hnb
 have hB:=(dP.out.trans (hb1.mono (by simp))).alloc (by have:=hb1.size;simp at this;omega) (.cells #[.int .i64 P.r,.int .i64 P.a,.int .i64 P.b,.int .i64 P.sz] 146)
 have HB:Hid _:=hB
 clear hb1 hB hnb
 by_cases k2:n.form=2
 ·skip
  have q2:((n.form:Int) == 2)=true:=aH (b:=2) k2
  have hr:R=(if n.source=-1 then 4 else 0):=by have:=iY.out;simp only [if_pos k2] at this;exact this
  clear iY k2
  by_cases hc:n.source=-1
  ·have e1:(n.source == -1)=true:=by rw [hc];rfl
   have HR:Hid (R=4):=by rw [hr,if_pos hc];exact rfl
   clear hc hr
   go_wp2
   go_ret
   exact ⟨by rw [HR.out];first | done | rfl,HB.out⟩
  ·have e1:(n.source == -1)=false:=by rw [beq_eq_false_iff_ne];exact hc
   have HR:Hid (R=0):=by rw [hr,if_neg hc];exact rfl
   clear hc hr
   go_wp2
   go_ret
   exact ⟨by rw [HR.out];first | done | rfl,HB.out⟩
 by_cases k4:n.form=4
 ·skip
  have q2:((n.form:Int) == 2)=false:=ah (b:=2) k2
  have q4:((n.form:Int) == 4)=true:=aH (b:=4) k4
  have hr:R=(if 63 < P.sz then 6 else 0):=by have:=iY.out;simp only [if_neg k2,if_pos k4] at this;exact this
  clear iY k2 k4
  by_cases hc:63 < P.sz
  ·have HR:Hid (R=6):=by rw [hr,if_pos hc];exact rfl
   clear hr
   go_wp2
   go_ret
   exact ⟨by rw [HR.out];first | done | rfl,HB.out⟩
  ·have HR:Hid (R=0):=by rw [hr,if_neg hc];exact rfl
   clear hr
   go_wp2
   go_ret
   exact ⟨by rw [HR.out];first | done | rfl,HB.out⟩
 by_cases k5:n.form=5
 ·skip
  have q2:((n.form:Int) == 2)=false:=ah (b:=2) k2
  have q4:((n.form:Int) == 4)=false:=ah (b:=4) k4
  have q5:((n.form:Int) == 5)=true:=aH (b:=5) k5
  have hr:R=(if ka=0 then 5 else 0):=by have:=iY.out;simp only [if_neg k2,if_neg k4,if_pos k5] at this;exact this
  clear iY k2 k4 k5
  by_cases hc:ka=0
  ·have e1:((ka:Int) == 0)=true:=aH (b:=0) hc
   have HR:Hid (R=5):=by rw [hr,if_pos hc];exact rfl
   clear hc hr
   go_wp2
   go_ret
   exact ⟨by rw [HR.out];first | done | rfl,HB.out⟩
  ·have e1:((ka:Int) == 0)=false:=ah (b:=0) hc
   have HR:Hid (R=0):=by rw [hr,if_neg hc];exact rfl
   clear hc hr
   go_wp2
   go_ret
   exact ⟨by rw [HR.out];first | done | rfl,HB.out⟩
 by_cases k6:n.form=6
 ·skip
  have q2:((n.form:Int) == 2)=false:=ah (b:=2) k2
  have q4:((n.form:Int) == 4)=false:=ah (b:=4) k4
  have q5:((n.form:Int) == 5)=false:=ah (b:=5) k5
  have q6:((n.form:Int) == 6)=true:=aH (b:=6) k6
  have hr:R=(if ka=0 then 5 else 0):=by have:=iY.out;simp only [if_neg k2,if_neg k4,if_neg k5,if_pos k6] at this;exact this
  clear iY k2 k4 k5 k6
  by_cases hc:ka=0
  ·have e1:((ka:Int) == 0)=true:=aH (b:=0) hc
   have HR:Hid (R=5):=by rw [hr,if_pos hc];exact rfl
   clear hc hr
   go_wp2
   go_ret
   exact ⟨by rw [HR.out];first | done | rfl,HB.out⟩
  ·have e1:((ka:Int) == 0)=false:=ah (b:=0) hc
   have HR:Hid (R=0):=by rw [hr,if_neg hc];exact rfl
   clear hc hr
   go_wp2
   go_ret
   exact ⟨by rw [HR.out];first | done | rfl,HB.out⟩
 by_cases k7:n.form=7
 ·skip
  have q2:((n.form:Int) == 2)=false:=ah (b:=2) k2
  have q4:((n.form:Int) == 4)=false:=ah (b:=4) k4
  have q5:((n.form:Int) == 5)=false:=ah (b:=5) k5
  have q6:((n.form:Int) == 6)=false:=ah (b:=6) k6
  have q7:((n.form:Int) == 7)=true:=aH (b:=7) k7
  have hr:R=(if ka=0/\kb=kc then 0 else 5):=by have:=iY.out;simp only [if_neg k2,if_neg k4,if_neg k5,if_neg k6,if_pos k7] at this;exact this
  clear iY k2 k4 k5 k6 k7
  by_cases hc:ka=0
  ·have e1:((ka:Int) != 0)=false:=dR (b:=0) hc
   by_cases hd:kb=kc
   ·have e2:((kb:Int) != (kc:Int))=false:=dR (b:=kc) hd
    have HR:Hid (R=0):=by rw [hr,if_pos ⟨hc,hd⟩];exact rfl
    clear hc hd hr
    go_wp2
    go_ret
    exact ⟨by rw [HR.out];first | done | rfl,HB.out⟩
   ·have e2:((kb:Int) != (kc:Int))=true:=fk (b:=kc) hd
    have HR:Hid (R=5):=by rw [hr,if_neg (fun e=>hd e.2)];exact rfl
    clear hc hd hr
    go_wp2
    go_ret
    exact ⟨by rw [HR.out];first | done | rfl,HB.out⟩
  ·have e1:((ka:Int) != 0)=true:=fk (b:=0) hc
   have HR:Hid (R=5):=by rw [hr,if_neg (fun e=>hc e.1)];exact rfl
   clear hc hr
   go_wp2
   go_ret
   exact ⟨by rw [HR.out];first | done | rfl,HB.out⟩
 by_cases k11:n.form=11
 ·skip
  have q2:((n.form:Int) == 2)=false:=ah (b:=2) k2
  have q4:((n.form:Int) == 4)=false:=ah (b:=4) k4
  have q5:((n.form:Int) == 5)=false:=ah (b:=5) k5
  have q6:((n.form:Int) == 6)=false:=ah (b:=6) k6
  have q7:((n.form:Int) == 7)=false:=ah (b:=7) k7
  have zb:((n.form:Int) == 11)=true:=aH (b:=11) k11
  have hr:R=(if ka=0/\kb=kc then 0 else 5):=by have:=iY.out;simp only [if_neg k2,if_neg k4,if_neg k5,if_neg k6,if_neg k7,if_pos k11] at this;exact this
  clear iY k2 k4 k5 k6 k7 k11
  by_cases hc:ka=0
  ·have e1:((ka:Int) != 0)=false:=dR (b:=0) hc
   by_cases hd:kb=kc
   ·have e2:((kb:Int) != (kc:Int))=false:=dR (b:=kc) hd
    have HR:Hid (R=0):=by rw [hr,if_pos ⟨hc,hd⟩];exact rfl
    clear hc hd hr
    go_wp2
    go_ret
    exact ⟨by rw [HR.out];first | done | rfl,HB.out⟩
   ·have e2:((kb:Int) != (kc:Int))=true:=fk (b:=kc) hd
    have HR:Hid (R=5):=by rw [hr,if_neg (fun e=>hd e.2)];exact rfl
    clear hc hd hr
    go_wp2
    go_ret
    exact ⟨by rw [HR.out];first | done | rfl,HB.out⟩
  ·have e1:((ka:Int) != 0)=true:=fk (b:=0) hc
   have HR:Hid (R=5):=by rw [hr,if_neg (fun e=>hc e.1)];exact rfl
   clear hc hr
   go_wp2
   go_ret
   exact ⟨by rw [HR.out];first | done | rfl,HB.out⟩
 by_cases k8:n.form=8
 ·skip
  have q2:((n.form:Int) == 2)=false:=ah (b:=2) k2
  have q4:((n.form:Int) == 4)=false:=ah (b:=4) k4
  have q5:((n.form:Int) == 5)=false:=ah (b:=5) k5
  have q6:((n.form:Int) == 6)=false:=ah (b:=6) k6
  have q7:((n.form:Int) == 7)=false:=ah (b:=7) k7
  have zb:((n.form:Int) == 11)=false:=ah (b:=11) k11
  have q8:((n.form:Int) == 8)=true:=aH (b:=8) k8
  have hr:R=(if ka=0/\kb=0 then 0 else 5):=by have:=iY.out;simp only [if_neg k2,if_neg k4,if_neg k5,if_neg k6,if_neg k7,if_neg k11,if_pos k8] at this;exact this
  clear iY k2 k4 k5 k6 k7 k11 k8
  by_cases hc:ka=0
  ·have e1:((ka:Int) != 0)=false:=dR (b:=0) hc
   by_cases hd:kb=0
   ·have e2:((kb:Int) != 0)=false:=dR (b:=0) hd
    have HR:Hid (R=0):=by rw [hr,if_pos ⟨hc,hd⟩];exact rfl
    clear hc hd hr
    go_wp2
    go_ret
    exact ⟨by rw [HR.out];first | done | rfl,HB.out⟩
   ·have e2:((kb:Int) != 0)=true:=fk (b:=0) hd
    have HR:Hid (R=5):=by rw [hr,if_neg (fun e=>hd e.2)];exact rfl
    clear hc hd hr
    go_wp2
    go_ret
    exact ⟨by rw [HR.out];first | done | rfl,HB.out⟩
  ·have e1:((ka:Int) != 0)=true:=fk (b:=0) hc
   have HR:Hid (R=5):=by rw [hr,if_neg (fun e=>hc e.1)];exact rfl
   clear hc hr
   go_wp2
   go_ret
   exact ⟨by rw [HR.out];first | done | rfl,HB.out⟩
 by_cases k9:n.form=9
 ·skip
  have q2:((n.form:Int) == 2)=false:=ah (b:=2) k2
  have q4:((n.form:Int) == 4)=false:=ah (b:=4) k4
  have q5:((n.form:Int) == 5)=false:=ah (b:=5) k5
  have q6:((n.form:Int) == 6)=false:=ah (b:=6) k6
  have q7:((n.form:Int) == 7)=false:=ah (b:=7) k7
  have zb:((n.form:Int) == 11)=false:=ah (b:=11) k11
  have q8:((n.form:Int) == 8)=false:=ah (b:=8) k8
  have q9:((n.form:Int) == 9)=true:=aH (b:=9) k9
  have hr:R=(if ka=0/\kb=0 then 0 else 5):=by have:=iY.out;simp only [if_neg k2,if_neg k4,if_neg k5,if_neg k6,if_neg k7,if_neg k11,if_neg k8,if_pos k9] at this;exact this
  clear iY k2 k4 k5 k6 k7 k11 k8 k9
  by_cases hc:ka=0
  ·have e1:((ka:Int) != 0)=false:=dR (b:=0) hc
   by_cases hd:kb=0
   ·have e2:((kb:Int) != 0)=false:=dR (b:=0) hd
    have HR:Hid (R=0):=by rw [hr,if_pos ⟨hc,hd⟩];exact rfl
    clear hc hd hr
    go_wp2
    go_ret
    exact ⟨by rw [HR.out];first | done | rfl,HB.out⟩
   ·have e2:((kb:Int) != 0)=true:=fk (b:=0) hd
    have HR:Hid (R=5):=by rw [hr,if_neg (fun e=>hd e.2)];exact rfl
    clear hc hd hr
    go_wp2
    go_ret
    exact ⟨by rw [HR.out];first | done | rfl,HB.out⟩
  ·have e1:((ka:Int) != 0)=true:=fk (b:=0) hc
   have HR:Hid (R=5):=by rw [hr,if_neg (fun e=>hc e.1)];exact rfl
   clear hc hr
   go_wp2
   go_ret
   exact ⟨by rw [HR.out];first | done | rfl,HB.out⟩
 by_cases k10:n.form=10
 ·skip
  have q2:((n.form:Int) == 2)=false:=ah (b:=2) k2
  have q4:((n.form:Int) == 4)=false:=ah (b:=4) k4
  have q5:((n.form:Int) == 5)=false:=ah (b:=5) k5
  have q6:((n.form:Int) == 6)=false:=ah (b:=6) k6
  have q7:((n.form:Int) == 7)=false:=ah (b:=7) k7
  have zb:((n.form:Int) == 11)=false:=ah (b:=11) k11
  have q8:((n.form:Int) == 8)=false:=ah (b:=8) k8
  have q9:((n.form:Int) == 9)=false:=ah (b:=9) k9
  have q10:((n.form:Int) == 10)=true:=aH (b:=10) k10
  have hr:R=(if ka=0/\kb=0 then 0 else 5):=by have:=iY.out;simp only [if_neg k2,if_neg k4,if_neg k5,if_neg k6,if_neg k7,if_neg k11,if_neg k8,if_neg k9,if_pos k10] at this;exact this
  clear iY k2 k4 k5 k6 k7 k11 k8 k9 k10
  by_cases hc:ka=0
  ·have e1:((ka:Int) != 0)=false:=dR (b:=0) hc
   by_cases hd:kb=0
   ·have e2:((kb:Int) != 0)=false:=dR (b:=0) hd
    have HR:Hid (R=0):=by rw [hr,if_pos ⟨hc,hd⟩];exact rfl
    clear hc hd hr
    go_wp2
    go_ret
    exact ⟨by rw [HR.out];first | done | rfl,HB.out⟩
   ·have e2:((kb:Int) != 0)=true:=fk (b:=0) hd
    have HR:Hid (R=5):=by rw [hr,if_neg (fun e=>hd e.2)];exact rfl
    clear hc hd hr
    go_wp2
    go_ret
    exact ⟨by rw [HR.out];first | done | rfl,HB.out⟩
  ·have e1:((ka:Int) != 0)=true:=fk (b:=0) hc
   have HR:Hid (R=5):=by rw [hr,if_neg (fun e=>hc e.1)];exact rfl
   clear hc hr
   go_wp2
   go_ret
   exact ⟨by rw [HR.out];first | done | rfl,HB.out⟩
 have q2:((n.form:Int) == 2)=false:=ah (b:=2) k2
 have q4:((n.form:Int) == 4)=false:=ah (b:=4) k4
 have q5:((n.form:Int) == 5)=false:=ah (b:=5) k5
 have q6:((n.form:Int) == 6)=false:=ah (b:=6) k6
 have q7:((n.form:Int) == 7)=false:=ah (b:=7) k7
 have zb:((n.form:Int) == 11)=false:=ah (b:=11) k11
 have q8:((n.form:Int) == 8)=false:=ah (b:=8) k8
 have q9:((n.form:Int) == 9)=false:=ah (b:=9) k9
 have q10:((n.form:Int) == 10)=false:=ah (b:=10) k10
 have HR:Hid (R=0):=by have:=iY.out;simp only [if_neg k2,if_neg k4,if_neg k5,if_neg k6,if_neg k7,if_neg k11,if_neg k8,if_neg k9,if_neg k10] at this;exact this
 clear iY k2 k4 k5 k6 k7 k11 k8 k9 k10
 go_wp2
 go_ret
 exact ⟨by rw [HR.out];first | done | rfl,HB.out⟩
theorem uB.toBelow {cb B:Nat} {w0 w w':World} {pv tv mO pY:Value} (h:uB cb w w' pv tv mO pY) (hb:Below B w0 w) (hc:B<=cb) (hB:B<=w.heap.size) (hp:∀ g,pv.ownBlock=some g->B<=g) (ht:∀ g,tv.ownBlock=some g->B<=g) :
  Below B w0 w'/\(∀ g,mO.ownBlock=some g->B<=g)/\(∀ g,pY.ownBlock=some g->B<=g):=by
 refine ⟨⟨h.os.trans hb.os,h.tape.trans hb.tape,h.output.trans hb.output,Nat.le_trans hb.size h.size,fun k hk=>?_⟩,fun g hg=>?_,fun g hg=>?_⟩
 ·rw [h.blk k (by omega) (by omega) (fun e=>by have:=hp k e;omega) (fun e=>by have:=ht k e;omega)]
  exact hb.block k hk
 ·rcases h.p g hg with e | e
  ·exact hp g e
  ·omega
 ·rcases h.t g hg with e | e
  ·exact ht g e
  ·omega
theorem fJ.aac {cb o:Nat} {A:Array Value} {T:TypeId} {w W0 w':World} {pv tv:Value} {tb:List TP} {K:List Nat} (h:fJ cb o A T w pv tv tb K) (x:Nat) {g cap:Nat} (hW:Below w.heap.size w W0) (hg:W0.grownBy w' tv.ownBlock)
  (hown:w'.ownsRow 0 3 1 (.slice (some ⟨g,0,none⟩) (K.length+1) cap) (K.length+1) ((K.map fun (k:Nat)=>Value.int .i64 k)++[.int .i64 x])) (ik:tv.ownBlock=some g\/W0.heap.size<=g) :
  uB cb w (w'.setCell ⟨cb,o+1,none⟩ (.slice (some ⟨g,0,none⟩) (K.length+1) cap)) pv tv pv (.slice (some ⟨g,0,none⟩) (K.length+1) cap)/\fJ cb o (A.setIfInBounds (o+1) (.slice (some ⟨g,0,none⟩) (K.length+1) cap)) T (w'.setCell ⟨cb,o+1,none⟩ (.slice (some ⟨g,0,none⟩) (K.length+1) cap)) pv (.slice (some ⟨g,0,none⟩) (K.length+1) cap) tb (K++[x]):=by
 obtain ⟨l1,l2,l3⟩:=h.lt
 have lH:=hW.size
 have hgs:=hg.size
 have yW:W0.heap[cb]?=some (.cells A T (0,0)):=by rw [hW.block cb l3];exact h.y
 have yw:=cE hg yW h.ty
 have n8:g≠cb:=by
  rcases ik with e | e
  ·intro e';rw [e'] at e;exact h.ty e
  ·omega
 have kp:∀ k,k < w.heap.size->k≠cb->tv.ownBlock≠some k->(w'.setCell ⟨cb,o+1,none⟩ (.slice (some ⟨g,0,none⟩) (K.length+1) cap)).heap[k]?=w.heap[k]?:=by
  intro k hk hkp hne
  rw [ak _ _ (by simpa using hkp),hg.block k (by omega) (fun e=>hne e.symm),hW.block k hk]
 refine ⟨⟨hg.os.trans hW.os,hg.tape.trans hW.tape,hg.output.trans hW.output,by simp only [World.setCell,Array.size_modify];omega,fun k hk hp _ hs=>kp k hk hp hs,fun _ h=>Or.inl h,fun g' hg'=>by simp only [Value.ownBlock,Option.some.injEq] at hg';subst hg';rcases ik with e | e;exact Or.inl e;exact Or.inr (by omega)⟩,?_⟩
 refine ⟨ay yw (o+1) _,by rw [Array.getElem?_setIfInBounds,if_neg (by omega)];exact h.a,by rw [Array.getElem?_setIfInBounds,if_pos rfl,if_pos (Array.getElem?_eq_some_iff.1 h.b).1],ax h.p (fun k hk=>kp k (l1 k hk) (fun e=>h.py (by rw [hk,e])) (fun e=>h.pt k hk e)),by have:=ax (w':=w'.setCell ⟨cb,o+1,none⟩ (.slice (some ⟨g,0,none⟩) (K.length+1) cap)) hown (fun k hk=>by simp only [Value.ownBlock,Option.some.injEq] at hk;subst hk;exact ak _ _ (by simpa using n8));simpa using this,h.py,by simp only [Value.ownBlock,ne_eq,Option.some.injEq];exact n8,fun k hk hk'=>by
   simp only [Value.ownBlock,Option.some.injEq] at hk'
   rcases ik with e | e
   ·rw [hk'] at e;exact h.pt k hk e
   ·have:=l1 k hk;omega⟩
theorem wm (w:World) (cb o:Nat) (A:Array Value) (T:TypeId) (pv tv:Value) (tb:List TP) (K:List Nat) (n:NR) (ri:Int) (r:Nat) (hr:n.form=4->ri=r) (h:fJ cb o A T w pv tv tb K) (ok:Ta tb K n) :
  Calls Tryz.prog 62 #[.pointer (some ⟨cb,o,none⟩),aI n,.int .i64 ri] w fun v w'=>v=.returned (.int .i64 (ic tb K n r).1)/\∃ mO pY,uB cb w w' pv tv mO pY/\fJ cb o ((A.setIfInBounds o mO).setIfInBounds (o+1) pY) T w' mO pY (ic tb K n r).2 (K++[(ic tb K n r).1]):=by
 obtain ⟨i0,hi,hz0,hz1,hz2⟩:=info_parts Tryz.oV
 have HI:Hid _:=hi
 have pZ:Hid _:=hz0
 have p8:Hid _:=hz1
 have p9:Hid _:=hz2
 clear hi hz0 hz1 hz2
 have hbx:Below w.heap.size w (w.alloc (bU n)):=(Below.refl _ _).alloc (Nat.le_refl _) _
 have hty:=Cz (w.alloc (bU n)) cb o A T pv tv tb K n ri r hr (h.below hbx) ok
 have E8:=ok.hK
 have dP:Hid _:=uB.below cb pv tv hbx
 unfold aI at hty
 unfold bU za at hty dP
 unfold aI
 have PJ:Hid _:=hty
 clear hty h ok hr hbx
 obtain ⟨X,hX⟩:∃ X,X=ic tb K n r:=⟨_,rfl⟩
 rw [<- hX] at PJ ⊢
 clear hX
 show Calls _ _ #[Value.pointer (some ⟨cb,o,none⟩),_,_] w _
 go_enter Tryz.func62,Tryz.ntmps62
 go_wp2_with fail
 refine Calls.mono PJ.out ?_
 rintro _ w3 ⟨rfl,Jc,bQ,EK⟩
 have Td:=EK.y
 have Te:=EK.t
 have tD:=af Td
 obtain ⟨ao,oc,Zy⟩:=aF Te
 have t1:w3.cell? ⟨cb,o+1,none⟩=some (.slice ao K.length oc):=by rw [EK.c1,<- Zy]
 have dY:Hid ((w3.alloc (.cells #[.int .i64 X.1] 3)).ownsRow 0 3 1 (.slice ao K.length oc) K.length (K.map fun (k:Nat)=>Value.int .i64 k)):=by
  have:=Te.alloc (.cells #[.int .i64 X.1] 3)
  rw [Zy] at this;exact this
 have EL:Hid ((w3.alloc (.cells #[.int .i64 X.1] 3)).heap[cb]?=some (.cells (A.setIfInBounds o Jc) T (0,0))):=aN _ Td
 have wo:Hid (∀ u∈([.int .i64 X.1]:List Value),u.oneCell'=true):=by intro v hv;simp only [List.mem_singleton] at hv;subst hv;rfl
 have Zz:Hid _:=Zy
 have Jd:Hid _:=EK
 have dK:Hid _:=dP.out.trans bQ
 clear Td Te Zy EK bQ PJ
 go_wp2_with (at_builtin;go_must (refine oX _ rfl (.tmp 16) (.tmp 18) 22 rfl 3 i0 _ 1 8 Tryz.oY HI.out pZ.out p8.out p9.out rfl (by decide) (.slice ao K.length oc) K.length (K.map fun (k:Nat)=>Value.int .i64 k) rfl dY.out ⟨w3.heap.size,0,none⟩ 1 1 [.int .i64 X.1] rfl rfl ?c1 wo.out (by decide) ?c3 ?c4 ?_))
 case c1 =>
  intro j v hj
  rw [<- hj]
  first | rfl | exact bJ _ _ _ _
 case c3=>unfold maxLen;omega
 case c4=>omega
 intro g cap w4 hown hgrow ik
 have uX:=cE hgrow EL.out (by have:=Jd.out.ty;rw [Zz.out] at this;exact this)
 have z1:w4.cell? ⟨cb,o+1,none⟩=some (.slice ao K.length oc):=by rw [aa uX,<- Zz.out];exact Jd.out.b
 have zf:=ag uX (o+1)
 have zl:=af uX
 have hadd:=fJ.aac (g:=g) (cap:=cap) Jd.out X.1 ((Below.refl _ w3).alloc (Nat.le_refl _) (.cells #[.int .i64 X.1] 3)) (by rw [Zz.out];exact hgrow) hown (by rw [Zz.out,show (w3.alloc (.cells #[.int .i64 X.1] 3)).heap.size=w3.heap.size+1 from by simp];exact ik)
 have HAD:Hid _:=hadd.2
 have qI:Hid _:=dK.out.trans hadd.1
 clear hown hgrow ik uX hadd
 go_wp2
 go_ret
 exact ⟨rfl,Jc,_,qI.out,HAD.out⟩
theorem GZ (w:World) (cb:Nat) (pv tv:Value) (tb:List TP) (K:List Nat) (n:NR) (ri:Int) (r:Nat) (hr:n.form=4->ri=r) (h:A1 cb w pv tv tb K) (ok:Ta tb K n) :
  Calls Tryz.prog 62 #[ptr cb,aI n,.int .i64 ri] w fun v w'=>v=.returned (.int .i64 (ic tb K n r).1)/\∃ mO pY,uB cb w w' pv tv mO pY/\A1 cb w' mO pY (ic tb K n r).2 (K++[(ic tb K n r).1]) :=
 (wm w cb 0 _ _ pv tv tb K n ri r hr h.toO ok).mono fun _ _ ⟨e,mO,pY,f,g⟩=>⟨e,mO,pY,f,g.toC⟩
def mQ (ns:List NR) (op:List Int):Nat × Nat:=if (fE ns op).1≠0 then fE ns op else RW [] [] ns
theorem n9 (w:World) (nv ov:Value) (ns:List NR) (op:List Int) (h:bg w nv ov ns op) (ho:wq ns op) (hl:ns.length<=9000) (tk:∀ n∈ns,n.small) (hbk:∀ (j:Nat) (n:NR),ns[j]?=some n->n.p0 < j/\n.p1 < j/\n.p2 < j) :
  Calls Tryz.prog 44 #[aJ nv ov] w fun v w'=>v=.returned (.tuple #[.int .i64 (mQ ns op).1,.int .i64 (mQ ns op).2])/\Below w.heap.size w w':=by
 have hlen:=fun (w':World) (hb:Below w.heap.size w w')=>gJ w' nv ov ns op (h.below hb)
 have mR:=fun (w':World) (hb:Below w.heap.size w w') (k:Nat) (n:NR) (hk:ns[k]?=some n)=>ew w' nv ov ns op (h.below hb) k n hk hl
 have Tf:=fun (w':World) (hb:Below w.heap.size w w')=>ze w' nv ov ns op (h.below hb) ho hl
 obtain ⟨a0,j7,e0⟩:=aF h.nd
 obtain ⟨a1,kO,e1⟩:=aF h.op
 rw [ho.1] at e1
 obtain ⟨m,hm⟩:∃ m,m=ns.length:=⟨_,rfl⟩
 rw [<- hm] at e0 e1 hl
 subst e0
 subst e1
 unfold aJ at hlen mR Tf
 unfold aJ
 unfold aI at mR
 rw [<- hm] at hlen
 have l7:Hid _:=hlen
 have E9:Hid _:=mR
 have WD:Hid _:=Tf
 have HM:Hid _:=hm
 have Tg:Hid _:=tk
 have WE:Hid _:=hbk
 obtain ⟨ans,cQ⟩:∃ ans,ans=mQ ns op:=⟨_,rfl⟩
 rw [<- cQ]
 have j8:Hid _:=cQ
 clear hlen mR Tf ho h hm cQ tk hbk
 have Cg:Below w.heap.size w (w.alloc (.cells #[.slice a0 m j7,.slice a1 m kO] 62)):=(Below.refl _ w).alloc (Nat.le_refl _) _
 have dP:Hid _:=Cg
 have hmn:=WD.out _ Cg
 clear Cg WD
 go_enter Tryz.func44,Tryz.ntmps44
 go_wp2_with fail
 refine hmn.mono ?_
 rintro _ wb ⟨rfl,rR⟩
 have EM:Hid _:=rR
 obtain ⟨b0,b1,bl⟩:=dm rR
 clear rR hmn
 by_cases hm0:(fE ns op).1≠0
 ·have HA:Hid (ans=fE ns op):=by rw [j8.out];unfold mQ;rw [if_pos hm0];exact rfl
  have q:(((fE ns op).1:Int) != 0)=true:=by simp;omega
  generalize fE ns op=M at *
  clear hm0
  go_wp2
  refine bodyPost_ret (v:=.tuple #[.int .i64 M.1,.int .i64 M.2]) (by simp [results,Tryz.results44,go_sem]) rfl ⟨by rw [HA.out],dP.out.trans (EM.out.mono (by simp))⟩
 ·have HA:Hid (ans=RW [] [] ns):=by rw [j8.out];unfold mQ;rw [if_neg hm0];exact rfl
  have q:(((fE ns op).1:Int) != 0)=false:=by simp;omega
  generalize fE ns op=M at *
  clear hm0
  have zg:Below w.heap.size w wb:=dP.out.trans (EM.out.mono (by simp))
  have yR:Hid _:=zg
  have A2:=zg.size
  have hC0:A1 wb.heap.size (wb.alloc (.cells #[.slice none 0 0,.slice none 0 0] 104)) (.slice none 0 0) (.slice none 0 0) [] []:=⟨aj _ _,World.ownsRow_nil _ _ _ _,World.ownsRow_nil _ _ _ _,by simp [Value.ownBlock],by simp [Value.ownBlock],fun g hg=>by simp [Value.ownBlock] at hg⟩
  have WG:Hid _:=hC0
  clear hC0 zg
  go_wp2
  go_loopw [7,8,9,10] (fun i _ _ _ wr=>∃ k:Nat,k<=m/\i=.int .i64 k/\∃ pv tv tb D K T,A1 wb.heap.size wr pv tv tb K/\Rel tb D K T/\K.length=k/\tb.length<=k/\RW [] [] ns=RW tb K (ns.drop k)/\Below wb.heap.size wb wr/\wb.heap.size < wr.heap.size/\(∀ g,pv.ownBlock=some g->wb.heap.size<=g)/\(∀ g,tv.ownBlock=some g->wb.heap.size<=g)) (fun i _ _ _ _=>m - (intOf i).toNat)
  case atStart=>exact ⟨0,by omega,rfl,_,_,[],[],[],[],WG.out,Ls,rfl,by simp,by simp,(Below.refl _ wb).alloc (Nat.le_refl _) _,by simp,by simp [Value.ownBlock],by simp [Value.ownBlock]⟩
  case round =>
   obtain ⟨k,hk,rfl,pv,tv,tb,D,K,T,hC,jS,E8,htl,qJ,dF,hbs,rS,wu⟩:=hrel
   have qK:Below w.heap.size w wr:=yR.out.trans (dF.mono A2)
   have Fa:=EM.out.trans (dF.mono EM.out.size)
   obtain ⟨x0,x1,xl⟩:=dm Fa
   have il:=l7.out wr qK
   have qd:=dF.size
   by_cases hlt:k < m
   ·have hkl:k < ns.length:=by have:=HM.out;omega
    obtain ⟨n,hn⟩:∃ n,ns[k]?=some n:=⟨ns[k],List.getElem?_eq_getElem hkl⟩
    have dS:=Tg.out n (List.mem_of_getElem? hn)
    have ml:ns.drop k=n::ns.drop (k+1):=by
     rw [List.drop_eq_getElem_cons hkl];rw [List.getElem?_eq_getElem hkl] at hn;simp only [Option.some.injEq] at hn;rw [hn]
    rw [ml] at qJ
    simp only [RW] at qJ
    have hst:=Cx jS n
    have htk:=Ja tb K n
    have hok:Ta tb K n:=⟨by omega,by omega,fun i=>by have:=(jS.known i).2.1;omega,fun j=>by have:=jS.GX j;omega,⟨by have:=dS.1;omega,by have:=dS.1;omega⟩,⟨by have:=dS.2.1;omega,by have:=dS.2.1;omega⟩,⟨by have:=dS.2.2.1;omega,by have:=dS.2.2.1;omega⟩,⟨by have:=dS.2.2.2;omega,by have:=dS.2.2.2;omega⟩⟩
    have hback:=WE.out k n hn
    have hnew:=I9 tb K n (by rw [E8];exact hback)
    have hpl:=mB tb 0 (au K n.p0) (au K n.p1)
    have uY:(ic tb K n 0).2.length<=k+1/\(ic tb K n 0).1<=10000:=by
     have pX:=hok.kn n.p0
     have hk1:=hok.kn n.p1
     have hks:=hok.kn n.source
     have hab:=jS.Lq (au K n.p0)
     unfold ic
     split
     ·exact ⟨by simp only;omega,by simp only;omega⟩
     split
     ·exact ⟨by simp only;omega,by simp only;omega⟩
     split
     ·exact ⟨by simp only;omega,by simp only;omega⟩
     split
     ·exact ⟨by simp only;omega,by simp only;omega⟩
     split
     ·exact ⟨by simp only;omega,by simp only;omega⟩
     split
     ·exact ⟨by omega,by omega⟩
     split
     ·exact ⟨by simp only;omega,by simp only;omega⟩
     split
     ·exact ⟨by simp only;omega,by simp only;omega⟩
     ·exact ⟨by simp only;omega,by simp only;omega⟩
    have hty:=fun (w':World) (hb:Below wr.heap.size wr w')=>GZ w' wb.heap.size pv tv tb K n 0 0 (fun _=>rfl) (hC.below hb) hok
    have hfa:=fun (w':World) (mO pY:Value) (hC':A1 wb.heap.size w' mO pY (ic tb K n 0).2 (K++[(ic tb K n 0).1]))=>CA w' wb.heap.size mO pY (ic tb K n 0).2 (K++[(ic tb K n 0).1]) n (ic tb K n 0).1 hC' (by omega) (by simp;omega) uY.2 hok.p0 hok.p1 hok.p2
    rw [hnew.1] at hfa
    unfold ptr aI at hty hfa
    have PJ:Hid _:=hty
    have Lw:Hid _:=hfa
    have PK:Hid _:=hnew.2
    have HN:Hid _:=hn
    have WH:Hid _:=qJ
    have jf:Hid _:=hst
    have iA:Hid _:=dF
    have HC:Hid _:=hC
    have RX:Hid _:=rS
    have KW:Hid _:=wu
    have WI:Hid _:=E8
    have RY:Hid _:=uY.1
    clear hn dS ml qJ hst htk hok hty jS hC dF Fa rS wu hkl E8 htl hfa hnew hback uY hpl
    go_wp2_with fail
    refine il.mono ?_
    rintro _ w1 ⟨rfl,hb1⟩
    have WJ:=EM.out.trans ((iA.out.trans (hb1.mono qd)).mono EM.out.size)
    obtain ⟨d0,d1,dl⟩:=dm WJ
    have hno:=E9.out w1 (yR.out.trans ((iA.out.trans (hb1.mono qd)).mono A2)) k n HN.out
    have dG:Hid _:=hb1
    clear hb1 WJ il x0 x1
    go_wp2_with fail
    refine hno.mono ?_
    rintro _ w2 ⟨rfl,hb2⟩
    have eH:Below wr.heap.size wr w2:=dG.out.trans (hb2.mono dG.out.size)
    have r9:=eH.alloc eH.size (bU n)
    have hty:=PJ.out _ r9
    have EO:Hid _:=r9
    have aad:=eH.size
    clear hb2 eH hno d0 d1 r9 PJ
    unfold bU za at hty
    go_wp2_with fail
    refine hty.mono ?_
    rintro _ w3 ⟨rfl,Jc,O7,bQ,EK⟩
    have hnb:w3.heap[w2.heap.size]?=some (bU n):=by
     rw [bQ.blk w2.heap.size (by simp) (by omega) (fun e=>by have:=(HC.out.lt.1 _ e);omega) (fun e=>by have:=(HC.out.lt.2.1 _ e);omega)]
     exact aj _ _
    have ES:Below wb.heap.size wb (w2.alloc (bU n)):=iA.out.trans (EO.out.mono qd)
    obtain ⟨g1,g2,g3⟩:=bQ.toBelow ES (Nat.le_refl _) (by simp;omega) RX.out KW.out
    have Th:=bQ.size
    have aae:wb.heap.size < w3.heap.size:=by simp at Th;omega
    have hfa:=Lw.out w3 Jc O7 EK
    obtain ⟨d0,d1,d2,d3,d4,d5,d6,d7,d8,d9⟩:=aC hnb
    have kN:=af hnb
    have Jd:Hid _:=EK
    have Ti:Hid _:=g1
    have HG2:Hid _:=g2
    have WK:Hid _:=g3
    have KX:Hid _:=hnb
    clear bQ EK hnb ES g1 g2 g3 hty EO Lw
    go_wp2_with fail
    refine hfa.mono ?_
    rintro _ w4 ⟨rfl,hb4⟩
    have c1:w4.cell? ⟨w2.heap.size,1,none⟩=some (.int .i64 n.at_):=by rw [hb4.cell (p:=⟨w2.heap.size,1,none⟩) kN];exact d1
    have pP:Hid _:=hb4
    have Tj:=hb4.size
    clear hb4 hfa d0 d1 d2 d3 d4 d5 d6 d7 d8 d9
    generalize jY tb K n=X at *
    by_cases hf:X.1.2=0
    ·have q2:((X.1.2:Int) != 0)=false:=by simp;omega
     have qJ:=WH.out
     rw [if_neg (by omega)] at qJ
     obtain ⟨D',iB⟩:=jf.out.2 (by rw [<- jf.out.1];exact hf)
     have hX:=PK.out hf
     have Tl:=Jd.out
     have hTL:=RY.out
     rw [hX] at Tl hTL
     have WL:Hid _:=Tl.below pP.out
     have aaf:Hid _:=hTL
     have Tm:Hid _:=qJ
     have Lx:Hid _:=iB
     clear hf qJ iB hX Tl hTL Jd RY
     go_wp2
     go_roundw
     case rel=>exact ⟨k+1,by omega,by go_num,Jc,O7,X.2,D',K++[X.1.1],_,WL.out,Lx.out,by simp [WI.out],aaf.out,Tm.out,Ti.out.trans (pP.out.mono (by omega)),by omega,HG2.out,WK.out⟩
     case measure=>simp [intOf];omega
    ·have q2:((X.1.2:Int) != 0)=true:=by simp;omega
     have qJ:=WH.out
     rw [if_pos hf] at qJ
     have Lz:Hid (ans=(X.1.2,n.at_)):=by rw [HA.out];exact qJ
     clear hf qJ
     go_wp2
     go_quiet (fail)
     go_wp2
     refine bodyPost_ret (v:=.tuple #[.int .i64 X.1.2,.int .i64 n.at_]) (by simp [results,Tryz.results44,go_sem]) rfl ⟨by rw [Lz.out],?_⟩
     exact (yR.out.trans ((Ti.out.trans (pP.out.mono (by omega))).mono A2)).trans ⟨rfl,rfl,rfl,Nat.le_refl _,fun _ _=>rfl⟩
   ·have Lz:Hid (ans=(0,0)):=by
     have hd:ns.drop k=[]:=List.drop_eq_nil_of_le (by have:=HM.out;omega)
     rw [hd] at qJ
     rw [HA.out,qJ];exact rfl
    have iA:Hid _:=dF
    clear dF hC jS qJ Fa rS wu
    go_wp2_with fail
    refine il.mono ?_
    rintro _ w1 ⟨rfl,hb1⟩
    have dG:Hid _:=yR.out.trans ((iA.out.trans (hb1.mono qd)).mono A2)
    clear hb1 il
    go_wp2
    refine bodyPost_ret (v:=.tuple #[.int .i64 0,.int .i64 0]) (by simp [results,Tryz.results44,go_sem]) rfl ⟨by rw [Lz.out];rfl,dG.out⟩
theorem si:∀ (f p:Nat) (l:List UInt8) (t:Tk),t∈toks f p l->∃ l',l'≠[]/\t.s=l'.take (aK l').1/\t.c=(aK l').2
 | 0,_,_,t,h=>by simp [toks] at h
 | _+1,_,[],t,h=>by simp [toks] at h
 | f+1,p,c::r,t,h=>by
  simp only [toks] at h
  split at h
  ·exact si f _ r t h
  ·rcases List.mem_cons.1 h with h | h
   ·subst h;exact ⟨c::r,by simp,rfl,rfl⟩
   ·exact si f _ _ t h
theorem PW.og {ae:Bool}:∀ {ws:List Wt} {l:List Tk} {nm rg:List UInt8} {kids:List PT} {r:List Tk},PW ae ws l nm rg kids r->kids.length=Ll ws
 | _,_,_,_,_,_,.nil=>rfl
 | _,_,_,_,_,_,.close _ h1=>by have:=PW.og h1;simpa [Ll] using this
 | _,_,_,_,_,_,.name _ h1=>by have:=PW.og h1;simpa [Ll] using this
 | _,_,_,_,_,_,.region _ h1=>by have:=PW.og h1;simpa [Ll] using this
 | _,_,_,_,_,_,.e _ h1=>by have:=PW.og h1;simp [Ll] at this ⊢;exact this
mutual
def PT.wf:PT->Prop
 | .num _ _=>True
 | .name _ _=>True
 | .node _ k _ _ kids=>kids.length=arity k/\oZ kids
def oZ:List PT->Prop
 | []=>True
 | t::r=>t.wf/\oZ r
end
theorem A3:∀ {ts:List PT},oZ ts->∀ t∈ts,t.wf
 | [],_,t,h=>by simp at h
 | a::r,hw,t,h=>by
  simp only [oZ] at hw
  rcases List.mem_cons.1 h with h | h
  ·subst h;exact hw.1
  ·exact A3 hw.2 t h
open Go.Lib (decDigits)
inductive Vl where
 | n (k:Nat)
 | p (a b:Vl)
def Vl.txt:Vl->List UInt8
 | .n k=>decDigits k
 | .p a b=>91::(a.txt++(32::(b.txt++[93])))
def Vl.num:Vl->Nat
 | .n k=>k
 | .p _ _=>0
def Vl.fst:Vl->Vl
 | .p a _=>a
 | .n _=>.n 0
def Vl.snd:Vl->Vl
 | .p _ b=>b
 | .n _=>.n 0
def Vl.size:Vl->Nat
 | .n _=>0
 | .p a b=>a.size+b.size+1
def Vl.has:Vl->Ty->Prop
 | .n k,.n=>k<=9999
 | .p a b,.p _ x y=>a.has x/\b.has y
 | _,_=>False
structure bY where
 steps:Nat
 cells:Nat
 e:Nat
abbrev dL:=List (List UInt8 × Vl)
def nF (env:dL) (s:List UInt8):Vl:=((env.reverse.find? (fun x=>x.1 == s)).map (·.2)).getD (.n 0)
def turns (f:Vl->bY->Vl × bY):Nat->Vl->bY->Vl × bY
 | 0,v,st=>(v,st)
 | k+1,v,st=>if st.e≠0 then (v,st) else turns f k (f v st).1 (f v st).2
def cA (k:Kw) (vs:List Vl) (st:bY):Vl × bY :=
 match k,vs with
 | .pair,[a,b]=>(.p a b,{ st with cells:=st.cells+1 })
 | .fst,[a]=>(a.fst,st)
 | .snd,[a]=>(a.snd,st)
 | .add,[a,b]=>(.n ((a.num+b.num) % 10000),st)
 | .sub,[a,b]=>(.n ((a.num+10000 - b.num) % 10000),st)
 | .less,[a,b]=>(.n (if a.num < b.num then 1 else 0),st)
 | _,_=>(.n 0,st)
def begun (fuel:Nat) (st:bY) (f:bY->Vl × bY):Vl × bY :=
 if st.e≠0 then (.n 0,st) else if st.steps=fuel then (.n 0,{ st with e:=12 }) else f { st with steps:=st.steps+1 }
mutual
def ev (fuel:Nat):PT->dL->bY->Vl × bY
 | .num _ s,_,st=>begun fuel st (fun st=>(.n (aq s).toNat,st))
 | .name _ s,env,st=>begun fuel st (fun st=>(nF env s,st))
 | .node _ k nm _ kids,env,st=>begun fuel st (fun st =>
   if k=.aT then iC fuel nm kids env st
   else if k=.dQ then mD fuel kids env st
   else if k=.loop then ez fuel nm kids env st
   else
    let x:=bO fuel kids env st
    if x.2.e≠0 then (.n 0,x.2) else cA k x.1 x.2)
def bO (fuel:Nat):List PT->dL->bY->List Vl × bY
 | [],_,st=>([],st)
 | a::r,env,st =>
  let x:=ev fuel a env st
  let y:=bO fuel r env x.2
  (x.1::y.1,y.2)
def iC (fuel:Nat) (nm:List UInt8):List PT->dL->bY->Vl × bY
 | [a,b],env,st =>
  let x:=ev fuel a env st
  ev fuel b (env++[(nm,x.1)]) x.2
 | _,_,st=>(.n 0,st)
def mD (fuel:Nat):List PT->dL->bY->Vl × bY
 | [a,b,c],env,st =>
  let x:=ev fuel a env st
  if x.1.num≠0 then ev fuel b env x.2 else ev fuel c env x.2
 | _,_,st=>(.n 0,st)
def ez (fuel:Nat) (nm:List UInt8):List PT->dL->bY->Vl × bY
 | [a,b,c],env,st =>
  let x:=ev fuel a env st
  let y:=ev fuel b env x.2
  turns (fun v st=>ev fuel c (env++[(nm,v)]) st) x.1.num y.1 y.2
 | _,_,st=>(.n 0,st)
end
inductive WT:aQ->PT->Ty->Prop
 | num {G:aQ} {p:Nat} {s:List UInt8}:WT G (.num p s) .n
 | name {G:aQ} {p:Nat} {s:List UInt8} {T:Ty} (h:look G s=some T):WT G (.name p s) T
 | aT {G:aQ} {p:Nat} {nm rg:List UInt8} {a b:PT} {A B:Ty} (ha:WT G a A) (hb:WT (G++[(nm,A)]) b B):WT G (.node p .aT nm rg [a,b]) B
 | pair {G:aQ} {p:Nat} {nm rg:List UInt8} {a b:PT} {A B:Ty} (ha:WT G a A) (hb:WT G b B) (hs:(Ty.p 0 A B).size<=63):WT G (.node p .pair nm rg [a,b]) (.p 0 A B)
 | fst {G:aQ} {p:Nat} {nm rg:List UInt8} {a:PT} {A B:Ty} (ha:WT G a (.p 0 A B)):WT G (.node p .fst nm rg [a]) A
 | snd {G:aQ} {p:Nat} {nm rg:List UInt8} {a:PT} {A B:Ty} (ha:WT G a (.p 0 A B)):WT G (.node p .snd nm rg [a]) B
 | dQ {G:aQ} {p:Nat} {nm rg:List UInt8} {a b c:PT} {T:Ty} (ha:WT G a .n) (hb:WT G b T) (hc:WT G c T):WT G (.node p .dQ nm rg [a,b,c]) T
 | two {G:aQ} {p:Nat} {k:Kw} {nm rg:List UInt8} {a b:PT} (hk:k=.add\/k=.sub\/k=.less) (ha:WT G a .n) (hb:WT G b .n):WT G (.node p k nm rg [a,b]) .n
 | loop {G:aQ} {p:Nat} {nm rg:List UInt8} {a b c:PT} {T:Ty} (ha:WT G a .n) (hb:WT G b T) (hc:WT (G++[(nm,T)]) c T):WT G (.node p .loop nm rg [a,b,c]) T
 | new {G:aQ} {p:Nat} {nm rg:List UInt8} {a:PT} {T:Ty} (ha:WT G a T):WT G (.node p .new nm rg [a]) T
def gq (env:aQ):aQ:=env.map (fun x=>(x.1,x.2.bare))
theorem eM (t:Ty):t.bare.size=t.size:=by induction t <;> simp [Ty.bare,Ty.size, *]
theorem o4 (env:aQ) (s:List UInt8):look (gq env) s=(look env s).map Ty.bare:=by
 unfold look gq
 rw [<- List.map_reverse,List.find?_map]
 simp only [Function.comp_def,Option.map_map]
theorem jk (env:aQ) (nm:List UInt8) (T:Ty):gq (env++[(nm,T)])=gq env++[(nm,T.bare)]:=by simp [gq]
theorem kx {st:dM} {e p:Nat} (he:e≠0) (h:(cZ st e p).e=0):False:=tE st e p he h
theorem wv {id p:Nat} {x:Ty × dM} (h:(fin id p x).2.e=0):x.2.e=0/\x.1.size<=63:=by
 unfold fin at h
 simp only at h
 split at h
 ·exact (kx (by decide) h).elim
 ·rename_i hn
  refine ⟨h,?_⟩
  rcases Nat.lt_or_ge 63 x.1.size with h1 | h1
  ·exact absurd ⟨h,h1⟩ hn
  ·exact h1
theorem Fb (id p:Nat) (x:Ty × dM):(fin id p x).1=x.1:=by unfold fin;rfl
def PL (G:aQ):List PT->List Ty->Prop
 | [],[]=>True
 | a::r,T::Ts=>WT G a T/\PL G r Ts
 | _,_=>False
theorem PM {cls:List Nat} {k:Kw} {p site:Nat} {ks:List Ty} {st:dM} {G:aQ} {nm rg:List UInt8} {kids:List PT} (hk1:k≠.aT) (hk2:k≠.loop) (hw:kids.length=arity k) (hks:PL G kids (ks.map Ty.bare))
  (h0:(bD cls k p site ks st).2.e=0) (hsz:(bD cls k p site ks st).1.size<=63):WT G (.node p k nm rg kids) (bD cls k p site ks st).1.bare:=by
 unfold bD at h0 hsz ⊢
 split at h0
 ·match kids,hw,hks with
  | [a],_,hks=>simp only [List.map_cons,PL] at hks;exact .new hks.1
 ·match kids,hw,hks with
  | [a,b],_,hks =>
   simp only [List.map_cons,List.map_nil,PL] at hks
   simp only [Ty.size] at hsz
   exact .pair hks.1 hks.2.1 (by simp only [Ty.size,eM];omega)
 ·match kids,hw,hks with
  | [a],_,hks=>simp only [List.map_cons,PL,Ty.bare] at hks;exact .fst hks.1
 ·match kids,hw,hks with
  | [a],_,hks=>simp only [List.map_cons,PL,Ty.bare] at hks;exact .snd hks.1
 ·match kids,hw,hks with
  | [a,b,c],_,hks =>
   simp only [List.map_cons,List.map_nil,PL] at hks
   split at h0
   ·rename_i hc
    simp only [if_pos hc]
    rw [hc.1] at hks
    exact .dQ hks.1 hks.2.1 (by rw [hc.2];exact hks.2.2.1)
   ·exact (kx (by decide) h0).elim
 ·exact absurd rfl hk2
 all_goals first
  | (exact (kx (by decide) h0).elim)
  | (match kids,hw,hks with
     | [a,b],_,hks =>
      simp only [List.map_cons,List.map_nil,PL] at hks
      split at h0
      ·rename_i hc
       simp only [if_pos hc]
       rw [hc.1,hc.2] at hks
       exact .two (by simp) hks.1 hks.2.1
      ·exact (kx (by decide) h0).elim)
mutual
theorem jl (cls:List Nat):∀ (t:PT) (id site:Nat) (env:aQ) (st:dM),t.wf->(aD cls t id site env st).2.e=0->st.e=0/\(aD cls t id site env st).1.size<=63/\WT (gq env) t (aD cls t id site env st).1.bare
 | .num p s,id,site,env,st,_,h=>by
  simp only [aD] at h ⊢
  have:=wv h
  rw [Fb]
  exact ⟨this.1,this.2,.num⟩
 | .name p s,id,site,env,st,_,h=>by
  simp only [aD] at h ⊢
  have hz:=wv h
  rw [Fb]
  split at hz
  ·rename_i t ht
   exact ⟨hz.1,hz.2,.name (by rw [o4,ht];rfl)⟩
  ·exact (kx (by decide) hz.1).elim
 | .node p k nm rg kids,id,site,env,st,hw,h=>by
  simp only [PT.wf] at hw
  simp only [aD] at h ⊢
  have hz:=wv h
  rw [Fb]
  by_cases hk:k=.aT
  ·subst hk
   simp only [if_pos] at hz ⊢
   have:=LA cls nm p rg kids (id+1) site env st hw.1 hw.2 hz.1
   exact ⟨this.1,hz.2,this.2⟩
  ·simp only [if_neg hk] at hz ⊢
   by_cases hl:k=.loop
   ·subst hl
    simp only [if_pos] at hz ⊢
    split at hz
    ·rename_i hne;exact absurd hz.1 hne
    ·rename_i hne
     rw [if_neg hne]
     have h0:(aW cls nm kids (id+1) site env st).2.e=0:=by simpa using hne
     have:=Je cls nm p rg kids (id+1) site env st hw.1 hw.2 h0 p site hz.1
     exact ⟨this.1,hz.2,this.2⟩
   ·simp only [if_neg hl] at hz ⊢
    have hks:=zT cls kids (id+1) (site+if k=.pair then 1 else 0) env st hw.2
    generalize bh cls kids (id+1) (site+if k=.pair then 1 else 0) env st=x at hks hz ⊢
    by_cases hne:x.2.e≠0
    ·rw [if_pos hne] at hz;exact absurd hz.1 hne
    ·rw [if_neg hne] at hz ⊢
     have hks:=hks (by simpa using hne)
     exact ⟨hks.1,hz.2,PM hk hl hw.1 hks.2 hz.1 hz.2⟩
theorem zT (cls:List Nat):∀ (ts:List PT) (id site:Nat) (env:aQ) (st:dM),oZ ts->(bh cls ts id site env st).2.e=0->st.e=0/\PL (gq env) ts ((bh cls ts id site env st).1.map Ty.bare)
 | [],_,_,_,st,_,h=>by simp only [bh] at h ⊢;exact ⟨h,trivial⟩
 | a::r,id,site,env,st,hw,h=>by
  simp only [oZ] at hw
  simp only [bh] at h ⊢
  have h2:=zT cls r (id+a.cnt) (site+a.bK) env _ hw.2 h
  have h1:=jl cls a id site env st hw.1 h2.1
  exact ⟨h1.1,h1.2.2,h2.2⟩
theorem LA (cls:List Nat) (nm:List UInt8) (p:Nat) (rg:List UInt8):∀ (ts:List PT) (id site:Nat) (env:aQ) (st:dM),ts.length=arity .aT->oZ ts->(dH cls nm ts id site env st).2.e=0->st.e=0/\WT (gq env) (.node p .aT nm rg ts) (dH cls nm ts id site env st).1.bare
 | [a,b],id,site,env,st,_,hw,h=>by
  simp only [oZ] at hw
  simp only [dH] at h ⊢
  have h2:=jl cls b (id+a.cnt) (site+a.bK) _ _ hw.2.1 h
  have h1:=jl cls a id site env st hw.1 h2.1
  rw [jk] at h2
  exact ⟨h1.1,.aT h1.2.2 h2.2.2⟩
 | [],_,_,_,_,hl,_,_=>by simp [arity] at hl
 | [_],_,_,_,_,hl,_,_=>by simp [arity] at hl
 | _::_::_::_,_,_,_,_,hl,_,_=>by simp [arity] at hl
theorem Je (cls:List Nat) (nm:List UInt8) (p:Nat) (rg:List UInt8):∀ (ts:List PT) (id site:Nat) (env:aQ) (st:dM),ts.length=arity .loop->oZ ts->(aW cls nm ts id site env st).2.e=0 ->
  ∀ q s,(bD cls .loop q s (aW cls nm ts id site env st).1 (aW cls nm ts id site env st).2).2.e=0->st.e=0/\WT (gq env) (.node p .loop nm rg ts) (bD cls .loop q s (aW cls nm ts id site env st).1 (aW cls nm ts id site env st).2).1.bare
 | [a,b,c],id,site,env,st,_,hw,h,q,s,hm=>by
  simp only [oZ] at hw
  simp only [aW] at h hm ⊢
  have h3:=jl cls c (id+a.cnt+b.cnt) (site+a.bK+b.bK) _ _ hw.2.2.1 h
  have h2:=jl cls b (id+a.cnt) (site+a.bK) env _ hw.2.1 h3.1
  have h1:=jl cls a id site env st hw.1 h2.1
  rw [jk] at h3
  simp only [bD] at hm ⊢
  split at hm
  ·rename_i hc
   rw [if_pos hc]
   refine ⟨h1.1,?_⟩
   have ha:=h1.2.2
   rw [hc.1] at ha
   exact .loop ha h2.2.2 (by have:=h3.2.2;rw [<- hc.2] at this;exact this)
  ·exact (kx (by decide) hm).elim
 | [],_,_,_,_,hl,_,_,_,_,_=>by simp [arity] at hl
 | [_],_,_,_,_,hl,_,_,_,_,_=>by simp [arity] at hl
 | [_,_],_,_,_,_,hl,_,_,_,_,_=>by simp [arity] at hl
 | _::_::_::_::_,_,_,_,_,hl,_,_,_,_,_=>by simp [arity] at hl
end
def LB (l:List UInt8):Int:=l.foldl (fun n c=>10 * n+(c.toNat:Int) - 48) 0
theorem Jf (l:List UInt8) (c:UInt8):LB (l++[c])=10 * LB l+(c.toNat:Int) - 48:=by
 unfold LB;rw [List.foldl_append];rfl
theorem CB (u:Nat):LB (decDigits u)=u:=by
 induction u using Nat.strongRecOn with
 | _ u ih =>
  have key:∀ k,k < 10->((UInt8.ofNat (48+k)).toNat:Int)=48+k:=by
   intro k hk
   have:(UInt8.ofNat (48+k)).toNat=48+k:=by simp;omega
   omega
  rw [decDigits]
  split
  ·rename_i h
   show 10 * (0:Int)+((UInt8.ofNat (48+u)).toNat:Int) - 48=u
   rw [key u h];omega
  ·rw [Jf,ih (u / 10) (by omega),key _ (by omega)];omega
def Ty.zh:Ty->List Nat
 | .n=>[]
 | .p r a b=>r::(a.zh++b.zh)
theorem LC {c:UInt8} (h:wy c=true):c≠60/\c≠58:=by
 constructor <;> (intro e;subst e;revert h;decide)
theorem LD (u:Nat) (r:List UInt8):(decDigits u++58::r).takeWhile (fun c=>c != 58)=decDigits u:=by
 have hd:=zU u
 generalize decDigits u=l at *
 induction l with
 | nil=>simp
 | cons c l ih =>
  have:=(LC (hd c (by simp))).2
  simp only [List.cons_append,List.takeWhile_cons]
  rw [if_pos (by simpa using this),ih (fun x hx=>hd x (by simp [hx]))]
end Go.Proofs.YtpicaknklgccoabGreatDoor
