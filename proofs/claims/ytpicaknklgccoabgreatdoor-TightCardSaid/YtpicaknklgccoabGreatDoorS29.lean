import Derived.Test.YtpicaknklgccoabGreatDoorS28
set_option maxHeartbeats 4000000
set_option maxRecDepth 100000
namespace Go.Proofs.YtpicaknklgccoabGreatDoor
open Go.RowKit
theorem J5 {w0:World} {yb:Nat} {rv:Value} {raw:List Int} {f:Nat} (ih:nA w0 yb rv raw f) (t:Nat) (s:jg) (nv:Value) (w:World) (ht:t < 5) (hf:s.left < f+1) (hv:s.vars.length+s.left<=100) (ha:s.at_+40 * s.left+11<=100000) (h:ee w0 w yb rv raw s nv) (hl:s.left≠0) (hk:(aL raw 9 { s with left:=s.left - 1 }).1=4) :
  Calls Tryz.prog 23 #[.pointer (some ⟨yb,0,none⟩),.int .i64 t] w fun e w'=>∃ p bB,e=.returned (.pointer (some ⟨p,0,none⟩))/\cO w w' yb nv bB/\ee w0 w' yb rv raw (aS raw (f+1) t s).2 bB/\eS w' (aS raw (f+1) t s).1 p:=by
 have nP:=af h.ob.y
 have y2:w.cell? ⟨yb,2,none⟩=some (.int .i64 s.left):=by rw [aa h.ob.y];rfl
 have f2:w.frozen? ⟨yb,2,none⟩=false:=ag h.ob.y 2
 have zz:0 < s.left:=by omega
 have iH:=cX 9 (by omega) (by omega) (lh h hl) (by simp only;omega)
 have hst:=bW raw 9 { s with left:=s.left - 1 }
 have Wr:=cI raw 9 { s with left:=s.left - 1 } (by omega)
 generalize hR:aS raw (f+1) t s=R
 simp only [aS] at hR
 rw [if_neg hl] at hR
 generalize aL raw 9 { s with left:=s.left - 1 }=x at *
 obtain ⟨x1,x2,x3,x4⟩:=hst
 simp only at x1 x2 x3 x4
 skip
 have xT:Hid _:=cO.xO w yb nv 2 (.int .i64 ((s.left:Int) - 1))
 have nu:Hid _:=iH
 clear iH h
 go_enter Tryz.func23,Tryz.ntmps23
 go_wp2_with fail
 refine Calls.mono nu.out ?_
 rintro _ w1 ⟨rfl,hf1,mn⟩
 have dV:Hid _:=xT.out.trans hf1
 have qu:Hid _:=mn
 clear nu xT hf1 mn y2 f2
 rw [if_neg (by omega),if_neg (by omega),if_neg (by omega),if_pos hk] at hR
 have hm:=bW raw 4 x.2
 have sU:=cI raw 4 x.2 (by omega)
 have pG:=cX 4 (by omega) (by omega) qu.out (by omega)
 generalize aL raw 4 x.2=n at *
 obtain ⟨m1,m2,m3,m4⟩:=hm
 have hao:=bX raw f t n.2 ht (by omega) (by rw [m2,x2];omega)
 have hia:=fun W hW=>ih t n.2 nv W ht (by omega) (by rw [m2,x2];omega) (by omega) hW
 generalize aS raw f t n.2=a at *
 obtain ⟨a1,a2,a3,a4,a5,a6,a7,a8⟩:=hao
 have hWt:=@vk t
 have F2:=bX raw f t { a.2 with vars:=a.2.vars++[t] } ht (by simp only;omega) (by simp only [List.length_append,List.length_singleton,a2,m2,x2];omega)
 have hib:=fun nv W hW=>Ig (aS raw f) t t a.2 nv W (fun bB W' h'=>ih t { a.2 with vars:=a.2.vars++[t] } bB W' ht (by simp only;omega) (by simp only [List.length_append,List.length_singleton,a2,m2,x2];omega) (by simp only;omega) h') F2.vars hW (by rw [a2,m2,x2];omega)
 have Wq:=sS (v:=t) F2
 generalize fj (aS raw f) t t a.2=b at *
 obtain ⟨_,b2,_⟩:=Wq
 have EZ:Hid _:=pG
 have Am:Hid _:=hia
 have Ao:Hid _:=hib
 have hbl:b.2.vars.length<=100:=by rw [b2,a2,m2,x2];omega
 have qk:((x.1:Int) == 0)=false:=by rw [beq_eq_false_iff_ne];omega
 have Yy:((x.1:Int) == 1)=false:=by rw [beq_eq_false_iff_ne];omega
 have Yz:((x.1:Int) == 2)=false:=by rw [beq_eq_false_iff_ne];omega
 have qk3:((x.1:Int) == 3)=false:=by rw [beq_eq_false_iff_ne];omega
 have qk4:((x.1:Int) == 4)=true:=by rw [hk];rfl
 clear pG hia hib ih F2
 go_wp2_with fail
 refine Calls.mono EZ.out ?_
 rintro _ w2 ⟨rfl,hf2,hm2⟩
 have qA:=bf (Below.refl _ w2) (.cells (uO [] n.1 (.slice none 0 0)) 59 (0,0))
 have YA:Hid (eS (w2.alloc (.cells (uO [] n.1 (.slice none 0 0)) 59 (0,0))) (.num n.1) w2.heap.size):=aj _ _
 have cx:Hid _:=(dV.out.trans hf2).trans (cO.below qA _ _)
 have o9:Hid _:=hm2.grow qA
 clear hf2 hm2 qA qu dV EZ
 go_wp2_with fail
 refine Calls.mono (Am.out _ o9.out) ?_
 rintro _ w3 ⟨p3,BG,rfl,hf3,Al,qt⟩
 have aaO:Hid _:=eS.fr YA.out o9.out hf3
 have dK:Hid _:=cx.out.trans hf3
 have xR:Hid _:=Al
 have vf:Hid _:=qt
 clear hf3 Al qt o9 cx
 go_wp2_with fail
 refine Calls.mono (Ao.out BG w3 xR.out) ?_
 rintro _ w4 ⟨p4,gK,rfl,dc,sU,vm⟩
 have F3:Hid _:=eS.fr vf.out xR.out dc
 have aaP:Hid _:=eS.fr aaO.out xR.out dc
 have jG:Hid _:=dK.out.trans dc
 have rX:Hid _:=sU
 have Cn:Hid _:=vm
 clear dc sU vm xR dK
 obtain ⟨na,nc,F4,_,_⟩:=rX.out.ob.shape
 rw [fq] at F4
 have y3:w4.cell? ⟨yb,3,none⟩=some (.slice na b.2.vars.length nc):=by rw [aa rX.out.ob.y,<- F4];rfl
 have aaM:=af rX.out.ob.y
 have HR:Hid _:=hR
 have h2:=Ap w4 .loop b.2.vars.length w2.heap.size p3 p4 aaP.out F3.out Cn.out
 have H2:Hid _:=h2
 clear hR h2 F4 b2 Am Ao YA
 go_wp2
 go_ret
 rw [<- HR.out]
 exact ⟨_,gK,rfl,jG.out.trans (cO.below H2.out.1 _ _),rX.out.grow H2.out.1,H2.out.2⟩
theorem J6 {w0:World} {yb:Nat} {rv:Value} {raw:List Int} {f:Nat} (ih:nA w0 yb rv raw f) (t:Nat) (s:jg) (nv:Value) (w:World) (ht:t < 5) (hf:s.left < f+1) (hv:s.vars.length+s.left<=100) (ha:s.at_+40 * s.left+11<=100000) (h:ee w0 w yb rv raw s nv) (hl:s.left≠0) (hk:4 < (aL raw 9 { s with left:=s.left - 1 }).1/\(aL raw 9 { s with left:=s.left - 1 }).1 < 8) (h0:t≠0) :
  Calls Tryz.prog 23 #[.pointer (some ⟨yb,0,none⟩),.int .i64 t] w fun e w'=>∃ p bB,e=.returned (.pointer (some ⟨p,0,none⟩))/\cO w w' yb nv bB/\ee w0 w' yb rv raw (aS raw (f+1) t s).2 bB/\eS w' (aS raw (f+1) t s).1 p:=by
 have nP:=af h.ob.y
 have y2:w.cell? ⟨yb,2,none⟩=some (.int .i64 s.left):=by rw [aa h.ob.y];rfl
 have f2:w.frozen? ⟨yb,2,none⟩=false:=ag h.ob.y 2
 have zz:0 < s.left:=by omega
 have iH:=cX 9 (by omega) (by omega) (lh h hl) (by simp only;omega)
 have hst:=bW raw 9 { s with left:=s.left - 1 }
 have Wr:=cI raw 9 { s with left:=s.left - 1 } (by omega)
 generalize hR:aS raw (f+1) t s=R
 simp only [aS] at hR
 rw [if_neg hl] at hR
 generalize aL raw 9 { s with left:=s.left - 1 }=x at *
 obtain ⟨x1,x2,x3,x4⟩:=hst
 simp only at x1 x2 x3 x4
 skip
 have xT:Hid _:=cO.xO w yb nv 2 (.int .i64 ((s.left:Int) - 1))
 have nu:Hid _:=iH
 clear iH h
 go_enter Tryz.func23,Tryz.ntmps23
 go_wp2_with fail
 refine Calls.mono nu.out ?_
 rintro _ w1 ⟨rfl,hf1,mn⟩
 have dV:Hid _:=xT.out.trans hf1
 have qu:Hid _:=mn
 clear nu xT hf1 mn y2 f2
 rw [if_neg (by omega),if_neg (by omega),if_neg (by omega),if_neg (by omega),if_pos hk.2,if_neg h0] at hR
 have hp:=xN ht h0
 have hfi:fI t=((fT t:Nat):Int):=by unfold fI;rw [if_neg h0]
 have hsi:sI t=((sT t:Nat):Int):=by unfold sI;rw [if_neg h0]
 have hfs:=nn t ht
 have zH:=lT t ht
 rw [hfi] at hfs
 rw [hsi] at zH
 have Lc:Hid _:=hfs
 have Pp:Hid _:=zH
 have hao:=bX raw f (fT t) x.2 hp.2.2.2.2.1 (by omega) (by rw [x2];omega)
 have hia:=fun W hW=>ih (fT t) x.2 nv W hp.2.2.2.2.1 (by omega) (by rw [x2];omega) (by omega) hW
 have hWf:=@vk (fT t)
 generalize aS raw f (fT t) x.2=a at *
 obtain ⟨a1,a2,a3,a4,a5,a6,a7,a8⟩:=hao
 have hib:=fun nv W hW=>ih (sT t) a.2 nv W hp.2.2.2.2.2 (by omega) (by rw [a2,x2];omega) (by omega) hW
 generalize aS raw f (sT t) a.2=b at *
 have Am:Hid _:=hia
 have Ao:Hid _:=hib
 have q0:((t:Int) == 0)=false:=by rw [beq_eq_false_iff_ne];omega
 have qk0:((x.1:Int) == 0)=false:=by rw [beq_eq_false_iff_ne];omega
 have Yy:((x.1:Int) == 1)=false:=by rw [beq_eq_false_iff_ne];omega
 have Yz:((x.1:Int) == 2)=false:=by rw [beq_eq_false_iff_ne];omega
 have qk3:((x.1:Int) == 3)=false:=by rw [beq_eq_false_iff_ne];omega
 have qk4:((x.1:Int) == 4)=false:=by rw [beq_eq_false_iff_ne];omega
 clear hia hib ih hfi hsi hfs zH hp
 go_wp2_with fail
 refine Calls.mono (Lc.out _) ?_
 rintro _ w2 ⟨rfl,hb2⟩
 have cx:Hid _:=dV.out.trans (cO.below hb2 _ _)
 have o9:Hid _:=qu.out.grow hb2
 clear hb2 dV qu
 go_wp2_with fail
 refine Calls.mono (Am.out w2 o9.out) ?_
 rintro _ w3 ⟨p3,BG,rfl,hf3,Al,qt⟩
 have dK:Hid _:=cx.out.trans hf3
 have xR:Hid _:=Al
 have vf:Hid _:=qt
 clear hf3 Al qt o9 cx
 go_wp2_with fail
 refine Calls.mono (Pp.out _) ?_
 rintro _ w4 ⟨rfl,hb4⟩
 have jG:Hid _:=dK.out.trans (cO.below hb4 _ _)
 have rX:Hid _:=xR.out.grow hb4
 have Cn:Hid _:=vf.out.below hb4
 clear hb4 dK xR vf
 go_wp2_with fail
 refine Calls.mono (Ao.out BG w4 rX.out) ?_
 rintro _ w5 ⟨p5,FM,rfl,eG,Ck,Ng⟩
 have U6:Hid _:=eS.fr Cn.out rX.out eG
 have fS:Hid _:=jG.out.trans eG
 have Nh:Hid _:=Ck
 have Ie:Hid _:=Ng
 clear eG Ck Ng rX jG
 have HR:Hid _:=hR
 have h2:=mI w5 .pair 0 p3 p5 U6.out Ie.out
 have H2:Hid _:=h2
 clear hR h2 Am Ao Lc Pp
 go_wp2
 go_ret
 rw [<- HR.out]
 exact ⟨_,FM,rfl,fS.out.trans (cO.below H2.out.1 _ _),Nh.out.grow H2.out.1,H2.out.2⟩
theorem J7 {w0:World} {yb:Nat} {rv:Value} {raw:List Int} {f:Nat} (ih:nA w0 yb rv raw f) (t:Nat) (s:jg) (nv:Value) (w:World) (ht:t < 5) (hf:s.left < f+1) (hv:s.vars.length+s.left<=100) (ha:s.at_+40 * s.left+11<=100000) (h:ee w0 w yb rv raw s nv) (hl:s.left≠0) (hk:8<=(aL raw 9 { s with left:=s.left - 1 }).1) :
  Calls Tryz.prog 23 #[.pointer (some ⟨yb,0,none⟩),.int .i64 t] w fun e w'=>∃ p bB,e=.returned (.pointer (some ⟨p,0,none⟩))/\cO w w' yb nv bB/\ee w0 w' yb rv raw (aS raw (f+1) t s).2 bB/\eS w' (aS raw (f+1) t s).1 p:=by
 have nP:=af h.ob.y
 have y2:w.cell? ⟨yb,2,none⟩=some (.int .i64 s.left):=by rw [aa h.ob.y];rfl
 have f2:w.frozen? ⟨yb,2,none⟩=false:=ag h.ob.y 2
 have zz:0 < s.left:=by omega
 have iH:=cX 9 (by omega) (by omega) (lh h hl) (by simp only;omega)
 have hst:=bW raw 9 { s with left:=s.left - 1 }
 have Wr:=cI raw 9 { s with left:=s.left - 1 } (by omega)
 generalize hR:aS raw (f+1) t s=R
 simp only [aS] at hR
 rw [if_neg hl] at hR
 generalize aL raw 9 { s with left:=s.left - 1 }=x at *
 obtain ⟨x1,x2,x3,x4⟩:=hst
 simp only at x1 x2 x3 x4
 skip
 have xT:Hid _:=cO.xO w yb nv 2 (.int .i64 ((s.left:Int) - 1))
 have nu:Hid _:=iH
 clear iH h
 go_enter Tryz.func23,Tryz.ntmps23
 go_wp2_with fail
 refine Calls.mono nu.out ?_
 rintro _ w1 ⟨rfl,hf1,mn⟩
 have dV:Hid _:=xT.out.trans hf1
 have qu:Hid _:=mn
 clear nu xT hf1 mn y2 f2
 rw [if_neg (by omega),if_neg (by omega),if_neg (by omega),if_neg (by omega),if_neg (by omega)] at hR
 have hlf:=xQ 3 t x.2 nv w1 ht (by unfold dep;split <;> (try split) <;> omega) qu.out (by rw [x2];omega) (by have:=@vk t;omega)
 rw [hR] at hlf
 have U7:Hid _:=hlf
 have qk0:((x.1:Int) == 0)=false:=by rw [beq_eq_false_iff_ne];omega
 have Yy:((x.1:Int) == 1)=false:=by rw [beq_eq_false_iff_ne];omega
 have Yz:((x.1:Int) == 2)=false:=by rw [beq_eq_false_iff_ne];omega
 have qk3:((x.1:Int) == 3)=false:=by rw [beq_eq_false_iff_ne];omega
 have qk4:((x.1:Int) == 4)=false:=by rw [beq_eq_false_iff_ne];omega
 have hff:=hf
 have hii:=ih
 clear hlf qu ih hii hff
 go_wp2_with fail
 refine Calls.mono U7.out ?_
 rintro _ w2 ⟨p,rfl,hf2,hm2,hk2⟩
 have cx:Hid _:=dV.out.trans hf2
 have o9:Hid _:=hm2
 have nQ:Hid _:=hk2
 clear hf2 hm2 hk2 dV U7
 go_wp2
 go_ret
 exact ⟨p,nv,rfl,cx.out,o9.out,nQ.out⟩
def oM (raw:List Int) (f t:Nat) (s:jg):KE × jg :=
 match iN t (aL raw 4 s).1 0 10 with
 | some q=>(.n1 q.1 (aS raw f q.2 (aL raw 4 s).2).1,(aS raw f q.2 (aL raw 4 s).2).2)
 | none=>dJ raw 3 t (aL raw 4 s).2
theorem F5 (t k i n:Nat):iN t k i (n+1)=if (i+k) / 5 % 2=1 then (if sI ((i+k) % 5)=t then some (.snd,(i+k) % 5) else iN t k (i+1) n) else (if fI ((i+k) % 5)=t then some (.fst,(i+k) % 5) else iN t k (i+1) n):=rfl
theorem DH (w:World) (k:Kw) (pa:Nat) {a:KE} (ha:eS w a pa) :
  Below w.heap.size w ((w.alloc (.cells #[.pointer (some ⟨pa,0,none⟩)] 23 (0,0))).alloc (.cells (uO k.bytes 0 (.slice (some ⟨w.heap.size,0,none⟩) 1 1)) 59 (0,0))) /\
  eS ((w.alloc (.cells #[.pointer (some ⟨pa,0,none⟩)] 23 (0,0))).alloc (.cells (uO k.bytes 0 (.slice (some ⟨w.heap.size,0,none⟩) 1 1)) 59 (0,0))) (.n1 k a) (w.heap.size+1):=by
 have h1:=bf (Below.refl _ w) (.cells #[.pointer (some ⟨pa,0,none⟩)] 23 (0,0))
 have h2:=bf h1 (.cells (uO k.bytes 0 (.slice (some ⟨w.heap.size,0,none⟩) 1 1)) 59 (0,0))
 refine ⟨h2,w.heap.size,pa,?_,?_,ha.below h2⟩
 ·have:=aj (w.alloc (.cells #[.pointer (some ⟨pa,0,none⟩)] 23 (0,0))) (.cells (uO k.bytes 0 (.slice (some ⟨w.heap.size,0,none⟩) 1 1)) 59 (0,0))
  simpa using this
 ·rw [Below.heap_alloc _ _ _ (by simp)];exact aj _ _
theorem Nl {w0:World} {yb:Nat} {rv:Value} {raw:List Int} {f:Nat} (ih:nA w0 yb rv raw f) (t:Nat) (s:jg) (nv:Value) (w:World) (ht:t < 5) (hf:s.left < f) (hv:s.vars.length+s.left<=100) (ha:s.at_+40 * s.left+12<=100000) (h:ee w0 w yb rv raw s nv) :
  Calls Tryz.prog 40 #[.pointer (some ⟨yb,0,none⟩),.int .i64 t] w fun e w'=>∃ p bB,e=.returned (.pointer (some ⟨p,0,none⟩))/\cO w w' yb nv bB/\ee w0 w' yb rv raw (oM raw f t s).2 bB/\eS w' (oM raw f t s).1 p:=by
 have iH:=cX 4 (by omega) (by omega) h (by omega)
 have hst:=bW raw 4 s
 have vm:=cI raw 4 s (by omega)
 have hS:∀ q,iN t (aL raw 4 s).1 0 10=some q->oM raw f t s=(.n1 q.1 (aS raw f q.2 (aL raw 4 s).2).1,(aS raw f q.2 (aL raw 4 s).2).2):=fun q hq=>by unfold oM;rw [hq]
 have hN:iN t (aL raw 4 s).1 0 10=none->oM raw f t s=dJ raw 3 t (aL raw 4 s).2:=fun hq=>by unfold oM;rw [hq]
 have htg:=fun q=>DA t ht (aL raw 4 s).1 vm q
 generalize oM raw f t s=R at *
 generalize aL raw 4 s=x at *
 obtain ⟨x1,x2,x3,x4⟩:=hst
 have HS:Hid _:=hS
 have HN:Hid _:=hN
 have HTG:Hid _:=htg
 have nu:Hid _:=iH
 have U7:Hid _:=fun W (hW:ee w0 W yb rv raw x.2 nv)=>xQ 3 t x.2 nv W ht (by unfold dep;split <;> (try split) <;> omega) hW (by rw [x2];omega) (by have:=@vk t;omega)
 have HIH:Hid _:=fun (p:Nat) (hp:p < 5) W hW=>ih p x.2 nv W hp (by omega) (by rw [x2];omega) (by omega) hW
 clear hS hN htg iH h ih
 obtain ⟨k,s1⟩:=x
 simp only at *
 go_enter Tryz.func40,Tryz.ntmps40
 go_wp2_with fail
 refine Calls.mono nu.out ?_
 rintro _ w1 ⟨rfl,hf1,mn⟩
 have dV:Hid _:=hf1
 have qu:Hid _:=mn
 clear hf1 mn nu
 go_wp2_with fail
 go_loopw [6] (fun i wr=>∃ j:Nat,j<=10/\i=.int .i64 j/\iN t k 0 10=iN t k j (10 - j)/\Below w1.heap.size w1 wr) (fun i _=>10 - (intOf i).toNat)
 case atStart=>exact ⟨0,by omega,rfl,rfl,Below.refl _ _⟩
 case round =>
  obtain ⟨j,hj,rfl,htk,hbel⟩:=hrel
  have hsz:=hbel.size
  have HB:Hid _:=hbel
  by_cases hlt:j < 10
  ·obtain ⟨n,hn⟩:∃ n,10 - j=n+1:=⟨9 - j,by omega⟩
   have hn9:n=10 - (j+1):=by omega
   rw [hn] at htk
   replace htk:=htk.trans (F5 t k j n)
   rw [hn9] at htk
   have YB:(j+k) % 5 < 5:=Nat.mod_lt _ (by omega)
   have Lc:Hid _:=nn ((j+k) % 5) YB
   have Pp:Hid _:=lT ((j+k) % 5) YB
   have e1:((j:Int)+(k:Int)) % 5=(((j+k) % 5:Nat):Int):=by omega
   have iY:Hid _:=htk
   clear htk hbel hn hn9
   obtain ⟨p,hp⟩:∃ p,p=(j+k) % 5:=⟨_,rfl⟩
   rw [<- hp] at e1 iY Lc Pp YB
   by_cases hod:(j+k) / 5 % 2=1
   ·have e2:((j:Int)+(k:Int)) / 5 % 2=1:=by omega
    have sV:Hid (iN t k 0 10=if sI p=t then some (.snd,p) else iN t k (j+1) (10 - (j+1))):=by have:=iY.out;rw [if_pos hod] at this;exact this
    clear iY hp hod
    go_wp2_with fail
    refine Calls.mono (Lc.out _) ?_
    rintro _ w2 ⟨rfl,hb2⟩
    have dU:Hid _:=HB.out.trans (hb2.mono hsz)
    have FP:=dU.out.size
    clear hb2 Lc
    go_wp2_with fail
    refine Calls.mono (Pp.out _) ?_
    rintro _ w3 ⟨rfl,hb3⟩
    have iV:Hid _:=dU.out.trans (hb3.mono FP)
    clear hb3 Pp
    by_cases hh:sI p=t
    ·have qh:(sI p == (t:Int))=true:=by rw [hh];simp
     have hq:iN t k 0 10=some (.snd,p):=by rw [sV.out,if_pos hh]
     have HR:Hid _:=HS.out _ hq
     have SF:Hid _:=qu.out.grow iV.out
     clear hh hq sV
     go_wp2_with fail
     refine Calls.mono (HIH.out p YB w3 SF.out) ?_
     rintro _ w4 ⟨pa,gK,rfl,dc,sU,vm⟩
     have jG:Hid _:=(dV.out.trans (cO.below iV.out _ _)).trans dc
     have rX:Hid _:=sU
     have H2:Hid _:=DH w4 .snd pa vm
     clear dc sU vm
     go_wp2
     go_ret
     rw [HR.out]
     exact ⟨_,gK,rfl,jG.out.trans (cO.below H2.out.1 _ _),rX.out.grow H2.out.1,H2.out.2⟩
    ·have qh:(sI p == (t:Int))=false:=by rw [beq_eq_false_iff_ne];exact hh
     have HQ:Hid _:=sV.out.trans (if_neg hh)
     clear hh sV
     go_wp2
     go_roundw
     case rel=>exact ⟨j+1,by omega,by go_num,HQ.out,iV.out⟩
     case measure=>simp [intOf];omega
   ·have e2:((j:Int)+(k:Int)) / 5 % 2=0:=by omega
    have sV:Hid (iN t k 0 10=if fI p=t then some (.fst,p) else iN t k (j+1) (10 - (j+1))):=by have:=iY.out;rw [if_neg hod] at this;exact this
    clear iY hp hod
    go_wp2_with fail
    refine Calls.mono (Lc.out _) ?_
    rintro _ w2 ⟨rfl,hb2⟩
    have iV:Hid _:=HB.out.trans (hb2.mono hsz)
    clear hb2 Lc
    by_cases hh:fI p=t
    ·have qh:(fI p == (t:Int))=true:=by rw [hh];simp
     have hq:iN t k 0 10=some (.fst,p):=by rw [sV.out,if_pos hh]
     have HR:Hid _:=HS.out _ hq
     have SF:Hid _:=qu.out.grow iV.out
     clear hh hq sV
     go_wp2_with fail
     refine Calls.mono (HIH.out p YB w2 SF.out) ?_
     rintro _ w4 ⟨pa,gK,rfl,dc,sU,vm⟩
     have jG:Hid _:=(dV.out.trans (cO.below iV.out _ _)).trans dc
     have rX:Hid _:=sU
     have H2:Hid _:=DH w4 .fst pa vm
     clear dc sU vm
     go_wp2
     go_ret
     rw [HR.out]
     exact ⟨_,gK,rfl,jG.out.trans (cO.below H2.out.1 _ _),rX.out.grow H2.out.1,H2.out.2⟩
    ·have qh:(fI p == (t:Int))=false:=by rw [beq_eq_false_iff_ne];exact hh
     have HQ:Hid _:=sV.out.trans (if_neg hh)
     clear hh sV
     go_wp2
     go_roundw
     case rel=>exact ⟨j+1,by omega,by go_num,HQ.out,iV.out⟩
     case measure=>simp [intOf];omega
  ·have zO:j=10:=by omega
   subst zO
   have HR:Hid _:=HN.out htk
   have SF:Hid _:=qu.out.grow HB.out
   clear htk hbel
   go_wp2_with fail
   refine Calls.mono (U7.out _ SF.out) ?_
   rintro _ w2 ⟨p,rfl,hf2,hm2,hk2⟩
   have cx:Hid _:=(dV.out.trans (cO.below HB.out _ _)).trans hf2
   have o9:Hid _:=hm2
   have nQ:Hid _:=hk2
   clear hf2 hm2 hk2
   go_wp2
   go_ret
   rw [HR.out]
   exact ⟨p,nv,rfl,cx.out,o9.out,nQ.out⟩
theorem Tryz.J8:(Tryz.prog.info? 81).map (·.size)=some 3:=by kernel_rfl
theorem Q1 {w0:World} {yb:Nat} {rv:Value} {raw:List Int} {f:Nat} (ih:nA w0 yb rv raw f) (t:Nat) (s:jg) (nv:Value) (w:World) (ht:t < 5) (hf:s.left < f+1) (hv:s.vars.length+s.left<=100) (ha:s.at_+40 * s.left+11<=100000) (h:ee w0 w yb rv raw s nv) (hl:s.left≠0) (hk:4 < (aL raw 9 { s with left:=s.left - 1 }).1/\(aL raw 9 { s with left:=s.left - 1 }).1 < 8) (h0:t=0) :
  Calls Tryz.prog 23 #[.pointer (some ⟨yb,0,none⟩),.int .i64 t] w fun e w'=>∃ p bB,e=.returned (.pointer (some ⟨p,0,none⟩))/\cO w w' yb nv bB/\ee w0 w' yb rv raw (aS raw (f+1) t s).2 bB/\eS w' (aS raw (f+1) t s).1 p:=by
 have nP:=af h.ob.y
 have y2:w.cell? ⟨yb,2,none⟩=some (.int .i64 s.left):=by rw [aa h.ob.y];rfl
 have f2:w.frozen? ⟨yb,2,none⟩=false:=ag h.ob.y 2
 have zz:0 < s.left:=by omega
 have iH:=cX 9 (by omega) (by omega) (lh h hl) (by simp only;omega)
 have hst:=bW raw 9 { s with left:=s.left - 1 }
 have Wr:=cI raw 9 { s with left:=s.left - 1 } (by omega)
 generalize hR:aS raw (f+1) t s=R
 simp only [aS] at hR
 rw [if_neg hl] at hR
 generalize aL raw 9 { s with left:=s.left - 1 }=x at *
 obtain ⟨x1,x2,x3,x4⟩:=hst
 simp only at x1 x2 x3 x4
 skip
 have xT:Hid _:=cO.xO w yb nv 2 (.int .i64 ((s.left:Int) - 1))
 have nu:Hid _:=iH
 clear iH h
 go_enter Tryz.func23,Tryz.ntmps23
 go_wp2_with fail
 refine Calls.mono nu.out ?_
 rintro _ w1 ⟨rfl,hf1,mn⟩
 have dV:Hid _:=xT.out.trans hf1
 have qu:Hid _:=mn
 clear nu xT hf1 mn y2 f2
 rw [if_neg (by omega),if_neg (by omega),if_neg (by omega),if_neg (by omega),if_pos hk.2,if_pos h0] at hR
 subst h0
 have hm:=bW raw 3 x.2
 have PU:=cI raw 3 x.2 (by omega)
 have pG:=fun W hW=>cX (w:=W) 3 (by omega) (by omega) (qu.out.grow hW) (by omega)
 generalize aL raw 3 x.2=o at *
 obtain ⟨m1,m2,m3,m4⟩:=hm
 have hao:=bX raw f 0 o.2 (by omega) (by omega) (by rw [m2,x2];omega)
 have hia:=fun W hW=>ih 0 o.2 nv W (by omega) (by omega) (by rw [m2,x2];omega) (by omega) hW
 have G9:=@vk 0
 generalize aS raw f 0 o.2=a at *
 obtain ⟨a1,a2,a3,a4,a5,a6,a7,a8⟩:=hao
 have hib:=fun nv W hW=>ih 0 a.2 nv W (by omega) (by omega) (by rw [a2,m2,x2];omega) (by omega) hW
 generalize aS raw f 0 a.2=b at *
 have EZ:Hid _:=pG
 have Am:Hid _:=hia
 have Ao:Hid _:=hib
 have HR:Hid _:=hR
 have qk0:((x.1:Int) == 0)=false:=by rw [beq_eq_false_iff_ne];omega
 have Yy:((x.1:Int) == 1)=false:=by rw [beq_eq_false_iff_ne];omega
 have Yz:((x.1:Int) == 2)=false:=by rw [beq_eq_false_iff_ne];omega
 have qk3:((x.1:Int) == 3)=false:=by rw [beq_eq_false_iff_ne];omega
 have qk4:((x.1:Int) == 4)=false:=by rw [beq_eq_false_iff_ne];omega
 clear pG hia hib ih hR
 go_wp2_with (refine jq rfl 81 (.tmp 15) (.tmp 119) rfl w1.heap.size #[.string ⟨#[97,100,100]⟩,.string ⟨#[115,117,98]⟩,.string ⟨#[108,101,115,115]⟩] rfl rfl 81 _ (aj _ _) Tryz.J8 rfl (by simp [Value.oneCell']) ?_;intro W hW lH mP hW1 hW2 hW3)
 have hbW:Below w1.heap.size w1 W:=fp (Below.alloc (Below.refl _ w1) (Nat.le_refl _) _) (Nat.le_refl _) lH mP hW1 hW2 hW3
 have SF:Hid _:=qu.out.grow hbW
 have HFW:Hid _:=dV.out.trans (cO.below hbW _ _)
 have yR:Hid _:=hbW
 have HQ:Hid _:=hW
 clear lH mP hW1 hW2 hW3 hbW hW qu dV
 refine Calls.mono (EZ.out W yR.out) ?_
 rintro _ w2 ⟨rfl,hf2,hm2⟩
 have O9:=SF.out.ob.other hf2 (by decide) (by decide) HQ.out
 have hqc:w2.cell? ⟨w1.heap.size,o.1,none⟩=some (.string (bs (QV o.1).bytes)):=by
  rw [aa O9]
  have h3:o.1=0\/o.1=1\/o.1=2:=by omega
  rcases h3 with h | h | h <;> rw [h] <;> rfl
 have V5:w1.heap.size < w2.heap.size:=af O9
 have cx:Hid _:=HFW.out.trans hf2
 have o9:Hid _:=hm2
 clear hf2 hm2 SF HFW yR HQ EZ O9
 generalize w1.heap.size=q at *
 go_wp2_with fail
 refine Calls.mono (Am.out w2 o9.out) ?_
 rintro _ w3 ⟨p3,BG,rfl,hf3,Al,qt⟩
 have dK:Hid _:=cx.out.trans hf3
 have xR:Hid _:=Al
 have vf:Hid _:=qt
 clear hf3 Al qt o9 cx
 go_wp2_with fail
 refine Calls.mono (Ao.out BG w3 xR.out) ?_
 rintro _ w4 ⟨p4,gK,rfl,dc,sU,vm⟩
 have F3:Hid _:=eS.fr vf.out xR.out dc
 have jG:Hid _:=dK.out.trans dc
 have rX:Hid _:=sU
 have Cn:Hid _:=vm
 clear dc sU vm xR dK
 have h2:=mI w4 (QV o.1) 0 p3 p4 F3.out Cn.out
 have H2:Hid _:=h2
 clear h2 Am Ao
 go_wp2
 go_ret
 rw [<- HR.out]
 exact ⟨_,gK,rfl,jG.out.trans (cO.below H2.out.1 _ _),rX.out.grow H2.out.1,H2.out.2⟩
theorem F6 {w0:World} {yb:Nat} {rv:Value} {raw:List Int} {f:Nat} (ih:nA w0 yb rv raw f) (t:Nat) (s:jg) (nv:Value) (w:World) (ht:t < 5) (hf:s.left < f+1) (hv:s.vars.length+s.left<=100) (ha:s.at_+40 * s.left+11<=100000) (h:ee w0 w yb rv raw s nv) (hl:s.left≠0) (hk:(aL raw 9 { s with left:=s.left - 1 }).1=2\/(aL raw 9 { s with left:=s.left - 1 }).1=3) :
  Calls Tryz.prog 23 #[.pointer (some ⟨yb,0,none⟩),.int .i64 t] w fun e w'=>∃ p bB,e=.returned (.pointer (some ⟨p,0,none⟩))/\cO w w' yb nv bB/\ee w0 w' yb rv raw (aS raw (f+1) t s).2 bB/\eS w' (aS raw (f+1) t s).1 p:=by
 have nP:=af h.ob.y
 have y2:w.cell? ⟨yb,2,none⟩=some (.int .i64 s.left):=by rw [aa h.ob.y];rfl
 have f2:w.frozen? ⟨yb,2,none⟩=false:=ag h.ob.y 2
 have zz:0 < s.left:=by omega
 have iH:=cX 9 (by omega) (by omega) (lh h hl) (by simp only;omega)
 have hst:=bW raw 9 { s with left:=s.left - 1 }
 have Wr:=cI raw 9 { s with left:=s.left - 1 } (by omega)
 generalize hR:aS raw (f+1) t s=R
 simp only [aS] at hR
 rw [if_neg hl] at hR
 generalize aL raw 9 { s with left:=s.left - 1 }=x at *
 obtain ⟨x1,x2,x3,x4⟩:=hst
 simp only at x1 x2 x3 x4
 skip
 have xT:Hid _:=cO.xO w yb nv 2 (.int .i64 ((s.left:Int) - 1))
 have nu:Hid _:=iH
 clear iH h
 go_enter Tryz.func23,Tryz.ntmps23
 go_wp2_with fail
 refine Calls.mono nu.out ?_
 rintro _ w1 ⟨rfl,hf1,mn⟩
 have dV:Hid _:=xT.out.trans hf1
 have qu:Hid _:=mn
 clear nu xT hf1 mn y2 f2
 rw [if_neg (by omega),if_neg (by omega),if_pos hk] at hR
 have htk:=Nl ih t x.2 nv w1 ht (by omega) (by rw [x2];omega) (by omega) qu.out
 have iY:Hid _:=htk
 have HR:Hid (oM raw f t x.2=R):=by rw [<- hR];rfl
 have qk0:((x.1:Int) == 0)=false:=by rw [beq_eq_false_iff_ne];omega
 have Yy:((x.1:Int) == 1)=false:=by rw [beq_eq_false_iff_ne];omega
 clear htk hR ih qu
 have h23:x.1=2\/x.1=3:=hk
 rcases h23 with h2 | h3
 ·have Yz:((x.1:Int) == 2)=true:=by rw [h2];rfl
  clear hk h2
  go_wp2_with fail
  refine Calls.mono iY.out ?_
  rintro _ w2 ⟨p,cz,rfl,hf2,hm2,hk2⟩
  have cx:Hid _:=dV.out.trans hf2
  have o9:Hid _:=hm2
  have nQ:Hid _:=hk2
  clear hf2 hm2 hk2 iY
  go_wp2
  go_ret
  rw [<- HR.out]
  exact ⟨p,cz,rfl,cx.out,o9.out,nQ.out⟩
 ·have Yz:((x.1:Int) == 2)=false:=by rw [h3];rfl
  have qk3:((x.1:Int) == 3)=true:=by rw [h3];rfl
  clear hk h3
  go_wp2_with fail
  refine Calls.mono iY.out ?_
  rintro _ w2 ⟨p,cz,rfl,hf2,hm2,hk2⟩
  have cx:Hid _:=dV.out.trans hf2
  have o9:Hid _:=hm2
  have nQ:Hid _:=hk2
  clear hf2 hm2 hk2 iY
  go_wp2
  go_ret
  rw [<- HR.out]
  exact ⟨p,cz,rfl,cx.out,o9.out,nQ.out⟩
theorem J9 {w0:World} {yb:Nat} {rv:Value} {raw:List Int} {f:Nat} (t:Nat) (s:jg) (nv:Value) (w:World) (ht:t < 5) (hv:s.vars.length+s.left<=100) (ha:s.at_+40 * s.left+11<=100000) (h:ee w0 w yb rv raw s nv) (hl:s.left=0) :
  Calls Tryz.prog 23 #[.pointer (some ⟨yb,0,none⟩),.int .i64 t] w fun e w'=>∃ p bB,e=.returned (.pointer (some ⟨p,0,none⟩))/\cO w w' yb nv bB/\ee w0 w' yb rv raw (aS raw (f+1) t s).2 bB/\eS w' (aS raw (f+1) t s).1 p:=by
 have nP:=af h.ob.y
 have y2:w.cell? ⟨yb,2,none⟩=some (.int .i64 0):=by rw [aa h.ob.y,<- Int.natCast_zero,<- hl];rfl
 have hR:aS raw (f+1) t s=dJ raw 3 t s:=by simp only [aS];rw [if_pos hl]
 rw [hR]
 have U7:Hid _:=xQ 3 t s nv w ht (by unfold dep;split <;> (try split) <;> omega) h (by omega) (by have:=@vk t;omega)
 clear h hR
 go_enter Tryz.func23,Tryz.ntmps23
 go_wp2_with fail
 refine Calls.mono U7.out ?_
 rintro _ w2 ⟨p,rfl,hf2,hm2,hk2⟩
 have cx:Hid _:=hf2
 have o9:Hid _:=hm2
 have nQ:Hid _:=hk2
 clear hf2 hm2 hk2 U7
 go_wp2
 go_ret
 exact ⟨p,nv,rfl,cx.out,o9.out,nQ.out⟩
theorem DI {w0:World} {yb:Nat} {rv:Value} {raw:List Int}:∀ f,nA w0 yb rv raw f
 | 0=>fun _ _ _ _ _ h=>absurd h (by omega)
 | f+1=>fun t s nv w ht hf hv ha h=>by
  by_cases hl:s.left=0
  ·exact J9 t s nv w ht hv ha h hl
  ·have ih:=DI (w0:=w0) (yb:=yb) (rv:=rv) (raw:=raw) f
   have h9:=cI raw 9 { s with left:=s.left - 1 } (by omega)
   by_cases h0:(aL raw 9 { s with left:=s.left - 1 }).1=0
   ·exact Nk ih t s nv w ht hf hv ha h hl h0
   by_cases h1:(aL raw 9 { s with left:=s.left - 1 }).1=1
   ·exact Q0 ih t s nv w ht hf hv ha h hl h1
   by_cases h2:(aL raw 9 { s with left:=s.left - 1 }).1=2\/(aL raw 9 { s with left:=s.left - 1 }).1=3
   ·exact F6 ih t s nv w ht hf hv ha h hl h2
   by_cases h4:(aL raw 9 { s with left:=s.left - 1 }).1=4
   ·exact J5 ih t s nv w ht hf hv ha h hl h4
   by_cases h8:(aL raw 9 { s with left:=s.left - 1 }).1 < 8
   ·by_cases ht0:t=0
    ·exact Q1 ih t s nv w ht hf hv ha h hl ⟨by omega,h8⟩ ht0
    ·exact J6 ih t s nv w ht hf hv ha h hl ⟨by omega,h8⟩ ht0
   ·exact J7 ih t s nv w ht hf hv ha h hl (by omega)
theorem Ka (w:World) (t:Int) (rv:Value) (raw:List Int) (ht:Wn t) (h:qy w rv raw) :
  Calls Tryz.prog 8 #[.int .i64 t,rv] w fun e w'=>∃ p,e=.returned (.pointer (some ⟨p,0,none⟩))/\Below w.heap.size w w'/\eS w' (rH t raw) p:=by
 obtain ⟨ra,rn,rc,rfl⟩:∃ ra rn rc,rv=.slice ra rn rc:=by
  rcases h.2 with ⟨h1,_⟩ | ⟨a,cap,h1,_,_⟩
  ·exact ⟨_,_,_,h1⟩
  ·exact ⟨_,_,_,h1⟩
 have yU:ee w (w.alloc (.cells (lS (.slice ra rn rc) ⟨0,24,[]⟩ (.slice none 0 0)) 49 (0,0))) w.heap.size (.slice ra rn rc) raw ⟨0,24,[]⟩ (.slice none 0 0):=by
  refine ⟨h,⟨bf (Below.refl _ w) _,Nat.le_refl _,aj _ _,World.ownsRow_nil _ _ _ _,by simp [Value.ownBlock]⟩⟩
 have hpk:=fun W=>DB t 5 W ht (by omega) (by omega)
 have h5:=sR t 5 (by omega)
 have hmk:=DI (w0:=w) (yb:=w.heap.size) (rv:=.slice ra rn rc) (raw:=raw) 25 (lf t 5) ⟨0,24,[]⟩ (.slice none 0 0) _ h5 (by simp) (by simp) (by simp) yU
 have HPK:Hid _:=hpk
 have SE:Hid _:=hmk
 clear yU hpk hmk h
 go_enter Tryz.func8,Tryz.ntmps8
 go_wp2_with fail
 refine Calls.mono (HPK.out _) ?_
 rintro _ w2 ⟨rfl,rfl⟩
 go_wp2_with fail
 refine Calls.mono SE.out ?_
 rintro _ w3 ⟨p,bB,rfl,hf,hm,hk⟩
 have HB:Hid _:=hm.ob.b0
 have HK:Hid (eS w3 (rH t raw) p):=hk
 clear hf hm hk SE HPK
 go_wp2
 go_ret
 exact ⟨p,rfl,HB.out,HK.out⟩
open Go.Lib (decDigits)
theorem df (n:Nat) (h:n < 256):(UInt8.ofNat n).toNat=n:=by simp;omega
theorem jw (u:Nat):aq (decDigits u)=u:=by
 induction u using Nat.strongRecOn with
 | _ u ih =>
  rw [decDigits]
  split
  ·rename_i h
   have e:(UInt8.ofNat (48+u)).toNat=48+u:=df _ (by omega)
   have hne:UInt8.ofNat (48+u)≠35:=by intro hc;rw [hc] at e;simp at e;omega
   simp only [aq,List.foldl_cons,List.foldl_nil,if_neg hne,e];omega
  ·rename_i h
   have e:(UInt8.ofNat (48+u % 10)).toNat=48+u % 10:=df _ (by omega)
   have hne:UInt8.ofNat (48+u % 10)≠35:=by intro hc;rw [hc] at e;simp at e;omega
   rw [uu,if_neg hne,ih _ (by omega),e];omega
theorem Nn (u:Nat):decDigits u≠[]:=by rw [decDigits];split <;> simp
theorem Np (u:Nat) (h:0 < u):(decDigits u).head?≠some 48:=by
 induction u using Nat.strongRecOn with
 | _ u ih =>
  rw [decDigits]
  split
  ·rename_i h1
   have e:(UInt8.ofNat (48+u)).toNat=48+u:=df _ (by omega)
   intro hc
   simp only [List.head?_cons,Option.some.injEq] at hc
   rw [hc] at e;simp at e;omega
  ·rename_i h1
   have:=ih (u / 10) (by omega) (by omega)
   cases hd:decDigits (u / 10) with
   | nil=>exact absurd hd (Nn _)
   | cons a r=>rw [hd] at this;simpa using this
theorem sW (u m:Nat) (h:(decDigits u).length<=m):xL (decDigits u) m:=by
 refine ⟨fun c hc=>?_,?_⟩
 ·have:=zU u c hc
  unfold wy at this
  simp only [Bool.and_eq_true,decide_eq_true_eq] at this
  unfold jX
  simp only [Bool.and_eq_true,decide_eq_true_eq]
  omega
 ·unfold cj
  have hp:0 < (decDigits u).length:=List.length_pos_iff.2 (Nn u)
  have hl:(decDigits u).length=1\/(decDigits u).head?≠some 48:=by
   rcases Nat.eq_zero_or_pos u with rfl | hu
   ·left;rw [decDigits];simp
   ·exact Or.inr (Np u hu)
  simp only [Bool.and_eq_true,Bool.or_eq_true,decide_eq_true_eq,bne_iff_ne]
  exact ⟨⟨hp,h⟩,hl⟩
theorem DJ (u:Nat) (h:u<=99):(decDigits u).length<=2:=by
 rw [decDigits];split
 ·simp
 ·rw [decDigits];split
  ·simp
  ·omega
theorem DK (u:Nat) (h:u<=999):(decDigits u).length<=3:=by
 rw [decDigits];split
 ·simp
 ·rw [decDigits];split
  ·simp
  ·rw [decDigits];split
   ·simp
   ·omega
def bG (n:Nat):List UInt8:=[UInt8.ofNat (97+n / 26 % 26),UInt8.ofNat (97+n % 26),118]
theorem Aq {a b:Nat} (ha:a < 676) (hb:b < 676) (h:bG a=bG b):a=b:=by
 simp only [bG,List.cons.injEq,and_true] at h
 have h1:=congrArg UInt8.toNat h.1
 have h2:=congrArg UInt8.toNat h.2
 rw [df _ (by omega),df _ (by omega)] at h1 h2
 omega
theorem rI (n:Nat):xK (bG n):=by
 refine ⟨by simp [bG],fun c hc=>?_,by simp [bG],?_⟩
 ·simp only [bG,List.mem_cons,List.not_mem_nil,or_false] at hc
  have e1:(UInt8.ofNat (97+n / 26 % 26)).toNat=97+n / 26 % 26:=df _ (by omega)
  have e2:(UInt8.ofNat (97+n % 26)).toNat=97+n % 26:=df _ (by omega)
  unfold jX
  simp only [Bool.and_eq_true,decide_eq_true_eq]
  rcases hc with rfl | rfl | rfl
  ·omega
  ·omega
  ·decide
 ·cases h:uU (bG n) with
  | none=>rfl
  | some k =>
   have:=tz h
   cases k <;> simp [bG,Kw.bytes] at this
def iO (k:Kw) (n:Nat):List UInt8:=if k=.aT\/k=.loop then bG n else []
def KE.pt (rg:List UInt8):KE->PT
 | .num n=>.num 0 (decDigits n)
 | .var n=>.name 0 (bG n)
 | .n1 k a=>.node 0 k [] [] [a.pt rg]
 | .n2 k n a b=>.node 0 k (iO k n) (if k=.pair then rg else []) [a.pt rg,b.pt rg]
 | .n3 k n a b c=>.node 0 k (iO k n) [] [a.pt rg,b.pt rg,c.pt rg]
theorem xU (rg:List UInt8):∀ x:KE,(x.pt rg).np=x.pt rg
 | .num _=>rfl
 | .var _=>rfl
 | .n1 _ a=>by simp only [KE.pt,PT.np,eX,xU rg a]
 | .n2 _ _ a b=>by simp only [KE.pt,PT.np,eX,xU rg a,xU rg b]
 | .n3 _ _ a b c=>by simp only [KE.pt,PT.np,eX,xU rg a,xU rg b,xU rg c]
theorem F7 (rg:List UInt8):∀ {vs:List Nat} {x:KE} {t:Nat},KT vs x t->(x.pt rg).bK=x.bK:=by
 intro vs x t h
 induction h with
 | num _=>rfl
 | var _=>rfl
 | aT _ _ _ _ ha hb=>simp [KE.pt,PT.bK,iX,KE.bK,ha,hb]
 | dQ _ _ _ ha hb hc=>simp [KE.pt,PT.bK,iX,KE.bK,ha,hb,hc];omega
 | loop _ _ _ _ ha hb hc=>simp [KE.pt,PT.bK,iX,KE.bK,ha,hb,hc];omega
 | pair _ _ _ _ ha hb=>simp [KE.pt,PT.bK,iX,KE.bK,ha,hb];omega
 | fst _ _ _ ha=>simp [KE.pt,PT.bK,iX,KE.bK,ha]
 | snd _ _ _ ha=>simp [KE.pt,PT.bK,iX,KE.bK,ha]
 | two hk _ _ ha hb=>rcases hk with rfl | rfl | rfl <;> simp [KE.pt,PT.bK,iX,KE.bK,ha,hb]
def U8 (ae:Bool) (rg:List UInt8):Prop:=if ae=true then ∃ d,rg=35::d/\xL d 3 else rg=[]
theorem Nq {ae:Bool} {rg:List UInt8} (hr:U8 ae rg):∀ {vs:List Nat} {x:KE} {t:Nat},KT vs x t->(x.pt rg).ok ae:=by
 intro vs x t h
 unfold U8 at hr
 induction h with
 | num h=>simp only [KE.pt,PT.ok];exact sW _ 4 (Nat.le_trans (DJ _ (by omega)) (by omega))
 | var _=>simp only [KE.pt,PT.ok];exact rI _
 | aT _ _ _ _ ha hb=>simp [KE.pt,PT.ok,qx,iO,bV,arity,rI,ha,hb]
 | dQ _ _ _ ha hb hc=>simp [KE.pt,PT.ok,qx,iO,bV,arity,ha,hb,hc]
 | loop _ _ _ _ ha hb hc=>simp [KE.pt,PT.ok,qx,iO,bV,arity,rI,ha,hb,hc]
 | pair _ _ _ _ ha hb =>
  cases ae with
  | true=>simp [KE.pt,PT.ok,qx,iO,bV,arity,ha,hb];simpa using hr
  | false=>simp [KE.pt,PT.ok,qx,iO,bV,arity,ha,hb];simpa using hr
 | fst _ _ _ ha=>simp [KE.pt,PT.ok,qx,bV,arity,ha]
 | snd _ _ _ ha=>simp [KE.pt,PT.ok,qx,bV,arity,ha]
 | two hk _ _ ha hb=>rcases hk with rfl | rfl | rfl <;> simp [KE.pt,PT.ok,qx,iO,bV,arity,ha,hb]
theorem F8 {rg:List UInt8}:∀ {vs:List Nat} {x:KE} {t:Nat},KT vs x t->(x.pt rg).tidy.length<=x.len+x.bK * (rg.length+1):=by
 intro vs x t h
 induction h with
 | num h=>simp only [KE.pt,PT.tidy,KE.len,KE.bK];exact Nat.le_trans (DJ _ (by omega)) (by omega)
 | var _=>simp [KE.pt,PT.tidy,KE.len,KE.bK,bG]
 | aT _ _ _ _ ha hb=>simp [KE.pt,PT.tidy,ct,bn,bP,KE.len,KE.bK,fP,iO,bG,Kw.bytes,Nat.add_mul];omega
 | dQ _ _ _ ha hb hc=>simp [KE.pt,PT.tidy,ct,bn,bP,KE.len,KE.bK,fP,iO,Kw.bytes,Nat.add_mul];omega
 | loop _ _ _ _ ha hb hc=>simp [KE.pt,PT.tidy,ct,bn,bP,KE.len,KE.bK,fP,iO,bG,Kw.bytes,Nat.add_mul];omega
 | pair _ _ _ _ ha hb =>
  simp only [KE.pt,PT.tidy,ct,bn,bP,KE.len,KE.bK,fP,iO,Kw.bytes,Nat.add_mul,if_true]
  by_cases hr:rg=[]
  ·subst hr;simp;simp at ha hb;omega
  ·simp [hr];omega
 | fst _ _ _ ha=>simp [KE.pt,PT.tidy,ct,bn,bP,KE.len,KE.bK,fP,Kw.bytes];omega
 | snd _ _ _ ha=>simp [KE.pt,PT.tidy,ct,bn,bP,KE.len,KE.bK,fP,Kw.bytes];omega
 | two hk _ _ ha hb=>rcases hk with rfl | rfl | rfl <;> simp [KE.pt,PT.tidy,ct,bn,bP,KE.len,KE.bK,fP,iO,Kw.bytes,Nat.add_mul] <;> omega
def tyJ (t:Nat):Ty:=if t=0 then .n else .p 0 .n .n
def tr (t:Nat):Ty:=if t=0 then .n else .p 0 (tyJ (fT t)) (tyJ (sT t))
theorem mJ {t:Nat} (ht:t < 5) (h0:t≠0):tr t=.p 0 (tr (fT t)) (tr (sT t)):=by
 match t,ht,h0 with
 | 1,_,_=>rfl
 | 2,_,_=>rfl
 | 3,_,_=>rfl
 | 4,_,_=>rfl
theorem sX (t:Nat):(tr t).size<=3:=by
 have hj:∀ t,(tyJ t).size<=1:=fun t=>by unfold tyJ;split <;> simp [Ty.size]
 unfold tr
 split
 ·simp [Ty.size]
 ·have:=hj (fT t);have:=hj (sT t);simp only [Ty.size];omega
theorem lj (env:aQ) (nm s:List UInt8) (T:Ty):look (env++[(nm,T)]) s=if nm=s then some T else look env s:=by
 unfold look
 rw [List.reverse_append,List.reverse_singleton,List.singleton_append,List.find?_cons]
 by_cases h:nm=s
 ·subst h;simp
 ·have:(nm == s)=false:=by rw [beq_eq_false_iff_ne];exact h
  simp only [this,if_neg h]
theorem DL (env:dL) (nm s:List UInt8) (v:Vl):nF (env++[(nm,v)]) s=if nm=s then v else nF env s:=by
 unfold nF
 rw [List.reverse_append,List.reverse_singleton,List.singleton_append,List.find?_cons]
 by_cases h:nm=s
 ·subst h;simp
 ·have:(nm == s)=false:=by rw [beq_eq_false_iff_ne];exact h
  simp only [this,if_neg h]
def xV (vs:List Nat):aQ:=vs.mapIdx (fun i t=>(bG i,tr t))
def cu (vs:List Vl):dL:=vs.mapIdx (fun i v=>(bG i,v))
theorem kB (vs:List Nat) (t:Nat):xV (vs++[t])=xV vs++[(bG vs.length,tr t)]:=by unfold xV;rw [List.mapIdx_concat]
theorem kC (vs:List Vl) (v:Vl):cu (vs++[v])=cu vs++[(bG vs.length,v)]:=by unfold cu;rw [List.mapIdx_concat]
theorem Kb (vs:List Nat) (n t:Nat) (h:vs[n]?=some t) (hl:vs.length<=600):look (xV vs) (bG n)=some (tr t):=by
 have hn:n < vs.length:=by
  rcases Nat.lt_or_ge n vs.length with h1 | h1
  ·exact h1
  ·rw [List.getElem?_eq_none h1] at h;cases h
 have key:∀ k,n < k->k<=vs.length->look (xV (vs.take k)) (bG n)=some (tr t):=by
  intro k
  induction k with
  | zero=>intro h;omega
  | succ k ih =>
   intro h1 h2
   rw [List.take_succ_eq_append_getElem (by omega),kB,lj,List.length_take,Nat.min_eq_left (by omega)]
   by_cases e:k=n
   ·subst e
    rw [if_pos rfl]
    rw [List.getElem?_eq_getElem (by omega)] at h
    simp only [Option.some.injEq] at h
    rw [h]
   ·rw [if_neg (fun hc=>e (Aq (by omega) (by omega) hc))]
    exact ih (by omega) (by omega)
 have:=key vs.length hn (Nat.le_refl _)
 rwa [List.take_length] at this
theorem Kc (vs:List Vl) (n:Nat) (hn:n < vs.length) (hl:vs.length<=600):nF (cu vs) (bG n)=vs[n]:=by
 have key:∀ k,n < k->k<=vs.length->nF (cu (vs.take k)) (bG n)=vs[n]:=by
  intro k
  induction k with
  | zero=>intro h;omega
  | succ k ih =>
   intro h1 h2
   rw [List.take_succ_eq_append_getElem (by omega),kC,DL,List.length_take,Nat.min_eq_left (by omega)]
   by_cases e:k=n
   ·subst e;rw [if_pos rfl]
   ·rw [if_neg (fun hc=>e (Aq (by omega) (by omega) hc))]
    exact ih (by omega) (by omega)
 have:=key vs.length hn (Nat.le_refl _)
 rwa [List.take_length] at this
theorem Ih {rg:List UInt8}:∀ {vs:List Nat} {x:KE} {t:Nat},KT vs x t->vs.length<=100->WT (xV vs) (x.pt rg) (tr t):=by
 intro vs x t h
 induction h with
 | num _=>intro _;exact .num
 | var h=>intro hl;exact .name (Kb _ _ _ h (by omega))
 | aT _ hl _ _ ha hb=>intro _;simp only [KE.pt];exact .aT (ha (by omega)) (by have:=hb (by simp;omega);rw [kB] at this;simpa [iO] using this)
 | dQ _ _ _ ha hb hc=>intro hl;simp only [KE.pt];exact .dQ (ha hl) (hb hl) (hc hl)
 | loop hl _ _ _ ha hb hc=>intro _;simp only [KE.pt];exact .loop (ha (by omega)) (hb (by omega)) (by have:=hc (by simp;omega);rw [kB] at this;simpa [iO] using this)
 | pair h0 ht _ _ ha hb =>
  intro hl
  simp only [KE.pt]
  have hs:=sX ‹Nat›
  rw [mJ ht h0]
  exact .pair (ha hl) (hb hl) (by rw [<- mJ ht h0];have:=sX ‹Nat›;omega)
 | fst h0 hp _ ha=>intro hl;simp only [KE.pt];have:=ha hl;rw [mJ hp h0] at this;exact .fst this
 | snd h0 hp _ ha=>intro hl;simp only [KE.pt];have:=ha hl;rw [mJ hp h0] at this;exact .snd this
 | two hk _ _ ha hb=>intro hl;simp only [KE.pt];exact .two hk (ha hl) (hb hl)
theorem Tryz.Ke:Tryz.prog.underlying 82=some (.slice 5):=by kernel_rfl
theorem Tryz.Q2:Tryz.prog.underlying 9=some .string:=by kernel_rfl
theorem Tryz.U9:Tryz.prog.underlying 5=some (.int .u8):=by kernel_rfl
theorem Ar (n:Nat) (hn:n<=1000) (w:World):Calls Tryz.prog 25 #[.int .i64 n] w fun e w'=>e=.returned (.string (bs (bG n)))/\Below w.heap.size w w':=by
 have hcv:(convert 82 9 (.slice (some ⟨w.heap.size,0,none⟩) 3 3)).run Tryz.prog (w.alloc (.cells #[.int .u8 (97+((n / 26 % 26:Nat):Int)),.int .u8 (97+((n % 26:Nat):Int)),.int .u8 118] 5 (0,0)))=.ok (.string (bs (bG n))) (w.alloc (.cells #[.int .u8 (97+((n / 26 % 26:Nat):Int)),.int .u8 (97+((n % 26:Nat):Int)),.int .u8 118] 5 (0,0))):=by
  refine Lib.run_convert_whole (P:=Tryz.prog) _ _ _ _ Tryz.Ke Tryz.U9 Tryz.Q2 w.heap.size 0 (bs (bG n)) ?_ 3
  intro i hi
  have rW:i < 3:=hi
  have e1:(UInt8.ofNat (97+n / 26 % 26)).toNat=97+n / 26 % 26:=df _ (by omega)
  have e2:(UInt8.ofNat (97+n % 26)).toNat=97+n % 26:=df _ (by omega)
  rw [aa (aj w _)]
  match i,rW with
  | 0,_ =>
   show some (Value.int .u8 (97+((n / 26 % 26:Nat):Int)))=some (Value.int .u8 ((UInt8.ofNat (97+n / 26 % 26)).toNat:Int))
   rw [e1];rfl
  | 1,_ =>
   show some (Value.int .u8 (97+((n % 26:Nat):Int)))=some (Value.int .u8 ((UInt8.ofNat (97+n % 26)).toNat:Int))
   rw [e2];rfl
  | 2,_=>rfl
 obtain ⟨a,ha⟩:∃ a,a=n / 26 % 26:=⟨_,rfl⟩
 obtain ⟨b,hb⟩:∃ b,b=n % 26:=⟨_,rfl⟩
 have hal:a < 26:=by omega
 have hbl:b < 26:=by omega
 have e1:(n:Int) / 26 % 26=(a:Int):=by omega
 have e2:(n:Int) % 26=(b:Int):=by omega
 rw [<- ha,<- hb] at hcv
 clear ha hb
 go_enter Tryz.func25,Tryz.ntmps25
 go_wp2
 go_ret
 exact ⟨rfl,bf (Below.refl _ _) _⟩
def lK (pre:List UInt8) (k:Kw) (nm:List UInt8) (ts:List (List UInt8)) (j:Nat):List UInt8:=pre++bn k nm 0 (ts.take j)
theorem Kf (pre:List UInt8) (k:Kw) (nm:List UInt8) (ts:List (List UInt8)) (j:Nat) (x:List UInt8) (hx:ts[j]?=some x):lK pre k nm ts (j+1)=lK pre k nm ts j++bP k nm j x:=by
 have hj:j < ts.length:=by
  rcases Nat.lt_or_ge j ts.length with h | h
  ·exact h
  ·rw [List.getElem?_eq_none h] at hx;cases hx
 unfold lK
 rw [List.take_add_one,hx,Option.toList_some,qR,List.length_take,Nat.min_eq_left (by omega),Nat.zero_add,List.append_assoc]
theorem Au (k:Kw) (nm:List UInt8):∀ (a b:List (List UInt8)) (i:Nat),bn k nm i (a++b)=bn k nm i a++bn k nm (i+a.length) b
 | [],b,i=>by simp [bn]
 | x::r,b,i=>by
  simp only [List.cons_append,bn,Au k nm r b (i+1),List.append_assoc,List.length_cons]
  rw [show i+1+r.length=i+(r.length+1) by omega]
theorem Q3 (pre:List UInt8) (k:Kw) (nm:List UInt8) (ts:List (List UInt8)) (j:Nat):(lK pre k nm ts j).length<=pre.length+(bn k nm 0 ts).length:=by
 unfold lK
 have h:bn k nm 0 ts=bn k nm 0 (ts.take j)++bn k nm (0+(ts.take j).length) (ts.drop j):=by rw [<- Au,List.take_append_drop]
 rw [h];simp
theorem Av (k:Kw) (nm:List UInt8):∀ (ts:List (List UInt8)) (i:Nat) (x:List UInt8),x∈ts->x.length+1<=(bn k nm i ts).length
 | [],_,_,h=>by simp at h
 | t::r,i,x,h=>by
  simp only [bn,List.length_append]
  rcases List.mem_cons.1 h with h | h
  ·subst h;unfold bP;simp;try omega
  ·have:=Av k nm r (i+1) x h;omega
def DM (rg:List UInt8) (x:KE):Prop:=∀ (p:Nat) (w:World),eS w x p->(x.pt rg).tidy.length<=100000->(∀ W,Below w.heap.size w W->wH W) ->
 Calls Tryz.prog 11 #[.pointer (some ⟨p,0,none⟩),.string (bs (fP rg))] w fun e w'=>e=.returned (.string (bs (x.pt rg).tidy))/\Below w.heap.size w w'
theorem Nr (rg:List UInt8) (n:Nat) (hn:n<=9999):DM rg (.num n):=by
 intro p w hx _ hit
 have hx':w.heap[p]?=some (.cells (uO [] n (.slice none 0 0)) 59 (0,0)):=hx
 have hp:=af hx'
 have x0:w.cell? ⟨p,0,none⟩=some (.string ⟨#[]⟩):=by rw [aa hx'];rfl
 have x1:w.cell? ⟨p,1,none⟩=some (.int .i64 n):=by rw [aa hx'];rfl
 have hi:=hit w (Below.refl _ _) n w hn (Below.refl _ _)
 have HI:Hid _:=hi
 simp only [KE.pt,PT.tidy]
 clear hx hx' hi hit
 go_enter Tryz.func11,Tryz.ntmps11
 go_wp2_with fail
 refine Calls.mono HI.out ?_
 rintro _ w2 ⟨rfl,hb⟩
 go_wp2
 go_ret
 exact ⟨rfl,hb⟩
theorem Ns (rg:List UInt8) (n:Nat) (hn:n<=1000):DM rg (.var n):=by
 intro p w hx _ _
 have hx':w.heap[p]?=some (.cells (uO [120] n (.slice none 0 0)) 59 (0,0)):=hx
 have hp:=af hx'
 have x0:w.cell? ⟨p,0,none⟩=some (.string ⟨#[120]⟩):=by rw [aa hx'];rfl
 have x1:w.cell? ⟨p,1,none⟩=some (.int .i64 n):=by rw [aa hx'];rfl
 have HI:Hid _:=Ar n hn w
 simp only [KE.pt,PT.tidy]
 clear hx hx'
 go_enter Tryz.func11,Tryz.ntmps11
 go_wp2_with fail
 refine Calls.mono HI.out ?_
 rintro _ w2 ⟨rfl,hb⟩
 go_wp2
 go_ret
 exact ⟨rfl,hb⟩
end Go.Proofs.YtpicaknklgccoabGreatDoor
