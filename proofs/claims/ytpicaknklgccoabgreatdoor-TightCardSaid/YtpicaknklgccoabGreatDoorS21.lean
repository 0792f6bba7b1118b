import Derived.Test.YtpicaknklgccoabGreatDoorS20
import Derived.Laws.CopyOwn
set_option maxHeartbeats 8000000
set_option maxRecDepth 100000
namespace Go.Proofs.YtpicaknklgccoabGreatDoor
open Go.RowKit
theorem mY {w:World} {l:List MR} {g cap:Nat} (h:w.ownsRow 0 151 3 (.slice (some ⟨g,0,none⟩) l.length cap) l.length (l.flatMap Bj)) (k:Nat) (r:MR) (hr:l[k]?=some r) :
  w.cell? ⟨g,k * 3,none⟩=some (.int .i64 r.num)/\w.cell? ⟨g,k * 3+1,none⟩=some (.int .i64 r.gA)/\w.cell? ⟨g,k * 3+2,none⟩=some (.int .i64 r.cells):=by
 have hk:=(List.getElem?_eq_some_iff.1 hr).1
 have key:∀ j,j < 3->w.cell? ⟨g,k * 3+j,none⟩=(Bj r)[j]?:=by
  intro j hj
  rw [h.cellAt (k * 3+j) (by omega),ke Bj 3 (fun _=>rfl) l k j hj,hr];rfl
 exact ⟨key 0 (by omega),key 1 (by omega),key 2 (by omega)⟩
theorem Dg {w:World} {l:List MC} {g cap:Nat} (h:w.ownsRow 0 154 6 (.slice (some ⟨g,0,none⟩) l.length cap) l.length (l.flatMap JK)) (k:Nat) (c:MC) (hr:l[k]?=some c) :
  w.cell? ⟨g,k * 6,none⟩=some (.bool c.a.c)/\w.cell? ⟨g,k * 6+1,none⟩=some (.int .i64 c.a.n)/\w.cell? ⟨g,k * 6+2,none⟩=some (.bool c.b.c)/\w.cell? ⟨g,k * 6+3,none⟩=some (.int .i64 c.b.n)/\w.cell? ⟨g,k * 6+4,none⟩=some (.int .i64 c.home)/\w.cell? ⟨g,k * 6+5,none⟩=some (.int .i64 c.gA):=by
 have hk:=(List.getElem?_eq_some_iff.1 hr).1
 have key:∀ j,j < 6->w.cell? ⟨g,k * 6+j,none⟩=(JK c)[j]?:=by
  intro j hj
  rw [h.cellAt (k * 6+j) (by omega),ke JK 6 (fun _=>rfl) l k j hj,hr];rfl
 exact ⟨key 0 (by omega),key 1 (by omega),key 2 (by omega),key 3 (by omega),key 4 (by omega),key 5 (by omega)⟩
theorem iJ {W w:World} {n:Nat} {b:Nat} (h:Below b W w):Below b W (w.drewN n):=h.trans ⟨rfl,rfl,rfl,Nat.le_refl _,fun _ _=>rfl⟩
theorem FI (mb:Nat) (w:World) (tn aO:Value) (fuel:Nat) (nv cv rv:Value) (m:MM) (c:MC) (hl:m.regs.length<=20000) (hh:c.home<=20000) (h:iq mb w tn aO fuel nv cv rv m) :
  Calls Tryz.prog 116 #[ptr mb,Ms c] w fun e w'=>e=.returned (.bool (m.isLive c))/\Below w.heap.size w w':=by
 obtain ⟨_,_,_,_,_,y7,_⟩:=bw h.y
 have nR:=af h.y
 have hd0:(0:Int)<=(c.home:Int):=by omega
 unfold ptr Ms
 cases hr:m.regs[c.home]? with
 | none =>
  have hs:m.isLive c=false:=by unfold MM.isLive;rw [hr]
  rw [hs]
  have hn:m.regs.length<=c.home:=by simpa using hr
  obtain ⟨ao,cap,rfl⟩:=kV h.rg
  have hd:decide ((c.home:Int) < (m.regs.length:Int))=false:=decide_eq_false (by omega)
  have hd2:decide (c.home < m.regs.length)=false:=decide_eq_false (by omega)
  clear h hs hr
  generalize m.regs.length=n at *
  go_enter Tryz.func116,Tryz.ntmps116
  go_wp2
  go_quiet (fail)
  go_wp2
  go_ret
  exact ⟨rfl,iJ ((Below.refl _ _).alloc (Nat.le_refl _) _)⟩
 | some r =>
  have hk:=(List.getElem?_eq_some_iff.1 hr).1
  obtain ⟨g,cap,rfl⟩:=js h.rg (by omega)
  obtain ⟨_,r1,_⟩:=mY h.rg c.home r hr
  have hg:g < w.heap.size:=(h.rg.lt g rfl).2
  have hd:(c.home:Int) < (m.regs.length:Int):=by omega
  obtain ⟨b,hb⟩:∃ b,((r.gA:Int) == (c.gA:Int))=b:=⟨_,rfl⟩
  have hs:m.isLive c=b:=by
   unfold MM.isLive;rw [hr]
   simp only
   rw [<- hb,Bool.eq_iff_iff,beq_iff_eq,beq_iff_eq]
   omega
  rw [hs]
  clear h hs hr
  generalize m.regs.length=n at *
  go_enter Tryz.func116,Tryz.ntmps116
  go_wp2
  go_quiet (fail)
  go_wp2
  go_ret
  exact ⟨rfl,iJ ((Below.refl _ _).alloc (Nat.le_refl _) _)⟩
theorem aE {w W:World} (h:Below w.heap.size w W) (o:Obj):Below w.heap.size w (W.alloc o):=h.alloc h.size o
theorem o8 {W w:World} {b:Nat} (h:Below b W w):Below b W w.drew:=h.trans ⟨rfl,rfl,rfl,Nat.le_refl _,fun _ _=>rfl⟩
theorem Mu (w:World) (A O:Obj) (n:Nat):(((w.alloc A).alloc O).drewN n).heap[w.heap.size+1]?=some O:=by
 have:=aj (w.alloc A) O
 simpa using this
theorem kA {w W:World} (h:Below w.heap.size w W) (a:Addr) (ha:w.heap.size<=a.block) (u:Value):Below w.heap.size w (W.setCell a u):=h.setCell (p:=a) ha u
theorem aw {b:Nat} {w W:World} (h:Below b w W) (a:Addr) (ha:b<=a.block) (u:Value):Below b w (W.setCell a u):=h.setCell (p:=a) ha u
theorem iq.upto {mb b:Nat} {w w':World} {tn aO:Value} {fuel:Nat} {nv cv rv:Value} {m:MM} (h:iq mb w tn aO fuel nv cv rv m) (h1:mb < b) (h2:∀ k,nv.ownBlock=some k->k < b) (h3:∀ k,cv.ownBlock=some k->k < b) (h4:∀ k,rv.ownBlock=some k->k < b) (hb:Below b w w'):iq mb w' tn aO fuel nv cv rv m :=
 ⟨by rw [hb.block mb h1];exact h.y,ax h.nm (fun k hk=>hb.block k (h2 k hk)),ax h.cl (fun k hk=>hb.block k (h3 k hk)),ax h.rg (fun k hk=>hb.block k (h4 k hk)),h.ny,h.cy,h.ry,h.nc,h.nr,h.cr⟩
theorem bz.upto {mb:Nat} {w w1 w2:World} {nv cv rv bB wZ uI:Value} (h:bz mb mb w w1 nv cv rv bB wZ uI) (hb:Below w.heap.size w1 w2):bz mb mb w w2 nv cv rv bB wZ uI :=
 ⟨hb.os.trans h.os,hb.tape.trans h.tape,hb.output.trans h.output,Nat.le_trans h.size hb.size,fun k hk a b c d e=>(hb.block k hk).trans (h.blk k hk a b c d e),h.s,h.n,h.o⟩
theorem kW {w:World} {b:Nat} {c:MC} (h:w.heap[b]?=some (.cells #[.bool c.a.c,.int .i64 c.a.n,.bool c.b.c,.int .i64 c.b.n,.int .i64 c.home,.int .i64 c.gA] 154)) :
  w.cell? ⟨b,0,none⟩=some (.bool c.a.c)/\w.cell? ⟨b,1,none⟩=some (.int .i64 c.a.n)/\w.cell? ⟨b,2,none⟩=some (.bool c.b.c)/\w.cell? ⟨b,3,none⟩=some (.int .i64 c.b.n)/\w.cell? ⟨b,4,none⟩=some (.int .i64 c.home)/\w.cell? ⟨b,5,none⟩=some (.int .i64 c.gA):=by
 refine ⟨?_,?_,?_,?_,?_,?_⟩ <;> (rw [aa h];rfl)
theorem Tryz.Mv:(Tryz.prog.info? 154).map (·.size)=some 6:=by kernel_rfl
theorem qY {ops:Array Oper} {rest:List Oper} {o:Oper} {a:Act} {w:World} {Q:Exit->Act->World->Prop} (hgd:o.guard=none) (x y:Operand) (ho:o.op=.store 154 x y) (hd:o.dst=none)
  (g:Nat) (c d:MC) (hx:a.eval x=.pointer (some ⟨g,0,none⟩)) (hy:a.eval y=Ms c)
  (hg:w.heap[g]?=some (.cells #[.bool d.a.c,.int .i64 d.a.n,.bool d.b.c,.int .i64 d.b.n,.int .i64 d.home,.int .i64 d.gA] 154 (0,0)))
  (h:wpList Tryz.prog ops Q rest a (w.setRow g #[.bool c.a.c,.int .i64 c.a.n,.bool c.b.c,.int .i64 c.b.n,.int .i64 c.home,.int .i64 c.gA])):wpList Tryz.prog ops Q (o::rest) a w :=
 wpList_store_row hgd 154 x y ho g _ hx hy 154 _ hg Tryz.Mv rfl (by simp [Value.oneCell']) (by rw [hd];exact h)
theorem Qo (mb:Nat) (w:World) (tn aO:Value) (fuel:Nat) (nv cv rv:Value) (m:MM) (k:Nat) (c:MC) (hl:m.cells.length<=20000) (hrl:m.regs.length<=20000) (hh:c.home<=20000) (hk:m.cells[k]?=some c) (h:iq mb w tn aO fuel nv cv rv m) :
  Calls Tryz.prog 90 #[ptr mb,lG ⟨true,k⟩] w fun e w'=>e=.returned (Ms c)/\bz mb mb w w' nv cv rv nv cv rv/\iq mb w' tn aO fuel nv cv rv (if m.isLive c=true then m else m.stop 13):=by
 obtain ⟨_,_,_,_,y6,_⟩:=bw h.y
 obtain ⟨m',hm'⟩:∃ m',m'=if m.isLive c=true then m else m.stop 13:=⟨_,rfl⟩
 rw [<- hm']
 have HM:Hid _:=hm'
 clear hm'
 have nR:=af h.y
 have hkl:=(List.getElem?_eq_some_iff.1 hk).1
 obtain ⟨g,cap,rfl⟩:=js h.cl (by omega)
 obtain ⟨c0',c1,c2,c3,c4,c5⟩:=Dg h.cl k c hk
 have hg:g < w.heap.size:=(h.cl.lt g rfl).2
 have hd:decide ((m.cells.length:Int)<=(k:Int))=false:=decide_eq_false (by omega)
 have hd2:decide (m.cells.length<=k)=false:=decide_eq_false (by omega)
 have hd3:(k:Int) < (m.cells.length:Int):=by omega
 have lN:=fun W (hW:Below w.heap.size w W)=>FI mb W _ _ _ _ _ _ m c hrl hh (h.below hW)
 have hst:=fun W (hW:Below w.heap.size w W)=>sG mb W _ _ _ _ _ _ m 13 (h.below hW)
 unfold ptr Ms at lN
 unfold ptr at hst
 have HIL:Hid _:=lN
 have jf:Hid _:=hst
 have HH:Hid _:=h
 clear h lN hst hk
 unfold ptr lG Ms
 generalize hlen:m.cells.length=n at *
 go_enter Tryz.func90,Tryz.ntmps90
 go_wp2
 go_quiet (fail)
 rename_i nq
 obtain ⟨W1,hW1⟩:∃ W,W=((w.alloc (.cells #[.bool true,.int .i64 k] 122)).alloc (.cells #[.bool false,.int .i64 0,.bool false,.int .i64 0,.int .i64 0,.int .i64 0] 154)).drewN nq:=⟨_,rfl⟩
 rw [<- hW1]
 have hb1:Below w.heap.size w W1:=by
  rw [hW1]
  exact iJ (aE (aE (Below.refl _ _) _) _)
 have hbk:W1.heap[w.heap.size]?=some (.cells #[.bool true,.int .i64 k] 122):=by
  rw [hW1]
  exact aN _ (aj w _)
 have x1:W1.cell? ⟨w.heap.size,1,none⟩=some (.int .i64 k):=by rw [aa hbk];rfl
 have x0:W1.cell? ⟨w.heap.size,0,none⟩=some (.bool true):=by rw [aa hbk];rfl
 have z6:=(hb1.cell (p:=⟨mb,6,none⟩) nR).trans y6
 have e0:=(hb1.cell (p:=⟨g,k * 6,none⟩) hg).trans c0'
 have e1:=(hb1.cell (p:=⟨g,k * 6+1,none⟩) hg).trans c1
 have e2:=(hb1.cell (p:=⟨g,k * 6+2,none⟩) hg).trans c2
 have e3:=(hb1.cell (p:=⟨g,k * 6+3,none⟩) hg).trans c3
 have e4:=(hb1.cell (p:=⟨g,k * 6+4,none⟩) hg).trans c4
 have e5:=(hb1.cell (p:=⟨g,k * 6+5,none⟩) hg).trans c5
 have hw1:w.heap.size+2=W1.heap.size:=by rw [hW1];simp
 have Jq:mb < W1.heap.size:=by omega
 have Jz:g < W1.heap.size:=by omega
 have aav:w.heap.size < W1.heap.size:=by omega
 have G7:W1.heap[w.heap.size+1]?=some (.cells #[.bool false,.int .i64 0,.bool false,.int .i64 0,.int .i64 0,.int .i64 0] 154):=by
  rw [hW1]
  have:=aj (w.alloc (.cells #[.bool true,.int .i64 k] 122)) (.cells #[.bool false,.int .i64 0,.bool false,.int .i64 0,.int .i64 0,.int .i64 0] 154)
  simpa using this
 have PQ:Hid _:=G7
 have dG:Hid _:=hb1
 clear hbk hW1 y6 c0' c1 c2 c3 c4 c5 hb1 G7
 go_wp2
 go_region
 all_goals
  go_wp2_with fail
  have hC:Below w.heap.size w (W1.alloc (.cells #[.bool c.a.c,.int .i64 c.a.n,.bool c.b.c,.int .i64 c.b.n,.int .i64 c.home,.int .i64 c.gA] 154)).drew:=o8 (aE dG.out _)
  refine Calls.mono (HIL.out _ hC) ?_
  rintro _ w2 ⟨rfl,hb2⟩
  have lE:Below w.heap.size w w2:=hC.trans (hb2.mono hC.size)
  have hq:w2.heap[W1.heap.size]?=some (.cells #[.bool c.a.c,.int .i64 c.a.n,.bool c.b.c,.int .i64 c.b.n,.int .i64 c.home,.int .i64 c.gA] 154):=by
   rw [hb2.block _ (by simp)];exact aj W1 _
  have hr:w2.heap[w.heap.size+1]?=some (.cells #[.bool c0.a.c,.int .i64 c0.a.n,.bool c0.b.c,.int .i64 c0.b.n,.int .i64 c0.home,.int .i64 c0.gA] 154):=by
   rw [hb2.block _ (by simp;omega)]
   exact aN _ PQ.out
  have HQ:Hid _:=hq
  have HR:Hid _:=hr
  have dU:Hid _:=lE
  clear hq hr lE hb2 hC
  have hne:W1.heap.size≠w.heap.size+1:=by omega
  have fV:w.heap.size<=w.heap.size+1:=by omega
  have XO:w.heap.size<=W1.heap.size:=by omega
  clear x0 x1 z6 e0 e1 e2 e3 e4 e5 Jq Jz aav hw1 hd hd2 hd3 PQ dG HIL
  generalize w.heap.size+1=r at *
  generalize W1.heap.size=q at *
  obtain ⟨bl,hbl⟩:∃ bl,m.isLive c=bl:=⟨_,rfl⟩
  rw [hbl]
  cases bl with
  | true =>
   have o9:Hid (m'=m):=by have:=HM.out;rw [hbl] at this;exact this
   obtain ⟨a0,a1,a2,a3,a4,a5⟩:=kW HQ.out
   have hlq:=af HQ.out
   have hlr:=af HR.out
   go_upto_region 6 with fail
   go_step
   go_step
   go_step
   go_step
   refine qY rfl (.tmp 4) (.tmp 39) rfl rfl r c c0 rfl rfl HR.out ?_
   have hN:=setRow_heap w2 r _ #[.bool c.a.c,.int .i64 c.a.n,.bool c.b.c,.int .i64 c.b.n,.int .i64 c.home,.int .i64 c.gA] 154 (0,0) HR.out
   have hBN:=below_setRow dU.out fV #[.bool c.a.c,.int .i64 c.a.n,.bool c.b.c,.int .i64 c.b.n,.int .i64 c.home,.int .i64 c.gA]
   generalize w2.setRow r #[.bool c.a.c,.int .i64 c.a.n,.bool c.b.c,.int .i64 c.b.n,.int .i64 c.home,.int .i64 c.gA]=w5 at hN hBN ⊢
   obtain ⟨s0,s1,s2,s3,s4,s5⟩:=kW hN
   have Cj:Hid _:=hBN
   clear hN hBN HR HQ dU a0 a1 a2 a3 a4 a5
   go_wp2
   refine bodyPost_ret (v:=.agg #[.bool c.a.c,.int .i64 c.a.n,.bool c.b.c,.int .i64 c.b.n,.int .i64 c.home,.int .i64 c.gA]) (by simp [results,Tryz.results90,go_sem,s0,s1,s2,s3,s4,s5]) rfl ⟨rfl,?_,?_⟩
   ·exact bz.below mb mb _ _ _ Cj.out
   ·rw [o9.out];exact HH.out.below Cj.out
  | false =>
   have o9:Hid (m'=m.stop 13):=by have:=HM.out;rw [hbl] at this;exact this
   go_wp2_with fail
   refine Calls.mono (jf.out _ dU.out) ?_
   rintro _ w3 ⟨rfl,bQ,dZ⟩
   obtain ⟨l1,l2,l3,l4⟩:=HH.out.slt
   have K0:=(bQ.blk q (af HQ.out) (by omega) (by omega) (fun e=>by have:=l1 _ e;omega) (fun e=>by have:=l2 _ e;omega) (fun e=>by have:=l3 _ e;omega)).trans HQ.out
   have r9:=(bQ.blk r (af HR.out) (by omega) (by omega) (fun e=>by have:=l1 _ e;omega) (fun e=>by have:=l2 _ e;omega) (fun e=>by have:=l3 _ e;omega)).trans HR.out
   have qI:Hid _:=(bz.below mb mb nv (.slice (some ⟨g,0,none⟩) n cap) rv dU.out).trans bQ
   have mq:Hid _:=dZ
   have EO:Hid _:=r9
   obtain ⟨a0,a1,a2,a3,a4,a5⟩:=kW K0
   have hlq:=af K0
   have hlr:=af r9
   have HL:Hid (mb < w.heap.size/\(∀ k,nv.ownBlock=some k->k < w.heap.size)/\(∀ k,(Value.slice (some ⟨g,0,none⟩) n cap).ownBlock=some k->k < w.heap.size)/\(∀ k,rv.ownBlock=some k->k < w.heap.size)):=⟨l4,l1,l2,l3⟩
   clear K0 r9 bQ dZ HQ HR dU jf HH l1 l2 l3 l4
   go_upto_region 6 with fail
   go_step
   go_step
   go_step
   go_step
   refine qY rfl (.tmp 4) (.tmp 39) rfl rfl r c c0 rfl rfl EO.out ?_
   have hN:=setRow_heap w3 r _ #[.bool c.a.c,.int .i64 c.a.n,.bool c.b.c,.int .i64 c.b.n,.int .i64 c.home,.int .i64 c.gA] 154 (0,0) EO.out
   have hBN:=below_setRow (Below.refl w.heap.size w3) fV #[.bool c.a.c,.int .i64 c.a.n,.bool c.b.c,.int .i64 c.b.n,.int .i64 c.home,.int .i64 c.gA]
   generalize w3.setRow r #[.bool c.a.c,.int .i64 c.a.n,.bool c.b.c,.int .i64 c.b.n,.int .i64 c.home,.int .i64 c.gA]=w5 at hN hBN ⊢
   obtain ⟨s0,s1,s2,s3,s4,s5⟩:=kW hN
   have Cj:Hid _:=hBN
   clear hN hBN EO a0 a1 a2 a3 a4 a5
   go_wp2
   refine bodyPost_ret (v:=.agg #[.bool c.a.c,.int .i64 c.a.n,.bool c.b.c,.int .i64 c.b.n,.int .i64 c.home,.int .i64 c.gA]) (by simp [results,Tryz.results90,go_sem,s0,s1,s2,s3,s4,s5]) rfl ⟨rfl,?_,?_⟩
   ·exact qI.out.upto Cj.out
   ·rw [o9.out];exact mq.out.upto HL.out.1 HL.out.2.1 HL.out.2.2.1 HL.out.2.2.2 Cj.out
theorem Uq (mb:Nat) (w:World) (tn aO:Value) (fuel:Nat) (nv cv rv:Value) (m:MM) (v:MV) (hl:m.cells.length<=20000) (hv:v.bd) (hc:v.c=false\/v.n < 0\/(m.cells.length:Int)<=v.n) (h:iq mb w tn aO fuel nv cv rv m) :
  Calls Tryz.prog 90 #[ptr mb,lG v] w fun e w'=>e=.returned (Ms c0)/\Below w.heap.size w w':=by
 obtain ⟨_,_,_,_,y6,_⟩:=bw h.y
 have nR:=af h.y
 obtain ⟨ao,cap,rfl⟩:=kV h.cl
 clear h
 unfold MV.bd at hv
 unfold ptr lG Ms
 obtain ⟨vc,vn⟩:=v
 simp only at hc hv
 generalize m.cells.length=n at *
 have hcc:vc=false\/(vc=true/\vn < 0)\/(vc=true/\decide (vn < 0)=false/\(n:Int)<=vn):=by
  cases vc
  ·exact Or.inl rfl
  ·rcases hc with hc | hc | hc
   ·cases hc
   ·exact Or.inr (Or.inl ⟨rfl,hc⟩)
   ·exact Or.inr (Or.inr ⟨rfl,decide_eq_false (by omega),hc⟩)
 rcases hcc with rfl | ⟨rfl,h1⟩ | ⟨rfl,h1,h2⟩
 all_goals
  go_enter Tryz.func90,Tryz.ntmps90
  go_wp2
  go_quiet (fail)
  rename_i nq
  first
  | (obtain ⟨W1,hW1⟩:∃ W,W=((w.alloc (.cells #[.bool false,.int .i64 vn] 122)).alloc (.cells #[.bool false,.int .i64 0,.bool false,.int .i64 0,.int .i64 0,.int .i64 0] 154)).drewN nq:=⟨_,rfl⟩;rw [<- hW1])
  | (obtain ⟨W1,hW1⟩:∃ W,W=((w.alloc (.cells #[.bool true,.int .i64 vn] 122)).alloc (.cells #[.bool false,.int .i64 0,.bool false,.int .i64 0,.int .i64 0,.int .i64 0] 154)).drewN nq:=⟨_,rfl⟩;rw [<- hW1])
  have hb1:Below w.heap.size w W1:=by
   rw [hW1]
   exact iJ (aE (aE (Below.refl _ _) _) _)
  have G7:W1.heap[w.heap.size+1]?=some (.cells #[.bool c0.a.c,.int .i64 c0.a.n,.bool c0.b.c,.int .i64 c0.b.n,.int .i64 c0.home,.int .i64 c0.gA] 154):=by
   rw [hW1]
   exact Mu w _ _ nq
  have PQ:Hid _:=G7
  have dG:Hid _:=hb1
  have fV:w.heap.size<=w.heap.size+1:=by omega
  clear hW1 hb1 G7 y6
  generalize w.heap.size+1=r at *
  go_upto_region 2 with fail
  go_step
  go_step
  go_step
  go_step
  refine qY rfl (.tmp 4) (.tmp 24) rfl rfl r c0 c0 rfl rfl PQ.out ?_
  have hN:=setRow_heap W1 r _ #[.bool c0.a.c,.int .i64 c0.a.n,.bool c0.b.c,.int .i64 c0.b.n,.int .i64 c0.home,.int .i64 c0.gA] 154 (0,0) PQ.out
  have hBN:=below_setRow dG.out fV #[.bool c0.a.c,.int .i64 c0.a.n,.bool c0.b.c,.int .i64 c0.b.n,.int .i64 c0.home,.int .i64 c0.gA]
  generalize W1.setRow r #[.bool c0.a.c,.int .i64 c0.a.n,.bool c0.b.c,.int .i64 c0.b.n,.int .i64 c0.home,.int .i64 c0.gA]=w5 at hN hBN ⊢
  obtain ⟨s0,s1,s2,s3,s4,s5⟩:=kW hN
  have Cj:Hid _:=hBN
  clear hN hBN PQ dG
  go_wp2
  refine bodyPost_ret (v:=.agg #[.bool c0.a.c,.int .i64 c0.a.n,.bool c0.b.c,.int .i64 c0.b.n,.int .i64 c0.home,.int .i64 c0.gA]) (by simp [results,Tryz.results90,go_sem,s0,s1,s2,s3,s4,s5]) rfl ⟨rfl,Cj.out⟩
theorem Ht (mb:Nat) (w:World) (tn aO:Value) (fuel:Nat) (nv cv rv:Value) (m:MM) (v:MV) (hb:nG fuel m) (hf:fuel<=20000) (hv:v.bd) (h:iq mb w tn aO fuel nv cv rv m) :
  Calls Tryz.prog 90 #[ptr mb,lG v] w fun e w'=>e=.returned (Ms (m.use v).1)/\bz mb mb w w' nv cv rv nv cv rv/\iq mb w' tn aO fuel nv cv rv (m.use v).2:=by
 have h1:=hb.steps
 have h2:=hb.cells
 unfold MM.use
 by_cases hc:v.c=false\/v.n < 0\/(m.cells.length:Int)<=v.n
 ·rw [if_pos hc]
  exact (Uq mb w tn aO fuel nv cv rv m v (by omega) hv hc h).mono (fun _ _ hx=>⟨hx.1,bz.below mb mb _ _ _ hx.2,h.below hx.2⟩)
 ·rw [if_neg hc]
  have hvc:v.c=true:=by cases hq:v.c with
   | true=>rfl
   | false=>exact absurd (Or.inl hq) hc
  obtain ⟨k,hk⟩:∃ k:Nat,v.n=k:=⟨v.n.toNat,by omega⟩
  have hkl:k < m.cells.length:=by omega
  obtain ⟨c,hcc⟩:∃ c,m.cells[k]?=some c:=⟨_,List.getElem?_eq_getElem hkl⟩
  have e:v=⟨true,k⟩:=by rw [<- hvc,<- hk]
  have e2:m.cells.getD v.n.toNat c0=c:=by rw [hk,Int.toNat_natCast,List.getD_eq_getElem?_getD,hcc];rfl
  rw [e2,e]
  exact Qo mb w tn aO fuel nv cv rv m k c (by omega) hb.regs (hb.cell c (List.mem_of_getElem? hcc)).2.2.1 hcc h
theorem FJ (mb:Nat) (w:World) (tn aO:Value) (fuel:Nat) (nv cv rv:Value) (m:MM) (k:Int) (h1:1<=m.regs.length) (hl:m.regs.length<=20000) (h:iq mb w tn aO fuel nv cv rv m) :
  Calls Tryz.prog 132 #[ptr mb,.int .i64 k] w fun e w'=>e=.returned (.int .i64 (m.home k))/\w'=w:=by
 obtain ⟨_,_,_,_,_,y7,_⟩:=bw h.y
 have nR:=af h.y
 obtain ⟨g,cap,rfl⟩:=js h.rg (by omega)
 have hcell:=fun j r hj=>(mY h.rg j r hj).1
 have HC:Hid _:=hcell
 obtain ⟨H,hH⟩:∃ H,H=m.home k:=⟨_,rfl⟩
 have HH:Hid _:=hH
 rw [<- hH]
 obtain ⟨n,hn⟩:∃ n,n=m.regs.length:=⟨_,rfl⟩
 have HN:Hid _:=hn
 rw [<- hn] at y7 h1 hl
 have hg:g < w.heap.size:=(h.rg.lt g rfl).2
 clear h hcell hH hn
 unfold ptr
 go_enter Tryz.func132,Tryz.ntmps132
 go_wp2
 go_loop [5] (fun i=>∃ j:Nat,j < n/\i=.int .i64 j/\H=iI m.regs k j) (fun i=>(intOf i).toNat)
 case atStart=>exact ⟨n - 1,by omega,by rw [show ((n:Int) - 1)=((n - 1:Nat):Int) from by omega],by rw [HH.out,HN.out];rfl⟩
 case round =>
  obtain ⟨j,hj,rfl,hr⟩:=hrel
  have HR:Hid _:=hr
  clear hr
  cases j with
  | zero =>
   go_wp2
   go_ret
   exact ⟨by rw [HR.out];rfl,rfl⟩
  | succ j =>
   obtain ⟨r,hr⟩:∃ r,m.regs[j+1]?=some r:=⟨_,List.getElem?_eq_getElem (by have:=HN.out;omega)⟩
   have hc:=HC.out (j+1) r hr
   by_cases hq:r.num=k
   ·have hs:iI m.regs k (j+1)=j+1:=by simp only [iI];rw [hr,if_pos (by simp [hq])]
    have HS:Hid _:=hs
    rw [hq] at hc
    clear hr hs hq
    go_wp2
    go_ret
    exact ⟨lM (by rw [HR.out,HS.out];omega),rfl⟩
   ·have hs:iI m.regs k (j+1)=iI m.regs k j:=by simp only [iI];rw [hr,if_neg (by simp [hq])]
    have HS:Hid _:=hs
    have Mw:(r.num == k)=false:=by rw [beq_eq_false_iff_ne];exact hq
    clear hr hs hq
    go_wp2
    go_round
    case rel=>exact ⟨j,by omega,rfl,by rw [HR.out,HS.out]⟩
    case measure=>simp [intOf]
theorem Tryz.Qp:(Tryz.prog.info? 151).map (fun i=>(i.zero,i.size,i.bytes))=some (some (.agg #[.int .i64 0,.int .i64 0,.int .i64 0]),3,24):=by kernel_rfl
theorem Tryz.Qq:Tryz.prog.underlying 118=some (.slice 151):=by kernel_rfl
theorem Ur (r:MR):∀ u∈Bj r,u.oneCell'=true:=by intro u hu;simp only [Bj,List.mem_cons,List.not_mem_nil,or_false] at hu;rcases hu with rfl | rfl | rfl <;> rfl
theorem iq.aaw {mb:Nat} {w W0 w':World} {tn aO:Value} {fuel:Nat} {nv cv rv:Value} {m:MM} (h:iq mb w tn aO fuel nv cv rv m) (r:MR) {g cap:Nat} (hW:Below w.heap.size w W0) (hg:W0.grownBy w' rv.ownBlock)
  (hown:w'.ownsRow 0 151 3 (.slice (some ⟨g,0,none⟩) (m.regs.length+1) cap) (m.regs.length+1) (m.regs.flatMap Bj++Bj r)) (ik:rv.ownBlock=some g\/W0.heap.size<=g) :
  bz mb mb w (w'.setCell ⟨mb,7,none⟩ (.slice (some ⟨g,0,none⟩) (m.regs.length+1) cap)) nv cv rv nv cv (.slice (some ⟨g,0,none⟩) (m.regs.length+1) cap) /\
  iq mb (w'.setCell ⟨mb,7,none⟩ (.slice (some ⟨g,0,none⟩) (m.regs.length+1) cap)) tn aO fuel nv cv (.slice (some ⟨g,0,none⟩) (m.regs.length+1) cap) { m with regs:=m.regs++[r] }:=by
 obtain ⟨l1,l2,l3,l4⟩:=h.slt
 have lH:=hW.size
 have hgs:=hg.size
 have yW:W0.heap[mb]?=some (.cells (lQ tn aO fuel nv cv rv m) 120 (0,0)):=by rw [hW.block mb l4];exact h.y
 have yw:=cE hg yW h.ry
 have n8:g≠mb:=by
  rcases ik with e | e
  ·intro e';rw [e'] at e;exact h.ry e
  ·omega
 have kp:∀ k,k < w.heap.size->k≠mb->rv.ownBlock≠some k->(w'.setCell ⟨mb,7,none⟩ (.slice (some ⟨g,0,none⟩) (m.regs.length+1) cap)).heap[k]?=w.heap[k]?:=by
  intro k hk hkp hne
  rw [ak _ _ (by simpa using hkp),hg.block k (by omega) (fun e=>hne e.symm),hW.block k hk]
 refine ⟨⟨hg.os.trans hW.os,hg.tape.trans hW.tape,hg.output.trans hW.output,by simp only [World.setCell,Array.size_modify];omega,fun k hk hp _ hs hn ho=>kp k hk hp ho,fun _ h=>Or.inl h,fun _ h=>Or.inl h,fun g' hg'=>by simp only [Value.ownBlock,Option.some.injEq] at hg';subst hg';rcases ik with e | e;exact Or.inl e;exact Or.inr (by omega)⟩,?_⟩
 refine ⟨ay yw 7 _,ax h.nm (fun k hk=>kp k (l1 k hk) (fun e=>h.ny (by rw [hk,e])) (fun e=>h.nr k hk e)),ax h.cl (fun k hk=>kp k (l2 k hk) (fun e=>h.cy (by rw [hk,e])) (fun e=>h.cr k hk e)),
  by have:=ax (w':=w'.setCell ⟨mb,7,none⟩ (.slice (some ⟨g,0,none⟩) (m.regs.length+1) cap)) hown (fun k hk=>by simp only [Value.ownBlock,Option.some.injEq] at hk;subst hk;exact ak _ _ (by simpa using n8));simpa using this,h.ny,h.cy,by simp only [Value.ownBlock,ne_eq,Option.some.injEq];exact n8,h.nc,(fun k hk hk'=>by
   simp only [Value.ownBlock,Option.some.injEq] at hk'
   rcases ik with e | e
   ·rw [hk'] at e;exact h.nr k hk e
   ·have:=l1 k hk;omega),(fun k hk hk'=>by
   simp only [Value.ownBlock,Option.some.injEq] at hk'
   rcases ik with e | e
   ·rw [hk'] at e;exact h.cr k hk e
   ·have:=l2 k hk;omega)⟩
theorem Dh (mb:Nat) (w:World) (tn aO:Value) (fuel:Nat) (nv cv rv:Value) (m:MM) (k:Int) (hl:m.regs.length<=20000) (ho:m.opened<=4000000000) (h:iq mb w tn aO fuel nv cv rv m) :
  Calls Tryz.prog 67 #[ptr mb,.int .i64 k] w fun e w'=>e=.returned (.tuple #[])/\∃ uI,bz mb mb w w' nv cv rv nv cv uI/\iq mb w' tn aO fuel nv cv uI (m.opn k):=by
 obtain ⟨i0,hi,hz0,hz1,hz2⟩:=info_parts Tryz.Qp
 have HI:Hid _:=hi
 have pZ:Hid _:=hz0
 have p8:Hid _:=hz1
 have p9:Hid _:=hz2
 clear hi hz0 hz1 hz2
 obtain ⟨_,_,_,_,_,y7,y8,_⟩:=bw h.y
 have nR:=af h.y
 obtain ⟨B,hB⟩:∃ B:Obj,B=.cells #[.int .i64 k,.int .i64 m.opened,.int .i64 0] 151:=⟨_,rfl⟩
 have hW:Below w.heap.size w (w.alloc B).drew:=sH w B
 have HW:Hid _:=hW
 have dY:Hid ((w.alloc B).drew.ownsRow 0 151 3 rv m.regs.length (m.regs.flatMap Bj)):=aB h.rg hW
 have zi:Hid (∀ (j:Nat) (u:Value),(Bj ⟨k,m.opened,0⟩)[j]?=some u->(w.alloc B).drew.cell? ((⟨w.heap.size,0,none⟩:Addr).add j)=some u):=by
  intro j u hj
  have hq:=bJ w (Bj ⟨k,m.opened,0⟩) 151 j
  rw [<- hj,<- hq,hB];rfl
 have EL:Hid ((w.alloc B).drew.heap[mb]?=some (.cells (lQ tn aO fuel nv cv rv m) 120 (0,0))):=by
  show (w.alloc B).drew.heap[mb]?=_
  rw [hW.block mb nR];exact h.y
 have HH:Hid _:=h
 have HRY:Hid _:=h.ry
 clear h hW
 unfold ptr
 go_enter Tryz.func67,Tryz.ntmps67
 subst hB
 go_wp2
 go_region_law (refine sJ rfl (.tmp 8) (.tmp 15) 118 rfl 151 i0 _ 3 24 Tryz.Qq HI.out pZ.out p8.out p9.out rfl (by decide) rv m.regs.length (m.regs.flatMap Bj) (by simp [Act.eval]) dY.out ⟨w.heap.size,0,none⟩ 1 1 (Bj ⟨k,m.opened,0⟩) (by simp [Act.eval]) rfl zi.out (Ur _) (by decide) (by unfold maxLen;omega) (by omega) ?_;intro g cap w' hown hgrow ik;have oD:=cE hgrow EL.out HRY.out;have c7:w'.cell? ⟨mb,7,none⟩=some rv:=(by rw [aa oD];rfl);have f7:=ag oD 7)
 all_goals
  have hadd:=iq.aaw HH.out ⟨k,m.opened,0⟩ HW.out hgrow hown ik
  have hfin:=hadd.2.De (m.opn k) 8 (.int .i64 ((m.opened:Int)+1)) rfl rfl rfl rfl
  have qI:Hid _:=hadd.1.trans hfin.1
  have Jx:Hid _:=hfin.2
  have c8:(w'.setCell ⟨mb,7,none⟩ (.slice (some ⟨g,0,none⟩) (m.regs.length+1) cap)).cell? ⟨mb,8,none⟩=some (.int .i64 m.opened):=by rw [aa hadd.2.y];rfl
  have f8:=ag hadd.2.y 8
  clear hadd hown hgrow ik hfin
  go_wp2
  refine bodyPost_end (v:=.tuple #[]) (by simp [results,Tryz.results67,go_sem]) rfl ⟨rfl,_,qI.out,Jx.out⟩
theorem FK (l:List MR):(l.flatMap Bj).take ((l.length - 1) * 3)=l.dropLast.flatMap Bj:=by
 rcases List.eq_nil_or_concat l with rfl | ⟨r,x,rfl⟩
 ·rfl
 ·rw [List.concat_eq_append,List.dropLast_concat,List.flatMap_append,List.length_append,List.length_singleton,Nat.add_sub_cancel]
  have hlen:(r.flatMap Bj).length=r.length * 3:=by
   induction r with
   | nil=>rfl
   | cons a r ih=>simp [Bj,ih];omega
  rw [<- hlen,List.take_left]
theorem iq.XP {mb:Nat} {w:World} {tn aO:Value} {fuel:Nat} {nv cv:Value} {m:MM} {g n cap:Nat} (h:iq mb w tn aO fuel nv cv (.slice (some ⟨g,0,none⟩) n cap) m) (hn:n=m.regs.length) (h1:1<=n) :
  bz mb mb w (w.setCell ⟨mb,7,none⟩ (.slice (some ⟨g,0,none⟩) (n - 1) cap)) nv cv (.slice (some ⟨g,0,none⟩) n cap) nv cv (.slice (some ⟨g,0,none⟩) (n - 1) cap) /\
  iq mb (w.setCell ⟨mb,7,none⟩ (.slice (some ⟨g,0,none⟩) (n - 1) cap)) tn aO fuel nv cv (.slice (some ⟨g,0,none⟩) (n - 1) cap) { m with regs:=m.regs.dropLast }:=by
 have n8:g≠mb:=fun e=>h.ry (by rw [e];rfl)
 have ho:w.ownsRow 0 151 3 (.slice (some ⟨g,0,none⟩) (n - 1) cap) (n - 1) (m.regs.dropLast.flatMap Bj):=by
  have hrg:=h.rg
  rw [<- hn] at hrg
  have:=Ae hrg (n - 1) (by omega)
  rw [hn,FK] at this
  rw [hn];exact this
 have kp:∀ k,k≠mb->(w.setCell ⟨mb,7,none⟩ (.slice (some ⟨g,0,none⟩) (n - 1) cap)).heap[k]?=w.heap[k]?:=fun k hk=>ak _ _ (by simpa using hk)
 refine ⟨⟨rfl,rfl,rfl,by simp only [World.setCell,Array.size_modify];omega,fun k _ hp _ _ _ _=>kp k hp,fun _ h=>Or.inl h,fun _ h=>Or.inl h,fun _ h=>Or.inl h⟩,?_⟩
 refine ⟨ay h.y 7 _,ax h.nm (fun k hk=>kp k (fun e=>h.ny (by rw [hk,e]))),ax h.cl (fun k hk=>kp k (fun e=>h.cy (by rw [hk,e]))),?_,h.ny,h.cy,by simp only [Value.ownBlock,ne_eq,Option.some.injEq];exact n8,h.nc,fun k hk=>h.nr k hk,fun k hk=>h.cr k hk⟩
 have:=ax (w':=w.setCell ⟨mb,7,none⟩ (.slice (some ⟨g,0,none⟩) (n - 1) cap)) ho (fun k hk=>kp k (by simp only [Value.ownBlock,Option.some.injEq] at hk;omega))
 simp only [List.length_dropLast,<- hn]
 exact this
theorem iq.drew {mb:Nat} {w:World} {tn aO:Value} {fuel:Nat} {nv cv rv:Value} {m:MM} (h:iq mb w tn aO fuel nv cv rv m):iq mb w.drew tn aO fuel nv cv rv m:=h.below (o8 (Below.refl _ _))
theorem bz.drew {mb:Nat} {w w':World} {nv cv rv bB wZ uI:Value} (h:bz mb mb w w' nv cv rv bB wZ uI):bz mb mb w w'.drew nv cv rv bB wZ uI:=h.upto (o8 (Below.refl _ _))
theorem Mx (mb:Nat) (w:World) (tn aO:Value) (fuel:Nat) (nv cv rv:Value) (m:MM) (h1:1<=m.regs.length) (hf:fuel<=20000) (hb:nG fuel m) (h:iq mb w tn aO fuel nv cv rv m) :
  Calls Tryz.prog 107 #[ptr mb] w fun e w'=>e=.returned (.tuple #[])/\∃ uI,bz mb mb w w' nv cv rv nv cv uI/\iq mb w' tn aO fuel nv cv uI m.fin:=by
 obtain ⟨r,hr⟩:∃ r,m.regs[m.regs.length - 1]?=some r:=⟨_,List.getElem?_eq_getElem (by omega)⟩
 have hlast:m.regs.getLast?=some r:=by rw [List.getLast?_eq_getElem?];exact hr
 have hfin:m.fin={ m with live:=m.live - r.cells,regs:=m.regs.dropLast }:=by unfold MM.fin;rw [hlast]
 rw [hfin]
 have hl:=hb.regs
 have q1:=hb.live;have q2:=hb.sum;have q3:=hb.cells;have q4:=hb.steps
 have q5:r.cells<=j9 m.regs:=by
  have:=sF m.regs _ r ⟨0,0,0⟩ hr
  simp only at this;omega
 have hlv:-100000<=m.live - r.cells/\m.live - r.cells<=100000:=by omega
 obtain ⟨_,_,_,_,_,y7,_,y9,_⟩:=bw h.y
 have f9:w.frozen? ⟨mb,9,none⟩=false:=ag h.y 9
 have f7:w.frozen? ⟨mb,7,none⟩=false:=ag h.y 7
 have nR:=af h.y
 obtain ⟨g,cap,rfl⟩:=js h.rg (by omega)
 obtain ⟨_,_,c2⟩:=mY h.rg (m.regs.length - 1) r hr
 have hg:g < w.heap.size:=(h.rg.lt g rfl).2
 have n8:g≠mb:=fun e=>h.ry (by rw [e];rfl)
 have hcap:m.regs.length<=cap:=by
  rcases h.rg.2 with ⟨h1,h2⟩ | ⟨g',cap',cur,h1,_,_,h3,_⟩
  ·omega
  ·simp only [Value.slice.injEq] at h1;omega
 have My:cap<=maxLen:=by
  rcases h.rg.2 with ⟨h1,h2⟩ | ⟨g',cap',cur,h1,_,_,_,h3,_⟩
  ·omega
  ·simp only [Value.slice.injEq] at h1;omega
 unfold maxLen at My
 have hs1:=h.De { m with live:=m.live - r.cells } 9 (.int .i64 (m.live - r.cells)) rfl rfl rfl rfl
 have hs2:=hs1.2.XP rfl h1
 have qI:Hid _:=(hs1.1.trans hs2.1).drew
 have mq:Hid _:=hs2.2.drew
 clear h hs1 hs2 hr hlast hfin hb q1 q2 q3 q4 q5
 simp only at qI mq
 obtain ⟨n,hn⟩:∃ n,n=m.regs.length - 1:=⟨_,rfl⟩
 have eK:m.regs.length=n+1:=by omega
 rw [<- hn] at c2
 rw [eK] at qI mq y7 hl hcap h1
 simp only [Nat.add_sub_cancel] at qI mq
 rw [eK]
 clear hn eK
 generalize m.live=lv at *
 generalize r.cells=rc at *
 unfold ptr
 go_enter Tryz.func107,Tryz.ntmps107
 go_wp2
 go_region
 all_goals
  go_wp2
  refine bodyPost_end (v:=.tuple #[]) (by simp [results,Tryz.results107,go_sem]) rfl ⟨rfl,_,qI.out,mq.out⟩
theorem Di {α:Type} (f:α->List Value) (s:Nat) (hs:∀ x,(f x).length=s) (l:List α):(l.flatMap f).length=l.length * s:=by
 induction l with
 | nil=>simp
 | cons x l ih=>rw [List.flatMap_cons,List.length_append,hs,ih,List.length_cons,Nat.succ_mul];omega
theorem Mz {α:Type} (f:α->List Value) (s:Nat) (hs:∀ x,(f x).length=s) (l:List α) (k j:Nat) (x y:α) (v:Value) (hx:l[k]?=some x) (hj:j < s) (hf:f y=(f x).set j v):(l.flatMap f).set (k * s+j) v=(l.set k y).flatMap f:=by
 have hk:=(List.getElem?_eq_some_iff.1 hx).1
 apply List.ext_getElem?
 intro i
 have hdm:=Nat.div_add_mod' i s
 have WR:=Nat.mod_lt i (show 0 < s by omega)
 have key:=ke f s hs (l.set k y) (i / s) (i % s) WR
 have FH:=ke f s hs l (i / s) (i % s) WR
 rw [hdm] at key FH
 rw [key]
 by_cases hik:i / s=k
 ·rw [hik] at hdm FH ⊢
  rw [List.getElem?_set_self hk,Option.bind_some,hf]
  by_cases hij:i % s=j
  ·rw [hij,List.getElem?_set_self (by rw [hs];exact hj)]
   rw [<- hdm,hij,List.getElem?_set_self]
   rw [Di f s hs]
   calc k * s+j < k * s+s:=by omega
    _=(k+1) * s:=by rw [Nat.succ_mul]
    _<=l.length * s:=Nat.mul_le_mul_right s hk
  ·rw [List.getElem?_set_ne (by omega),List.getElem?_set_ne (by omega),FH,hx];rfl
 ·have hne:k * s+j≠i:=by
   intro e
   apply hik
   rw [<- e,Nat.mul_comm,Nat.mul_add_div (by omega),Nat.div_eq_of_lt hj,Nat.add_zero]
  rw [List.getElem?_set_ne hne,FH,List.getElem?_set_ne (fun e=>hik e.symm)]
theorem iq.aax {mb:Nat} {w:World} {tn aO:Value} {fuel:Nat} {nv cv:Value} {m:MM} {g cap:Nat} (h:iq mb w tn aO fuel nv cv (.slice (some ⟨g,0,none⟩) m.regs.length cap) m) (k:Nat) (r:MR) (hk:m.regs[k]?=some r) :
  bz mb mb w (w.setCell ⟨g,k * 3+2,none⟩ (.int .i64 ((r.cells+1:Nat):Int))) nv cv (.slice (some ⟨g,0,none⟩) m.regs.length cap) nv cv (.slice (some ⟨g,0,none⟩) m.regs.length cap) /\
  iq mb (w.setCell ⟨g,k * 3+2,none⟩ (.int .i64 ((r.cells+1:Nat):Int))) tn aO fuel nv cv (.slice (some ⟨g,0,none⟩) m.regs.length cap) { m with regs:=m.regs.set k { r with cells:=r.cells+1 } }:=by
 have n8:g≠mb:=fun e=>h.ry (by rw [e];rfl)
 have kp:∀ k',k'≠g->(w.setCell ⟨g,k * 3+2,none⟩ (.int .i64 ((r.cells+1:Nat):Int))).heap[k']?=w.heap[k']?:=fun k' hk=>ak _ _ (by simpa using hk)
 have h2:=(h.rg.stored (k * 3+2) (.int .i64 ((r.cells+1:Nat):Int))).1
 rw [Mz Bj 3 (fun _=>rfl) m.regs k 2 r { r with cells:=r.cells+1 } _ hk (by omega) rfl] at h2
 refine ⟨⟨rfl,rfl,rfl,by simp only [World.setCell,Array.size_modify];omega,fun k' _ _ _ _ _ hs=>kp k' (fun e=>hs (by rw [e];rfl)),fun _ h=>Or.inl h,fun _ h=>Or.inl h,fun _ h=>Or.inl h⟩,?_⟩
 exact ⟨by rw [kp mb (fun e=>n8 e.symm)];exact h.y,ax h.nm (fun k' hk=>kp k' (fun e=>h.nr k' hk (by rw [e];rfl))),ax h.cl (fun k' hk=>kp k' (fun e=>h.cr k' hk (by rw [e];rfl))),by simp only [List.length_set];exact h2,h.ny,h.cy,h.ry,h.nc,h.nr,h.cr⟩
theorem Tryz.JL:(Tryz.prog.info? 154).map (fun i=>(i.zero,i.size,i.bytes))=some (some (.agg #[.bool false,.int .i64 0,.bool false,.int .i64 0,.int .i64 0,.int .i64 0]),6,48):=by kernel_rfl
theorem Tryz.MA:Tryz.prog.underlying 117=some (.slice 154):=by kernel_rfl
theorem Us (c:MC):∀ u∈JK c,u.oneCell'=true:=by intro u hu;simp only [JK,List.mem_cons,List.not_mem_nil,or_false] at hu;rcases hu with rfl | rfl | rfl | rfl | rfl | rfl <;> rfl
theorem iq.aay {mb:Nat} {w W0 w':World} {tn aO:Value} {fuel:Nat} {nv cv rv:Value} {m:MM} (h:iq mb w tn aO fuel nv cv rv m) (r:MC) {g cap:Nat} (hW:Below w.heap.size w W0) (hg:W0.grownBy w' cv.ownBlock)
  (hown:w'.ownsRow 0 154 6 (.slice (some ⟨g,0,none⟩) (m.cells.length+1) cap) (m.cells.length+1) (m.cells.flatMap JK++JK r)) (ik:cv.ownBlock=some g\/W0.heap.size<=g) :
  bz mb mb w (w'.setCell ⟨mb,6,none⟩ (.slice (some ⟨g,0,none⟩) (m.cells.length+1) cap)) nv cv rv nv (.slice (some ⟨g,0,none⟩) (m.cells.length+1) cap) rv /\
  iq mb (w'.setCell ⟨mb,6,none⟩ (.slice (some ⟨g,0,none⟩) (m.cells.length+1) cap)) tn aO fuel nv (.slice (some ⟨g,0,none⟩) (m.cells.length+1) cap) rv { m with cells:=m.cells++[r] }:=by
 obtain ⟨l1,l2,l3,l4⟩:=h.slt
 have lH:=hW.size
 have hgs:=hg.size
 have yW:W0.heap[mb]?=some (.cells (lQ tn aO fuel nv cv rv m) 120 (0,0)):=by rw [hW.block mb l4];exact h.y
 have yw:=cE hg yW h.cy
 have n8:g≠mb:=by
  rcases ik with e | e
  ·intro e';rw [e'] at e;exact h.cy e
  ·omega
 have kp:∀ k,k < w.heap.size->k≠mb->cv.ownBlock≠some k->(w'.setCell ⟨mb,6,none⟩ (.slice (some ⟨g,0,none⟩) (m.cells.length+1) cap)).heap[k]?=w.heap[k]?:=by
  intro k hk hkp hne
  rw [ak _ _ (by simpa using hkp),hg.block k (by omega) (fun e=>hne e.symm),hW.block k hk]
 refine ⟨⟨hg.os.trans hW.os,hg.tape.trans hW.tape,hg.output.trans hW.output,by simp only [World.setCell,Array.size_modify];omega,fun k hk hp _ hs hn ho=>kp k hk hp hn,fun _ h=>Or.inl h,fun g' hg'=>by simp only [Value.ownBlock,Option.some.injEq] at hg';subst hg';rcases ik with e | e;exact Or.inl e;exact Or.inr (by omega),fun _ h=>Or.inl h⟩,?_⟩
 refine ⟨ay yw 6 _,ax h.nm (fun k hk=>kp k (l1 k hk) (fun e=>h.ny (by rw [hk,e])) (fun e=>h.nc k hk e)),
  by have:=ax (w':=w'.setCell ⟨mb,6,none⟩ (.slice (some ⟨g,0,none⟩) (m.cells.length+1) cap)) hown (fun k hk=>by simp only [Value.ownBlock,Option.some.injEq] at hk;subst hk;exact ak _ _ (by simpa using n8));simpa using this,
  ax h.rg (fun k hk=>kp k (l3 k hk) (fun e=>h.ry (by rw [hk,e])) (fun e=>h.cr.symm k hk e)),h.ny,by simp only [Value.ownBlock,ne_eq,Option.some.injEq];exact n8,h.ry,(fun k hk hk'=>by
   simp only [Value.ownBlock,Option.some.injEq] at hk'
   rcases ik with e | e
   ·rw [hk'] at e;exact h.nc k hk e
   ·have:=l1 k hk;omega),h.nr,(fun k hk hk'=>by
   simp only [Value.ownBlock,Option.some.injEq] at hk
   rcases ik with e | e
   ·rw [hk] at e;exact h.cr.symm k hk' e
   ·have:=l3 k hk';omega)⟩
theorem Dj (l:List MR) (k:Int):∀ i,iI l k i<=i
 | 0=>Nat.le_refl _
 | i+1=>by
  simp only [iI]
  split
  ·exact Nat.le_refl _
  ·exact Nat.le_succ_of_le (Dj l k i)
theorem xb {w:World} {b:Nat} {v:MV} (h:w.heap[b]?=some (.cells #[.bool v.c,.int .i64 v.n] 122)):w.cell? ⟨b,0,none⟩=some (.bool v.c)/\w.cell? ⟨b,1,none⟩=some (.int .i64 v.n):=⟨by rw [aa h];rfl,by rw [aa h];rfl⟩
structure Beside (mb q:Nat) (w:World) (nv cv rv:Value) (o:Obj):Prop where
 b:w.heap[q]?=some o
 ne:q≠mb
 n:nv.ownBlock≠some q
 c:cv.ownBlock≠some q
 r:rv.ownBlock≠some q
theorem Beside.keep {mb b:Nat} {w w':World} {nv cv rv bB wZ uI:Value} {o:Obj} (h:Beside mb b w nv cv rv o) (hf:bz mb mb w w' nv cv rv bB wZ uI):Beside mb b w' bB wZ uI o :=
 have hk:=af h.b
 ⟨by rw [hf.blk b hk h.ne h.ne h.n h.c h.r];exact h.b,h.ne,fun e=>by
  rcases hf.s b e with e | e
  ·exact h.n e
  ·omega,fun e=>by
  rcases hf.n b e with e | e
  ·exact h.c e
  ·omega,fun e=>by
  rcases hf.o b e with e | e
  ·exact h.r e
  ·omega⟩
theorem Beside.new {mb:Nat} {w W:World} {tn aO:Value} {fuel:Nat} {nv cv rv:Value} {m:MM} (h:iq mb w tn aO fuel nv cv rv m) {b:Nat} {o:Obj} (hb:W.heap[b]?=some o) (hw:w.heap.size<=b):Beside mb b W nv cv rv o:=by
 obtain ⟨l1,l2,l3,l4⟩:=h.slt
 exact ⟨hb,by omega,fun e=>by have:=l1 _ e;omega,fun e=>by have:=l2 _ e;omega,fun e=>by have:=l3 _ e;omega⟩
theorem iq.beside {mb q:Nat} {w:World} {tn aO:Value} {fuel:Nat} {nv cv rv:Value} {m:MM} (h:iq mb w tn aO fuel nv cv rv m) (h1:q≠mb) (h2:nv.ownBlock≠some q) (h3:cv.ownBlock≠some q) (h4:rv.ownBlock≠some q) (i:Nat) (u:Value):iq mb (w.setCell ⟨q,i,none⟩ u) tn aO fuel nv cv rv m:=by
 have kp:∀ k,k≠q->(w.setCell ⟨q,i,none⟩ u).heap[k]?=w.heap[k]?:=fun k hk=>ak _ _ (by simpa using hk)
 exact ⟨by rw [kp mb (fun e=>h1 e.symm)];exact h.y,ax h.nm (fun k hk=>kp k (fun e=>h2 (by rw [hk,e]))),ax h.cl (fun k hk=>kp k (fun e=>h3 (by rw [hk,e]))),ax h.rg (fun k hk=>kp k (fun e=>h4 (by rw [hk,e]))),h.ny,h.cy,h.ry,h.nc,h.nr,h.cr⟩
theorem Dk (mb:Nat) (w:World) (tn aO:Value) (fuel:Nat) (nv cv rv:Value) (m:MM) (k:Int) (a b:MV) (h1:1<=m.regs.length) (hf:fuel<=20000) (hb:nG fuel m) (h:iq mb w tn aO fuel nv cv rv m) :
  Calls Tryz.prog 126 #[ptr mb,.int .i64 k,lG a,lG b] w fun e w'=>e=.returned (lG (m.aX k a b).1)/\∃ wZ,bz mb mb w w' nv cv rv nv wZ rv/\iq mb w' tn aO fuel nv wZ rv (m.aX k a b).2:=by
 obtain ⟨i0,hi,hz0,hz1,hz2⟩:=info_parts Tryz.JL
 have HI:Hid _:=hi
 have pZ:Hid _:=hz0
 have p8:Hid _:=hz1
 have p9:Hid _:=hz2
 clear hi hz0 hz1 hz2
 have La:m.home k < m.regs.length:=by have:=Dj m.regs k (m.regs.length - 1);unfold MM.home;omega
 obtain ⟨r,hr⟩:∃ r,m.regs[m.home k]?=some r:=⟨_,List.getElem?_eq_getElem La⟩
 have ef:m.aX k a b=(⟨true,m.cells.length⟩,{ m with regs:=m.regs.set (m.home k) { r with cells:=r.cells+1 },cells:=m.cells++[⟨a,b,m.home k,r.gA⟩],live:=m.live+1,most:=if m.most < m.live+1 then m.live+1 else m.most }):=by unfold MM.aX;rw [hr]
 rw [ef]
 obtain ⟨mo,Ut⟩:∃ mo,mo=if m.most < m.live+1 then m.live+1 else m.most:=⟨_,rfl⟩
 rw [<- Ut]
 have Z0:Hid _:=Ut
 clear Ut
 dsimp only
 have q1:=hb.live;have q2:=hb.sum;have q3:=hb.cells;have q4:=hb.steps;have q5:=hb.most;have hrl:=hb.regs
 have q6:r.cells<=j9 m.regs:=by
  have:=sF m.regs _ r ⟨0,0,0⟩ hr
  simp only at this;omega
 have hlv:0<=m.live/\m.live<=20000:=by omega
 have hmo:0<=m.most/\m.most<=20000:=by omega
 have hrc:r.cells<=20000:=by omega
 have tD:m.cells.length<=20000:=by omega
 have hho:=fun W (hW:Below w.heap.size w W)=>FJ mb W _ _ _ _ _ _ m k h1 hrl (h.below hW)
 obtain ⟨H,hH⟩:∃ H,m.home k=H:=⟨_,rfl⟩
 rw [hH] at hho La hr ⊢
 obtain ⟨g,cap,rfl⟩:=js h.rg (by omega)
 obtain ⟨A,hA⟩:∃ A:Obj,A=.cells #[.bool a.c,.int .i64 a.n] 122:=⟨_,rfl⟩
 obtain ⟨B,hB⟩:∃ B:Obj,B=.cells #[.bool b.c,.int .i64 b.n] 122:=⟨_,rfl⟩
 obtain ⟨R,hR⟩:∃ R:Obj,R=.cells #[.bool false,.int .i64 0] 122:=⟨_,rfl⟩
 obtain ⟨W1,hE⟩:∃ W1,W1=((w.alloc A).alloc B).alloc R:=⟨_,rfl⟩
 have hW1:Below w.heap.size w W1:=by rw [hE];exact aE (aE (aE (Below.refl _ _) _) _) _
 have R2:W1.heap[w.heap.size]?=some A:=by rw [hE];exact aN _ (aN _ (aj w A))
 have KZ:W1.heap[w.heap.size+1]?=some B:=by rw [hE];exact aN _ (by have:=aj (w.alloc A) B;simpa using this)
 have hbR:W1.heap[w.heap.size+1+1]?=some R:=by rw [hE];have:=aj ((w.alloc A).alloc B) R;simpa using this
 have Qr:=Beside.new h R2 (Nat.le_refl _)
 have Wg:=Beside.new h KZ (by omega)
 have kX:=Beside.new h hbR (by omega)
 have mT:=h.below hW1
 have qX:bz mb mb w W1 nv cv (.slice (some ⟨g,0,none⟩) m.regs.length cap) nv cv (.slice (some ⟨g,0,none⟩) m.regs.length cap):=bz.below mb mb _ _ _ hW1
 have hset:=mT.aax H r hr
 have XQ:=Qr.keep hset.1
 have XR:=Wg.keep hset.1
 have fX:=kX.keep hset.1
 have cW:=qX.trans hset.1
 have HHO:Hid _:=hho
 have wR:Hid _:=cW
 have wS:Hid _:=hset.2
 have Sp:Hid _:=XQ
 have TC:Hid _:=XR
 have jR:Hid _:=fX
 have HW1:Hid _:=hW1
 obtain ⟨_,_,_,_,_,y7,_⟩:=bw mT.y
 have nR:=af mT.y
 have hg:g < W1.heap.size:=(mT.rg.lt g rfl).2
 have n8:g≠mb:=fun e=>mT.ry (by rw [e];rfl)
 have fz:=mT.rg.frozenAt (H * 3+2)
 obtain ⟨r0,r1,r2⟩:=mY mT.rg H r hr
 clear h hset Qr Wg kX XQ XR fX qX cW mT R2 KZ hbR hW1 hho ef hr hb q1 q2 q3 q4 q5 q6 hH
 unfold ptr at HHO
 unfold ptr lG
 generalize hn:m.regs.length=n at *
 go_enter Tryz.func126,Tryz.ntmps126
 subst hA
 subst hB
 subst hR
 go_wp2_with fail
 rw [<- hE]
 refine Calls.mono (HHO.out _ HW1.out) ?_
 rintro _ w'' ⟨rfl,hw⟩
 have hw':=hw.symm
 subst hw'
 clear hE hw
 go_upto_region 6 with fail
 obtain ⟨W2,uJ⟩:∃ W2,W2=W1.setCell ⟨g,H * 3+2,none⟩ (.int .i64 ((r.cells:Int)+1)):=⟨_,rfl⟩
 rw [<- uJ]
 have bq:iq mb W2 tn aO fuel nv cv (.slice (some ⟨g,0,none⟩) n cap) { m with regs:=m.regs.set H { r with cells:=r.cells+1 } }:=by rw [uJ];exact wS.out
 have cW:bz mb mb w W2 nv cv (.slice (some ⟨g,0,none⟩) n cap) nv cv (.slice (some ⟨g,0,none⟩) n cap):=by rw [uJ];exact wR.out
 have Qr:Beside mb w.heap.size W2 nv cv (.slice (some ⟨g,0,none⟩) n cap) (.cells #[.bool a.c,.int .i64 a.n] 122):=by rw [uJ];exact Sp.out
 have Wg:Beside mb (w.heap.size+1) W2 nv cv (.slice (some ⟨g,0,none⟩) n cap) (.cells #[.bool b.c,.int .i64 b.n] 122):=by rw [uJ];exact TC.out
 have kX:Beside mb (w.heap.size+1+1) W2 nv cv (.slice (some ⟨g,0,none⟩) n cap) (.cells #[.bool false,.int .i64 0] 122):=by rw [uJ];exact jR.out
 clear uJ wS wR Sp TC jR HW1 HHO y7 r0 r1 r2 fz nR hg
 have XO:w.heap.size<=w.heap.size+1+1:=by omega
 generalize w.heap.size+1+1=q at *
 obtain ⟨a0,a1⟩:=xb Qr.b
 obtain ⟨b0,b1⟩:=xb Wg.b
 have hla:=af Qr.b
 have hlb:=af Wg.b
 obtain ⟨_,_,_,_,y6,_,_,_,_⟩:=bw bq.y
 have nR:=af bq.y
 obtain ⟨C,hC⟩:∃ C:Obj,C=.cells #[.bool a.c,.int .i64 a.n,.bool b.c,.int .i64 b.n,.int .i64 H,.int .i64 r.gA] 154:=⟨_,rfl⟩
 have hW:Below W2.heap.size W2 (W2.alloc C).drew:=sH W2 C
 have HW:Hid _:=hW
 have dY:Hid ((W2.alloc C).drew.ownsRow 0 154 6 cv m.cells.length (m.cells.flatMap JK)):=aB bq.cl hW
 have zi:Hid (∀ (j:Nat) (u:Value),(JK ⟨a,b,H,r.gA⟩)[j]?=some u->(W2.alloc C).drew.cell? ((⟨W2.heap.size,0,none⟩:Addr).add j)=some u):=by
  intro j u hj
  have hq:=bJ W2 (JK ⟨a,b,H,r.gA⟩) 154 j
  rw [<- hj,<- hq,hC];rfl
 have EL:Hid ((W2.alloc C).drew.heap[mb]?=some (.cells (lQ tn aO fuel nv cv (.slice (some ⟨g,0,none⟩) n cap) { m with regs:=m.regs.set H { r with cells:=r.cells+1 } }) 120 (0,0))):=by
  show (W2.alloc C).drew.heap[mb]?=_
  rw [hW.block mb nR];exact bq.y
 have HCY:Hid _:=bq.cy
 have wS:Hid _:=bq
 have wR:Hid _:=cW
 have jR:Hid _:=kX
 clear bq cW Qr Wg kX hW
 subst hC
 go_region_law (refine sJ rfl (.tmp 45) (.tmp 51) 117 rfl 154 i0 _ 6 48 Tryz.MA HI.out pZ.out p8.out p9.out rfl (by decide) cv m.cells.length (m.cells.flatMap JK) (by simp [Act.eval]) dY.out ⟨W2.heap.size,0,none⟩ 1 1 (JK ⟨a,b,H,r.gA⟩) (by simp [Act.eval]) rfl zi.out (Us _) (by decide) (by unfold maxLen;omega) (by omega) ?_;intro g' cap' w' hown hgrow ik;have oD:=cE hgrow EL.out HCY.out;have c6:w'.cell? ⟨mb,6,none⟩=some cv:=(by rw [aa oD];rfl);have f6:=ag oD 6)
 all_goals
  have hadd:=iq.aay wS.out ⟨a,b,H,r.gA⟩ HW.out hgrow hown ik
  have bQ:=wR.out.trans hadd.1
  have JM:=jR.out.keep hadd.1
  have dZ:=hadd.2
  clear hadd hown hgrow ik oD c6 f6 wS wR jR HW dY zi EL HCY HI pZ p8 p9 a0 a1 b0 b1 y6
  generalize w'.setCell ⟨mb,6,none⟩ (.slice (some ⟨g',0,none⟩) (m.cells.length+1) cap')=W3 at bQ JM dZ ⊢
  have y9:W3.cell? ⟨mb,9,none⟩=some (.int .i64 m.live):=(bw dZ.y).2.2.2.2.2.2.2.1
  have f9:W3.frozen? ⟨mb,9,none⟩=false:=ag dZ.y 9
  have Qs:=af dZ.y
  have bT:=dZ.De { m with regs:=m.regs.set H { r with cells:=r.cells+1 },cells:=m.cells++[⟨a,b,H,r.gA⟩],live:=m.live+1 } 9 (.int .i64 (m.live+1)) rfl rfl rfl rfl
  have Mh:Hid _:=bQ.trans bT.1
  have JN:Hid _:=JM.keep bT.1
  have JE:Hid _:=bT.2
  have XS:(W3.setCell ⟨mb,9,none⟩ (.int .i64 (m.live+1))).cell? ⟨mb,10,none⟩=some (.int .i64 m.most):=(bw bT.2.y).2.2.2.2.2.2.2.2
  have hy9:(W3.setCell ⟨mb,9,none⟩ (.int .i64 (m.live+1))).cell? ⟨mb,9,none⟩=some (.int .i64 (m.live+1)):=(bw bT.2.y).2.2.2.2.2.2.2.1
  clear bQ JM dZ bT
  go_upto_region 8 with fail
  obtain ⟨W4,hE4⟩:∃ W4,W4=W3.setCell ⟨mb,9,none⟩ (.int .i64 (m.live+1)):=⟨_,rfl⟩
  rw [<- hE4] at Mh JN JE XS hy9 ⊢
  clear hE4 y9 f9 Qs
  have aaz:=af JE.out.y
  go_quiet (fail)
  rename_i nq
  obtain ⟨W5,uK⟩:∃ W5,W5=W4.drewN nq:=⟨_,rfl⟩
  have Qt:Below W4.heap.size W4 W5:=by rw [uK];exact iJ (Below.refl _ _)
  rw [<- uK]
  have mU:=JE.out.below Qt
  have oz:=Mh.out.trans (bz.below mb mb _ _ _ Qt)
  have aG:=JN.out.keep (bz.below mb mb _ _ _ Qt)
  clear uK Qt JE Mh JN hy9 XS aaz
  have z9:W5.cell? ⟨mb,9,none⟩=some (.int .i64 (m.live+1)):=(bw mU.y).2.2.2.2.2.2.2.1
  have z10:W5.cell? ⟨mb,10,none⟩=some (.int .i64 m.most):=(bw mU.y).2.2.2.2.2.2.2.2
  have z6:W5.cell? ⟨mb,6,none⟩=some (.slice (some ⟨g',0,none⟩) (m.cells.length+1) cap'):=(bw mU.y).2.2.2.2.1
  have g10:W5.frozen? ⟨mb,10,none⟩=false:=ag mU.y 10
  have abJ:=af mU.y
  have x0:W5.cell? ⟨q,0,none⟩=some (.bool false):=by rw [aa aG.b];rfl
  have x1:W5.cell? ⟨q,1,none⟩=some (.int .i64 0):=by rw [aa aG.b];rfl
  have g0:W5.frozen? ⟨q,0,none⟩=false:=ag aG.b 0
  have g1:W5.frozen? ⟨q,1,none⟩=false:=ag aG.b 1
  have Bl:=af aG.b
  have hqm:q≠mb:=aG.ne
  have hmq:mb≠q:=fun e=>hqm e.symm
  have C4:Hid _:=mU
  have zx:Hid _:=oz
  have dq:Hid _:=aG
  clear mU oz aG
  by_cases hq:m.most < m.live+1
  ·have Uu:Hid (mo=m.live+1):=by have:=Z0.out;rw [if_pos hq] at this;exact this
   clear Z0
   go_wp2
   have hs6:=C4.out.De { m with regs:=m.regs.set H { r with cells:=r.cells+1 },cells:=m.cells++[⟨a,b,H,r.gA⟩],live:=m.live+1,most:=m.live+1 } 10 (.int .i64 (m.live+1)) rfl rfl rfl rfl
   have aV:=dq.out.keep hs6.1
   have jB:=(hs6.2.beside aV.ne aV.n aV.c aV.r 0 (.bool true)).beside aV.ne aV.n aV.c aV.r 1 (.int .i64 m.cells.length)
   have iK:=((zx.out.trans hs6.1).upto (aw (aw (Below.refl _ _) ⟨q,0,none⟩ XO (.bool true)) ⟨q,1,none⟩ XO (.int .i64 m.cells.length)))
   refine bodyPost_ret (v:=.agg #[.bool true,.int .i64 m.cells.length]) (by simp [results,Tryz.results126,go_sem,x0,x1]) rfl ⟨rfl,_,iK,?_⟩
   rw [Uu.out];exact jB
  ·have Uu:Hid (mo=m.most):=by have:=Z0.out;rw [if_neg hq] at this;exact this
   clear Z0
   go_wp2
   have aV:=dq.out
   have jB:=(C4.out.beside aV.ne aV.n aV.c aV.r 0 (.bool true)).beside aV.ne aV.n aV.c aV.r 1 (.int .i64 m.cells.length)
   have iK:=(zx.out.upto (aw (aw (Below.refl _ _) ⟨q,0,none⟩ XO (.bool true)) ⟨q,1,none⟩ XO (.int .i64 m.cells.length)))
   refine bodyPost_ret (v:=.agg #[.bool true,.int .i64 m.cells.length]) (by simp [results,Tryz.results126,go_sem,x0,x1]) rfl ⟨rfl,_,iK,?_⟩
   rw [Uu.out];exact jB
end Go.Proofs.YtpicaknklgccoabGreatDoor
