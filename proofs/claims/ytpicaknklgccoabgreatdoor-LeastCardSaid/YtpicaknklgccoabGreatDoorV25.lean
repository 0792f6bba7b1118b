import Derived.Test.YtpicaknklgccoabGreatDoorV24
import Derived.Laws.CopyOwn
set_option maxHeartbeats 4000000
set_option maxRecDepth 100000
namespace Go.Proofs.YtpicaknklgccoabGreatDoor
open Go.RowKit
theorem lg {α:Type} (f:α->List Value) (s:Nat) (hs:∀ x,(f x).length=s):∀ (l:List α) (i j:Nat),j<s->(l.flatMap f)[i*s+j]?=(l[i]?).bind (λx=>(f x)[j]?)
 | [],i,j,_=>by simp
 | x::l,0,j,hj=>by
  rw[List.flatMap_cons,Nat.zero_mul,Nat.zero_add,List.getElem?_append_left (by rw[hs];exact hj)];simp
 | x::l,i+1,j,hj=>by
  rw[List.flatMap_cons,List.getElem?_append_right (by rw[hs,Nat.succ_mul];omega),hs,show (i+1)*s+j-s=i*s+j from by rw[Nat.succ_mul];omega,lg f s hs l i j hj];simp
theorem j5 {w:World} {base:Nat} {e:TypeId} {size:Nat} {v:Value} {n:Nat} {xs:List Value} (h:w.ownsRow base e size v n xs) (hn:0<n):∃ g cap,v=.slice (some ⟨g,0,none⟩) n cap:=by
 rcases h.2 with ⟨_,h2⟩ | ⟨g,cap,cur,h1,_⟩
 ·omega
 ·exact⟨g,cap,h1⟩
theorem lV {w:World} {base:Nat} {e:TypeId} {size:Nat} {v:Value} {n:Nat} {xs:List Value} (h:w.ownsRow base e size v n xs):∃ a cap,v=.slice a n cap:=by
 rcases h.2 with ⟨h1,h2⟩ | ⟨g,cap,cur,h1,_⟩
 ·exact⟨none,0,by rw[h1,h2]⟩
 ·exact⟨_,_,h1⟩
theorem wo {w:World} {l:List MV} {g cap:Nat} (h:w.ownsRow 0 122 2 (.slice (some ⟨g,0,none⟩) l.length cap) l.length (l.flatMap Oe)) (k:Nat) (hk:k<l.length) :
  w.cell? ⟨g,k*2,none⟩=some (.bool l[k].c)/\w.cell? ⟨g,k*2+1,none⟩=some (.int .i64 l[k].n):=by
 have key:∀ j,j<2->w.cell? ⟨g,k*2+j,none⟩=(Oe l[k])[j]?:=by
  intro j hj;rw[h.cellAt (k*2+j) (by omega),lg Oe 2 (λ_=>rfl) l k j hj,List.getElem?_eq_getElem hk];rfl
 exact⟨key 0 (by omega),key 1 (by omega)⟩
theorem Oh (mb:Nat) (w:World) (tn aS:Value) (fuel:Nat) (nv cv rv:Value) (m:MM) (i:Int) (hi:-10000<=i/\i<=10000) (hl:m.named.length<=9000) (h:jc mb w tn aS fuel nv cv rv m) :
  Calls Tryz.prog 109 #[ptr mb,.int .i64 i] w λe w'=>e=.returned (ml (m.look i))/\Below w.heap.size w w':=by
 obtain⟨_,_,_,y5,_⟩:=bK h.y;have oL:=af h.y;unfold ptr
 by_cases hc:i<0\/(m.named.length:Int)<=i
 ·have hs:m.look i=v0:=by unfold MM.look;rw[if_pos hc]
  rw[hs];obtain⟨ao,cap,rfl⟩:=lV h.nm;clear h hs;unfold ml v0;generalize m.named.length=n at *
  rcases hc with hc | hc
  ·go_enter Tryz.func109,Tryz.ntmps109
   go_wp2
   refine bodyPost_ret (v:=.agg #[.bool false,.int .i64 0]) (by simp[results,Tryz.results109,go_sem]) rfl ⟨rfl,(Below.refl _ _).alloc (Nat.le_refl _) _⟩
  ·have hc2:¬ i<0:=by omega
   go_enter Tryz.func109,Tryz.ntmps109
   go_wp2
   refine bodyPost_ret (v:=.agg #[.bool false,.int .i64 0]) (by simp[results,Tryz.results109,go_sem]) rfl ⟨rfl,(Below.refl _ _).alloc (Nat.le_refl _) _⟩
 ·obtain⟨k,rfl⟩:∃ k:Nat,i=k:=⟨i.toNat,by omega⟩
  have hk:k<m.named.length:=by omega
  obtain⟨g,cap,rfl⟩:=j5 h.nm (by omega);obtain⟨c0,c1⟩:=wo h.nm k hk;have hg:g<w.heap.size:=(h.nm.lt g rfl).2
  have hs:m.look k=m.named[k]:=by
   unfold MM.look;rw[if_neg (by omega)];simp[List.getD_eq_getElem?_getD,hk]
  rw[hs];clear h hs hc;unfold ml;generalize m.named[k]=v at *;generalize m.named.length=n at *
  go_enter Tryz.func109,Tryz.ntmps109
  go_wp2
  refine bodyPost_ret (v:=.agg #[.bool v.c,.int .i64 v.n]) (by simp[results,Tryz.results109,go_sem]) rfl ⟨rfl,(Below.refl _ _).alloc (Nat.le_refl _) _⟩
theorem um (W:World) (B:Obj):Below W.heap.size W (W.alloc B).drew:=((Below.refl _ W).alloc (Nat.le_refl _) B).trans ⟨rfl,rfl,rfl,Nat.le_refl _,λ_ _=>rfl⟩
theorem abt {xs:List Value} {f:MV->List Value} {l:List MV} {k:Nat} {v:MV} (hx:xs=l.flatMap f) (hs:∀ x,(f x).length=2) (a b:Value) (hf:f v=[a,b]) (hk:k<l.length):(xs.set (k*2) a).set (k*2+1) b=(l.set k v).flatMap f:=by
 subst hx
 apply List.ext_getElem?
 intro i
 have hlen:(l.flatMap f).length=l.length*2:=by
  clear hk
  induction l with
  | nil=>rfl
  | cons x l ih=>simp only[List.flatMap_cons,List.length_append,hs,ih,List.length_cons];omega
 have key:=lg f 2 hs (l.set k v) (i / 2) (i % 2) (Nat.mod_lt _ (by omega));have Ii:=lg f 2 hs l (i / 2) (i % 2) (Nat.mod_lt _ (by omega));rw[show i / 2*2+i % 2=i from by omega] at key Ii;rw[key]
 by_cases hik:i / 2=k
 ·rw[hik,List.getElem?_set_self hk]
  simp only[Option.bind_some,hf]
  rcases (show i=k*2\/i=k*2+1 by omega) with rfl | rfl
  ·rw[List.getElem?_set_ne (by omega),List.getElem?_set_self (by omega)]
   rw[show k*2 % 2=0 from by omega];rfl
  ·rw[List.getElem?_set_self (by rw[List.length_set,hlen];omega)]
   rw[show (k*2+1) % 2=1 from by omega];rfl
 ·rw[List.getElem?_set_ne (by omega),List.getElem?_set_ne (by omega),Ii,List.getElem?_set_ne (λe=>hik e.symm)]
theorem jc.abu {mb:Nat} {w:World} {tn aS:Value} {fuel:Nat} {cv rv:Value} {m:MM} {g cap:Nat} (h:jc mb w tn aS fuel (.slice (some ⟨g,0,none⟩) m.named.length cap) cv rv m) (k:Nat) (v:MV) (hk:k<m.named.length) :
  bL mb mb w ((w.setCell ⟨g,k*2,none⟩ (.bool v.c)).setCell ⟨g,k*2+1,none⟩ (.int .i64 v.n)) (.slice (some ⟨g,0,none⟩) m.named.length cap) cv rv (.slice (some ⟨g,0,none⟩) m.named.length cap) cv rv /\
  jc mb ((w.setCell ⟨g,k*2,none⟩ (.bool v.c)).setCell ⟨g,k*2+1,none⟩ (.int .i64 v.n)) tn aS fuel (.slice (some ⟨g,0,none⟩) m.named.length cap) cv rv { m with named:=m.named.set k v }:=by
 have pM:g≠mb:=λe=>h.ny (by rw[e];rfl)
 have kp:∀ k',k'≠g->((w.setCell ⟨g,k*2,none⟩ (.bool v.c)).setCell ⟨g,k*2+1,none⟩ (.int .i64 v.n)).heap[k']?=w.heap[k']?:=λk' hk=>by rw[aq _ _ (by simpa using hk),aq _ _ (by simpa using hk)]
 have h1:=(h.nm.stored (k*2) (.bool v.c)).1;have h2:=(h1.stored (k*2+1) (.int .i64 v.n)).1;rw[abt (v:=v) rfl (λ_=>rfl) (.bool v.c) (.int .i64 v.n) rfl hk] at h2;refine⟨⟨rfl,rfl,rfl,by simp only[World.setCell,Array.size_modify];omega,λk' _ _ _ hs _ _=>kp k' (λe=>hs (by rw[e];rfl)),λ_ h=>Or.inl h,λ_ h=>Or.inl h,λ_ h=>Or.inl h⟩,?_⟩;refine⟨by rw[kp mb (λe=>pM e.symm)];exact h.y,by simp only[List.length_set];exact h2,ay h.cl (λk' hk=>kp k' (λe=>h.nc g rfl (by rw[<- e];exact hk))),ay h.rg (λk' hk=>kp k' (λe=>h.nr g rfl (by rw[<- e];exact hk))),h.ny,h.cy,h.ry,h.nc,h.nr,h.cr⟩
theorem EG (mb:Nat) (w:World) (tn aS:Value) (fuel:Nat) (nv cv rv:Value) (m:MM) (i:Int) (v:MV) (hi:-10000<=i/\i<=10000) (hl:m.named.length<=9000) (h:jc mb w tn aS fuel nv cv rv m) :
  Calls Tryz.prog 125 #[ptr mb,.int .i64 i,ml v] w λe w'=>e=.returned (.tuple #[])/\bL mb mb w w' nv cv rv nv cv rv/\jc mb w' tn aS fuel nv cv rv (m.name i v):=by
 obtain⟨B,hB⟩:∃ B:Obj,B=.cells #[.bool v.c,.int .i64 v.n] 122:=⟨_,rfl⟩;have h':=h.below ((Below.refl _ w).alloc (Nat.le_refl _) B);have hfr:bL mb mb w (w.alloc B) nv cv rv nv cv rv:=bL.below mb mb nv cv rv ((Below.refl _ w).alloc (Nat.le_refl _) B);obtain⟨_,_,_,y5,_⟩:=bK h.y;have oL:=af h.y;unfold ptr ml
 by_cases hc:0<=i/\i<m.named.length
 ·obtain⟨k,rfl⟩:∃ k:Nat,i=k:=⟨i.toNat,by omega⟩
  have hk:k<m.named.length:=by omega
  have hs:m.name k v={ m with named:=m.named.set k v }:=by unfold MM.name;rw[if_pos hc];rfl
  rw[hs];obtain⟨g,cap,rfl⟩:=j5 h.nm (by omega);have hset:=h.abu k v hk;have f0:=h.nm.frozenAt (k*2);have f1:=h.nm.frozenAt (k*2+1);obtain⟨c0,c1⟩:=wo h.nm k hk;have hg:g<w.heap.size:=(h.nm.lt g rfl).2;have HD:Hid _:=hset;clear h h' hset hs hfr;subst hB;generalize m.named[k]=u at c0 c1;generalize m.named.length=n at *
  go_enter Tryz.func125,Tryz.ntmps125
  go_wp2
  go_region
  all_goals
   go_wp2
   refine bodyPost_end (v:=.tuple #[]) (by simp[results,Tryz.results125,go_sem]) rfl ⟨rfl,?_⟩;exact⟨HD.out.1.trans (bL.below mb mb _ _ _ (um _ _)),HD.out.2.below (um _ _)⟩
 ·have hs:m.name i v=m:=by unfold MM.name;rw[if_neg hc]
  rw[hs];obtain⟨ao,cap,rfl⟩:=lV h.nm;have HD:Hid _:=h';have HF:Hid _:=hfr;clear h h' hs hfr;subst hB
  have hc':i<0\/(0<=i/\(m.named.length:Int)<=i):=by omega
  generalize m.named.length=n at *;clear hc
  rcases hc' with hc | ⟨hc1,hc2⟩
  all_goals
   go_enter Tryz.func125,Tryz.ntmps125
   go_wp2
   refine bodyPost_end (v:=.tuple #[]) (by simp[results,Tryz.results125,go_sem]) rfl ⟨rfl,HF.out,HD.out⟩
theorem oB {w:World} {l:List MR} {g cap:Nat} (h:w.ownsRow 0 151 3 (.slice (some ⟨g,0,none⟩) l.length cap) l.length (l.flatMap CK)) (k:Nat) (r:MR) (hr:l[k]?=some r) :
  w.cell? ⟨g,k*3,none⟩=some (.int .i64 r.num)/\w.cell? ⟨g,k*3+1,none⟩=some (.int .i64 r.gO)/\w.cell? ⟨g,k*3+2,none⟩=some (.int .i64 r.cells):=by
 have hk:=(List.getElem?_eq_some_iff.1 hr).1
 have key:∀ j,j<3->w.cell? ⟨g,k*3+j,none⟩=(CK r)[j]?:=by
  intro j hj;rw[h.cellAt (k*3+j) (by omega),lg CK 3 (λ_=>rfl) l k j hj,hr];rfl
 exact⟨key 0 (by omega),key 1 (by omega),key 2 (by omega)⟩
theorem EH {w:World} {l:List MC} {g cap:Nat} (h:w.ownsRow 0 154 6 (.slice (some ⟨g,0,none⟩) l.length cap) l.length (l.flatMap Lw)) (k:Nat) (c:MC) (hr:l[k]?=some c) :
  w.cell? ⟨g,k*6,none⟩=some (.bool c.a.c)/\w.cell? ⟨g,k*6+1,none⟩=some (.int .i64 c.a.n)/\w.cell? ⟨g,k*6+2,none⟩=some (.bool c.b.c)/\w.cell? ⟨g,k*6+3,none⟩=some (.int .i64 c.b.n)/\w.cell? ⟨g,k*6+4,none⟩=some (.int .i64 c.home)/\w.cell? ⟨g,k*6+5,none⟩=some (.int .i64 c.gO):=by
 have hk:=(List.getElem?_eq_some_iff.1 hr).1
 have key:∀ j,j<6->w.cell? ⟨g,k*6+j,none⟩=(Lw c)[j]?:=by
  intro j hj;rw[h.cellAt (k*6+j) (by omega),lg Lw 6 (λ_=>rfl) l k j hj,hr];rfl
 exact⟨key 0 (by omega),key 1 (by omega),key 2 (by omega),key 3 (by omega),key 4 (by omega),key 5 (by omega)⟩
theorem jt {W w:World} {n:Nat} {b:Nat} (h:Below b W w):Below b W (w.drewN n):=h.trans ⟨rfl,rfl,rfl,Nat.le_refl _,λ_ _=>rfl⟩
theorem Ij (mb:Nat) (w:World) (tn aS:Value) (fuel:Nat) (nv cv rv:Value) (m:MM) (c:MC) (hl:m.regs.length<=20000) (hh:c.home<=20000) (h:jc mb w tn aS fuel nv cv rv m) :
  Calls Tryz.prog 116 #[ptr mb,Og c] w λe w'=>e=.returned (.bool (m.isLive c))/\Below w.heap.size w w':=by
 obtain⟨_,_,_,_,_,y7,_⟩:=bK h.y;have oL:=af h.y
 have hd0:(0:Int)<=(c.home:Int):=by omega
 unfold ptr Og
 cases hr:m.regs[c.home]? with
 | none =>
  have hs:m.isLive c=false:=by unfold MM.isLive;rw[hr]
  rw[hs]
  have hn:m.regs.length<=c.home:=by simpa using hr
  obtain⟨ao,cap,rfl⟩:=lV h.rg;have hd:decide ((c.home:Int)<(m.regs.length:Int))=false:=decide_eq_false (by omega);have hd2:decide (c.home<m.regs.length)=false:=decide_eq_false (by omega);clear h hs hr;generalize m.regs.length=n at *
  go_enter Tryz.func116,Tryz.ntmps116
  go_wp2
  go_quiet (fail)
  go_wp2
  go_ret
  exact⟨rfl,jt ((Below.refl _ _).alloc (Nat.le_refl _) _)⟩
 | some r =>
  have hk:=(List.getElem?_eq_some_iff.1 hr).1;obtain⟨g,cap,rfl⟩:=j5 h.rg (by omega);obtain⟨_,r1,_⟩:=oB h.rg c.home r hr;have hg:g<w.heap.size:=(h.rg.lt g rfl).2
  have hd:(c.home:Int)<(m.regs.length:Int):=by omega
  obtain⟨b,hb⟩:∃ b,((r.gO:Int)==(c.gO:Int))=b:=⟨_,rfl⟩
  have hs:m.isLive c=b:=by
   unfold MM.isLive;rw[hr];simp only;rw[<- hb,Bool.eq_iff_iff,beq_iff_eq,beq_iff_eq];omega
  rw[hs];clear h hs hr;generalize m.regs.length=n at *
  go_enter Tryz.func116,Tryz.ntmps116
  go_wp2
  go_quiet (fail)
  go_wp2
  go_ret
  exact⟨rfl,jt ((Below.refl _ _).alloc (Nat.le_refl _) _)⟩
theorem aD {w W:World} (h:Below w.heap.size w W) (o:Obj):Below w.heap.size w (W.alloc o):=h.alloc h.size o
theorem uo {W w:World} {b:Nat} (h:Below b W w):Below b W w.drew:=h.trans ⟨rfl,rfl,rfl,Nat.le_refl _,λ_ _=>rfl⟩
theorem Oi (w:World) (A O:Obj) (n:Nat):(((w.alloc A).alloc O).drewN n).heap[w.heap.size+1]?=some O:=by
 have:=aj (w.alloc A) O
 simpa using this
theorem lC {w W:World} (h:Below w.heap.size w W) (a:Addr) (ha:w.heap.size<=a.block) (u:Value):Below w.heap.size w (W.setCell a u):=h.setCell (p:=a) ha u
theorem aw {b:Nat} {w W:World} (h:Below b w W) (a:Addr) (ha:b<=a.block) (u:Value):Below b w (W.setCell a u):=h.setCell (p:=a) ha u
theorem jc.upto {mb b:Nat} {w w':World} {tn aS:Value} {fuel:Nat} {nv cv rv:Value} {m:MM} (h:jc mb w tn aS fuel nv cv rv m) (h1:mb<b) (h2:∀ k,nv.ownBlock=some k->k<b) (h3:∀ k,cv.ownBlock=some k->k<b) (h4:∀ k,rv.ownBlock=some k->k<b) (hb:Below b w w'):jc mb w' tn aS fuel nv cv rv m :=
 ⟨by rw[hb.block mb h1];exact h.y,ay h.nm (λk hk=>hb.block k (h2 k hk)),ay h.cl (λk hk=>hb.block k (h3 k hk)),ay h.rg (λk hk=>hb.block k (h4 k hk)),h.ny,h.cy,h.ry,h.nc,h.nr,h.cr⟩
theorem bL.upto {mb:Nat} {w w1 w2:World} {nv cv rv bJ yS wq:Value} (h:bL mb mb w w1 nv cv rv bJ yS wq) (hb:Below w.heap.size w1 w2):bL mb mb w w2 nv cv rv bJ yS wq :=
 ⟨hb.os.trans h.os,hb.tape.trans h.tape,hb.output.trans h.output,Nat.le_trans h.size hb.size,λk hk a b c d e=>(hb.block k hk).trans (h.blk k hk a b c d e),h.s,h.n,h.o⟩
theorem lW {w:World} {b:Nat} {c:MC} (h:w.heap[b]?=some (.cells #[.bool c.a.c,.int .i64 c.a.n,.bool c.b.c,.int .i64 c.b.n,.int .i64 c.home,.int .i64 c.gO] 154)) :
  w.cell? ⟨b,0,none⟩=some (.bool c.a.c)/\w.cell? ⟨b,1,none⟩=some (.int .i64 c.a.n)/\w.cell? ⟨b,2,none⟩=some (.bool c.b.c)/\w.cell? ⟨b,3,none⟩=some (.int .i64 c.b.n)/\w.cell? ⟨b,4,none⟩=some (.int .i64 c.home)/\w.cell? ⟨b,5,none⟩=some (.int .i64 c.gO):=by
 refine⟨?_,?_,?_,?_,?_,?_⟩ <;> (rw[aa h];rfl)
theorem Tryz.Oj:(Tryz.prog.info? 154).map (·.size)=some 6:=by kernel_rfl
theorem sX {ops:Array Oper} {rest:List Oper} {o:Oper} {a:Act} {w:World} {Q:Exit->Act->World->Prop} (hgd:o.guard=none) (x y:Operand) (ho:o.op=.store 154 x y) (hd:o.dst=none)
  (g:Nat) (c d:MC) (hx:a.eval x=.pointer (some ⟨g,0,none⟩)) (hy:a.eval y=Og c)
  (hg:w.heap[g]?=some (.cells #[.bool d.a.c,.int .i64 d.a.n,.bool d.b.c,.int .i64 d.b.n,.int .i64 d.home,.int .i64 d.gO] 154 (0,0)))
  (h:wpList Tryz.prog ops Q rest a (w.setRow g #[.bool c.a.c,.int .i64 c.a.n,.bool c.b.c,.int .i64 c.b.n,.int .i64 c.home,.int .i64 c.gO])):wpList Tryz.prog ops Q (o::rest) a w :=
 wpList_store_row hgd 154 x y ho g _ hx hy 154 _ hg Tryz.Oj rfl (by simp[Value.oneCell']) (by rw[hd];exact h)
theorem RD (mb:Nat) (w:World) (tn aS:Value) (fuel:Nat) (nv cv rv:Value) (m:MM) (k:Nat) (c:MC) (hl:m.cells.length<=20000) (hrl:m.regs.length<=20000) (hh:c.home<=20000) (hk:m.cells[k]?=some c) (h:jc mb w tn aS fuel nv cv rv m) :
  Calls Tryz.prog 90 #[ptr mb,ml ⟨true,k⟩] w λe w'=>e=.returned (Og c)/\bL mb mb w w' nv cv rv nv cv rv/\jc mb w' tn aS fuel nv cv rv (if m.isLive c=true then m else m.stop 13):=by
 obtain⟨_,_,_,_,y6,_⟩:=bK h.y
 obtain⟨m',hm'⟩:∃ m',m'=if m.isLive c=true then m else m.stop 13:=⟨_,rfl⟩
 rw[<- hm'];have HM:Hid _:=hm';clear hm';have oL:=af h.y;have hkl:=(List.getElem?_eq_some_iff.1 hk).1;obtain⟨g,cap,rfl⟩:=j5 h.cl (by omega);obtain⟨c0',c1,c2,c3,c4,c5⟩:=EH h.cl k c hk;have hg:g<w.heap.size:=(h.cl.lt g rfl).2;have hd:decide ((m.cells.length:Int)<=(k:Int))=false:=decide_eq_false (by omega);have hd2:decide (m.cells.length<=k)=false:=decide_eq_false (by omega)
 have hd3:(k:Int)<(m.cells.length:Int):=by omega
 have mG:=λW (hW:Below w.heap.size w W)=>Ij mb W _ _ _ _ _ _ m c hrl hh (h.below hW)
 have hst:=λW (hW:Below w.heap.size w W)=>uj mb W _ _ _ _ _ _ m 13 (h.below hW)
 unfold ptr Og at mG;unfold ptr at hst;have HIL:Hid _:=mG;have jO:Hid _:=hst;have HH:Hid _:=h;clear h mG hst hk;unfold ptr ml Og;generalize hlen:m.cells.length=n at *
 go_enter Tryz.func90,Tryz.ntmps90
 go_wp2
 go_quiet (fail)
 rename_i nq
 obtain⟨W1,hW1⟩:∃ W,W=((w.alloc (.cells #[.bool true,.int .i64 k] 122)).alloc (.cells #[.bool false,.int .i64 0,.bool false,.int .i64 0,.int .i64 0,.int .i64 0] 154)).drewN nq:=⟨_,rfl⟩;rw[<- hW1]
 have hb1:Below w.heap.size w W1:=by
  rw[hW1];exact jt (aD (aD (Below.refl _ _) _) _)
 have hbk:W1.heap[w.heap.size]?=some (.cells #[.bool true,.int .i64 k] 122):=by
  rw[hW1];exact aR _ (aj w _)
 have x1:W1.cell? ⟨w.heap.size,1,none⟩=some (.int .i64 k):=by rw[aa hbk];rfl
 have x0:W1.cell? ⟨w.heap.size,0,none⟩=some (.bool true):=by rw[aa hbk];rfl
 have z6:=(hb1.cell (p:=⟨mb,6,none⟩) oL).trans y6;have e0:=(hb1.cell (p:=⟨g,k*6,none⟩) hg).trans c0';have e1:=(hb1.cell (p:=⟨g,k*6+1,none⟩) hg).trans c1;have e2:=(hb1.cell (p:=⟨g,k*6+2,none⟩) hg).trans c2;have e3:=(hb1.cell (p:=⟨g,k*6+3,none⟩) hg).trans c3;have e4:=(hb1.cell (p:=⟨g,k*6+4,none⟩) hg).trans c4;have e5:=(hb1.cell (p:=⟨g,k*6+5,none⟩) hg).trans c5
 have hw1:w.heap.size+2=W1.heap.size:=by rw[hW1];simp
 have KR:mb<W1.heap.size:=by omega
 have RE:g<W1.heap.size:=by omega
 have abv:w.heap.size<W1.heap.size:=by omega
 have Jf:W1.heap[w.heap.size+1]?=some (.cells #[.bool false,.int .i64 0,.bool false,.int .i64 0,.int .i64 0,.int .i64 0] 154):=by
  rw[hW1];have:=aj (w.alloc (.cells #[.bool true,.int .i64 k] 122)) (.cells #[.bool false,.int .i64 0,.bool false,.int .i64 0,.int .i64 0,.int .i64 0] 154)
  simpa using this
 have Q0:Hid _:=Jf;have dZ:Hid _:=hb1;clear hbk hW1 y6 c0' c1 c2 c3 c4 c5 hb1 Jf
 go_wp2
 go_region
 all_goals
  go_wp2_with fail
  have hC:Below w.heap.size w (W1.alloc (.cells #[.bool c.a.c,.int .i64 c.a.n,.bool c.b.c,.int .i64 c.b.n,.int .i64 c.home,.int .i64 c.gO] 154)).drew:=uo (aD dZ.out _);refine Calls.mono (HIL.out _ hC) ?_;rintro _ w2 ⟨rfl,hb2⟩;have mi:Below w.heap.size w w2:=hC.trans (hb2.mono hC.size)
  have hq:w2.heap[W1.heap.size]?=some (.cells #[.bool c.a.c,.int .i64 c.a.n,.bool c.b.c,.int .i64 c.b.n,.int .i64 c.home,.int .i64 c.gO] 154):=by
   rw[hb2.block _ (by simp)];exact aj W1 _
  have hr:w2.heap[w.heap.size+1]?=some (.cells #[.bool c0.a.c,.int .i64 c0.a.n,.bool c0.b.c,.int .i64 c0.b.n,.int .i64 c0.home,.int .i64 c0.gO] 154):=by
   rw[hb2.block _ (by simp;omega)];exact aR _ Q0.out
  have HQ:Hid _:=hq;have HR:Hid _:=hr;have eC:Hid _:=mi;clear hq hr mi hb2 hC
  have hne:W1.heap.size≠w.heap.size+1:=by omega
  have gr:w.heap.size<=w.heap.size+1:=by omega
  have Zt:w.heap.size<=W1.heap.size:=by omega
  clear x0 x1 z6 e0 e1 e2 e3 e4 e5 KR RE abv hw1 hd hd2 hd3 Q0 dZ HIL;generalize w.heap.size+1=r at *;generalize W1.heap.size=q at *;obtain⟨bl,hbl⟩:∃ bl,m.isLive c=bl:=⟨_,rfl⟩;rw[hbl]
  cases bl with
  | true =>
   have mK:Hid (m'=m):=by have:=HM.out;rw[hbl] at this;exact this
   obtain⟨a0,a1,a2,a3,a4,a5⟩:=lW HQ.out;have hlq:=af HQ.out;have hlr:=af HR.out
   go_upto_region 6 with fail
   go_step
   go_step
   go_step
   go_step
   refine sX rfl (.tmp 4) (.tmp 39) rfl rfl r c c0 rfl rfl HR.out ?_;have hN:=setRow_heap w2 r _ #[.bool c.a.c,.int .i64 c.a.n,.bool c.b.c,.int .i64 c.b.n,.int .i64 c.home,.int .i64 c.gO] 154 (0,0) HR.out;have hBN:=below_setRow eC.out gr #[.bool c.a.c,.int .i64 c.a.n,.bool c.b.c,.int .i64 c.b.n,.int .i64 c.home,.int .i64 c.gO];generalize w2.setRow r #[.bool c.a.c,.int .i64 c.a.n,.bool c.b.c,.int .i64 c.b.n,.int .i64 c.home,.int .i64 c.gO]=w5 at hN hBN ⊢;obtain⟨s0,s1,s2,s3,s4,s5⟩:=lW hN;have Dy:Hid _:=hBN;clear hN hBN HR HQ eC a0 a1 a2 a3 a4 a5
   go_wp2
   refine bodyPost_ret (v:=.agg #[.bool c.a.c,.int .i64 c.a.n,.bool c.b.c,.int .i64 c.b.n,.int .i64 c.home,.int .i64 c.gO]) (by simp[results,Tryz.results90,go_sem,s0,s1,s2,s3,s4,s5]) rfl ⟨rfl,?_,?_⟩
   ·exact bL.below mb mb _ _ _ Dy.out
   ·rw[mK.out];exact HH.out.below Dy.out
  | false =>
   have mK:Hid (m'=m.stop 13):=by have:=HM.out;rw[hbl] at this;exact this
   go_wp2_with fail
   refine Calls.mono (jO.out _ eC.out) ?_;rintro _ w3 ⟨rfl,cj,eO⟩;obtain⟨l1,l2,l3,l4⟩:=HH.out.slt;have Mx:=(cj.blk q (af HQ.out) (by omega) (by omega) (λe=>by have:=l1 _ e;omega) (λe=>by have:=l2 _ e;omega) (λe=>by have:=l3 _ e;omega)).trans HQ.out;have rH:=(cj.blk r (af HR.out) (by omega) (by omega) (λe=>by have:=l1 _ e;omega) (λe=>by have:=l2 _ e;omega) (λe=>by have:=l3 _ e;omega)).trans HR.out;have sC:Hid _:=(bL.below mb mb nv (.slice (some ⟨g,0,none⟩) n cap) rv eC.out).trans cj;have nn:Hid _:=eO;have Gk:Hid _:=rH;obtain⟨a0,a1,a2,a3,a4,a5⟩:=lW Mx;have hlq:=af Mx;have hlr:=af rH;have HL:Hid (mb<w.heap.size/\(∀ k,nv.ownBlock=some k->k<w.heap.size)/\(∀ k,(Value.slice (some ⟨g,0,none⟩) n cap).ownBlock=some k->k<w.heap.size)/\(∀ k,rv.ownBlock=some k->k<w.heap.size)):=⟨l4,l1,l2,l3⟩;clear Mx rH cj eO HQ HR eC jO HH l1 l2 l3 l4
   go_upto_region 6 with fail
   go_step
   go_step
   go_step
   go_step
   refine sX rfl (.tmp 4) (.tmp 39) rfl rfl r c c0 rfl rfl Gk.out ?_;have hN:=setRow_heap w3 r _ #[.bool c.a.c,.int .i64 c.a.n,.bool c.b.c,.int .i64 c.b.n,.int .i64 c.home,.int .i64 c.gO] 154 (0,0) Gk.out;have hBN:=below_setRow (Below.refl w.heap.size w3) gr #[.bool c.a.c,.int .i64 c.a.n,.bool c.b.c,.int .i64 c.b.n,.int .i64 c.home,.int .i64 c.gO];generalize w3.setRow r #[.bool c.a.c,.int .i64 c.a.n,.bool c.b.c,.int .i64 c.b.n,.int .i64 c.home,.int .i64 c.gO]=w5 at hN hBN ⊢;obtain⟨s0,s1,s2,s3,s4,s5⟩:=lW hN;have Dy:Hid _:=hBN;clear hN hBN Gk a0 a1 a2 a3 a4 a5
   go_wp2
   refine bodyPost_ret (v:=.agg #[.bool c.a.c,.int .i64 c.a.n,.bool c.b.c,.int .i64 c.b.n,.int .i64 c.home,.int .i64 c.gO]) (by simp[results,Tryz.results90,go_sem,s0,s1,s2,s3,s4,s5]) rfl ⟨rfl,?_,?_⟩
   ·exact sC.out.upto Dy.out
   ·rw[mK.out];exact nn.out.upto HL.out.1 HL.out.2.1 HL.out.2.2.1 HL.out.2.2.2 Dy.out
theorem VV (mb:Nat) (w:World) (tn aS:Value) (fuel:Nat) (nv cv rv:Value) (m:MM) (v:MV) (hl:m.cells.length<=20000) (hv:v.bd) (hc:v.c=false\/v.n<0\/(m.cells.length:Int)<=v.n) (h:jc mb w tn aS fuel nv cv rv m) :
  Calls Tryz.prog 90 #[ptr mb,ml v] w λe w'=>e=.returned (Og c0)/\Below w.heap.size w w':=by
 obtain⟨_,_,_,_,y6,_⟩:=bK h.y;have oL:=af h.y;obtain⟨ao,cap,rfl⟩:=lV h.cl;clear h;unfold MV.bd at hv;unfold ptr ml Og;obtain⟨vc,vn⟩:=v;simp only at hc hv;generalize m.cells.length=n at *
 have hcc:vc=false\/(vc=true/\vn<0)\/(vc=true/\decide (vn<0)=false/\(n:Int)<=vn):=by
  cases vc
  ·exact Or.inl rfl
  ·rcases hc with hc | hc | hc
   ·cases hc
   ·exact Or.inr (Or.inl ⟨rfl,hc⟩)
   ·exact Or.inr (Or.inr ⟨rfl,decide_eq_false (by omega),hc⟩)
 rcases hcc with rfl | ⟨rfl,h1⟩ | ⟨rfl,h1,h2⟩
 all_goals
  go_enter Tryz.func90,Tryz.ntmps90
  go_wp2
  go_quiet (fail)
  rename_i nq
  first
  | (obtain⟨W1,hW1⟩:∃ W,W=((w.alloc (.cells #[.bool false,.int .i64 vn] 122)).alloc (.cells #[.bool false,.int .i64 0,.bool false,.int .i64 0,.int .i64 0,.int .i64 0] 154)).drewN nq:=⟨_,rfl⟩;rw[<- hW1])
  | (obtain⟨W1,hW1⟩:∃ W,W=((w.alloc (.cells #[.bool true,.int .i64 vn] 122)).alloc (.cells #[.bool false,.int .i64 0,.bool false,.int .i64 0,.int .i64 0,.int .i64 0] 154)).drewN nq:=⟨_,rfl⟩;rw[<- hW1])
  have hb1:Below w.heap.size w W1:=by
   rw[hW1];exact jt (aD (aD (Below.refl _ _) _) _)
  have Jf:W1.heap[w.heap.size+1]?=some (.cells #[.bool c0.a.c,.int .i64 c0.a.n,.bool c0.b.c,.int .i64 c0.b.n,.int .i64 c0.home,.int .i64 c0.gO] 154):=by
   rw[hW1];exact Oi w _ _ nq
  have Q0:Hid _:=Jf;have dZ:Hid _:=hb1
  have gr:w.heap.size<=w.heap.size+1:=by omega
  clear hW1 hb1 Jf y6;generalize w.heap.size+1=r at *
  go_upto_region 2 with fail
  go_step
  go_step
  go_step
  go_step
  refine sX rfl (.tmp 4) (.tmp 24) rfl rfl r c0 c0 rfl rfl Q0.out ?_;have hN:=setRow_heap W1 r _ #[.bool c0.a.c,.int .i64 c0.a.n,.bool c0.b.c,.int .i64 c0.b.n,.int .i64 c0.home,.int .i64 c0.gO] 154 (0,0) Q0.out;have hBN:=below_setRow dZ.out gr #[.bool c0.a.c,.int .i64 c0.a.n,.bool c0.b.c,.int .i64 c0.b.n,.int .i64 c0.home,.int .i64 c0.gO];generalize W1.setRow r #[.bool c0.a.c,.int .i64 c0.a.n,.bool c0.b.c,.int .i64 c0.b.n,.int .i64 c0.home,.int .i64 c0.gO]=w5 at hN hBN ⊢;obtain⟨s0,s1,s2,s3,s4,s5⟩:=lW hN;have Dy:Hid _:=hBN;clear hN hBN Q0 dZ
  go_wp2
  refine bodyPost_ret (v:=.agg #[.bool c0.a.c,.int .i64 c0.a.n,.bool c0.b.c,.int .i64 c0.b.n,.int .i64 c0.home,.int .i64 c0.gO]) (by simp[results,Tryz.results90,go_sem,s0,s1,s2,s3,s4,s5]) rfl ⟨rfl,Dy.out⟩
theorem JQ (mb:Nat) (w:World) (tn aS:Value) (fuel:Nat) (nv cv rv:Value) (m:MM) (v:MV) (hb:oO fuel m) (hf:fuel<=20000) (hv:v.bd) (h:jc mb w tn aS fuel nv cv rv m) :
  Calls Tryz.prog 90 #[ptr mb,ml v] w λe w'=>e=.returned (Og (m.use v).1)/\bL mb mb w w' nv cv rv nv cv rv/\jc mb w' tn aS fuel nv cv rv (m.use v).2:=by
 have h1:=hb.steps;have h2:=hb.cells;unfold MM.use
 by_cases hc:v.c=false\/v.n<0\/(m.cells.length:Int)<=v.n
 ·rw[if_pos hc]
  exact (VV mb w tn aS fuel nv cv rv m v (by omega) hv hc h).mono (λ_ _ hx=>⟨hx.1,bL.below mb mb _ _ _ hx.2,h.below hx.2⟩)
 ·rw[if_neg hc]
  have hvc:v.c=true:=by cases hq:v.c with
   | true=>rfl
   | false=>exact absurd (Or.inl hq) hc
  obtain⟨k,hk⟩:∃ k:Nat,v.n=k:=⟨v.n.toNat,by omega⟩
  have hkl:k<m.cells.length:=by omega
  obtain⟨c,hcc⟩:∃ c,m.cells[k]?=some c:=⟨_,List.getElem?_eq_getElem hkl⟩
  have e:v=⟨true,k⟩:=by rw[<- hvc,<- hk]
  have e2:m.cells.getD v.n.toNat c0=c:=by rw[hk,Int.toNat_natCast,List.getD_eq_getElem?_getD,hcc];rfl
  rw[e2,e];exact RD mb w tn aS fuel nv cv rv m k c (by omega) hb.regs (hb.cell c (List.mem_of_getElem? hcc)).2.2.1 hcc h
theorem Ik (mb:Nat) (w:World) (tn aS:Value) (fuel:Nat) (nv cv rv:Value) (m:MM) (k:Int) (h1:1<=m.regs.length) (hl:m.regs.length<=20000) (h:jc mb w tn aS fuel nv cv rv m) :
  Calls Tryz.prog 132 #[ptr mb,.int .i64 k] w λe w'=>e=.returned (.int .i64 (m.home k))/\w'=w:=by
 obtain⟨_,_,_,_,_,y7,_⟩:=bK h.y;have oL:=af h.y;obtain⟨g,cap,rfl⟩:=j5 h.rg (by omega)
 have hcell:=λj r hj=>(oB h.rg j r hj).1
 have HC:Hid _:=hcell;obtain⟨H,hH⟩:∃ H,H=m.home k:=⟨_,rfl⟩;have HH:Hid _:=hH;rw[<- hH];obtain⟨n,hn⟩:∃ n,n=m.regs.length:=⟨_,rfl⟩;have HN:Hid _:=hn;rw[<- hn] at y7 h1 hl;have hg:g<w.heap.size:=(h.rg.lt g rfl).2;clear h hcell hH hn;unfold ptr
 go_enter Tryz.func132,Tryz.ntmps132
 go_wp2
 go_loop [5] (λi=>∃ j:Nat,j<n/\i=.int .i64 j/\H=jq m.regs k j) (λi=>(intOf i).toNat)
 case atStart=>exact⟨n-1,by omega,by rw[show ((n:Int)-1)=((n-1:Nat):Int) from by omega],by rw[HH.out,HN.out];rfl⟩
 case round =>
  obtain⟨j,hj,rfl,hr⟩:=hrel;have HR:Hid _:=hr;clear hr
  cases j with
  | zero =>
   go_wp2
   go_ret
   exact⟨by rw[HR.out];rfl,rfl⟩
  | succ j =>
   obtain⟨r,hr⟩:∃ r,m.regs[j+1]?=some r:=⟨_,List.getElem?_eq_getElem (by have:=HN.out;omega)⟩;have hc:=HC.out (j+1) r hr
   by_cases hq:r.num=k
   ·have hs:jq m.regs k (j+1)=j+1:=by simp only[jq];rw[hr,if_pos (by simp[hq])]
    have HS:Hid _:=hs;rw[hq] at hc;clear hr hs hq
    go_wp2
    go_ret
    exact⟨mF (by rw[HR.out,HS.out];omega),rfl⟩
   ·have hs:jq m.regs k (j+1)=jq m.regs k j:=by simp only[jq];rw[hr,if_neg (by simp[hq])]
    have HS:Hid _:=hs
    have Ok:(r.num==k)=false:=by rw[beq_eq_false_iff_ne];exact hq
    clear hr hs hq
    go_wp2
    go_round
    case rel=>exact⟨j,by omega,rfl,by rw[HR.out,HS.out]⟩
    case measure=>simp[intOf]
theorem Tryz.RF:(Tryz.prog.info? 151).map (λi=>(i.zero,i.size,i.bytes))=some (some (.agg #[.int .i64 0,.int .i64 0,.int .i64 0]),3,24):=by kernel_rfl
theorem Tryz.RH:Tryz.prog.underlying 118=some (.slice 151):=by kernel_rfl
theorem VW (r:MR):∀ u∈CK r,u.oneCell'=true:=by intro u hu;simp only[CK,List.mem_cons,List.not_mem_nil,or_false] at hu;rcases hu with rfl | rfl | rfl <;> rfl
theorem jc.abw {mb:Nat} {w W0 w':World} {tn aS:Value} {fuel:Nat} {nv cv rv:Value} {m:MM} (h:jc mb w tn aS fuel nv cv rv m) (r:MR) {g cap:Nat} (hW:Below w.heap.size w W0) (hg:W0.grownBy w' rv.ownBlock)
  (hown:w'.ownsRow 0 151 3 (.slice (some ⟨g,0,none⟩) (m.regs.length+1) cap) (m.regs.length+1) (m.regs.flatMap CK++CK r)) (jC:rv.ownBlock=some g\/W0.heap.size<=g) :
  bL mb mb w (w'.setCell ⟨mb,7,none⟩ (.slice (some ⟨g,0,none⟩) (m.regs.length+1) cap)) nv cv rv nv cv (.slice (some ⟨g,0,none⟩) (m.regs.length+1) cap) /\
  jc mb (w'.setCell ⟨mb,7,none⟩ (.slice (some ⟨g,0,none⟩) (m.regs.length+1) cap)) tn aS fuel nv cv (.slice (some ⟨g,0,none⟩) (m.regs.length+1) cap) { m with regs:=m.regs++[r] }:=by
 obtain⟨l1,l2,l3,l4⟩:=h.slt;have mr:=hW.size;have hgs:=hg.size
 have yW:W0.heap[mb]?=some (.cells (mM tn aS fuel nv cv rv m) 120 (0,0)):=by rw[hW.block mb l4];exact h.y
 have yw:=cY hg yW h.ry
 have pM:g≠mb:=by
  rcases jC with e | e
  ·intro e';rw[e'] at e;exact h.ry e
  ·omega
 have kp:∀ k,k<w.heap.size->k≠mb->rv.ownBlock≠some k->(w'.setCell ⟨mb,7,none⟩ (.slice (some ⟨g,0,none⟩) (m.regs.length+1) cap)).heap[k]?=w.heap[k]?:=by
  intro k hk hkp hne;rw[aq _ _ (by simpa using hkp),hg.block k (by omega) (λe=>hne e.symm),hW.block k hk]
 refine⟨⟨hg.os.trans hW.os,hg.tape.trans hW.tape,hg.output.trans hW.output,by simp only[World.setCell,Array.size_modify];omega,λk hk hp _ hs hn ho=>kp k hk hp ho,λ_ h=>Or.inl h,λ_ h=>Or.inl h,λg' hg'=>by simp only[Value.ownBlock,Option.some.injEq] at hg';subst hg';rcases jC with e | e;exact Or.inl e;exact Or.inr (by omega)⟩,?_⟩
 refine⟨aA yw 7 _,ay h.nm (λk hk=>kp k (l1 k hk) (λe=>h.ny (by rw[hk,e])) (λe=>h.nr k hk e)),ay h.cl (λk hk=>kp k (l2 k hk) (λe=>h.cy (by rw[hk,e])) (λe=>h.cr k hk e)),
  by have:=ay (w':=w'.setCell ⟨mb,7,none⟩ (.slice (some ⟨g,0,none⟩) (m.regs.length+1) cap)) hown (λk hk=>by simp only[Value.ownBlock,Option.some.injEq] at hk;subst hk;exact aq _ _ (by simpa using pM));simpa using this,h.ny,h.cy,by simp only[Value.ownBlock,ne_eq,Option.some.injEq];exact pM,h.nc,(λk hk hk'=>by
   simp only[Value.ownBlock,Option.some.injEq] at hk'
   rcases jC with e | e
   ·rw[hk'] at e;exact h.nr k hk e
   ·have:=l1 k hk;omega),(λk hk hk'=>by
   simp only[Value.ownBlock,Option.some.injEq] at hk'
   rcases jC with e | e
   ·rw[hk'] at e;exact h.cr k hk e
   ·have:=l2 k hk;omega)⟩
theorem EI (mb:Nat) (w:World) (tn aS:Value) (fuel:Nat) (nv cv rv:Value) (m:MM) (k:Int) (hl:m.regs.length<=20000) (ho:m.opened<=4000000000) (h:jc mb w tn aS fuel nv cv rv m) :
  Calls Tryz.prog 67 #[ptr mb,.int .i64 k] w λe w'=>e=.returned (.tuple #[])/\∃ wq,bL mb mb w w' nv cv rv nv cv wq/\jc mb w' tn aS fuel nv cv wq (m.opn k):=by
 obtain⟨i0,hi,hz0,hz1,hz2⟩:=info_parts Tryz.RF;have HI:Hid _:=hi;have rR:Hid _:=hz0;have rS:Hid _:=hz1;have rT:Hid _:=hz2;clear hi hz0 hz1 hz2;obtain⟨_,_,_,_,_,y7,y8,_⟩:=bK h.y;have oL:=af h.y;obtain⟨B,hB⟩:∃ B:Obj,B=.cells #[.int .i64 k,.int .i64 m.opened,.int .i64 0] 151:=⟨_,rfl⟩;have hW:Below w.heap.size w (w.alloc B).drew:=um w B;have HW:Hid _:=hW;have eK:Hid ((w.alloc B).drew.ownsRow 0 151 3 rv m.regs.length (m.regs.flatMap CK)):=aB h.rg hW
 have Ay:Hid (∀ (j:Nat) (u:Value),(CK ⟨k,m.opened,0⟩)[j]?=some u->(w.alloc B).drew.cell? ((⟨w.heap.size,0,none⟩:Addr).add j)=some u):=by
  intro j u hj;have hq:=bV w (CK ⟨k,m.opened,0⟩) 151 j;rw[<- hj,<- hq,hB];rfl
 have Ge:Hid ((w.alloc B).drew.heap[mb]?=some (.cells (mM tn aS fuel nv cv rv m) 120 (0,0))):=by
  show (w.alloc B).drew.heap[mb]?=_
  rw[hW.block mb oL];exact h.y
 have HH:Hid _:=h;have HRY:Hid _:=h.ry;clear h hW;unfold ptr
 go_enter Tryz.func67,Tryz.ntmps67
 subst hB
 go_wp2
 go_region_law (refine tK rfl (.tmp 8) (.tmp 15) 118 rfl 151 i0 _ 3 24 Tryz.RH HI.out rR.out rS.out rT.out rfl (by decide) rv m.regs.length (m.regs.flatMap CK) (by simp[Act.eval]) eK.out ⟨w.heap.size,0,none⟩ 1 1 (CK ⟨k,m.opened,0⟩) (by simp[Act.eval]) rfl Ay.out (VW _) (by decide) (by unfold maxLen;omega) (by omega) ?_;intro g cap w' hown hgrow jC;have qp:=cY hgrow Ge.out HRY.out;have c7:w'.cell? ⟨mb,7,none⟩=some rv:=(by rw[aa qp];rfl);have f7:=ag qp 7)
 all_goals
  have hadd:=jc.abw HH.out ⟨k,m.opened,0⟩ HW.out hgrow hown jC;have hfin:=hadd.2.EE (m.opn k) 8 (.int .i64 ((m.opened:Int)+1)) rfl rfl rfl rfl;have sC:Hid _:=hadd.1.trans hfin.1;have Lx:Hid _:=hfin.2
  have c8:(w'.setCell ⟨mb,7,none⟩ (.slice (some ⟨g,0,none⟩) (m.regs.length+1) cap)).cell? ⟨mb,8,none⟩=some (.int .i64 m.opened):=by rw[aa hadd.2.y];rfl
  have f8:=ag hadd.2.y 8;clear hadd hown hgrow jC hfin
  go_wp2
  refine bodyPost_end (v:=.tuple #[]) (by simp[results,Tryz.results67,go_sem]) rfl ⟨rfl,_,sC.out,Lx.out⟩
theorem Il (l:List MR):(l.flatMap CK).take ((l.length-1)*3)=l.dropLast.flatMap CK:=by
 rcases List.eq_nil_or_concat l with rfl | ⟨r,x,rfl⟩
 ·rfl
 ·rw[List.concat_eq_append,List.dropLast_concat,List.flatMap_append,List.length_append,List.length_singleton,Nat.add_sub_cancel]
  have hlen:(r.flatMap CK).length=r.length*3:=by
   induction r with
   | nil=>rfl
   | cons a r ih=>simp[CK,ih];omega
  rw[<- hlen,List.take_left]
theorem jc.Zu {mb:Nat} {w:World} {tn aS:Value} {fuel:Nat} {nv cv:Value} {m:MM} {g n cap:Nat} (h:jc mb w tn aS fuel nv cv (.slice (some ⟨g,0,none⟩) n cap) m) (hn:n=m.regs.length) (h1:1<=n) :
  bL mb mb w (w.setCell ⟨mb,7,none⟩ (.slice (some ⟨g,0,none⟩) (n-1) cap)) nv cv (.slice (some ⟨g,0,none⟩) n cap) nv cv (.slice (some ⟨g,0,none⟩) (n-1) cap) /\
  jc mb (w.setCell ⟨mb,7,none⟩ (.slice (some ⟨g,0,none⟩) (n-1) cap)) tn aS fuel nv cv (.slice (some ⟨g,0,none⟩) (n-1) cap) { m with regs:=m.regs.dropLast }:=by
 have pM:g≠mb:=λe=>h.ry (by rw[e];rfl)
 have ho:w.ownsRow 0 151 3 (.slice (some ⟨g,0,none⟩) (n-1) cap) (n-1) (m.regs.dropLast.flatMap CK):=by
  have hrg:=h.rg;rw[<- hn] at hrg;have:=Bx hrg (n-1) (by omega);rw[hn,Il] at this;rw[hn];exact this
 have kp:∀ k,k≠mb->(w.setCell ⟨mb,7,none⟩ (.slice (some ⟨g,0,none⟩) (n-1) cap)).heap[k]?=w.heap[k]?:=λk hk=>aq _ _ (by simpa using hk)
 refine⟨⟨rfl,rfl,rfl,by simp only[World.setCell,Array.size_modify];omega,λk _ hp _ _ _ _=>kp k hp,λ_ h=>Or.inl h,λ_ h=>Or.inl h,λ_ h=>Or.inl h⟩,?_⟩;refine⟨aA h.y 7 _,ay h.nm (λk hk=>kp k (λe=>h.ny (by rw[hk,e]))),ay h.cl (λk hk=>kp k (λe=>h.cy (by rw[hk,e]))),?_,h.ny,h.cy,by simp only[Value.ownBlock,ne_eq,Option.some.injEq];exact pM,h.nc,λk hk=>h.nr k hk,λk hk=>h.cr k hk⟩;have:=ay (w':=w.setCell ⟨mb,7,none⟩ (.slice (some ⟨g,0,none⟩) (n-1) cap)) ho (λk hk=>kp k (by simp only[Value.ownBlock,Option.some.injEq] at hk;omega));simp only[List.length_dropLast,<- hn];exact this
theorem jc.drew {mb:Nat} {w:World} {tn aS:Value} {fuel:Nat} {nv cv rv:Value} {m:MM} (h:jc mb w tn aS fuel nv cv rv m):jc mb w.drew tn aS fuel nv cv rv m:=h.below (uo (Below.refl _ _))
theorem bL.drew {mb:Nat} {w w':World} {nv cv rv bJ yS wq:Value} (h:bL mb mb w w' nv cv rv bJ yS wq):bL mb mb w w'.drew nv cv rv bJ yS wq:=h.upto (uo (Below.refl _ _))
theorem Ol (mb:Nat) (w:World) (tn aS:Value) (fuel:Nat) (nv cv rv:Value) (m:MM) (h1:1<=m.regs.length) (hf:fuel<=20000) (hb:oO fuel m) (h:jc mb w tn aS fuel nv cv rv m) :
  Calls Tryz.prog 107 #[ptr mb] w λe w'=>e=.returned (.tuple #[])/\∃ wq,bL mb mb w w' nv cv rv nv cv wq/\jc mb w' tn aS fuel nv cv wq m.fin:=by
 obtain⟨r,hr⟩:∃ r,m.regs[m.regs.length-1]?=some r:=⟨_,List.getElem?_eq_getElem (by omega)⟩
 have hlast:m.regs.getLast?=some r:=by rw[List.getLast?_eq_getElem?];exact hr
 have hfin:m.fin={ m with live:=m.live-r.cells,regs:=m.regs.dropLast }:=by unfold MM.fin;rw[hlast]
 rw[hfin];have hl:=hb.regs;have q1:=hb.live;have q2:=hb.sum;have q3:=hb.cells;have q4:=hb.steps
 have q5:r.cells<=kO m.regs:=by
  have:=qg m.regs _ r ⟨0,0,0⟩ hr;simp only at this;omega
 have hlv:-100000<=m.live-r.cells/\m.live-r.cells<=100000:=by omega
 obtain⟨_,_,_,_,_,y7,_,y9,_⟩:=bK h.y;have f9:w.frozen? ⟨mb,9,none⟩=false:=ag h.y 9;have f7:w.frozen? ⟨mb,7,none⟩=false:=ag h.y 7;have oL:=af h.y;obtain⟨g,cap,rfl⟩:=j5 h.rg (by omega);obtain⟨_,_,c2⟩:=oB h.rg (m.regs.length-1) r hr;have hg:g<w.heap.size:=(h.rg.lt g rfl).2
 have pM:g≠mb:=λe=>h.ry (by rw[e];rfl)
 have hcap:m.regs.length<=cap:=by
  rcases h.rg.2 with ⟨h1,h2⟩ | ⟨g',cap',cur,h1,_,_,h3,_⟩
  ·omega
  ·simp only[Value.slice.injEq] at h1;omega
 have Om:cap<=maxLen:=by
  rcases h.rg.2 with ⟨h1,h2⟩ | ⟨g',cap',cur,h1,_,_,_,h3,_⟩
  ·omega
  ·simp only[Value.slice.injEq] at h1;omega
 unfold maxLen at Om;have hs1:=h.EE { m with live:=m.live-r.cells } 9 (.int .i64 (m.live-r.cells)) rfl rfl rfl rfl;have hs2:=hs1.2.Zu rfl h1;have sC:Hid _:=(hs1.1.trans hs2.1).drew;have nn:Hid _:=hs2.2.drew;clear h hs1 hs2 hr hlast hfin hb q1 q2 q3 q4 q5;simp only at sC nn;obtain⟨n,hn⟩:∃ n,n=m.regs.length-1:=⟨_,rfl⟩
 have ct:m.regs.length=n+1:=by omega
 rw[<- hn] at c2;rw[ct] at sC nn y7 hl hcap h1;simp only[Nat.add_sub_cancel] at sC nn;rw[ct];clear hn ct;generalize m.live=lv at *;generalize r.cells=rc at *;unfold ptr
 go_enter Tryz.func107,Tryz.ntmps107
 go_wp2
 go_region
 all_goals
  go_wp2
  refine bodyPost_end (v:=.tuple #[]) (by simp[results,Tryz.results107,go_sem]) rfl ⟨rfl,_,sC.out,nn.out⟩
theorem EJ {α:Type} (f:α->List Value) (s:Nat) (hs:∀ x,(f x).length=s) (l:List α):(l.flatMap f).length=l.length*s:=by
 induction l with
 | nil=>simp
 | cons x l ih=>rw[List.flatMap_cons,List.length_append,hs,ih,List.length_cons,Nat.succ_mul];omega
theorem Oo {α:Type} (f:α->List Value) (s:Nat) (hs:∀ x,(f x).length=s) (l:List α) (k j:Nat) (x y:α) (v:Value) (hx:l[k]?=some x) (hj:j<s) (hf:f y=(f x).set j v):(l.flatMap f).set (k*s+j) v=(l.set k y).flatMap f:=by
 have hk:=(List.getElem?_eq_some_iff.1 hx).1
 apply List.ext_getElem?
 intro i;have hdm:=Nat.div_add_mod' i s;have Yy:=Nat.mod_lt i (show 0<s by omega);have key:=lg f s hs (l.set k y) (i / s) (i % s) Yy;have Ii:=lg f s hs l (i / s) (i % s) Yy;rw[hdm] at key Ii;rw[key]
 by_cases hik:i / s=k
 ·rw[hik] at hdm Ii ⊢
  rw[List.getElem?_set_self hk,Option.bind_some,hf]
  by_cases hij:i % s=j
  ·rw[hij,List.getElem?_set_self (by rw[hs];exact hj)]
   rw[<- hdm,hij,List.getElem?_set_self];rw[EJ f s hs]
   calc k*s+j<k*s+s:=by omega
    _=(k+1)*s:=by rw[Nat.succ_mul]
    _<=l.length*s:=Nat.mul_le_mul_right s hk
  ·rw[List.getElem?_set_ne (by omega),List.getElem?_set_ne (by omega),Ii,hx];rfl
 ·have hne:k*s+j≠i:=by
   intro e
   apply hik
   rw[<- e,Nat.mul_comm,Nat.mul_add_div (by omega),Nat.div_eq_of_lt hj,Nat.add_zero]
  rw[List.getElem?_set_ne hne,Ii,List.getElem?_set_ne (λe=>hik e.symm)]
theorem jc.abx {mb:Nat} {w:World} {tn aS:Value} {fuel:Nat} {nv cv:Value} {m:MM} {g cap:Nat} (h:jc mb w tn aS fuel nv cv (.slice (some ⟨g,0,none⟩) m.regs.length cap) m) (k:Nat) (r:MR) (hk:m.regs[k]?=some r) :
  bL mb mb w (w.setCell ⟨g,k*3+2,none⟩ (.int .i64 ((r.cells+1:Nat):Int))) nv cv (.slice (some ⟨g,0,none⟩) m.regs.length cap) nv cv (.slice (some ⟨g,0,none⟩) m.regs.length cap) /\
  jc mb (w.setCell ⟨g,k*3+2,none⟩ (.int .i64 ((r.cells+1:Nat):Int))) tn aS fuel nv cv (.slice (some ⟨g,0,none⟩) m.regs.length cap) { m with regs:=m.regs.set k { r with cells:=r.cells+1 } }:=by
 have pM:g≠mb:=λe=>h.ry (by rw[e];rfl)
 have kp:∀ k',k'≠g->(w.setCell ⟨g,k*3+2,none⟩ (.int .i64 ((r.cells+1:Nat):Int))).heap[k']?=w.heap[k']?:=λk' hk=>aq _ _ (by simpa using hk)
 have h2:=(h.rg.stored (k*3+2) (.int .i64 ((r.cells+1:Nat):Int))).1;rw[Oo CK 3 (λ_=>rfl) m.regs k 2 r { r with cells:=r.cells+1 } _ hk (by omega) rfl] at h2;refine⟨⟨rfl,rfl,rfl,by simp only[World.setCell,Array.size_modify];omega,λk' _ _ _ _ _ hs=>kp k' (λe=>hs (by rw[e];rfl)),λ_ h=>Or.inl h,λ_ h=>Or.inl h,λ_ h=>Or.inl h⟩,?_⟩;exact⟨by rw[kp mb (λe=>pM e.symm)];exact h.y,ay h.nm (λk' hk=>kp k' (λe=>h.nr k' hk (by rw[e];rfl))),ay h.cl (λk' hk=>kp k' (λe=>h.cr k' hk (by rw[e];rfl))),by simp only[List.length_set];exact h2,h.ny,h.cy,h.ry,h.nc,h.nr,h.cr⟩
theorem Tryz.Lz:(Tryz.prog.info? 154).map (λi=>(i.zero,i.size,i.bytes))=some (some (.agg #[.bool false,.int .i64 0,.bool false,.int .i64 0,.int .i64 0,.int .i64 0]),6,48):=by kernel_rfl
theorem Tryz.Oq:Tryz.prog.underlying 117=some (.slice 154):=by kernel_rfl
theorem VX (c:MC):∀ u∈Lw c,u.oneCell'=true:=by intro u hu;simp only[Lw,List.mem_cons,List.not_mem_nil,or_false] at hu;rcases hu with rfl | rfl | rfl | rfl | rfl | rfl <;> rfl
theorem jc.aby {mb:Nat} {w W0 w':World} {tn aS:Value} {fuel:Nat} {nv cv rv:Value} {m:MM} (h:jc mb w tn aS fuel nv cv rv m) (r:MC) {g cap:Nat} (hW:Below w.heap.size w W0) (hg:W0.grownBy w' cv.ownBlock)
  (hown:w'.ownsRow 0 154 6 (.slice (some ⟨g,0,none⟩) (m.cells.length+1) cap) (m.cells.length+1) (m.cells.flatMap Lw++Lw r)) (jC:cv.ownBlock=some g\/W0.heap.size<=g) :
  bL mb mb w (w'.setCell ⟨mb,6,none⟩ (.slice (some ⟨g,0,none⟩) (m.cells.length+1) cap)) nv cv rv nv (.slice (some ⟨g,0,none⟩) (m.cells.length+1) cap) rv /\
  jc mb (w'.setCell ⟨mb,6,none⟩ (.slice (some ⟨g,0,none⟩) (m.cells.length+1) cap)) tn aS fuel nv (.slice (some ⟨g,0,none⟩) (m.cells.length+1) cap) rv { m with cells:=m.cells++[r] }:=by
 obtain⟨l1,l2,l3,l4⟩:=h.slt;have mr:=hW.size;have hgs:=hg.size
 have yW:W0.heap[mb]?=some (.cells (mM tn aS fuel nv cv rv m) 120 (0,0)):=by rw[hW.block mb l4];exact h.y
 have yw:=cY hg yW h.cy
 have pM:g≠mb:=by
  rcases jC with e | e
  ·intro e';rw[e'] at e;exact h.cy e
  ·omega
 have kp:∀ k,k<w.heap.size->k≠mb->cv.ownBlock≠some k->(w'.setCell ⟨mb,6,none⟩ (.slice (some ⟨g,0,none⟩) (m.cells.length+1) cap)).heap[k]?=w.heap[k]?:=by
  intro k hk hkp hne;rw[aq _ _ (by simpa using hkp),hg.block k (by omega) (λe=>hne e.symm),hW.block k hk]
 refine⟨⟨hg.os.trans hW.os,hg.tape.trans hW.tape,hg.output.trans hW.output,by simp only[World.setCell,Array.size_modify];omega,λk hk hp _ hs hn ho=>kp k hk hp hn,λ_ h=>Or.inl h,λg' hg'=>by simp only[Value.ownBlock,Option.some.injEq] at hg';subst hg';rcases jC with e | e;exact Or.inl e;exact Or.inr (by omega),λ_ h=>Or.inl h⟩,?_⟩
 refine⟨aA yw 6 _,ay h.nm (λk hk=>kp k (l1 k hk) (λe=>h.ny (by rw[hk,e])) (λe=>h.nc k hk e)),
  by have:=ay (w':=w'.setCell ⟨mb,6,none⟩ (.slice (some ⟨g,0,none⟩) (m.cells.length+1) cap)) hown (λk hk=>by simp only[Value.ownBlock,Option.some.injEq] at hk;subst hk;exact aq _ _ (by simpa using pM));simpa using this,
  ay h.rg (λk hk=>kp k (l3 k hk) (λe=>h.ry (by rw[hk,e])) (λe=>h.cr.symm k hk e)),h.ny,by simp only[Value.ownBlock,ne_eq,Option.some.injEq];exact pM,h.ry,(λk hk hk'=>by
   simp only[Value.ownBlock,Option.some.injEq] at hk'
   rcases jC with e | e
   ·rw[hk'] at e;exact h.nc k hk e
   ·have:=l1 k hk;omega),h.nr,(λk hk hk'=>by
   simp only[Value.ownBlock,Option.some.injEq] at hk
   rcases jC with e | e
   ·rw[hk] at e;exact h.cr.symm k hk' e
   ·have:=l3 k hk';omega)⟩
theorem EK (l:List MR) (k:Int):∀ i,jq l k i<=i
 | 0=>Nat.le_refl _
 | i+1=>by
  simp only[jq]
  split
  ·exact Nat.le_refl _
  ·exact Nat.le_succ_of_le (EK l k i)
end Go.Proofs.YtpicaknklgccoabGreatDoor
