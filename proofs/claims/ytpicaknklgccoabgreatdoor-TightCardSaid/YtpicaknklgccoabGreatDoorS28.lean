import Derived.Test.YtpicaknklgccoabGreatDoorS27
set_option maxHeartbeats 4000000
set_option maxRecDepth 100000
namespace Go.Proofs.YtpicaknklgccoabGreatDoor
open Go.RowKit
structure cO (w w':World) (yb:Nat) (nv bB:Value):Prop where
 size:w.heap.size<=w'.heap.size
 blk:∀ k,k < w.heap.size->k≠yb->nv.ownBlock≠some k->w'.heap[k]?=w.heap[k]?
 n:∀ g,bB.ownBlock=some g->nv.ownBlock=some g\/w.heap.size<=g
theorem cO.refl (w:World) (yb:Nat) (nv:Value):cO w w yb nv nv:=⟨Nat.le_refl _,fun _ _ _ _=>rfl,fun _ h=>Or.inl h⟩
theorem cO.trans {w w1 w2:World} {yb:Nat} {nv tq cz:Value} (h:cO w w1 yb nv tq) (h':cO w1 w2 yb tq cz):cO w w2 yb nv cz:=by
 refine ⟨Nat.le_trans h.size h'.size,?_,?_⟩
 ·intro k hk hy hn
  rw [h'.blk k (Nat.lt_of_lt_of_le hk h.size) hy (fun e=>by rcases h.n k e with e | e;exact hn e;omega)]
  exact h.blk k hk hy hn
 ·intro g hg
  rcases h'.n g hg with e | e
  ·exact h.n g e
  ·exact Or.inr (Nat.le_trans h.size e)
theorem cO.below {w w':World} (h:Below w.heap.size w w') (yb:Nat) (nv:Value):cO w w' yb nv nv:=⟨h.size,fun k hk _ _=>h.block k hk,fun _ h=>Or.inl h⟩
theorem cO.grown {w w':World} {yb:Nat} (h:w.grownBy w' (some yb)) (nv:Value):cO w w' yb nv nv:=⟨h.size,fun k hk hy _=>h.block k hk (fun e=>by cases e;exact hy rfl),fun _ h=>Or.inl h⟩
theorem bf {w W:World} (h:Below w.heap.size w W) (o:Obj):Below w.heap.size w (W.alloc o):=h.alloc h.size o
theorem cU (w:World) (m:Nat):Below w.heap.size w (w.drewN m):=⟨rfl,rfl,rfl,Nat.le_refl _,fun _ _=>rfl⟩
theorem cO.setAt (w:World) (yb:Nat) (nv:Value) (m o:Nat) (x:Value):cO w ((w.drewN m).setCell ⟨yb,o,none⟩ x) yb nv nv:=(cO.below (cU w m) _ _).trans (cO.grown (Mn (w.drewN m) ⟨yb,o,none⟩ _) _)
theorem cO.xO (w:World) (yb:Nat) (nv:Value) (o:Nat) (x:Value):cO w (w.setCell ⟨yb,o,none⟩ x) yb nv nv:=cO.grown (Mn w ⟨yb,o,none⟩ _) _
theorem cO.Nd {w w':World} {yb:Nat} {nv bB cz:Value} (h:cO w w' yb nv bB) (e:cz.ownBlock=bB.ownBlock):cO w w' yb nv cz:=⟨h.size,h.blk,fun g hg=>h.n g (by rw [<- e];exact hg)⟩
structure jW (w0 w:World) (yb:Nat) (cs:Array Value) (T:TypeId) (nv:Value) (E:TypeId) (xs:List Value):Prop where
 b0:Below w0.heap.size w0 w
 hyb:w0.heap.size<=yb
 y:w.heap[yb]?=some (.cells cs T (0,0))
 n:w.ownsRow w0.heap.size E 1 nv xs.length xs
 ny:nv.ownBlock≠some yb
theorem jW.grow {w0 w w':World} {yb:Nat} {cs:Array Value} {T:TypeId} {nv:Value} {E:TypeId} {xs:List Value} (h:jW w0 w yb cs T nv E xs) (hb:Below w.heap.size w w'):jW w0 w' yb cs T nv E xs :=
 ⟨h.b0.trans (hb.mono h.b0.size),h.hyb,by rw [hb.block yb (af h.y)];exact h.y,aB h.n hb,h.ny⟩
theorem jW.set {w0 w:World} {yb:Nat} {cs cs':Array Value} {T:TypeId} {nv:Value} {E:TypeId} {xs:List Value} (h:jW w0 w yb cs T nv E xs) (o:Nat) (x:Value) (hx:cs.setIfInBounds o x=cs'):jW w0 (w.setCell ⟨yb,o,none⟩ x) yb cs' T nv E xs:=by
 have oth:∀ b,b≠yb->(w.setCell ⟨yb,o,none⟩ x).heap[b]?=w.heap[b]?:=fun b hb=>ak _ _ (by simpa using hb)
 refine ⟨h.b0.setCell (p:=⟨yb,o,none⟩) h.hyb _,h.hyb,by rw [<- hx];exact ay h.y o x,?_,h.ny⟩
 exact ax h.n (fun k hk=>oth k (fun e=>h.ny (by rw [<- e];exact hk)))
theorem jW.push {w0 w w3 W:World} {yb:Nat} {cs:Array Value} {T:TypeId} {nv:Value} {E:TypeId} {xs:List Value} {x:Value} {g cap o:Nat} {A:Obj}
  (h:jW w0 w yb cs T nv E xs) (hg:(w.alloc A).grownBy w3 nv.ownBlock) (ho:w3.ownsRow 0 E 1 (.slice (some ⟨g,0,none⟩) (xs.length+1) cap) (xs.length+1) (xs++[x]))
  (hgg:nv.ownBlock=some g\/(w.alloc A).heap.size<=g) (hW:W=w3.setCell ⟨yb,o,none⟩ (.slice (some ⟨g,0,none⟩) (xs.length+1) cap)) :
  jW w0 W yb (cs.setIfInBounds o (.slice (some ⟨g,0,none⟩) (xs.length+1) cap)) T (.slice (some ⟨g,0,none⟩) (xs.length+1) cap) E (xs++[x])/\cO w W yb nv (.slice (some ⟨g,0,none⟩) (xs.length+1) cap):=by
 have hb0:=h.b0.size
 have nP:=af h.y
 have ea:(w.alloc A).heap.size=w.heap.size+1:=by simp
 have hs3:=hg.size
 rw [ea] at hgg hs3
 have hsW:W.heap.size=w3.heap.size:=by rw [hW];simp [World.setCell]
 have Yo:∀ g,nv.ownBlock=some g->w0.heap.size<=g/\g < w.heap.size:=fun g hg=>h.n.lt g hg
 have o3:∀ b,b < w.heap.size->nv.ownBlock≠some b->w3.heap[b]?=w.heap[b]?:=by
  intro b hb hn
  rw [hg.block b (by rw [ea];omega) (fun e=>hn e.symm),Below.heap_alloc _ _ _ hb]
 have oW:∀ b,b < w.heap.size->b≠yb->nv.ownBlock≠some b->W.heap[b]?=w.heap[b]?:=by
  intro b hb hby hn
  rw [hW,ak _ _ (by simpa using hby),o3 b hb hn]
 have SC:g≠yb:=by
  intro e
  rcases hgg with hh | hh
  ·exact h.ny (by rw [hh,e])
  ·omega
 have hgb:w0.heap.size<=g:=by
  rcases hgg with hh | hh
  ·exact (Yo g hh).1
  ·omega
 have hyW:W.heap[yb]?=some (.cells (cs.setIfInBounds o (.slice (some ⟨g,0,none⟩) (xs.length+1) cap)) T (0,0)):=by
  rw [hW]
  refine (ay (arr:=cs) ?_ o _).trans rfl
  rw [o3 yb nP h.ny];exact h.y
 refine ⟨⟨?_,h.hyb,hyW,?_,?_⟩,⟨by omega,fun k hk hy hn=>oW k hk hy hn,fun g' hg'=>by simp only [Value.ownBlock,Option.some.injEq] at hg';subst hg';rcases hgg with e | e;exact Or.inl e;exact Or.inr (by omega)⟩⟩
 ·refine h.b0.trans ⟨?_,?_,?_,by omega,fun k hk=>oW k (by omega) (by have:=h.hyb;omega) (fun e=>by have:=Yo k e;omega)⟩
  ·rw [hW];exact hg.os
  ·rw [hW];exact hg.tape
  ·rw [hW];exact hg.output
 ·have e1:(xs++[x]).length=xs.length+1:=by simp
  rw [e1]
  refine dn (ax ho (fun k hk=>?_)) (fun k hk=>?_)
  ·simp only [Value.ownBlock,Option.some.injEq] at hk
   subst hk
   rw [hW,ak _ _ (by simpa using SC)]
  ·simp only [Value.ownBlock,Option.some.injEq] at hk
   subst hk;exact hgb
 ·simp only [Value.ownBlock,ne_eq,Option.some.injEq];exact SC
theorem jW.pop {w0 w:World} {yb:Nat} {cs:Array Value} {T:TypeId} {E:TypeId} {xs:List Value} {x:Value} {g cap o:Nat}
  (h:jW w0 w yb cs T (.slice (some ⟨g,0,none⟩) (xs.length+1) cap) E (xs++[x])) :
  jW w0 (w.setCell ⟨yb,o,none⟩ (.slice (some ⟨g,0,none⟩) xs.length cap)) yb (cs.setIfInBounds o (.slice (some ⟨g,0,none⟩) xs.length cap)) T (.slice (some ⟨g,0,none⟩) xs.length cap) E xs:=by
 have oth:∀ b,b≠yb->(w.setCell ⟨yb,o,none⟩ (.slice (some ⟨g,0,none⟩) xs.length cap)).heap[b]?=w.heap[b]?:=fun b hb=>ak _ _ (by simpa using hb)
 have hp:w.ownsRow w0.heap.size E 1 (.slice (some ⟨g,0,none⟩) xs.length cap) xs.length xs:=by
  refine ownsRow_pop (last:=[x]) (by simp) ?_
  have:=h.n
  simpa using this
 refine ⟨?_,h.hyb,(ay h.y o _).trans rfl,ax hp (fun k hk=>oth k (fun e=>h.ny (by rw [<- e];exact hk))),h.ny⟩
 exact h.b0.setCell (p:=⟨yb,o,none⟩) h.hyb _
theorem jW.shape {w0 w:World} {yb:Nat} {cs:Array Value} {T:TypeId} {nv:Value} {E:TypeId} {xs:List Value} (h:jW w0 w yb cs T nv E xs):∃ a cap,nv=.slice a xs.length cap/\xs.length<=cap/\(0 < xs.length->∃ g,a=some ⟨g,0,none⟩):=by
 rcases h.n.2 with ⟨hv,hn⟩ | ⟨g,cap,cur,hv,_,_,hc,_⟩
 ·exact ⟨none,0,by rw [hv,hn],by omega,fun h=>by omega⟩
 ·exact ⟨_,cap,hv,hc,fun _=>⟨g,rfl⟩⟩
theorem jW.other {w0 w w':World} {yb:Nat} {cs:Array Value} {T:TypeId} {nv bB:Value} {E:TypeId} {xs:List Value} (h:jW w0 w yb cs T nv E xs) (hf:cO w w' yb nv bB) {U:TypeId} (hT:U≠T) (hE:U≠E) {k:Nat} {arr:Array Value} {fz:Nat × Nat} (hk:w.heap[k]?=some (.cells arr U fz)):w'.heap[k]?=some (.cells arr U fz):=by
 rw [<- hk]
 refine hf.blk k (af hk) ?_ ?_
 ·rintro rfl
  have:=h.y
  rw [hk] at this
  simp only [Option.some.injEq,Obj.cells.injEq] at this
  exact hT this.2.1
 ·intro e
  rcases h.n.2 with ⟨hv,hn⟩ | ⟨g,cap,cur,hv,_,hg,_⟩
  ·rw [hv] at e;cases e
  ·rw [hv] at e
   simp only [Value.ownBlock,Option.some.injEq] at e
   subst e
   rw [hk] at hg
   simp only [Option.some.injEq,Obj.cells.injEq] at hg
   exact hE hg.2.1
def Wn (c:Int):Prop:=-9223372036854775808<=c/\c<=9223372036854775807
def qy (w:World) (rv:Value) (raw:List Int):Prop :=
 (∀ c∈raw,Wn c)/\((rv=.slice none 0 0/\raw=[])\/∃ a cap,rv=.slice (some a) raw.length cap/\raw.length<=maxLen/\∀ (i:Nat) (c:Int),raw[i]?=some c->w.cell? (a.add i)=some (.int .i64 c))
theorem qy.below {w w':World} {rv:Value} {raw:List Int} (h:qy w rv raw) (hb:Below w.heap.size w w'):qy w' rv raw:=by
 refine ⟨h.1,?_⟩
 rcases h.2 with h | ⟨a,cap,h1,h2,h3⟩
 ·exact Or.inl h
 ·exact Or.inr ⟨a,cap,h1,h2,fun i c hc=>(hb.cell (World.block_lt_of_cell? _ _ (h3 i c hc))).trans (h3 i c hc)⟩
def lS (rv:Value) (s:jg) (nv:Value):Array Value:=#[rv,.int .i64 s.at_,.int .i64 s.left,nv]
def jh (l:List Nat):List Value:=l.map (fun (k:Nat)=>Value.int .i64 k)
structure ee (w0 w:World) (yb:Nat) (rv:Value) (raw:List Int) (s:jg) (nv:Value):Prop where
 r:qy w0 rv raw
 ob:jW w0 w yb (lS rv s nv) 49 nv 3 (jh s.vars)
theorem ee.grow {w0 w w':World} {yb:Nat} {rv:Value} {raw:List Int} {s:jg} {nv:Value} (h:ee w0 w yb rv raw s nv) (hb:Below w.heap.size w w'):ee w0 w' yb rv raw s nv:=⟨h.r,h.ob.grow hb⟩
theorem DB (c:Int) (n:Nat) (w:World) (hc:Wn c) (hn:0 < n) (hn':n<=100000):Calls Tryz.prog 10 #[.int .i64 c,.int .i64 n] w fun e w'=>e=.returned (.int .i64 (lf c n:Nat))/\w'=w:=by
 obtain ⟨h1,h2⟩:=hc
 have hl:=sR c n hn
 have hv:((lf c n:Nat):Int)=Int.tmod (if c < 0 then -(c+1) else c) n:=by
  unfold lf
  exact Int.toNat_of_nonneg (Int.tmod_nonneg _ (by split <;> omega))
 rw [hv]
 have hne:((n:Int) == 0)=false:=by rw [beq_eq_false_iff_ne];omega
 by_cases h0:c < 0
 ·rw [if_pos h0] at hv ⊢
  go_enter Tryz.func10,Tryz.ntmps10
  go_wp2
  go_ret
  exact ⟨by rw [Int.neg_tmod];rfl,rfl⟩
 ·rw [if_neg h0] at hv ⊢
  go_enter Tryz.func10,Tryz.ntmps10
  go_wp2
  go_ret
  exact ⟨by rw [Int.tmod_eq_emod_of_nonneg (by omega)];rfl,rfl⟩
theorem Tryz.DC:(Tryz.prog.info? 98).map (·.size)=some 5:=by kernel_rfl
theorem nn (t:Nat) (ht:t < 5) (w:World):Calls Tryz.prog 41 #[.int .i64 t] w fun e w'=>e=.returned (.int .i64 (fI t))/\Below w.heap.size w w':=by
 have h5:t=0\/t=1\/t=2\/t=3\/t=4:=by omega
 rcases h5 with rfl | rfl | rfl | rfl | rfl
 all_goals
  go_enter Tryz.func41,Tryz.ntmps41
  go_wp2_with (refine jq rfl 98 (.tmp 3) (.tmp 4) rfl w.heap.size #[.int .i64 (-1),.int .i64 0,.int .i64 1,.int .i64 0,.int .i64 1] rfl rfl 98 _ (aj _ _) Tryz.DC rfl (by simp [Value.oneCell']) ?_;intro W hW lH mP hW1 hW2 hW3;have s0:W.cell? ⟨w.heap.size,0,none⟩=some (.int .i64 (-1)):=(by rw [aa hW];rfl);have s1:W.cell? ⟨w.heap.size,1,none⟩=some (.int .i64 0):=(by rw [aa hW];rfl);have s2:W.cell? ⟨w.heap.size,2,none⟩=some (.int .i64 1):=(by rw [aa hW];rfl);have s3:W.cell? ⟨w.heap.size,3,none⟩=some (.int .i64 0):=(by rw [aa hW];rfl);have s4:W.cell? ⟨w.heap.size,4,none⟩=some (.int .i64 1):=(by rw [aa hW];rfl);have hwl:=af hW;have HB:Hid (Below w.heap.size w W):=fp (Below.alloc (Below.refl _ w) (Nat.le_refl _) _) (Nat.le_refl _) lH mP hW1 hW2 hW3;clear hW lH mP hW1 hW2 hW3)
  go_ret
  exact ⟨rfl,HB.out⟩
theorem lT (t:Nat) (ht:t < 5) (w:World):Calls Tryz.prog 42 #[.int .i64 t] w fun e w'=>e=.returned (.int .i64 (sI t))/\Below w.heap.size w w':=by
 have h5:t=0\/t=1\/t=2\/t=3\/t=4:=by omega
 rcases h5 with rfl | rfl | rfl | rfl | rfl
 all_goals
  go_enter Tryz.func42,Tryz.ntmps42
  go_wp2_with (refine jq rfl 98 (.tmp 3) (.tmp 4) rfl w.heap.size #[.int .i64 (-1),.int .i64 0,.int .i64 0,.int .i64 1,.int .i64 1] rfl rfl 98 _ (aj _ _) Tryz.DC rfl (by simp [Value.oneCell']) ?_;intro W hW lH mP hW1 hW2 hW3;have s0:W.cell? ⟨w.heap.size,0,none⟩=some (.int .i64 (-1)):=(by rw [aa hW];rfl);have s1:W.cell? ⟨w.heap.size,1,none⟩=some (.int .i64 0):=(by rw [aa hW];rfl);have s2:W.cell? ⟨w.heap.size,2,none⟩=some (.int .i64 0):=(by rw [aa hW];rfl);have s3:W.cell? ⟨w.heap.size,3,none⟩=some (.int .i64 1):=(by rw [aa hW];rfl);have s4:W.cell? ⟨w.heap.size,4,none⟩=some (.int .i64 1):=(by rw [aa hW];rfl);have hwl:=af hW;have HB:Hid (Below w.heap.size w W):=fp (Below.alloc (Below.refl _ w) (Nat.le_refl _) _) (Nat.le_refl _) lH mP hW1 hW2 hW3;clear hW lH mP hW1 hW2 hW3)
  go_ret
  exact ⟨rfl,HB.out⟩
theorem cX {w0 w:World} {yb:Nat} {rv:Value} {raw:List Int} {s:jg} {nv:Value} (n:Nat) (hn:0 < n) (hn':n<=100000) (h:ee w0 w yb rv raw s nv) (hat:s.at_<=1000000) :
  Calls Tryz.prog 34 #[.pointer (some ⟨yb,0,none⟩),.int .i64 n] w fun e w'=>e=.returned (.int .i64 ((aL raw n s).1:Nat))/\cO w w' yb nv nv/\ee w0 w' yb rv raw (aL raw n s).2 nv:=by
 have nP:=af h.ob.y
 have y1:w.cell? ⟨yb,1,none⟩=some (.int .i64 s.at_):=by rw [aa h.ob.y];rfl
 have f1:w.frozen? ⟨yb,1,none⟩=false:=ag h.ob.y 1
 have y0:w.cell? ⟨yb,0,none⟩=some rv:=by rw [aa h.ob.y];rfl
 by_cases hr:raw=[]
 ·have iH:aL raw n s=(0,s):=by unfold aL;rw [if_pos hr]
  rw [iH]
  obtain ⟨a,cap,CZ⟩:∃ a cap,rv=.slice a 0 cap:=by
   rcases h.r.2 with ⟨h1,_⟩ | ⟨a,cap,h1,_,_⟩
   ·exact ⟨none,0,h1⟩
   ·exact ⟨some a,cap,by rw [h1,hr];rfl⟩
  rw [CZ] at y0
  have HH:Hid _:=h
  clear h hr iH f1 y1
  go_enter Tryz.func34,Tryz.ntmps34
  go_wp2
  go_ret
  exact ⟨rfl,cO.refl _ _ _,HH.out⟩
 ·have hpos:0 < raw.length:=List.length_pos_iff.2 hr
  obtain ⟨a,cap,CZ,hlen,tD⟩:∃ a cap,rv=.slice (some a) raw.length cap/\raw.length<=maxLen/\∀ (i:Nat) (c:Int),raw[i]?=some c->w0.cell? (a.add i)=some (.int .i64 c):=by
   rcases h.r.2 with ⟨_,h1⟩ | ⟨a,cap,h1,h2,h3⟩
   ·exact absurd h1 hr
   ·exact ⟨a,cap,h1,h2,h3⟩
  have hlt:=Nat.mod_lt s.at_ hpos
  obtain ⟨c,hc⟩:∃ c,raw[s.at_ % raw.length]?=some c:=⟨_,List.getElem?_eq_getElem hlt⟩
  have iH:aL raw n s=(lf c n,{ s with at_:=s.at_+1 }):=by unfold aL;rw [if_neg hr,List.getD_eq_getElem?_getD,hc];rfl
  rw [iH]
  have hci:Wn c:=h.r.1 c (List.mem_of_getElem? hc)
  have FX:=tD _ c hc
  have hcell:w.cell? (a.add (s.at_ % raw.length))=some (.int .i64 c):=(h.ob.b0.cell (World.block_lt_of_cell? _ _ FX)).trans FX
  have hal:(a.add (s.at_ % raw.length)).block < w.heap.size:=World.block_lt_of_cell? _ _ hcell
  have Nf:Int.tmod (s.at_:Int) (raw.length:Int)=((s.at_ % raw.length:Nat):Int):=(Int.ofNat_tmod _ _).symm
  have hpk:=fun w=>DB c n w hci hn hn'
  rw [CZ] at y0
  have q0:((raw.length:Int) == 0)=false:=by rw [beq_eq_false_iff_ne];omega
  have hset:=fun m=>(h.ob.grow (cU w m)).set 1 (.int .i64 ((s.at_:Int)+1)) (cs':=lS rv { s with at_:=s.at_+1 } nv) (by simp [lS])
  have Bc:Hid _:=hset
  have HR:Hid _:=h.r
  have WR:raw.length<=maxLen:=hlen
  clear h hr iH tD hc hset FX hlen
  generalize hix:s.at_ % raw.length=ix at *
  go_enter Tryz.func34,Tryz.ntmps34
  go_wp2
  go_quiet (fail)
  go_wp2_with fail
  refine (hpk _).mono ?_
  rintro _ w2 ⟨rfl,rfl⟩
  go_wp2
  go_ret
  exact ⟨rfl,cO.setAt w yb nv _ 1 _,HR.out,Bc.out _⟩
def uO (op:List UInt8) (n:Nat) (kv:Value):Array Value:=#[.string (bs op),.int .i64 n,kv]
def eS (w:World):KE->Nat->Prop
 | .num n,p=>w.heap[p]?=some (.cells (uO [] n (.slice none 0 0)) 59 (0,0))
 | .var n,p=>w.heap[p]?=some (.cells (uO [120] n (.slice none 0 0)) 59 (0,0))
 | .n1 k a,p=>∃ c pa:Nat,w.heap[p]?=some (.cells (uO k.bytes 0 (.slice (some ⟨c,0,none⟩) 1 1)) 59 (0,0))/\w.heap[c]?=some (.cells #[.pointer (some ⟨pa,0,none⟩)] 23 (0,0))/\eS w a pa
 | .n2 k n a b,p=>∃ c pa pb:Nat,w.heap[p]?=some (.cells (uO k.bytes n (.slice (some ⟨c,0,none⟩) 2 2)) 59 (0,0))/\w.heap[c]?=some (.cells #[.pointer (some ⟨pa,0,none⟩),.pointer (some ⟨pb,0,none⟩)] 23 (0,0))/\eS w a pa/\eS w b pb
 | .n3 k n a b d,p=>∃ c pa pb pd:Nat,w.heap[p]?=some (.cells (uO k.bytes n (.slice (some ⟨c,0,none⟩) 3 3)) 59 (0,0))/\w.heap[c]?=some (.cells #[.pointer (some ⟨pa,0,none⟩),.pointer (some ⟨pb,0,none⟩),.pointer (some ⟨pd,0,none⟩)] 23 (0,0))/\eS w a pa/\eS w b pb/\eS w d pd
theorem eS.keep {w w':World} (h:∀ (k:Nat) (arr:Array Value) (U:TypeId),U=59\/U=23->w.heap[k]?=some (.cells arr U (0,0))->w'.heap[k]?=some (.cells arr U (0,0))):∀ {x:KE} {p:Nat},eS w x p->eS w' x p
 | .num _,_,hx=>h _ _ _ (Or.inl rfl) hx
 | .var _,_,hx=>h _ _ _ (Or.inl rfl) hx
 | .n1 _ _,_,⟨c,pa,h1,h2,h3⟩=>⟨c,pa,h _ _ _ (Or.inl rfl) h1,h _ _ _ (Or.inr rfl) h2,eS.keep h h3⟩
 | .n2 _ _ _ _,_,⟨c,pa,pb,h1,h2,h3,h4⟩=>⟨c,pa,pb,h _ _ _ (Or.inl rfl) h1,h _ _ _ (Or.inr rfl) h2,eS.keep h h3,eS.keep h h4⟩
 | .n3 _ _ _ _ _,_,⟨c,pa,pb,pd,h1,h2,h3,h4,h5⟩=>⟨c,pa,pb,pd,h _ _ _ (Or.inl rfl) h1,h _ _ _ (Or.inr rfl) h2,eS.keep h h3,eS.keep h h4,eS.keep h h5⟩
theorem eS.below {w w':World} {x:KE} {p:Nat} (h:eS w x p) (hb:Below w.heap.size w w'):eS w' x p:=h.keep (fun k _ _ _ hk=>(hb.block k (af hk)).trans hk)
theorem eS.fr {w0 w w':World} {yb:Nat} {rv:Value} {raw:List Int} {s:jg} {nv bB:Value} {x:KE} {p:Nat} (h:eS w x p) (hm:ee w0 w yb rv raw s nv) (hf:cO w w' yb nv bB):eS w' x p :=
 h.keep (fun k arr U hU hk=>hm.ob.other hf (by rcases hU with rfl | rfl <;> decide) (by rcases hU with rfl | rfl <;> decide) hk)
theorem FY {w:World} {b n:Nat} {E:TypeId} {v:Value} {xs:List Value} (h:w.ownsRow b E 1 v n xs):∃ a cap,v=.slice a n cap/\(0 < n->∃ g,a=some ⟨g,0,none⟩):=by
 rcases h.2 with ⟨hv,hn⟩ | ⟨g,cap,cur,hv,_⟩
 ·exact ⟨none,0,by rw [hv,hn],fun h=>by omega⟩
 ·exact ⟨_,cap,hv,fun _=>⟨g,rfl⟩⟩
theorem J3 (vars:List Nat) (t j:Nat):idxs vars t (j+1)=if vars.getD j 9=t then idxs vars t j++[j] else idxs vars t j:=by
 unfold idxs
 rw [List.range_succ,List.filter_append]
 by_cases h:vars.getD j 9=t
 ·rw [if_pos h];simp only [List.filter_cons,List.filter_nil,h,beq_self_eq_true,if_true]
 ·have hb:(vars.getD j 9 == t)=false:=by simpa using h
  rw [if_neg h];simp only [List.filter_cons,List.filter_nil,hb,Bool.false_eq_true,if_false,List.append_nil]
theorem DD (vars:List Nat) (t j:Nat):(idxs vars t j).length<=j:=by
 unfold idxs;have:=List.length_filter_le (fun i=>vars.getD i 9 == t) (List.range j);simpa using this
theorem QX {vars:List Nat} {t j x:Nat} (h:x∈idxs vars t j):x < j:=by
 unfold idxs at h;rw [List.mem_filter,List.mem_range] at h;exact h.1
theorem Tryz.DE:(Tryz.prog.info? 3).map (fun i=>(i.zero,i.size,i.bytes))=some (some (.int .i64 0),1,8):=by kernel_rfl
theorem Tryz.DF:Tryz.prog.underlying 22=some (.slice 3):=by kernel_rfl
theorem J4 {w0 w:World} {yb:Nat} {rv:Value} {raw:List Int} {s:jg} {nv:Value} (t k:Nat) (h:ee w0 w yb rv raw s nv) (hvl:s.vars.length<=200) :
  Calls Tryz.prog 57 #[.pointer (some ⟨yb,0,none⟩),.int .i64 t,.int .i64 k] w fun e w'=>Below w.heap.size w w'/\((jV s.vars t k=none/\e=.returned (.pointer none))\/∃ (x:KE) (p:Nat),jV s.vars t k=some x/\e=.returned (.pointer (some ⟨p,0,none⟩))/\eS w' x p):=by
 obtain ⟨i0,hi,hz0,hz1,hz2⟩:=info_parts Tryz.DE
 have HI:Hid _:=hi
 have pZ:Hid _:=hz0
 have p8:Hid _:=hz1
 have p9:Hid _:=hz2
 have nP:=af h.ob.y
 obtain ⟨na,nc,pG,_,bt⟩:=h.ob.shape
 have Yp:(jh s.vars).length=s.vars.length:=by simp [jh]
 rw [Yp] at pG bt
 have y3:w.cell? ⟨yb,3,none⟩=some (.slice na s.vars.length nc):=by rw [aa h.ob.y,<- pG];rfl
 have hcell:∀ j,(hj:j < s.vars.length)->∃ g,na=some ⟨g,0,none⟩/\g < w.heap.size/\w.cell? ⟨g,j,none⟩=some (.int .i64 (s.vars[j]:Nat)):=by
  intro j hj
  obtain ⟨g,hg⟩:=bt (by omega)
  have ho:=h.ob.n
  rw [pG,hg,Yp] at ho
  have hc:w.cell? ⟨g,j,none⟩=some (.int .i64 (s.vars[j]:Nat)):=by
   rw [ho.cellAt j (by omega)];unfold jh;rw [List.getElem?_map,List.getElem?_eq_getElem hj];rfl
  exact ⟨g,hg,World.block_lt_of_cell? _ _ hc,hc⟩
 have HC:Hid _:=hcell
 have hlen:=DD s.vars t s.vars.length
 clear hi hz0 hz1 hz2 h pG bt hcell
 go_enter Tryz.func57,Tryz.ntmps57
 go_wp2
 go_loopw [7,8] (fun l i wr=>∃ j:Nat,j<=s.vars.length/\i=.int .i64 j/\wr.ownsRow w.heap.size 3 1 l (idxs s.vars t j).length (jh (idxs s.vars t j))/\Below w.heap.size w wr) (fun _ i _=>s.vars.length - (intOf i).toNat)
 case atStart=>exact ⟨0,by omega,rfl,World.ownsRow_nil _ _ _ _,Below.refl _ _⟩
 case round =>
  obtain ⟨j,hj,rfl,hown,hbel⟩:=hrel
  have hsz:=hbel.size
  have q3:wr.cell? ⟨yb,3,none⟩=some (.slice na s.vars.length nc):=(hbel.cell (p:=⟨yb,3,none⟩) nP).trans y3
  have U4:yb < wr.heap.size:=by omega
  have HO:Hid _:=hown
  have HB:Hid _:=hbel
  clear hown hbel
  by_cases hlt:j < s.vars.length
  ·obtain ⟨g,rfl,hg,hc⟩:=HC.out j hlt
   have Jy:wr.cell? ⟨g,j,none⟩=some (.int .i64 (s.vars[j]:Nat)):=(HB.out.cell (p:=⟨g,j,none⟩) hg).trans hc
   have hgr:g < wr.heap.size:=by omega
   have xP:=J3 s.vars t j
   rw [List.getD_eq_getElem?_getD,List.getElem?_eq_getElem hlt,Option.getD_some] at xP
   have lN:=DD s.vars t j
   by_cases hv:s.vars[j]=t
   ·have qv:(((s.vars[j]:Nat):Int) == (t:Int))=true:=by rw [hv];simp
    rw [if_pos hv] at xP
    have HS:Hid _:=xP
    clear xP hv hc y3
    generalize s.vars[j]=vj at *
    go_wp2_with (at_builtin;go_must (refine wpList_append_own _ rfl (.tmp 27) (.tmp 29) 22 rfl w.heap.size 3 i0 _ 1 8 Tryz.DF HI.out pZ.out p8.out p9.out rfl (by decide) _ (idxs s.vars t j).length (jh (idxs s.vars t j)) rfl (World.ownsRow.alloc HO.out _) ⟨wr.heap.size,0,none⟩ 1 1 [.int .i64 j] rfl rfl ?c1 ?c2 ?c3 ?c4 ?c5 ?_))
    case c1 =>
     intro j u hj
     rw [<- hj]
     exact bJ _ _ _ _
    case c2=>intro u hu;simp at hu;subst hu;rfl
    case c3=>unfold maxLen;omega
    case c4=>first | omega | (simp;omega)
    case c5=>first | omega | (simp;omega)
    intro v' w4 hown' hgrow hnil
    have dU:Hid (Below w.heap.size w w4):=(HB.out.alloc hsz _).grown hgrow (by simp;omega) (fun b hb=>(World.ownsRow.lt HO.out b hb).1)
    have Fh:Hid _:=hown'
    clear hown' hgrow hnil
    go_wp2
    go_roundw
    case rel =>
     refine ⟨j+1,by omega,by go_num,?_,dU.out⟩
     rw [HS.out]
     unfold jh
     rw [List.length_append,List.map_append]
     exact Fh.out
    case measure=>simp [intOf];omega
   ·have qv:(((s.vars[j]:Nat):Int) == (t:Int))=false:=by rw [beq_eq_false_iff_ne];omega
    rw [if_neg hv] at xP
    have HS:Hid _:=xP
    clear xP hv hc y3
    generalize s.vars[j]=vj at *
    go_wp2
    go_roundw
    case rel=>exact ⟨j+1,by omega,by go_num,by rw [HS.out];exact HO.out,HB.out⟩
    case measure=>simp [intOf];omega
  ·have zO:j=s.vars.length:=by omega
   subst zO
   obtain ⟨L,hL⟩:∃ L,L=idxs s.vars t s.vars.length:=⟨_,rfl⟩
   have hmem:∀ x∈L,x < s.vars.length:=fun x hx=>QX (by rw [hL] at hx;exact hx)
   have hnm:jV s.vars t k=if L=[] then none else some (.var (L.getD (k % L.length) 0)):=by unfold jV;rw [<- hL]
   rw [<- hL] at HO hlen
   have SD:Hid _:=hnm
   clear hL hnm HC y3
   obtain ⟨la,lc,hlv,hla⟩:=FY HO.out
   subst hlv
   by_cases hn:L=[]
   ·have zm:Hid _:=hn
    have QW:L.length=0:=by rw [hn];rfl
    rw [QW] at HO ⊢
    clear hla hmem hn
    go_wp2
    go_ret
    exact ⟨HB.out,Or.inl ⟨by rw [SD.out,if_pos zm.out],rfl⟩⟩
   ·have zm:Hid _:=hn
    have hpos:0 < L.length:=List.length_pos_iff.2 hn
    obtain ⟨g,rfl⟩:=hla hpos
    have hkl:=Nat.mod_lt k hpos
    have Nf:Int.tmod (k:Int) (L.length:Int)=((k % L.length:Nat):Int):=(Int.ofNat_tmod _ _).symm
    have ZT:wr.cell? ⟨g,k % L.length,none⟩=some (.int .i64 (L.getD (k % L.length) 0:Nat)):=by
     rw [World.ownsRow.cellAt HO.out _ (by omega)];unfold jh
     rw [List.getElem?_map,List.getD_eq_getElem?_getD,List.getElem?_eq_getElem hkl];rfl
    have hgl:g < wr.heap.size:=World.block_lt_of_cell? _ _ ZT
    have ql:((L.length:Int) == 0)=false:=by rw [beq_eq_false_iff_ne];omega
    clear hla hmem hn
    generalize L.getD (k % L.length) 0=nx at *
    generalize k % L.length=ix at *
    go_wp2
    go_ret
    refine ⟨HB.out.alloc hsz _,Or.inr ⟨_,_,by rw [SD.out,if_neg zm.out],rfl,?_⟩⟩
    exact aj _ _
theorem mI (w:World) (k:Kw) (n pa pb:Nat) {a b:KE} (ha:eS w a pa) (hb:eS w b pb) :
  Below w.heap.size w ((w.alloc (.cells #[.pointer (some ⟨pa,0,none⟩),.pointer (some ⟨pb,0,none⟩)] 23 (0,0))).alloc (.cells (uO k.bytes n (.slice (some ⟨w.heap.size,0,none⟩) 2 2)) 59 (0,0))) /\
  eS ((w.alloc (.cells #[.pointer (some ⟨pa,0,none⟩),.pointer (some ⟨pb,0,none⟩)] 23 (0,0))).alloc (.cells (uO k.bytes n (.slice (some ⟨w.heap.size,0,none⟩) 2 2)) 59 (0,0))) (.n2 k n a b) (w.heap.size+1):=by
 have h1:=bf (Below.refl _ w) (.cells #[.pointer (some ⟨pa,0,none⟩),.pointer (some ⟨pb,0,none⟩)] 23 (0,0))
 have h2:=bf h1 (.cells (uO k.bytes n (.slice (some ⟨w.heap.size,0,none⟩) 2 2)) 59 (0,0))
 refine ⟨h2,w.heap.size,pa,pb,?_,?_,ha.below h2,hb.below h2⟩
 ·have:=aj (w.alloc (.cells #[.pointer (some ⟨pa,0,none⟩),.pointer (some ⟨pb,0,none⟩)] 23 (0,0))) (.cells (uO k.bytes n (.slice (some ⟨w.heap.size,0,none⟩) 2 2)) 59 (0,0))
  simpa using this
 ·rw [Below.heap_alloc _ _ _ (by simp)];exact aj _ _
theorem xQ {w0:World} {yb:Nat} {rv:Value} {raw:List Int} (f:Nat):∀ (t:Nat) (s:jg) (nv:Value) (w:World),t < 5->dep t < f->ee w0 w yb rv raw s nv->s.vars.length<=200->s.at_+40 * s.left+BD t<=1000000 ->
  Calls Tryz.prog 38 #[.pointer (some ⟨yb,0,none⟩),.int .i64 t] w fun e w'=>∃ p,e=.returned (.pointer (some ⟨p,0,none⟩))/\cO w w' yb nv nv/\ee w0 w' yb rv raw (dJ raw f t s).2 nv/\eS w' (dJ raw f t s).1 p:=by
 induction f with
 | zero=>intro t s nv w _ h;omega
 | succ f ih =>
  intro t s nv w ht hd h hvl hat
  have hW:=@Nb t
  have iH:=cX 7 (by omega) (by omega) h (by omega)
  have hst:=bW raw 7 s
  have hx7:=cI raw 7 s (by omega)
  have hlf:dJ raw (f+1) t s=dJ raw (f+1) t s:=rfl
  generalize Yq:dJ raw (f+1) t s=R at hlf ⊢
  simp only [dJ] at Yq
  generalize aL raw 7 s=x at *
  obtain ⟨x1,x2,x3,x4⟩:=hst
  have HA:Hid (∀ y,1 < x.1->jV x.2.vars t x.1=some y->R=(y,x.2)):=fun y h1 h2=>by rw [<- Yq,if_pos h1,h2]
  have HB:Hid ((if 1 < x.1 then jV x.2.vars t x.1 else none)=none->t=0->R=(.num (aL raw 60 x.2).1,(aL raw 60 x.2).2)):=fun h1 h2=>by rw [<- Yq,h1,if_pos h2]
  have HC:Hid ((if 1 < x.1 then jV x.2.vars t x.1 else none)=none->t≠0->R=(.n2 .pair 0 (dJ raw f (fT t) x.2).1 (dJ raw f (sT t) (dJ raw f (fT t) x.2).2).1,(dJ raw f (sT t) (dJ raw f (fT t) x.2).2).2)):=fun h1 h2=>by rw [<- Yq,h1,if_neg h2]
  clear Yq hlf h
  have nu:Hid _:=iH
  clear iH
  go_enter Tryz.func38,Tryz.ntmps38
  go_wp2_with fail
  refine Calls.mono nu.out ?_
  rintro _ w1 ⟨rfl,hf1,mn⟩
  clear nu
  by_cases hk:1 < x.1
  ·have hnm:=J4 t x.1 mn (by rw [x2];omega)
   have SD:Hid _:=hnm
   have dV:Hid _:=hf1
   have qu:Hid _:=mn
   clear hnm hf1 mn
   go_wp2_with fail
   refine Calls.mono SD.out ?_
   rintro e w2 ⟨hb2,⟨hn,rfl⟩ | ⟨y,p,hy,rfl,Yr⟩⟩
   ·have hm2:=qu.out.grow hb2
    have hf2:=dV.out.trans (cO.below hb2 _ _)
    have HN:Hid ((if 1 < x.1 then jV x.2.vars t x.1 else none)=none):=by show _=_;rw [if_pos hk];exact hn
    clear hn hb2 qu dV SD HA
    by_cases h0:t=0
    ·have hR:=HB.out HN.out h0
     subst h0
     have hz:=cX 60 (by omega) (by omega) hm2 (by omega)
     have hzs:=bW raw 60 x.2
     generalize aL raw 60 x.2=z at *
     have HZ:Hid _:=hz
     have cx:Hid _:=hf2
     clear hz hm2 hf2
     go_wp2_with fail
     refine Calls.mono HZ.out ?_
     rintro _ w3 ⟨rfl,hf3,Al⟩
     have dK:Hid _:=cx.out.trans hf3
     have xR:Hid _:=Al
     clear hf3 Al HZ cx
     have HR:Hid _:=hR
     clear hR
     go_wp2
     go_ret
     rw [HR.out]
     have qA:=bf (Below.refl _ w3) (.cells (uO [] z.1 (.slice none 0 0)) 59 (0,0))
     exact ⟨_,rfl,dK.out.trans (cO.below qA _ _),xR.out.grow qA,aj _ _⟩
    ·have hR:=HC.out HN.out h0
     have hp:=xN ht h0
     have Z9:=tW ht h0
     have hfi:fI t=((fT t:Nat):Int):=by unfold fI;rw [if_neg h0]
     have hsi:sI t=((sT t:Nat):Int):=by unfold sI;rw [if_neg h0]
     have q0:((t:Int) == 0)=false:=by rw [beq_eq_false_iff_ne];omega
     have hfs:=nn t ht
     have zH:=lT t ht
     rw [hfi] at hfs
     rw [hsi] at zH
     have Lc:Hid _:=hfs
     have Pp:Hid _:=zH
     have cx:Hid _:=hf2
     have o9:Hid _:=hm2
     have hlo:=lg raw f (fT t) x.2 hp.2.2.2.2.1 (by omega)
     have hia:=fun W hW=>ih (fT t) x.2 nv W hp.2.2.2.2.1 (by omega) (hm2.grow hW) (by rw [x2];omega) (by omega)
     generalize dJ raw f (fT t) x.2=a at *
     have hib:=fun W hW=>ih (sT t) a.2 nv W hp.2.2.2.2.2 (by omega) hW (by rw [hlo.vars,x2];omega) (by have:=hlo.at_;have:=hlo.left;omega)
     generalize dJ raw f (sT t) a.2=b at *
     have Am:Hid _:=hia
     have Ao:Hid _:=hib
     clear hfi hsi hfs zH hm2 hf2 hlo hia hib Z9 hp ih h0
     go_wp2_with fail
     refine Calls.mono (Lc.out _) ?_
     rintro _ w3 ⟨rfl,hb3⟩
     go_wp2_with fail
     refine Calls.mono (Am.out w3 hb3) ?_
     rintro _ w4 ⟨pa,rfl,dc,sU,vm⟩
     have jG:Hid _:=(cx.out.trans (cO.below hb3 _ _)).trans dc
     have rX:Hid _:=sU
     have Cn:Hid _:=vm
     clear hb3 dc sU vm cx o9 Am
     go_wp2_with fail
     refine Calls.mono (Pp.out _) ?_
     rintro _ w5 ⟨rfl,mF⟩
     have Ck:=rX.out.grow mF
     have Ng:=Cn.out.below mF
     have fS:Hid _:=jG.out.trans (cO.below mF _ _)
     have Nh:Hid _:=Ck
     have Ie:Hid _:=Ng
     clear mF Ck Ng rX Cn jG
     go_wp2_with fail
     refine Calls.mono (Ao.out w5 Nh.out) ?_
     rintro _ w6 ⟨pb,rfl,xd,Ys,Yt⟩
     have Wo:Hid _:=Ie.out.fr Nh.out xd
     have Wi:Hid _:=fS.out.trans xd
     have HM6:Hid _:=Ys
     have Wp:Hid _:=Yt
     clear xd Ys Yt Ie fS Nh Ao
     have HR:Hid _:=hR
     clear hR
     go_wp2
     go_ret
     rw [HR.out]
     have h2:=mI w6 (.pair) 0 pa pb Wo.out Wp.out
     exact ⟨_,rfl,Wi.out.trans (cO.below h2.1 _ _),HM6.out.grow h2.1,h2.2⟩
   ·have hR:=HA.out y hk hy
    have dU:Hid _:=hb2
    have HK:Hid _:=Yr
    clear hb2 Yr SD HB HC
    have HR:Hid _:=hR
    clear hR
    go_wp2
    go_ret
    rw [HR.out]
    exact ⟨p,rfl,dV.out.trans (cO.below dU.out _ _),qu.out.grow dU.out,HK.out⟩
  ·have HN:Hid ((if 1 < x.1 then jV x.2.vars t x.1 else none)=none):=by show _=_;rw [if_neg hk]
   have hm2:=mn
   have hf2:=hf1
   clear mn hf1 HA
   by_cases h0:t=0
   ·have hR:=HB.out HN.out h0
    subst h0
    have hz:=cX 60 (by omega) (by omega) hm2 (by omega)
    have hzs:=bW raw 60 x.2
    generalize aL raw 60 x.2=z at *
    have HZ:Hid _:=hz
    have cx:Hid _:=hf2
    clear hz hm2 hf2
    go_wp2_with fail
    refine Calls.mono HZ.out ?_
    rintro _ w3 ⟨rfl,hf3,Al⟩
    have dK:Hid _:=cx.out.trans hf3
    have xR:Hid _:=Al
    clear hf3 Al HZ cx
    have HR:Hid _:=hR
    clear hR
    go_wp2
    go_ret
    rw [HR.out]
    have qA:=bf (Below.refl _ w3) (.cells (uO [] z.1 (.slice none 0 0)) 59 (0,0))
    exact ⟨_,rfl,dK.out.trans (cO.below qA _ _),xR.out.grow qA,aj _ _⟩
   ·have hR:=HC.out HN.out h0
    have hp:=xN ht h0
    have Z9:=tW ht h0
    have hfi:fI t=((fT t:Nat):Int):=by unfold fI;rw [if_neg h0]
    have hsi:sI t=((sT t:Nat):Int):=by unfold sI;rw [if_neg h0]
    have q0:((t:Int) == 0)=false:=by rw [beq_eq_false_iff_ne];omega
    have hfs:=nn t ht
    have zH:=lT t ht
    rw [hfi] at hfs
    rw [hsi] at zH
    have Lc:Hid _:=hfs
    have Pp:Hid _:=zH
    have cx:Hid _:=hf2
    have o9:Hid _:=hm2
    have hlo:=lg raw f (fT t) x.2 hp.2.2.2.2.1 (by omega)
    have hia:=fun W hW=>ih (fT t) x.2 nv W hp.2.2.2.2.1 (by omega) (hm2.grow hW) (by rw [x2];omega) (by omega)
    generalize dJ raw f (fT t) x.2=a at *
    have hib:=fun W hW=>ih (sT t) a.2 nv W hp.2.2.2.2.2 (by omega) hW (by rw [hlo.vars,x2];omega) (by have:=hlo.at_;have:=hlo.left;omega)
    generalize dJ raw f (sT t) a.2=b at *
    have Am:Hid _:=hia
    have Ao:Hid _:=hib
    clear hfi hsi hfs zH hm2 hf2 hlo hia hib Z9 hp ih h0
    go_wp2_with fail
    refine Calls.mono (Lc.out _) ?_
    rintro _ w3 ⟨rfl,hb3⟩
    go_wp2_with fail
    refine Calls.mono (Am.out w3 hb3) ?_
    rintro _ w4 ⟨pa,rfl,dc,sU,vm⟩
    have jG:Hid _:=(cx.out.trans (cO.below hb3 _ _)).trans dc
    have rX:Hid _:=sU
    have Cn:Hid _:=vm
    clear hb3 dc sU vm cx o9 Am
    go_wp2_with fail
    refine Calls.mono (Pp.out _) ?_
    rintro _ w5 ⟨rfl,mF⟩
    have Ck:=rX.out.grow mF
    have Ng:=Cn.out.below mF
    have fS:Hid _:=jG.out.trans (cO.below mF _ _)
    have Nh:Hid _:=Ck
    have Ie:Hid _:=Ng
    clear mF Ck Ng rX Cn jG
    go_wp2_with fail
    refine Calls.mono (Ao.out w5 Nh.out) ?_
    rintro _ w6 ⟨pb,rfl,xd,Ys,Yt⟩
    have Wo:Hid _:=Ie.out.fr Nh.out xd
    have Wi:Hid _:=fS.out.trans xd
    have HM6:Hid _:=Ys
    have Wp:Hid _:=Yt
    clear xd Ys Yt Ie fS Nh Ao
    have HR:Hid _:=hR
    clear hR
    go_wp2
    go_ret
    rw [HR.out]
    have h2:=mI w6 (.pair) 0 pa pb Wo.out Wp.out
    exact ⟨_,rfl,Wi.out.trans (cO.below h2.1 _ _),HM6.out.grow h2.1,h2.2⟩
theorem fq (l:List Nat):(jh l).length=l.length:=by simp [jh]
theorem xS (l:List Nat) (v:Nat):jh (l++[v])=jh l++[.int .i64 v]:=by simp [jh]
theorem Ig {w0:World} {yb:Nat} {rv:Value} {raw:List Int} (g:Nat->jg->KE × jg) (v t:Nat) (s:jg) (nv:Value) (w:World)
  (hf:∀ (nv:Value) (w:World),ee w0 w yb rv raw { s with vars:=s.vars++[v] } nv->Calls Tryz.prog 23 #[.pointer (some ⟨yb,0,none⟩),.int .i64 t] w fun e w'=>∃ p bB,e=.returned (.pointer (some ⟨p,0,none⟩))/\cO w w' yb nv bB/\ee w0 w' yb rv raw (g t { s with vars:=s.vars++[v] }).2 bB/\eS w' (g t { s with vars:=s.vars++[v] }).1 p)
  (hg:(g t { s with vars:=s.vars++[v] }).2.vars=s.vars++[v]) (h:ee w0 w yb rv raw s nv) (hvl:s.vars.length<=200) :
  Calls Tryz.prog 39 #[.pointer (some ⟨yb,0,none⟩),.int .i64 v,.int .i64 t] w fun e w'=>∃ p bB,e=.returned (.pointer (some ⟨p,0,none⟩))/\cO w w' yb nv bB/\ee w0 w' yb rv raw (fj g v t s).2 bB/\eS w' (fj g v t s).1 p:=by
 obtain ⟨i0,hi,hz0,hz1,hz2⟩:=info_parts Tryz.DE
 have HI:Hid _:=hi
 have pZ:Hid _:=hz0
 have p8:Hid _:=hz1
 have p9:Hid _:=hz2
 have HH:Hid _:=h
 have nP:=af h.ob.y
 obtain ⟨na,nc,pG,_,_⟩:=h.ob.shape
 rw [fq] at pG
 have y3:w.cell? ⟨yb,3,none⟩=some (.slice na s.vars.length nc):=by rw [aa h.ob.y,<- pG];rfl
 have f3:w.frozen? ⟨yb,3,none⟩=false:=ag h.ob.y 3
 have hown:w.ownsRow 0 3 1 (.slice na s.vars.length nc) s.vars.length (jh s.vars):=by
  have:=dn (base':=0) h.ob.n (fun _ _=>Nat.zero_le _)
  rw [fq,pG] at this;exact this
 have EZ:Hid _:=pG
 have dY:Hid (w.ownsRow 0 3 1 (.slice na s.vars.length nc) s.vars.length (jh s.vars)):=hown
 have Yu:Hid _:=hf
 have HHG:Hid _:=hg
 clear hi hz0 hz1 hz2 hown pG h hf hg
 go_enter Tryz.func39,Tryz.ntmps39
 go_wp2_with (at_builtin;go_must (refine oX _ rfl (.tmp 18) (.tmp 20) 22 rfl 3 i0 _ 1 8 Tryz.DF HI.out pZ.out p8.out p9.out rfl (by decide) (.slice na s.vars.length nc) s.vars.length (jh s.vars) rfl (dY.out.alloc _) ⟨w.heap.size,0,none⟩ 1 1 [.int .i64 v] rfl rfl ?d1 ?d2 (by decide) ?d3 ?d4 ?_))
 case d1 =>
  intro j' u hj'
  match j',hj' with
  | 0,hj'=>simp at hj';subst hj';simp [Addr.add]
  | j'+1,hj'=>simp at hj'
 case d2=>intro u hu;simp at hu;subst hu;rfl
 case d3=>unfold maxLen;omega
 case d4=>omega
 intro g1 c1 w3 PU U5 Ni
 have gI:=jW.push (x:=.int .i64 v) (o:=3) (W:=w3.setCell ⟨yb,3,none⟩ (.slice (some ⟨g1,0,none⟩) (s.vars.length+1) c1)) HH.out.ob (by rw [EZ.out];exact U5) (by rw [fq];exact PU) (by rw [EZ.out];simpa using Ni) (by rw [fq])
 rw [fq] at gI
 obtain ⟨Yv,hs1⟩:=gI
 have mn:ee w0 (w3.setCell ⟨yb,3,none⟩ (.slice (some ⟨g1,0,none⟩) (s.vars.length+1) c1)) yb rv raw { s with vars:=s.vars++[v] } (.slice (some ⟨g1,0,none⟩) (s.vars.length+1) c1):=by
  refine ⟨HH.out.r,?_⟩
  rw [xS]
  exact Yv
 have hcall:=Yu.out _ _ mn
 have QY:w3.heap[yb]?=some (.cells (lS rv s nv) 49 (0,0)):=by
  rw [U5.block yb (by simp;omega) (fun e=>HH.out.ob.ny (by rw [EZ.out];exact e.symm)),Below.heap_alloc _ _ _ nP];exact HH.out.ob.y
 have aaK:=af QY
 have y33:w3.cell? ⟨yb,3,none⟩=some nv:=by rw [aa QY];rfl
 have f33:w3.frozen? ⟨yb,3,none⟩=false:=ag QY 3
 have HC:Hid _:=hcall
 have Jn:Hid _:=hs1
 clear PU U5 Ni Yv QY y3 f3 hcall mn hs1 Yu dY
 go_wp2_with fail
 refine Calls.mono HC.out ?_
 rintro _ w7 ⟨p,Yb,rfl,aV,QZ,Yw⟩
 obtain ⟨na7,BF,tX,Nj,FZ⟩:=QZ.ob.shape
 have yU:=QZ.ob
 rw [fq,HHG.out,List.length_append,List.length_singleton] at tX FZ Nj
 obtain ⟨g7,Yx⟩:=FZ (by omega)
 rw [Yx] at tX
 have y37:w7.cell? ⟨yb,3,none⟩=some (.slice (some ⟨g7,0,none⟩) (s.vars.length+1) BF):=by rw [aa yU.y,<- tX];rfl
 have f37:w7.frozen? ⟨yb,3,none⟩=false:=ag yU.y 3
 have aaL:=af yU.y
 obtain ⟨R,hR⟩:∃ R,R=g t { s with vars:=s.vars++[v] }:=⟨_,rfl⟩
 have hP:jW w0 (w7.setCell ⟨yb,3,none⟩ (.slice (some ⟨g7,0,none⟩) s.vars.length BF)) yb (lS rv (fj g v t s).2 (.slice (some ⟨g7,0,none⟩) s.vars.length BF)) 49 (.slice (some ⟨g7,0,none⟩) s.vars.length BF) 3 (jh s.vars):=by
  have h1:=yU
  rw [HHG.out,xS,tX] at h1
  have h2:=jW.pop (o:=3) (xs:=jh s.vars) (x:=.int .i64 v) (g:=g7) (cap:=BF) (by rw [fq];exact h1)
  rw [fq] at h2
  exact h2
 have Wq:(fj g v t s).2.vars=s.vars:=by unfold fj;simp only [HHG.out,List.take_left]
 have SE:Hid (ee w0 (w7.setCell ⟨yb,3,none⟩ (.slice (some ⟨g7,0,none⟩) s.vars.length BF)) yb rv raw (fj g v t s).2 (.slice (some ⟨g7,0,none⟩) s.vars.length BF)):=⟨HH.out.r,by rw [Wq];exact hP⟩
 have hfs:=cO.xO w7 yb Yb 3 (.slice (some ⟨g7,0,none⟩) s.vars.length BF)
 have tI:Hid _:=Yw.fr QZ hfs
 have qI:Hid _:=((Jn.out.trans aV).trans hfs).Nd (cz:=.slice (some ⟨g7,0,none⟩) s.vars.length BF) (by rw [tX];rfl)
 clear aV QZ Yw yU tX FZ Yx hP Wq hfs hR HC Jn y33 f33
 go_wp2
 go_ret
 exact ⟨p,_,rfl,qI.out,SE.out,tI.out⟩
def nA (w0:World) (yb:Nat) (rv:Value) (raw:List Int) (f:Nat):Prop :=
 ∀ (t:Nat) (s:jg) (nv:Value) (w:World),t < 5->s.left < f->s.vars.length+s.left<=100->s.at_+40 * s.left+11<=100000->ee w0 w yb rv raw s nv ->
  Calls Tryz.prog 23 #[.pointer (some ⟨yb,0,none⟩),.int .i64 t] w fun e w'=>∃ p bB,e=.returned (.pointer (some ⟨p,0,none⟩))/\cO w w' yb nv bB/\ee w0 w' yb rv raw (aS raw f t s).2 bB/\eS w' (aS raw f t s).1 p
theorem lh {w0 w:World} {yb:Nat} {rv:Value} {raw:List Int} {s:jg} {nv:Value} (h:ee w0 w yb rv raw s nv) (hl:s.left≠0):ee w0 (w.setCell ⟨yb,2,none⟩ (.int .i64 ((s.left:Int) - 1))) yb rv raw { s with left:=s.left - 1 } nv:=by
 refine ⟨h.r,h.ob.set 2 _ ?_⟩
 simp only [lS]
 rw [show (s.left:Int) - 1=((s.left - 1:Nat):Int) by omega]
 rfl
theorem Ap (w:World) (k:Kw) (n pa pb pd:Nat) {a b d:KE} (ha:eS w a pa) (hb:eS w b pb) (hd:eS w d pd) :
  Below w.heap.size w ((w.alloc (.cells #[.pointer (some ⟨pa,0,none⟩),.pointer (some ⟨pb,0,none⟩),.pointer (some ⟨pd,0,none⟩)] 23 (0,0))).alloc (.cells (uO k.bytes n (.slice (some ⟨w.heap.size,0,none⟩) 3 3)) 59 (0,0))) /\
  eS ((w.alloc (.cells #[.pointer (some ⟨pa,0,none⟩),.pointer (some ⟨pb,0,none⟩),.pointer (some ⟨pd,0,none⟩)] 23 (0,0))).alloc (.cells (uO k.bytes n (.slice (some ⟨w.heap.size,0,none⟩) 3 3)) 59 (0,0))) (.n3 k n a b d) (w.heap.size+1):=by
 have h1:=bf (Below.refl _ w) (.cells #[.pointer (some ⟨pa,0,none⟩),.pointer (some ⟨pb,0,none⟩),.pointer (some ⟨pd,0,none⟩)] 23 (0,0))
 have h2:=bf h1 (.cells (uO k.bytes n (.slice (some ⟨w.heap.size,0,none⟩) 3 3)) 59 (0,0))
 refine ⟨h2,w.heap.size,pa,pb,pd,?_,?_,ha.below h2,hb.below h2,hd.below h2⟩
 ·have:=aj (w.alloc (.cells #[.pointer (some ⟨pa,0,none⟩),.pointer (some ⟨pb,0,none⟩),.pointer (some ⟨pd,0,none⟩)] 23 (0,0))) (.cells (uO k.bytes n (.slice (some ⟨w.heap.size,0,none⟩) 3 3)) 59 (0,0))
  simpa using this
 ·rw [Below.heap_alloc _ _ _ (by simp)];exact aj _ _
theorem Nk {w0:World} {yb:Nat} {rv:Value} {raw:List Int} {f:Nat} (ih:nA w0 yb rv raw f) (t:Nat) (s:jg) (nv:Value) (w:World) (ht:t < 5) (hf:s.left < f+1) (hv:s.vars.length+s.left<=100) (ha:s.at_+40 * s.left+11<=100000) (h:ee w0 w yb rv raw s nv) (hl:s.left≠0) (hk:(aL raw 9 { s with left:=s.left - 1 }).1=0) :
  Calls Tryz.prog 23 #[.pointer (some ⟨yb,0,none⟩),.int .i64 t] w fun e w'=>∃ p bB,e=.returned (.pointer (some ⟨p,0,none⟩))/\cO w w' yb nv bB/\ee w0 w' yb rv raw (aS raw (f+1) t s).2 bB/\eS w' (aS raw (f+1) t s).1 p:=by
 have nP:=af h.ob.y
 have y2:w.cell? ⟨yb,2,none⟩=some (.int .i64 s.left):=by rw [aa h.ob.y];rfl
 have f2:w.frozen? ⟨yb,2,none⟩=false:=ag h.ob.y 2
 have zz:0 < s.left:=by omega
 have iH:=cX 9 (by omega) (by omega) (lh h hl) (by simp only;omega)
 have hst:=bW raw 9 { s with left:=s.left - 1 }
 have Wr:=cI raw 9 { s with left:=s.left - 1 } (by omega)
 generalize hR:aS raw (f+1) t s=R
 simp only [aS] at hR
 rw [if_neg hl] at hR
 generalize aL raw 9 { s with left:=s.left - 1 }=x at *
 obtain ⟨x1,x2,x3,x4⟩:=hst
 simp only at x1 x2 x3 x4
 have qk:((x.1:Int) == 0)=true:=by rw [hk];rfl
 have xT:Hid _:=cO.xO w yb nv 2 (.int .i64 ((s.left:Int) - 1))
 have nu:Hid _:=iH
 clear iH h
 go_enter Tryz.func23,Tryz.ntmps23
 go_wp2_with fail
 refine Calls.mono nu.out ?_
 rintro _ w1 ⟨rfl,hf1,mn⟩
 have dV:Hid _:=xT.out.trans hf1
 have qu:Hid _:=mn
 clear nu xT hf1 mn y2 f2
 rw [if_pos hk] at hR
 have hm:=bW raw 5 x.2
 have Ck:=cI raw 5 x.2 (by omega)
 have pG:=cX 5 (by omega) (by omega) qu.out (by omega)
 generalize aL raw 5 x.2=v at *
 obtain ⟨m1,m2,m3,m4⟩:=hm
 have hao:=bX raw f v.1 v.2 Ck (by omega) (by rw [m2,x2];omega)
 have hia:=ih v.1 v.2 nv
 generalize aS raw f v.1 v.2=a at *
 obtain ⟨a1,a2,a3,a4,a5,a6,a7,a8⟩:=hao
 have hWv:=@vk v.1
 have F2:=bX raw f t { a.2 with vars:=a.2.vars++[v.1] } ht (by simp only;omega) (by simp only [List.length_append,List.length_singleton,a2,m2,x2];omega)
 have hib:=fun nv W hW=>Ig (aS raw f) v.1 t a.2 nv W (fun bB W' h'=>ih t { a.2 with vars:=a.2.vars++[v.1] } bB W' ht (by simp only;omega) (by simp only [List.length_append,List.length_singleton,a2,m2,x2];omega) (by simp only;omega) h') F2.vars hW (by rw [a2,m2,x2];omega)
 have Wq:=sS (v:=v.1) F2
 generalize fj (aS raw f) v.1 t a.2=b at *
 obtain ⟨_,b2,_⟩:=Wq
 have EZ:Hid _:=pG
 have Am:Hid (∀ W,ee w0 W yb rv raw v.2 nv->_):=fun W hW=>hia W Ck (by omega) (by rw [m2,x2];omega) (by omega) hW
 have Ao:Hid _:=hib
 have hbl:b.2.vars.length<=100:=by rw [b2,a2,m2,x2];omega
 clear pG hia hib ih F2
 go_wp2_with fail
 refine Calls.mono EZ.out ?_
 rintro _ w2 ⟨rfl,hf2,hm2⟩
 have cx:Hid _:=dV.out.trans hf2
 have o9:Hid _:=hm2
 clear hf2 hm2 qu dV EZ
 go_wp2_with fail
 refine Calls.mono (Am.out w2 o9.out) ?_
 rintro _ w3 ⟨p3,BG,rfl,hf3,Al,qt⟩
 have dK:Hid _:=cx.out.trans hf3
 have xR:Hid _:=Al
 have vf:Hid _:=qt
 clear hf3 Al qt o9 cx
 go_wp2_with fail
 refine Calls.mono (Ao.out BG w3 xR.out) ?_
 rintro _ w4 ⟨p4,gK,rfl,dc,sU,vm⟩
 have F3:Hid _:=eS.fr vf.out xR.out dc
 have jG:Hid _:=dK.out.trans dc
 have rX:Hid _:=sU
 have Cn:Hid _:=vm
 clear dc sU vm xR dK
 obtain ⟨na,nc,F4,_,_⟩:=rX.out.ob.shape
 rw [fq] at F4
 have y3:w4.cell? ⟨yb,3,none⟩=some (.slice na b.2.vars.length nc):=by rw [aa rX.out.ob.y,<- F4];rfl
 have aaM:=af rX.out.ob.y
 have HR:Hid _:=hR
 have h2:=mI w4 .aT b.2.vars.length p3 p4 F3.out Cn.out
 have H2:Hid _:=h2
 clear hR h2 F4 b2 Am Ao
 go_wp2
 go_ret
 rw [<- HR.out]
 exact ⟨_,gK,rfl,jG.out.trans (cO.below H2.out.1 _ _),rX.out.grow H2.out.1,H2.out.2⟩
theorem Q0 {w0:World} {yb:Nat} {rv:Value} {raw:List Int} {f:Nat} (ih:nA w0 yb rv raw f) (t:Nat) (s:jg) (nv:Value) (w:World) (ht:t < 5) (hf:s.left < f+1) (hv:s.vars.length+s.left<=100) (ha:s.at_+40 * s.left+11<=100000) (h:ee w0 w yb rv raw s nv) (hl:s.left≠0) (hk:(aL raw 9 { s with left:=s.left - 1 }).1=1) :
  Calls Tryz.prog 23 #[.pointer (some ⟨yb,0,none⟩),.int .i64 t] w fun e w'=>∃ p bB,e=.returned (.pointer (some ⟨p,0,none⟩))/\cO w w' yb nv bB/\ee w0 w' yb rv raw (aS raw (f+1) t s).2 bB/\eS w' (aS raw (f+1) t s).1 p:=by
 have nP:=af h.ob.y
 have y2:w.cell? ⟨yb,2,none⟩=some (.int .i64 s.left):=by rw [aa h.ob.y];rfl
 have f2:w.frozen? ⟨yb,2,none⟩=false:=ag h.ob.y 2
 have zz:0 < s.left:=by omega
 have iH:=cX 9 (by omega) (by omega) (lh h hl) (by simp only;omega)
 have hst:=bW raw 9 { s with left:=s.left - 1 }
 have Wr:=cI raw 9 { s with left:=s.left - 1 } (by omega)
 generalize hR:aS raw (f+1) t s=R
 simp only [aS] at hR
 rw [if_neg hl] at hR
 generalize aL raw 9 { s with left:=s.left - 1 }=x at *
 obtain ⟨x1,x2,x3,x4⟩:=hst
 simp only at x1 x2 x3 x4
 skip
 have xT:Hid _:=cO.xO w yb nv 2 (.int .i64 ((s.left:Int) - 1))
 have nu:Hid _:=iH
 clear iH h
 go_enter Tryz.func23,Tryz.ntmps23
 go_wp2_with fail
 refine Calls.mono nu.out ?_
 rintro _ w1 ⟨rfl,hf1,mn⟩
 have dV:Hid _:=xT.out.trans hf1
 have qu:Hid _:=mn
 clear nu xT hf1 mn y2 f2
 rw [if_neg (by omega),if_pos hk] at hR
 have hao:=bX raw f 0 x.2 (by omega) (by omega) (by rw [x2];omega)
 have hia:=fun W hW=>ih 0 x.2 nv W (by omega) (by omega) (by rw [x2];omega) (by omega) hW
 generalize aS raw f 0 x.2=a at *
 obtain ⟨a1,a2,a3,a4,a5,a6,a7,a8⟩:=hao
 have F2:=bX raw f t a.2 ht (by omega) (by rw [a2,x2];omega)
 have G9:=@vk 0
 have hWt:=@vk t
 have hib:=fun nv W hW=>ih t a.2 nv W ht (by omega) (by rw [a2,x2];omega) (by omega) hW
 generalize aS raw f t a.2=b at *
 obtain ⟨b1,b2,b3,b4,b5,b6,b7,b8⟩:=F2
 have hic:=fun nv W hW=>ih t b.2 nv W ht (by omega) (by rw [b2,a2,x2];omega) (by omega) hW
 generalize aS raw f t b.2=d at *
 have Am:Hid _:=hia
 have Ao:Hid _:=hib
 have HIC:Hid _:=hic
 have qk:((x.1:Int) == 0)=false:=by rw [beq_eq_false_iff_ne];omega
 have Yy:((x.1:Int) == 1)=true:=by rw [hk];rfl
 clear hia hib hic ih
 go_wp2_with fail
 refine Calls.mono (Am.out w1 qu.out) ?_
 rintro _ w3 ⟨p3,BG,rfl,hf3,Al,qt⟩
 have dK:Hid _:=dV.out.trans hf3
 have xR:Hid _:=Al
 have vf:Hid _:=qt
 clear hf3 Al qt qu dV
 go_wp2_with fail
 refine Calls.mono (Ao.out BG w3 xR.out) ?_
 rintro _ w4 ⟨p4,gK,rfl,dc,sU,vm⟩
 have F3:Hid _:=eS.fr vf.out xR.out dc
 have jG:Hid _:=dK.out.trans dc
 have rX:Hid _:=sU
 have Cn:Hid _:=vm
 clear dc sU vm xR dK
 go_wp2_with fail
 refine Calls.mono (HIC.out gK w4 rX.out) ?_
 rintro _ w5 ⟨p5,FM,rfl,eG,Ck,Ng⟩
 have aaN:Hid _:=eS.fr F3.out rX.out eG
 have U6:Hid _:=eS.fr Cn.out rX.out eG
 have fS:Hid _:=jG.out.trans eG
 have Nh:Hid _:=Ck
 have Ie:Hid _:=Ng
 clear eG Ck Ng rX jG
 have HR:Hid _:=hR
 have h2:=Ap w5 .dQ 0 p3 p4 p5 aaN.out U6.out Ie.out
 have H2:Hid _:=h2
 clear hR h2 Am Ao HIC
 go_wp2
 go_ret
 rw [<- HR.out]
 exact ⟨_,FM,rfl,fS.out.trans (cO.below H2.out.1 _ _),Nh.out.grow H2.out.1,H2.out.2⟩
end Go.Proofs.YtpicaknklgccoabGreatDoor
