import Derived.Test.YtpicaknklgccoabGreatDoorV29
set_option maxHeartbeats 4000000
set_option maxRecDepth 100000
namespace Go.Proofs.YtpicaknklgccoabGreatDoor
open Go.RowKit
theorem LO {P:Program} {ops:Array Oper} {o:Oper} {a:Act} {w:World} {K:Act->World->Prop} {Q:Exit->Act->World->Prop} {E:Prop} (hg:o.guard=none)
  (f:FuncId) (args:Array Value) (hrun:(execOp a.eval o).run P w=.ok (.enter f args) w) (h:Calls P f args w λe w'=>∃ v,e=.returned v/\K (a.put o.dst v) w'):if Region.wanted o (yielded ops a.tmps)=true then Oper.wp P o a w K Q else E:=by
 have hw:Region.wanted o (yielded ops a.tmps)=true:=by simp[Region.wanted,hg]
 rw[if_pos hw];unfold Oper.wp;rw[hrun];refine Calls.mono h ?_;rintro e w' ⟨v,rfl,hk⟩;exact hk
theorem Tryz.RU:(Tryz.prog.info? 122).map (λi=>(i.zero,i.size,i.bytes))=some (some (.agg #[.bool false,.int .i64 0]),2,16):=by kernel_rfl
theorem Tryz.RW:Tryz.prog.underlying 116=some (.slice 122):=by kernel_rfl
def m0 (k:Nat):MM:=⟨0,0,List.replicate k v0,[],[],0,0,0⟩
def OP (w:World) (tn aS:Value) (fuel k:Nat) (t6:Value) (wc:World):Prop :=
 ∃ mb nv,t6=.pointer (some ⟨mb,0,none⟩)/\jc mb wc tn aS fuel nv (.slice none 0 0) (.slice none 0 0) (m0 k)/\Below w.heap.size w wc/\w.heap.size<=mb/\∀ g,nv.ownBlock=some g->w.heap.size<=g
def mz:Array Value:=#[.slice none 0 0,.slice none 0 0,.int .i64 0,.int .i64 0,.int .i64 0,.slice none 0 0,.slice none 0 0,.slice none 0 0,.int .i64 0,.int .i64 0,.int .i64 0]
theorem LP (k:Nat):(madeCells #[Value.bool false,Value.int .i64 0] (k*2)).toList=(List.replicate k v0).flatMap Oe:=by
 apply List.ext_getElem?
 intro i
 have hlen:((List.replicate k v0).flatMap Oe).length=k*2:=by rw[EJ Oe 2 (λ_=>rfl)];simp
 by_cases hi:i<k*2
 ·have hd:=Nat.div_add_mod' i 2
  have key:=lg Oe 2 (λ_=>rfl) (List.replicate k v0) (i / 2) (i % 2) (Nat.mod_lt _ (by omega));rw[hd] at key;rw[key,List.getElem?_replicate,if_pos (by omega)];simp only[Option.bind_some];rw[Array.getElem?_toList];simp only[madeCells]
  rcases (show i % 2=0\/i % 2=1 by omega) with h | h
  ·simp[h,hi,Oe,v0]
  ·simp[h,hi,Oe,v0]
 ·rw[List.getElem?_eq_none (by rw[Array.length_toList,size_madeCells];omega),List.getElem?_eq_none (by rw[hlen];omega)]
theorem Uj (w:World) (A R:Obj):((w.alloc A).alloc R).heap[w.heap.size]?=some A:=aR _ (aj w A)
theorem ZS (w:World) (A R O:Obj):(((w.alloc A).alloc R).alloc O).heap[w.heap.size]?=some A:=aR _ (aR _ (aj w A))
theorem OQ (w:World) (A R O:Obj):(((w.alloc A).alloc R).alloc O).heap[w.heap.size+1+1]?=some O:=by
 have:=aj ((w.alloc A).alloc R) O
 simpa using this
theorem OT {w:World} {b:Nat} (h:w.heap[b]?=some (.cells mz 120)):w.cell? ⟨b,0,none⟩=some (.slice none 0 0)/\w.cell? ⟨b,1,none⟩=some (.slice none 0 0)/\w.cell? ⟨b,2,none⟩=some (.int .i64 0)/\w.cell? ⟨b,3,none⟩=some (.int .i64 0)/\w.cell? ⟨b,4,none⟩=some (.int .i64 0)/\w.cell? ⟨b,5,none⟩=some (.slice none 0 0)/\w.cell? ⟨b,6,none⟩=some (.slice none 0 0)/\w.cell? ⟨b,7,none⟩=some (.slice none 0 0)/\w.cell? ⟨b,8,none⟩=some (.int .i64 0)/\w.cell? ⟨b,9,none⟩=some (.int .i64 0)/\w.cell? ⟨b,10,none⟩=some (.int .i64 0):=by
 refine⟨?_,?_,?_,?_,?_,?_,?_,?_,?_,?_,?_⟩ <;> (rw[aa h];rfl)
theorem RX {w:World} {b:Nat} (h:w.heap[b]?=some (.cells mz 120)):w.frozen? ⟨b,0,none⟩=false/\w.frozen? ⟨b,1,none⟩=false/\w.frozen? ⟨b,2,none⟩=false/\w.frozen? ⟨b,3,none⟩=false/\w.frozen? ⟨b,4,none⟩=false/\w.frozen? ⟨b,5,none⟩=false/\w.frozen? ⟨b,6,none⟩=false/\w.frozen? ⟨b,7,none⟩=false/\w.frozen? ⟨b,8,none⟩=false/\w.frozen? ⟨b,9,none⟩=false/\w.frozen? ⟨b,10,none⟩=false :=
 ⟨ag h 0,ag h 1,ag h 2,ag h 3,ag h 4,ag h 5,ag h 6,ag h 7,ag h 8,ag h 9,ag h 10⟩
theorem CQ {w W:World} {tn aS:Value} {fuel k mb gm:Nat} {M:Obj} (hk:k<=9000) (hM:M=.cells (madeCells #[.bool false,.int .i64 0] (k*2)) 122) (hb:Below w.heap.size w W) (hz:W.heap[mb]?=some (.cells #[tn,aS,.int .i64 fuel,.int .i64 0,.int .i64 0,.slice (some ⟨gm,0,none⟩) k k,.slice none 0 0,.slice none 0 0,.int .i64 0,.int .i64 0,.int .i64 0] 120)) (hm:W.heap[gm]?=some M) (hne:gm≠mb) (h1:w.heap.size<=mb) (h2:w.heap.size<=gm) :
  OP w tn aS fuel k (.pointer (some ⟨mb,0,none⟩)) W:=by
 subst hM;refine⟨mb,.slice (some ⟨gm,0,none⟩) k k,rfl,⟨hz,?_,World.ownsRow_nil _ _ _ _,World.ownsRow_nil _ _ _ _,?_,by simp[Value.ownBlock],by simp[Value.ownBlock],?_,?_,?_⟩,hb,h1,?_⟩
 ·have hl:(m0 k).named.length=k:=by simp[m0]
  have hfl:((m0 k).named.flatMap Oe)=(madeCells #[Value.bool false,Value.int .i64 0] (k*2)).toList:=by rw[LP];rfl
  rw[hl,hfl];refine⟨by simp[madeCells],Or.inr ⟨gm,k,_,rfl,Nat.zero_le _,hm,Nat.le_refl _,by unfold maxLen;omega,size_madeCells _ _,?_⟩⟩;rw[List.take_of_length_le (by simp[madeCells])]
 ·simp only[Value.ownBlock,ne_eq,Option.some.injEq];exact hne
 ·intro g _;simp[Value.ownBlock]
 ·intro g _;simp[Value.ownBlock]
 ·intro g _;simp[Value.ownBlock]
 ·intro g hg
  simp only[Value.ownBlock,Option.some.injEq] at hg;omega
theorem RY {w w2:World} {tn aS:Value} {fuel k:Nat} {M:Obj} (hk:k<=9000) (hM:M=.cells (madeCells #[.bool false,.int .i64 0] (k*2)) 122) (hb:Below w.heap.size w w2) :
  OP w tn aS fuel k (.pointer (some ⟨w2.heap.size+1,0,none⟩)) ((w2.alloc M).alloc (.cells #[tn,aS,.int .i64 fuel,.int .i64 0,.int .i64 0,.slice (some ⟨w2.heap.size,0,none⟩) k k,.slice none 0 0,.slice none 0 0,.int .i64 0,.int .i64 0,.int .i64 0] 120)) :=
 have hs:=hb.size
 CQ (gm:=w2.heap.size) hk hM (aD (aD hb _) _) (by have:=aj (w2.alloc M) (.cells #[tn,aS,.int .i64 fuel,.int .i64 0,.int .i64 0,.slice (some ⟨w2.heap.size,0,none⟩) k k,.slice none 0 0,.slice none 0 0,.int .i64 0,.int .i64 0,.int .i64 0] 120);simpa using this) (aR _ (aj w2 M)) (by omega) (by omega) hs
theorem RZ {w w2:World} {tn aS:Value} {fuel k:Nat} {M:Obj} (hk:k<=9000) (hM:M=.cells (madeCells #[.bool false,.int .i64 0] (k*2)) 122) (hb:Below w.heap.size w w2) :
  OP w tn aS fuel k (.pointer (some ⟨w2.heap.size,0,none⟩)) ((w2.alloc (.cells #[tn,aS,.int .i64 fuel,.int .i64 0,.int .i64 0,.slice (some ⟨w2.heap.size+1,0,none⟩) k k,.slice none 0 0,.slice none 0 0,.int .i64 0,.int .i64 0,.int .i64 0] 120)).alloc M) :=
 have hs:=hb.size
 CQ (gm:=w2.heap.size+1) hk hM (aD (aD hb _) _) (aR _ (aj w2 _)) (by have:=aj (w2.alloc (.cells #[tn,aS,.int .i64 fuel,.int .i64 0,.int .i64 0,.slice (some ⟨w2.heap.size+1,0,none⟩) k k,.slice none 0 0,.slice none 0 0,.int .i64 0,.int .i64 0,.int .i64 0] 120)) M;simpa using this) (by omega) hs (by omega)
theorem R1 {w w2:World} {tn aS:Value} {fuel k:Nat} {M:Obj} {mb:Nat} (oL:w.heap.size<=mb) (hk:k<=9000) (hM:M=.cells (madeCells #[.bool false,.int .i64 0] (k*2)) 122) (hb:Below w.heap.size w w2) (hz:w2.heap[mb]?=some (.cells mz 120)) :
  OP w tn aS fuel k (.pointer (some ⟨mb,0,none⟩)) ((((((((((((w2.setCell ⟨mb,0,none⟩ (tn)).setCell ⟨mb,1,none⟩ (aS)).setCell ⟨mb,2,none⟩ (.int .i64 fuel)).setCell ⟨mb,3,none⟩ (.int .i64 0)).setCell ⟨mb,4,none⟩ (.int .i64 0)).setCell ⟨mb,5,none⟩ (.slice (some ⟨w2.heap.size,0,none⟩) k k)).setCell ⟨mb,6,none⟩ (.slice none 0 0)).setCell ⟨mb,7,none⟩ (.slice none 0 0)).setCell ⟨mb,8,none⟩ (.int .i64 0)).setCell ⟨mb,9,none⟩ (.int .i64 0)).setCell ⟨mb,10,none⟩ (.int .i64 0)).alloc M):=by
 have hs:=hb.size;have hl:=af hz;have h0:(w2.setCell ⟨mb,0,none⟩ (tn)).heap[mb]?=some (.cells #[tn,.slice none 0 0,.int .i64 0,.int .i64 0,.int .i64 0,.slice none 0 0,.slice none 0 0,.slice none 0 0,.int .i64 0,.int .i64 0,.int .i64 0] 120):=aA hz 0 (tn);have h1:((w2.setCell ⟨mb,0,none⟩ (tn)).setCell ⟨mb,1,none⟩ (aS)).heap[mb]?=some (.cells #[tn,aS,.int .i64 0,.int .i64 0,.int .i64 0,.slice none 0 0,.slice none 0 0,.slice none 0 0,.int .i64 0,.int .i64 0,.int .i64 0] 120):=aA h0 1 (aS);have h2:(((w2.setCell ⟨mb,0,none⟩ (tn)).setCell ⟨mb,1,none⟩ (aS)).setCell ⟨mb,2,none⟩ (.int .i64 fuel)).heap[mb]?=some (.cells #[tn,aS,.int .i64 fuel,.int .i64 0,.int .i64 0,.slice none 0 0,.slice none 0 0,.slice none 0 0,.int .i64 0,.int .i64 0,.int .i64 0] 120):=aA h1 2 (.int .i64 fuel);have h3:((((w2.setCell ⟨mb,0,none⟩ (tn)).setCell ⟨mb,1,none⟩ (aS)).setCell ⟨mb,2,none⟩ (.int .i64 fuel)).setCell ⟨mb,3,none⟩ (.int .i64 0)).heap[mb]?=some (.cells #[tn,aS,.int .i64 fuel,.int .i64 0,.int .i64 0,.slice none 0 0,.slice none 0 0,.slice none 0 0,.int .i64 0,.int .i64 0,.int .i64 0] 120):=aA h2 3 (.int .i64 0);have h4:(((((w2.setCell ⟨mb,0,none⟩ (tn)).setCell ⟨mb,1,none⟩ (aS)).setCell ⟨mb,2,none⟩ (.int .i64 fuel)).setCell ⟨mb,3,none⟩ (.int .i64 0)).setCell ⟨mb,4,none⟩ (.int .i64 0)).heap[mb]?=some (.cells #[tn,aS,.int .i64 fuel,.int .i64 0,.int .i64 0,.slice none 0 0,.slice none 0 0,.slice none 0 0,.int .i64 0,.int .i64 0,.int .i64 0] 120):=aA h3 4 (.int .i64 0);have h5:((((((w2.setCell ⟨mb,0,none⟩ (tn)).setCell ⟨mb,1,none⟩ (aS)).setCell ⟨mb,2,none⟩ (.int .i64 fuel)).setCell ⟨mb,3,none⟩ (.int .i64 0)).setCell ⟨mb,4,none⟩ (.int .i64 0)).setCell ⟨mb,5,none⟩ (.slice (some ⟨w2.heap.size,0,none⟩) k k)).heap[mb]?=some (.cells #[tn,aS,.int .i64 fuel,.int .i64 0,.int .i64 0,.slice (some ⟨w2.heap.size,0,none⟩) k k,.slice none 0 0,.slice none 0 0,.int .i64 0,.int .i64 0,.int .i64 0] 120):=aA h4 5 (.slice (some ⟨w2.heap.size,0,none⟩) k k);have h6:(((((((w2.setCell ⟨mb,0,none⟩ (tn)).setCell ⟨mb,1,none⟩ (aS)).setCell ⟨mb,2,none⟩ (.int .i64 fuel)).setCell ⟨mb,3,none⟩ (.int .i64 0)).setCell ⟨mb,4,none⟩ (.int .i64 0)).setCell ⟨mb,5,none⟩ (.slice (some ⟨w2.heap.size,0,none⟩) k k)).setCell ⟨mb,6,none⟩ (.slice none 0 0)).heap[mb]?=some (.cells #[tn,aS,.int .i64 fuel,.int .i64 0,.int .i64 0,.slice (some ⟨w2.heap.size,0,none⟩) k k,.slice none 0 0,.slice none 0 0,.int .i64 0,.int .i64 0,.int .i64 0] 120):=aA h5 6 (.slice none 0 0)
 have h7:((((((((w2.setCell ⟨mb,0,none⟩ (tn)).setCell ⟨mb,1,none⟩ (aS)).setCell ⟨mb,2,none⟩ (.int .i64 fuel)).setCell ⟨mb,3,none⟩ (.int .i64 0)).setCell ⟨mb,4,none⟩ (.int .i64 0)).setCell ⟨mb,5,none⟩ (.slice (some ⟨w2.heap.size,0,none⟩) k k)).setCell ⟨mb,6,none⟩ (.slice none 0 0)).setCell ⟨mb,7,none⟩ (.slice none 0 0)).heap[mb]?=some (.cells #[tn,aS,.int .i64 fuel,.int .i64 0,.int .i64 0,.slice (some ⟨w2.heap.size,0,none⟩) k k,.slice none 0 0,.slice none 0 0,.int .i64 0,.int .i64 0,.int .i64 0] 120):=aA h6 7 (.slice none 0 0);have h8:(((((((((w2.setCell ⟨mb,0,none⟩ (tn)).setCell ⟨mb,1,none⟩ (aS)).setCell ⟨mb,2,none⟩ (.int .i64 fuel)).setCell ⟨mb,3,none⟩ (.int .i64 0)).setCell ⟨mb,4,none⟩ (.int .i64 0)).setCell ⟨mb,5,none⟩ (.slice (some ⟨w2.heap.size,0,none⟩) k k)).setCell ⟨mb,6,none⟩ (.slice none 0 0)).setCell ⟨mb,7,none⟩ (.slice none 0 0)).setCell ⟨mb,8,none⟩ (.int .i64 0)).heap[mb]?=some (.cells #[tn,aS,.int .i64 fuel,.int .i64 0,.int .i64 0,.slice (some ⟨w2.heap.size,0,none⟩) k k,.slice none 0 0,.slice none 0 0,.int .i64 0,.int .i64 0,.int .i64 0] 120):=aA h7 8 (.int .i64 0);have h9:((((((((((w2.setCell ⟨mb,0,none⟩ (tn)).setCell ⟨mb,1,none⟩ (aS)).setCell ⟨mb,2,none⟩ (.int .i64 fuel)).setCell ⟨mb,3,none⟩ (.int .i64 0)).setCell ⟨mb,4,none⟩ (.int .i64 0)).setCell ⟨mb,5,none⟩ (.slice (some ⟨w2.heap.size,0,none⟩) k k)).setCell ⟨mb,6,none⟩ (.slice none 0 0)).setCell ⟨mb,7,none⟩ (.slice none 0 0)).setCell ⟨mb,8,none⟩ (.int .i64 0)).setCell ⟨mb,9,none⟩ (.int .i64 0)).heap[mb]?=some (.cells #[tn,aS,.int .i64 fuel,.int .i64 0,.int .i64 0,.slice (some ⟨w2.heap.size,0,none⟩) k k,.slice none 0 0,.slice none 0 0,.int .i64 0,.int .i64 0,.int .i64 0] 120):=aA h8 9 (.int .i64 0);have h10:(((((((((((w2.setCell ⟨mb,0,none⟩ (tn)).setCell ⟨mb,1,none⟩ (aS)).setCell ⟨mb,2,none⟩ (.int .i64 fuel)).setCell ⟨mb,3,none⟩ (.int .i64 0)).setCell ⟨mb,4,none⟩ (.int .i64 0)).setCell ⟨mb,5,none⟩ (.slice (some ⟨w2.heap.size,0,none⟩) k k)).setCell ⟨mb,6,none⟩ (.slice none 0 0)).setCell ⟨mb,7,none⟩ (.slice none 0 0)).setCell ⟨mb,8,none⟩ (.int .i64 0)).setCell ⟨mb,9,none⟩ (.int .i64 0)).setCell ⟨mb,10,none⟩ (.int .i64 0)).heap[mb]?=some (.cells #[tn,aS,.int .i64 fuel,.int .i64 0,.int .i64 0,.slice (some ⟨w2.heap.size,0,none⟩) k k,.slice none 0 0,.slice none 0 0,.int .i64 0,.int .i64 0,.int .i64 0] 120):=aA h9 10 (.int .i64 0)
 have hB:Below w.heap.size w (((((((((((w2.setCell ⟨mb,0,none⟩ (tn)).setCell ⟨mb,1,none⟩ (aS)).setCell ⟨mb,2,none⟩ (.int .i64 fuel)).setCell ⟨mb,3,none⟩ (.int .i64 0)).setCell ⟨mb,4,none⟩ (.int .i64 0)).setCell ⟨mb,5,none⟩ (.slice (some ⟨w2.heap.size,0,none⟩) k k)).setCell ⟨mb,6,none⟩ (.slice none 0 0)).setCell ⟨mb,7,none⟩ (.slice none 0 0)).setCell ⟨mb,8,none⟩ (.int .i64 0)).setCell ⟨mb,9,none⟩ (.int .i64 0)).setCell ⟨mb,10,none⟩ (.int .i64 0)):=by
  repeat (first | with_reducible refine lC ?_ _ (by simp only;omega) _)
  exact hb
 have hsz:(((((((((((w2.setCell ⟨mb,0,none⟩ (tn)).setCell ⟨mb,1,none⟩ (aS)).setCell ⟨mb,2,none⟩ (.int .i64 fuel)).setCell ⟨mb,3,none⟩ (.int .i64 0)).setCell ⟨mb,4,none⟩ (.int .i64 0)).setCell ⟨mb,5,none⟩ (.slice (some ⟨w2.heap.size,0,none⟩) k k)).setCell ⟨mb,6,none⟩ (.slice none 0 0)).setCell ⟨mb,7,none⟩ (.slice none 0 0)).setCell ⟨mb,8,none⟩ (.int .i64 0)).setCell ⟨mb,9,none⟩ (.int .i64 0)).setCell ⟨mb,10,none⟩ (.int .i64 0)).heap.size=w2.heap.size:=by simp only[World.setCell,Array.size_modify]
 clear h0 h1 h2 h3 h4 h5 h6 h7 h8 h9;generalize (((((((((((w2.setCell ⟨mb,0,none⟩ (tn)).setCell ⟨mb,1,none⟩ (aS)).setCell ⟨mb,2,none⟩ (.int .i64 fuel)).setCell ⟨mb,3,none⟩ (.int .i64 0)).setCell ⟨mb,4,none⟩ (.int .i64 0)).setCell ⟨mb,5,none⟩ (.slice (some ⟨w2.heap.size,0,none⟩) k k)).setCell ⟨mb,6,none⟩ (.slice none 0 0)).setCell ⟨mb,7,none⟩ (.slice none 0 0)).setCell ⟨mb,8,none⟩ (.int .i64 0)).setCell ⟨mb,9,none⟩ (.int .i64 0)).setCell ⟨mb,10,none⟩ (.int .i64 0))=W at h10 hB hsz ⊢;refine CQ (gm:=w2.heap.size) hk hM (aD hB _) (aR _ h10) ?_ (by omega) (by omega) hs;rw[<- hsz];exact aj W M
theorem Tryz.xp:(Tryz.prog.info? 35).map (·.size)=some 5:=by kernel_rfl
def zm (m:MM) (X:Vl):Value:=if m.fault≠0 then .agg #[.string ⟨#[]⟩,.int .i64 0,.int .i64 0,.int .i64 0,.int .i64 0] else .agg #[.string (bs X.txt),.int .i64 m.steps,.int .i64 m.cells.length,.int .i64 m.most,.int .i64 m.live]
theorem ZT (fuel k:Nat):oO fuel (m0 k):=by
 refine⟨by simp[m0],by simp[m0],by simp[m0,kO],by simp[m0,kO],by simp[m0],?_,by simp[m0],by simp[m0],by simp[m0]⟩;intro v hv;simp only[m0,List.mem_replicate] at hv;rw[hv.2];exact ue
theorem R2 (x1:Option Addr) (n1 c1:Nat) (x2:Option Addr) (n2 c2:Nat) (fuel:Nat) (ns:List NR) (op:List Int) (hf:fuel<=20000) (hl:ns.length<=9000) (w:World) (hT:bB w (.slice x1 n1 c1) (.slice x2 n2 c2) ns op) (htab:Lib.TabIs Tryz.prog w "internal/strconv.uint64pow10" .u64 Lib.pow10Tab) (t:PT) (hsh:l6 ns [] t 0) (hwf:t.wf) (hrg:t.iE) (nF:t.cnt=ns.length)
  (x:MV × MM) (hx:x=mW fuel t [] 0 ((m0 ns.length).opn (-1))) (X:Vl) (hX:gP x.2.cells X x.1) (ZU:X.size<=63) :
  Calls Tryz.prog 48 #[aQ (.slice x1 n1 c1) (.slice x2 n2 c2),.int .i64 fuel] w λe w'=>e=.returned (.tuple #[zm (dz X x.1 x.2) X,.int .i64 (dz X x.1 x.2).fault])/\Below w.heap.size w w':=by
 have JF:Below w.heap.size w ((w.alloc (.cells #[.slice x1 n1 c1,.slice x2 n2 c2] 62)).alloc (.cells #[.string ⟨#[]⟩,.int .i64 0,.int .i64 0,.int .i64 0,.int .i64 0] 35)):=aD (aD (Below.refl _ _) _) _;have hwk:=Oy (B:=w.heap.size) (fuel:=fuel) (x1:=x1) (n1:=n1) (c1:=c1) (x2:=x2) (n2:=n2) (c2:=c2) (ns:=ns) (op:=op) (t:=t)
 have Wi:Hid (∀ mb,gV mb w.heap.size (.slice x1 n1 c1) (.slice x2 n2 c2) fuel ns op ((ns.length:Int)-1) t.cnt (λm=>mW fuel t [] 0 m)):=λmb=>by
  have:=hwk mb [] 0 hsh (λ_ h=>by simp at h) hwf hrg (by omega) hl hf;rw[Nat.zero_add,nF] at this;rw[nF];exact this
 have HT:Hid _:=hT;have Oz:Hid (∀ w',Below w.heap.size w w'->Lib.TabIs Tryz.prog w' "internal/strconv.uint64pow10" .u64 Lib.pow10Tab):=Lib.tabBelow_of_tabIs htab;have Wj:Hid _:=nF;have HX:Hid _:=hx;have ZV:Hid _:=hX;obtain⟨RV,hRV⟩:∃ RV,RV=zm (dz X x.1 x.2) X:=⟨_,rfl⟩;obtain⟨FV,hFV⟩:∃ FV:Nat,FV=(dz X x.1 x.2).fault:=⟨_,rfl⟩;rw[<- hRV,<- hFV];have R3:Hid _:=hRV;have HFV:Hid _:=hFV;clear hFV;clear hwk hsh hwf hrg nF hx hX htab hRV
 have hle:=λw' (h:Below ((w.alloc (.cells #[.slice x1 n1 c1,.slice x2 n2 c2] 62)).alloc (.cells #[.string ⟨#[]⟩,.int .i64 0,.int .i64 0,.int .i64 0,.int .i64 0] 35)).heap.size ((w.alloc (.cells #[.slice x1 n1 c1,.slice x2 n2 c2] 62)).alloc (.cells #[.string ⟨#[]⟩,.int .i64 0,.int .i64 0,.int .i64 0,.int .i64 0] 35)) w')=>(iC w' _ _ ns op ((hT.below JF).below h)).mono (λ_ w'' (hx:_/\Below w'.heap.size w' w'')=>(⟨hx.1,hx.2,h.trans (hx.2.mono h.size)⟩:_/\_/\Below ((w.alloc (.cells #[.slice x1 n1 c1,.slice x2 n2 c2] 62)).alloc (.cells #[.string ⟨#[]⟩,.int .i64 0,.int .i64 0,.int .i64 0,.int .i64 0] 35)).heap.size ((w.alloc (.cells #[.slice x1 n1 c1,.slice x2 n2 c2] 62)).alloc (.cells #[.string ⟨#[]⟩,.int .i64 0,.int .i64 0,.int .i64 0,.int .i64 0] 35)) w''))
 have MK:Hid _:=hle;obtain⟨i0,hi,hz0,hz1,hz2⟩:=info_parts Tryz.RU;obtain⟨M,hM⟩:∃ M:Obj,M=.cells (madeCells #[.bool false,.int .i64 0] (ns.length*2)) 122:=⟨_,rfl⟩
 have hmk:∀ W:World,(Instr.makeSlice 116 (.int .i64 ns.length) (.int .i64 ns.length)).run Tryz.prog W=.ok (.slice (some ⟨W.heap.size,0,none⟩) ns.length ns.length) (W.alloc M):=by
  intro W;have hr:=run_make (P:=Tryz.prog) W 116 122 i0 _ Tryz.RW hi hz0 .i64 .i64 ns.length ns.length (by omega) (Int.le_refl _) (by rw[hz2];omega) (by omega);simp only[Int.toNat_natCast,hz1] at hr;rw[hr,hM];rfl
 have HM:Hid _:=hM;clear hT hle hi hz0 hz1 hz2 hM;obtain⟨k,hk⟩:∃ k,ns.length=k:=⟨_,rfl⟩;have vz:Hid _:=hk;rw[hk] at hl MK hmk HM HX Wi;clear hk;unfold aQ at MK;unfold aQ
 go_enter Tryz.func48,Tryz.ntmps48
 go_upto_region 1 with fail
 go_cut [6] from 9 to 14 (λt6 wx=>OP ((w.alloc (.cells #[.slice x1 n1 c1,.slice x2 n2 c2] 62)).alloc (.cells #[.string ⟨#[]⟩,.int .i64 0,.int .i64 0,.int .i64 0,.int .i64 0] 35)) (.slice x1 n1 c1) (.slice x2 n2 c2) fuel k t6 wx)
 case first =>
  go_region_law (first
   | (refine LO rfl 60 #[.agg #[.slice x1 n1 c1,.slice x2 n2 c2]] (by go_simp) ?_
      refine Calls.mono (MK.out _ (by repeat (first | with_reducible exact Below.refl _ _ | with_reducible refine aD ?_ _ | with_reducible refine uo ?_ | with_reducible refine jt ?_))) ?_;rintro e w2 ⟨rfl,hb2,hBw⟩
      have RE:w.heap.size+1<w2.heap.size:=by have:=hb2.size;simp at this;omega
      have hkA:w2.heap[w.heap.size]?=some (.cells #[.slice x1 n1 c1,.slice x2 n2 c2] 62):=(by rw[hb2.block _ (by simp;omega)];first | exact Uj w _ _ | exact ZS w _ _ _);have hlA:=af hkA;have a0:w2.cell? ⟨w.heap.size,0,none⟩=some (.slice x1 n1 c1):=(by rw[aa hkA];rfl);have a1:w2.cell? ⟨w.heap.size,1,none⟩=some (.slice x2 n2 c2):=(by rw[aa hkA];rfl)
      try (have R4:w2.heap[w.heap.size+1+1]?=some (.cells mz 120):=(by rw[hb2.block _ (by simp)];exact OQ w _ _ _);have hlz:=af R4;obtain⟨z0,z1,z2,z3,z4,z5,z6,z7,z8,z9,z10⟩:=OT R4;obtain⟨f0,f1,f2,f3,f4,f5,f6,f7,f8,f9,f10⟩:=RX R4)
      refine⟨_,rfl,?_⟩))
  all_goals (go_wp2_with fail;go_meet)
  all_goals first
   | exact RY hl HM.out hBw
   | exact RZ hl HM.out hBw
   | exact R1 (by simp) hl HM.out hBw R4
 case rest =>
  obtain⟨mb,nv,rfl,hi,AF,oL,qP⟩:=hcut;have Cf:=JF.size
  have abO:((w.alloc (.cells #[.slice x1 n1 c1,.slice x2 n2 c2] 62)).alloc (.cells #[.string ⟨#[]⟩,.int .i64 0,.int .i64 0,.int .i64 0,.int .i64 0] 35)).heap.size=w.heap.size+1+1:=by simp
  have R5:Below w.heap.size w wc:=JF.trans (AF.mono Cf);have RI:Beside mb w.heap.size wc nv (.slice none 0 0) (.slice none 0 0) (.cells #[.slice x1 n1 c1,.slice x2 n2 c2] 62):=⟨by rw[AF.block _ (by omega)];exact Uj w _ _,by omega,λe=>by have:=qP _ e;omega,by simp[Value.ownBlock],by simp[Value.ownBlock]⟩;have lX:Beside mb (w.heap.size+1) wc nv (.slice none 0 0) (.slice none 0 0) (.cells #[.string ⟨#[]⟩,.int .i64 0,.int .i64 0,.int .i64 0,.int .i64 0] 35):=⟨by rw[AF.block _ (by omega)];have:=aj (w.alloc (.cells #[.slice x1 n1 c1,.slice x2 n2 c2] 62)) (.cells #[.string ⟨#[]⟩,.int .i64 0,.int .i64 0,.int .i64 0,.int .i64 0] 35);simpa using this,by omega,λe=>by have:=qP _ e;omega,by simp[Value.ownBlock],by simp[Value.ownBlock]⟩;have bq:EO mb w.heap.size wc nv (.slice none 0 0) (.slice none 0 0) (.slice x1 n1 c1) (.slice x2 n2 c2) ns op:=⟨by omega,R5.size,λg hg=>by have:=qP g hg;omega,λg hg=>by simp[Value.ownBlock] at hg,λg hg=>by simp[Value.ownBlock] at hg,λw' hw'=>HT.out.below (R5.trans hw'),by have:=vz.out;omega⟩;have hop:=EI mb wc _ _ fuel nv _ _ (m0 k) (-1) (by simp[m0]) (by simp[m0]) hi;have KO:Hid _:=hop;have qx:Hid _:=bq;have TW:Hid _:=RI;have kI:Hid _:=lX;have Am:Hid _:=R5;clear hop bq RI lX R5 AF hi qP oL abO JF Cf MK hmk HM;unfold ptr at KO
  go_wp2_with fail
  refine Calls.mono KO.out ?_;rintro _ w2 ⟨rfl,kT,hf2,qq⟩;have JY:=qx.out.on hf2;have jK:=MM.Ht (ZT fuel k) (-1) (by omega) (by simp[m0]);have ZW:jJ mb w.heap.size w2 (.slice x1 n1 c1) (.slice x2 n2 c2) fuel nv (.slice none 0 0) kT ((m0 k).opn (-1)) ns op t.cnt:=⟨qq,jK,JY,by simp[MM.opn],by have:=Wj.out;have:=vz.out;simp[MM.opn,m0];omega,by have:=Wj.out;have:=vz.out;simp only[MM.opn,m0];omega,by have:=vz.out;simp[MM.opn,m0];omega,hf⟩;have hro:=uw w2 _ _ ns op (JY.tree w2 (Below.refl _ _)) JY.len;rw[vz.out] at hro;have ML:Hid _:=hro;have eU:Hid _:=ZW;have abP:Hid _:=TW.out.keep hf2;have lZ:Hid _:=kI.out.keep hf2;have cS:Hid _:=hf2
  have a0:w2.cell? ⟨w.heap.size,0,none⟩=some (.slice x1 n1 c1):=by rw[aa (TW.out.keep hf2).b];rfl
  have a1:w2.cell? ⟨w.heap.size,1,none⟩=some (.slice x2 n2 c2):=by rw[aa (TW.out.keep hf2).b];rfl
  have hlA:=af (TW.out.keep hf2).b;have ZX:Hid _:=Am.out.trans (qx.out.TY hf2);clear JY jK ZW hro hf2 qq KO qx TW kI Am;unfold aQ at ML
  go_wp2_with fail
  refine Calls.mono ML.out ?_;rintro _ w3 ⟨rfl,hb3⟩;have Wk:=eU.out.below hb3;have hf3:bL mb mb w2 w3 nv (.slice none 0 0) kT nv (.slice none 0 0) kT:=bL.below mb mb _ _ _ hb3;have qQ:=Wi.out mb w3 nv (.slice none 0 0) kT _ Wk
  dsimp only at qQ
  rw[<- HX.out] at qQ;have wh:Hid _:=qQ.2;have HKP:Hid _:=qQ.1;have zo:Hid _:=Wk;have fg:Hid _:=lZ.out.keep hf3;have R6:Hid _:=ZX.out.trans (eU.out.env.TY hf3);clear Wk hf3 qQ hb3 ML eU abP lZ cS ZX a0 a1 hlA;unfold ptr at wh
  go_wp2_with fail
  refine Calls.mono wh.out ?_;rintro _ w4 ⟨rfl,iD,Bz,AQ,dE,hi4⟩;obtain⟨W5,wu⟩:∃ W5,W5=w4.alloc (.cells #[.bool x.1.c,.int .i64 x.1.n] 122):=⟨_,rfl⟩
  have yX:Below w4.heap.size w4 W5:=by rw[wu];exact aD (Below.refl _ _) _
  have OU:=zo.out.env.on dE;have eY:bL mb mb w4 W5 iD Bz AQ iD Bz AQ:=bL.below mb mb _ _ _ yX;have OV:=OU.on eY;have Wl:=(R6.out.trans (zo.out.env.TY dE)).trans (OU.TY eY);have kZ:=zg mb w.heap.size _ _ fuel hf ns op iD Bz AQ x.2.cells X x.1 W5 x.2 rfl ZV.out ZU HKP.out.2.1 (hi4.below yX) HKP.out.1 OV (λw' h'=>Oz.out w' (Wl.trans h'));have XU:Hid _:=kZ;have dM:Hid _:=(fg.out.keep dE).keep eY;have ZY:Hid _:=Wl;have Uk:Hid _:=OV;clear yX OU eY OV Wl kZ dE hi4 wh zo fg R6 HKP ZV Oz;unfold ptr ml at XU;unfold ml
  go_wp2_with fail
  rw[<- wu];refine Calls.mono XU.out ?_;rintro _ w6 ⟨rfl,yu,QD⟩;have Wm:=dM.out.keep yu;have R7:Hid _:=ZY.out.trans (Uk.out.TY yu);have EU:Hid _:=Wm;obtain⟨_,y3,y4,_,y6,_,_,y9,y10⟩:=bK QD.y;obtain⟨ca,cc,hcv⟩:=lV QD.cl;rw[hcv] at y6;have acY:=af QD.y;have hq6:=af Wm.b;clear wu yu QD Wm XU dM ZY Uk Wi HT Wj vz HX hcv;generalize dz X x.1 x.2=m2 at *;have HQ:Hid (w.heap.size<=w.heap.size+1):=Nat.le_succ _;generalize w.heap.size+1=q at *
  by_cases hz:m2.fault=0
  ·rw[hz] at y4
   have Cy:RV=.agg #[.string (bs X.txt),.int .i64 m2.steps,.int .i64 m2.cells.length,.int .i64 m2.most,.int .i64 m2.live]:=by rw[R3.out];unfold zm;rw[if_neg (λh=>h hz)]
   have R8:FV=0:=by rw[HFV.out];exact hz
   clear R3 HFV hz;subst Cy;subst R8;have hsb:=EU.out.b;have Mz:Hid (w.heap.size<=q):=HQ.out
   go_wp2_with (refine jY rfl 35 (.tmp 4) (.tmp 37) rfl q #[.string (bs X.txt),.int .i64 m2.steps,.int .i64 m2.cells.length,.int .i64 m2.most,.int .i64 m2.live] rfl rfl 35 _ hsb Tryz.xp rfl (by simp[Value.oneCell']) ?_;intro W hW mr nU hW1 hW2 hW3)
   have s0:W.cell? ⟨q,0,none⟩=some (.string (bs X.txt)):=by rw[aa hW];rfl
   have s1:W.cell? ⟨q,1,none⟩=some (.int .i64 m2.steps):=by rw[aa hW];rfl
   have s2:W.cell? ⟨q,2,none⟩=some (.int .i64 m2.cells.length):=by rw[aa hW];rfl
   have s3:W.cell? ⟨q,3,none⟩=some (.int .i64 m2.most):=by rw[aa hW];rfl
   have s4:W.cell? ⟨q,4,none⟩=some (.int .i64 m2.live):=by rw[aa hW];rfl
   have Dy:Hid _:=fP R7.out Mz.out mr nU hW1 hW2 hW3;clear hW mr nU hW1 hW2 hW3 R7 hsb EU y3 y4 y6 y9 y10
   go_wp2
   refine bodyPost_ret (v:=.tuple #[.agg #[.string (bs X.txt),.int .i64 m2.steps,.int .i64 m2.cells.length,.int .i64 m2.most,.int .i64 m2.live],.int .i64 0]) (by simp[results,Tryz.results48,go_sem,s0,s1,s2,s3,s4]) rfl ⟨rfl,Dy.out⟩
  ·have Cy:RV=.agg #[.string ⟨#[]⟩,.int .i64 0,.int .i64 0,.int .i64 0,.int .i64 0]:=by rw[R3.out];unfold zm;rw[if_pos hz]
   have R8:FV=m2.fault:=HFV.out
   have hne:((m2.fault:Int) != 0)=true:=by simpa using hz
   clear R3 HFV hz;subst Cy;subst R8;have hsb:=EU.out.b
   have r0:w6.cell? ⟨q,0,none⟩=some (.string ⟨#[]⟩):=by rw[aa hsb];rfl
   have r1:w6.cell? ⟨q,1,none⟩=some (.int .i64 0):=by rw[aa hsb];rfl
   have r2:w6.cell? ⟨q,2,none⟩=some (.int .i64 0):=by rw[aa hsb];rfl
   have r3:w6.cell? ⟨q,3,none⟩=some (.int .i64 0):=by rw[aa hsb];rfl
   have r4:w6.cell? ⟨q,4,none⟩=some (.int .i64 0):=by rw[aa hsb];rfl
   have g0:=ag hsb 0;have g1:=ag hsb 1;have g2:=ag hsb 2;have g3:=ag hsb 3;have g4:=ag hsb 4;have hqm:q≠mb:=EU.out.ne
   have hmq:mb≠q:=λe=>hqm e.symm
   have hN:(((((w6.setCell ⟨q,0,none⟩ (.string ⟨#[]⟩)).setCell ⟨q,1,none⟩ (.int .i64 0)).setCell ⟨q,2,none⟩ (.int .i64 0)).setCell ⟨q,3,none⟩ (.int .i64 0)).setCell ⟨q,4,none⟩ (.int .i64 0)).heap[q]?=some (.cells #[.string ⟨#[]⟩,.int .i64 0,.int .i64 0,.int .i64 0,.int .i64 0] 35):=aA (aA (aA (aA (aA hsb 0 _) 1 _) 2 _) 3 _) 4 _;have HN:Hid _:=hN;have Dy:Hid (Below w.heap.size w (((((w6.setCell ⟨q,0,none⟩ (.string ⟨#[]⟩)).setCell ⟨q,1,none⟩ (.int .i64 0)).setCell ⟨q,2,none⟩ (.int .i64 0)).setCell ⟨q,3,none⟩ (.int .i64 0)).setCell ⟨q,4,none⟩ (.int .i64 0))):=lC (lC (lC (lC (lC R7.out _ HQ.out _) _ HQ.out _) _ HQ.out _) _ HQ.out _) _ HQ.out _;clear hsb hN EU R7
   go_upto_region 6 with fail
   go_region
   obtain⟨W7,R9⟩:∃ W7,W7=(((((w6.setCell ⟨q,0,none⟩ (.string ⟨#[]⟩)).setCell ⟨q,1,none⟩ (.int .i64 0)).setCell ⟨q,2,none⟩ (.int .i64 0)).setCell ⟨q,3,none⟩ (.int .i64 0)).setCell ⟨q,4,none⟩ (.int .i64 0)).drew:=⟨_,rfl⟩
   have Sa:W7.heap[q]?=some (.cells #[.string ⟨#[]⟩,.int .i64 0,.int .i64 0,.int .i64 0,.int .i64 0] 35):=by rw[R9];exact HN.out
   have EZ:Hid (Below w.heap.size w W7):=by rw[R9];exact uo Dy.out
   rw[<- R9]
   have s0:W7.cell? ⟨q,0,none⟩=some (.string ⟨#[]⟩):=by rw[aa Sa];rfl
   have s1:W7.cell? ⟨q,1,none⟩=some (.int .i64 0):=by rw[aa Sa];rfl
   have s2:W7.cell? ⟨q,2,none⟩=some (.int .i64 0):=by rw[aa Sa];rfl
   have s3:W7.cell? ⟨q,3,none⟩=some (.int .i64 0):=by rw[aa Sa];rfl
   have s4:W7.cell? ⟨q,4,none⟩=some (.int .i64 0):=by rw[aa Sa];rfl
   clear R9 Sa HN Dy r0 r1 r2 r3 r4 g0 g1 g2 g3 g4 y3 y4 y6 y9 y10
   go_wp2
   refine bodyPost_ret (v:=.tuple #[.agg #[.string ⟨#[]⟩,.int .i64 0,.int .i64 0,.int .i64 0,.int .i64 0],.int .i64 m2.fault]) (by simp[results,Tryz.results48,go_sem,s0,s1,s2,s3,s4]) rfl ⟨rfl,EZ.out⟩
end Go.Proofs.YtpicaknklgccoabGreatDoor
