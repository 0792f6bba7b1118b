import Derived.Test.YtpicaknklgccoabGreatDoorS24
set_option maxHeartbeats 4000000
set_option maxRecDepth 100000
namespace Go.Proofs.YtpicaknklgccoabGreatDoor
open Go.RowKit
theorem JZ {P:Program} {ops:Array Oper} {o:Oper} {a:Act} {w:World} {K:Act->World->Prop} {Q:Exit->Act->World->Prop} {E:Prop} (hg:o.guard=none)
  (f:FuncId) (args:Array Value) (hrun:(execOp a.eval o).run P w=.ok (.enter f args) w) (h:Calls P f args w fun e w'=>∃ v,e=.returned v/\K (a.put o.dst v) w'):if Region.wanted o (yielded ops a.tmps)=true then Oper.wp P o a w K Q else E:=by
 have hw:Region.wanted o (yielded ops a.tmps)=true:=by simp [Region.wanted,hg]
 rw [if_pos hw]
 unfold Oper.wp
 rw [hrun]
 refine Calls.mono h ?_
 rintro e w' ⟨v,rfl,hk⟩
 exact hk
theorem Tryz.QA:(Tryz.prog.info? 122).map (fun i=>(i.zero,i.size,i.bytes))=some (some (.agg #[.bool false,.int .i64 0]),2,16):=by kernel_rfl
theorem Tryz.QB:Tryz.prog.underlying 116=some (.slice 122):=by kernel_rfl
def m0 (k:Nat):MM:=⟨0,0,List.replicate k v0,[],[],0,0,0⟩
def MO (w:World) (tn aO:Value) (fuel k:Nat) (t6:Value) (wc:World):Prop :=
 ∃ mb nv,t6=.pointer (some ⟨mb,0,none⟩)/\iq mb wc tn aO fuel nv (.slice none 0 0) (.slice none 0 0) (m0 k)/\Below w.heap.size w wc/\w.heap.size<=mb/\∀ g,nv.ownBlock=some g->w.heap.size<=g
def mz:Array Value:=#[.slice none 0 0,.slice none 0 0,.int .i64 0,.int .i64 0,.int .i64 0,.slice none 0 0,.slice none 0 0,.slice none 0 0,.int .i64 0,.int .i64 0,.int .i64 0]
theorem J0 (k:Nat):(madeCells #[Value.bool false,Value.int .i64 0] (k * 2)).toList=(List.replicate k v0).flatMap Mr:=by
 apply List.ext_getElem?
 intro i
 have hlen:((List.replicate k v0).flatMap Mr).length=k * 2:=by rw [Di Mr 2 (fun _=>rfl)];simp
 by_cases hi:i < k * 2
 ·have hd:=Nat.div_add_mod' i 2
  have key:=ke Mr 2 (fun _=>rfl) (List.replicate k v0) (i / 2) (i % 2) (Nat.mod_lt _ (by omega))
  rw [hd] at key
  rw [key,List.getElem?_replicate,if_pos (by omega)]
  simp only [Option.bind_some]
  rw [Array.getElem?_toList]
  simp only [madeCells]
  rcases (show i % 2=0\/i % 2=1 by omega) with h | h
  ·simp [h,hi,Mr,v0]
  ·simp [h,hi,Mr,v0]
 ·rw [List.getElem?_eq_none (by rw [Array.length_toList,size_madeCells];omega),List.getElem?_eq_none (by rw [hlen];omega)]
theorem Sx (w:World) (A R:Obj):((w.alloc A).alloc R).heap[w.heap.size]?=some A:=aN _ (aj w A)
theorem Yd (w:World) (A R O:Obj):(((w.alloc A).alloc R).alloc O).heap[w.heap.size]?=some A:=aN _ (aN _ (aj w A))
theorem MP (w:World) (A R O:Obj):(((w.alloc A).alloc R).alloc O).heap[w.heap.size+1+1]?=some O:=by
 have:=aj ((w.alloc A).alloc R) O
 simpa using this
theorem MQ {w:World} {b:Nat} (h:w.heap[b]?=some (.cells mz 120)):w.cell? ⟨b,0,none⟩=some (.slice none 0 0)/\w.cell? ⟨b,1,none⟩=some (.slice none 0 0)/\w.cell? ⟨b,2,none⟩=some (.int .i64 0)/\w.cell? ⟨b,3,none⟩=some (.int .i64 0)/\w.cell? ⟨b,4,none⟩=some (.int .i64 0)/\w.cell? ⟨b,5,none⟩=some (.slice none 0 0)/\w.cell? ⟨b,6,none⟩=some (.slice none 0 0)/\w.cell? ⟨b,7,none⟩=some (.slice none 0 0)/\w.cell? ⟨b,8,none⟩=some (.int .i64 0)/\w.cell? ⟨b,9,none⟩=some (.int .i64 0)/\w.cell? ⟨b,10,none⟩=some (.int .i64 0):=by
 refine ⟨?_,?_,?_,?_,?_,?_,?_,?_,?_,?_,?_⟩ <;> (rw [aa h];rfl)
theorem QC {w:World} {b:Nat} (h:w.heap[b]?=some (.cells mz 120)):w.frozen? ⟨b,0,none⟩=false/\w.frozen? ⟨b,1,none⟩=false/\w.frozen? ⟨b,2,none⟩=false/\w.frozen? ⟨b,3,none⟩=false/\w.frozen? ⟨b,4,none⟩=false/\w.frozen? ⟨b,5,none⟩=false/\w.frozen? ⟨b,6,none⟩=false/\w.frozen? ⟨b,7,none⟩=false/\w.frozen? ⟨b,8,none⟩=false/\w.frozen? ⟨b,9,none⟩=false/\w.frozen? ⟨b,10,none⟩=false :=
 ⟨ag h 0,ag h 1,ag h 2,ag h 3,ag h 4,ag h 5,ag h 6,ag h 7,ag h 8,ag h 9,ag h 10⟩
theorem Bs {w W:World} {tn aO:Value} {fuel k mb gm:Nat} {M:Obj} (hk:k<=9000) (hM:M=.cells (madeCells #[.bool false,.int .i64 0] (k * 2)) 122) (hb:Below w.heap.size w W) (hz:W.heap[mb]?=some (.cells #[tn,aO,.int .i64 fuel,.int .i64 0,.int .i64 0,.slice (some ⟨gm,0,none⟩) k k,.slice none 0 0,.slice none 0 0,.int .i64 0,.int .i64 0,.int .i64 0] 120)) (hm:W.heap[gm]?=some M) (hne:gm≠mb) (h1:w.heap.size<=mb) (h2:w.heap.size<=gm) :
  MO w tn aO fuel k (.pointer (some ⟨mb,0,none⟩)) W:=by
 subst hM
 refine ⟨mb,.slice (some ⟨gm,0,none⟩) k k,rfl,⟨hz,?_,World.ownsRow_nil _ _ _ _,World.ownsRow_nil _ _ _ _,?_,by simp [Value.ownBlock],by simp [Value.ownBlock],?_,?_,?_⟩,hb,h1,?_⟩
 ·have hl:(m0 k).named.length=k:=by simp [m0]
  have hfl:((m0 k).named.flatMap Mr)=(madeCells #[Value.bool false,Value.int .i64 0] (k * 2)).toList:=by rw [J0];rfl
  rw [hl,hfl]
  refine ⟨by simp [madeCells],Or.inr ⟨gm,k,_,rfl,Nat.zero_le _,hm,Nat.le_refl _,by unfold maxLen;omega,size_madeCells _ _,?_⟩⟩
  rw [List.take_of_length_le (by simp [madeCells])]
 ·simp only [Value.ownBlock,ne_eq,Option.some.injEq];exact hne
 ·intro g _;simp [Value.ownBlock]
 ·intro g _;simp [Value.ownBlock]
 ·intro g _;simp [Value.ownBlock]
 ·intro g hg
  simp only [Value.ownBlock,Option.some.injEq] at hg
  omega
theorem QD {w w2:World} {tn aO:Value} {fuel k:Nat} {M:Obj} (hk:k<=9000) (hM:M=.cells (madeCells #[.bool false,.int .i64 0] (k * 2)) 122) (hb:Below w.heap.size w w2) :
  MO w tn aO fuel k (.pointer (some ⟨w2.heap.size+1,0,none⟩)) ((w2.alloc M).alloc (.cells #[tn,aO,.int .i64 fuel,.int .i64 0,.int .i64 0,.slice (some ⟨w2.heap.size,0,none⟩) k k,.slice none 0 0,.slice none 0 0,.int .i64 0,.int .i64 0,.int .i64 0] 120)) :=
 have hs:=hb.size
 Bs (gm:=w2.heap.size) hk hM (aE (aE hb _) _) (by have:=aj (w2.alloc M) (.cells #[tn,aO,.int .i64 fuel,.int .i64 0,.int .i64 0,.slice (some ⟨w2.heap.size,0,none⟩) k k,.slice none 0 0,.slice none 0 0,.int .i64 0,.int .i64 0,.int .i64 0] 120);simpa using this) (aN _ (aj w2 M)) (by omega) (by omega) hs
theorem QE {w w2:World} {tn aO:Value} {fuel k:Nat} {M:Obj} (hk:k<=9000) (hM:M=.cells (madeCells #[.bool false,.int .i64 0] (k * 2)) 122) (hb:Below w.heap.size w w2) :
  MO w tn aO fuel k (.pointer (some ⟨w2.heap.size,0,none⟩)) ((w2.alloc (.cells #[tn,aO,.int .i64 fuel,.int .i64 0,.int .i64 0,.slice (some ⟨w2.heap.size+1,0,none⟩) k k,.slice none 0 0,.slice none 0 0,.int .i64 0,.int .i64 0,.int .i64 0] 120)).alloc M) :=
 have hs:=hb.size
 Bs (gm:=w2.heap.size+1) hk hM (aE (aE hb _) _) (aN _ (aj w2 _)) (by have:=aj (w2.alloc (.cells #[tn,aO,.int .i64 fuel,.int .i64 0,.int .i64 0,.slice (some ⟨w2.heap.size+1,0,none⟩) k k,.slice none 0 0,.slice none 0 0,.int .i64 0,.int .i64 0,.int .i64 0] 120)) M;simpa using this) (by omega) hs (by omega)
theorem QF {w w2:World} {tn aO:Value} {fuel k:Nat} {M:Obj} {mb:Nat} (nR:w.heap.size<=mb) (hk:k<=9000) (hM:M=.cells (madeCells #[.bool false,.int .i64 0] (k * 2)) 122) (hb:Below w.heap.size w w2) (hz:w2.heap[mb]?=some (.cells mz 120)) :
  MO w tn aO fuel k (.pointer (some ⟨mb,0,none⟩)) ((((((((((((w2.setCell ⟨mb,0,none⟩ (tn)).setCell ⟨mb,1,none⟩ (aO)).setCell ⟨mb,2,none⟩ (.int .i64 fuel)).setCell ⟨mb,3,none⟩ (.int .i64 0)).setCell ⟨mb,4,none⟩ (.int .i64 0)).setCell ⟨mb,5,none⟩ (.slice (some ⟨w2.heap.size,0,none⟩) k k)).setCell ⟨mb,6,none⟩ (.slice none 0 0)).setCell ⟨mb,7,none⟩ (.slice none 0 0)).setCell ⟨mb,8,none⟩ (.int .i64 0)).setCell ⟨mb,9,none⟩ (.int .i64 0)).setCell ⟨mb,10,none⟩ (.int .i64 0)).alloc M):=by
 have hs:=hb.size
 have hl:=af hz
 have h0:(w2.setCell ⟨mb,0,none⟩ (tn)).heap[mb]?=some (.cells #[tn,.slice none 0 0,.int .i64 0,.int .i64 0,.int .i64 0,.slice none 0 0,.slice none 0 0,.slice none 0 0,.int .i64 0,.int .i64 0,.int .i64 0] 120):=ay hz 0 (tn)
 have h1:((w2.setCell ⟨mb,0,none⟩ (tn)).setCell ⟨mb,1,none⟩ (aO)).heap[mb]?=some (.cells #[tn,aO,.int .i64 0,.int .i64 0,.int .i64 0,.slice none 0 0,.slice none 0 0,.slice none 0 0,.int .i64 0,.int .i64 0,.int .i64 0] 120):=ay h0 1 (aO)
 have h2:(((w2.setCell ⟨mb,0,none⟩ (tn)).setCell ⟨mb,1,none⟩ (aO)).setCell ⟨mb,2,none⟩ (.int .i64 fuel)).heap[mb]?=some (.cells #[tn,aO,.int .i64 fuel,.int .i64 0,.int .i64 0,.slice none 0 0,.slice none 0 0,.slice none 0 0,.int .i64 0,.int .i64 0,.int .i64 0] 120):=ay h1 2 (.int .i64 fuel)
 have h3:((((w2.setCell ⟨mb,0,none⟩ (tn)).setCell ⟨mb,1,none⟩ (aO)).setCell ⟨mb,2,none⟩ (.int .i64 fuel)).setCell ⟨mb,3,none⟩ (.int .i64 0)).heap[mb]?=some (.cells #[tn,aO,.int .i64 fuel,.int .i64 0,.int .i64 0,.slice none 0 0,.slice none 0 0,.slice none 0 0,.int .i64 0,.int .i64 0,.int .i64 0] 120):=ay h2 3 (.int .i64 0)
 have h4:(((((w2.setCell ⟨mb,0,none⟩ (tn)).setCell ⟨mb,1,none⟩ (aO)).setCell ⟨mb,2,none⟩ (.int .i64 fuel)).setCell ⟨mb,3,none⟩ (.int .i64 0)).setCell ⟨mb,4,none⟩ (.int .i64 0)).heap[mb]?=some (.cells #[tn,aO,.int .i64 fuel,.int .i64 0,.int .i64 0,.slice none 0 0,.slice none 0 0,.slice none 0 0,.int .i64 0,.int .i64 0,.int .i64 0] 120):=ay h3 4 (.int .i64 0)
 have h5:((((((w2.setCell ⟨mb,0,none⟩ (tn)).setCell ⟨mb,1,none⟩ (aO)).setCell ⟨mb,2,none⟩ (.int .i64 fuel)).setCell ⟨mb,3,none⟩ (.int .i64 0)).setCell ⟨mb,4,none⟩ (.int .i64 0)).setCell ⟨mb,5,none⟩ (.slice (some ⟨w2.heap.size,0,none⟩) k k)).heap[mb]?=some (.cells #[tn,aO,.int .i64 fuel,.int .i64 0,.int .i64 0,.slice (some ⟨w2.heap.size,0,none⟩) k k,.slice none 0 0,.slice none 0 0,.int .i64 0,.int .i64 0,.int .i64 0] 120):=ay h4 5 (.slice (some ⟨w2.heap.size,0,none⟩) k k)
 have h6:(((((((w2.setCell ⟨mb,0,none⟩ (tn)).setCell ⟨mb,1,none⟩ (aO)).setCell ⟨mb,2,none⟩ (.int .i64 fuel)).setCell ⟨mb,3,none⟩ (.int .i64 0)).setCell ⟨mb,4,none⟩ (.int .i64 0)).setCell ⟨mb,5,none⟩ (.slice (some ⟨w2.heap.size,0,none⟩) k k)).setCell ⟨mb,6,none⟩ (.slice none 0 0)).heap[mb]?=some (.cells #[tn,aO,.int .i64 fuel,.int .i64 0,.int .i64 0,.slice (some ⟨w2.heap.size,0,none⟩) k k,.slice none 0 0,.slice none 0 0,.int .i64 0,.int .i64 0,.int .i64 0] 120):=ay h5 6 (.slice none 0 0)
 have h7:((((((((w2.setCell ⟨mb,0,none⟩ (tn)).setCell ⟨mb,1,none⟩ (aO)).setCell ⟨mb,2,none⟩ (.int .i64 fuel)).setCell ⟨mb,3,none⟩ (.int .i64 0)).setCell ⟨mb,4,none⟩ (.int .i64 0)).setCell ⟨mb,5,none⟩ (.slice (some ⟨w2.heap.size,0,none⟩) k k)).setCell ⟨mb,6,none⟩ (.slice none 0 0)).setCell ⟨mb,7,none⟩ (.slice none 0 0)).heap[mb]?=some (.cells #[tn,aO,.int .i64 fuel,.int .i64 0,.int .i64 0,.slice (some ⟨w2.heap.size,0,none⟩) k k,.slice none 0 0,.slice none 0 0,.int .i64 0,.int .i64 0,.int .i64 0] 120):=ay h6 7 (.slice none 0 0)
 have h8:(((((((((w2.setCell ⟨mb,0,none⟩ (tn)).setCell ⟨mb,1,none⟩ (aO)).setCell ⟨mb,2,none⟩ (.int .i64 fuel)).setCell ⟨mb,3,none⟩ (.int .i64 0)).setCell ⟨mb,4,none⟩ (.int .i64 0)).setCell ⟨mb,5,none⟩ (.slice (some ⟨w2.heap.size,0,none⟩) k k)).setCell ⟨mb,6,none⟩ (.slice none 0 0)).setCell ⟨mb,7,none⟩ (.slice none 0 0)).setCell ⟨mb,8,none⟩ (.int .i64 0)).heap[mb]?=some (.cells #[tn,aO,.int .i64 fuel,.int .i64 0,.int .i64 0,.slice (some ⟨w2.heap.size,0,none⟩) k k,.slice none 0 0,.slice none 0 0,.int .i64 0,.int .i64 0,.int .i64 0] 120):=ay h7 8 (.int .i64 0)
 have h9:((((((((((w2.setCell ⟨mb,0,none⟩ (tn)).setCell ⟨mb,1,none⟩ (aO)).setCell ⟨mb,2,none⟩ (.int .i64 fuel)).setCell ⟨mb,3,none⟩ (.int .i64 0)).setCell ⟨mb,4,none⟩ (.int .i64 0)).setCell ⟨mb,5,none⟩ (.slice (some ⟨w2.heap.size,0,none⟩) k k)).setCell ⟨mb,6,none⟩ (.slice none 0 0)).setCell ⟨mb,7,none⟩ (.slice none 0 0)).setCell ⟨mb,8,none⟩ (.int .i64 0)).setCell ⟨mb,9,none⟩ (.int .i64 0)).heap[mb]?=some (.cells #[tn,aO,.int .i64 fuel,.int .i64 0,.int .i64 0,.slice (some ⟨w2.heap.size,0,none⟩) k k,.slice none 0 0,.slice none 0 0,.int .i64 0,.int .i64 0,.int .i64 0] 120):=ay h8 9 (.int .i64 0)
 have h10:(((((((((((w2.setCell ⟨mb,0,none⟩ (tn)).setCell ⟨mb,1,none⟩ (aO)).setCell ⟨mb,2,none⟩ (.int .i64 fuel)).setCell ⟨mb,3,none⟩ (.int .i64 0)).setCell ⟨mb,4,none⟩ (.int .i64 0)).setCell ⟨mb,5,none⟩ (.slice (some ⟨w2.heap.size,0,none⟩) k k)).setCell ⟨mb,6,none⟩ (.slice none 0 0)).setCell ⟨mb,7,none⟩ (.slice none 0 0)).setCell ⟨mb,8,none⟩ (.int .i64 0)).setCell ⟨mb,9,none⟩ (.int .i64 0)).setCell ⟨mb,10,none⟩ (.int .i64 0)).heap[mb]?=some (.cells #[tn,aO,.int .i64 fuel,.int .i64 0,.int .i64 0,.slice (some ⟨w2.heap.size,0,none⟩) k k,.slice none 0 0,.slice none 0 0,.int .i64 0,.int .i64 0,.int .i64 0] 120):=ay h9 10 (.int .i64 0)
 have hB:Below w.heap.size w (((((((((((w2.setCell ⟨mb,0,none⟩ (tn)).setCell ⟨mb,1,none⟩ (aO)).setCell ⟨mb,2,none⟩ (.int .i64 fuel)).setCell ⟨mb,3,none⟩ (.int .i64 0)).setCell ⟨mb,4,none⟩ (.int .i64 0)).setCell ⟨mb,5,none⟩ (.slice (some ⟨w2.heap.size,0,none⟩) k k)).setCell ⟨mb,6,none⟩ (.slice none 0 0)).setCell ⟨mb,7,none⟩ (.slice none 0 0)).setCell ⟨mb,8,none⟩ (.int .i64 0)).setCell ⟨mb,9,none⟩ (.int .i64 0)).setCell ⟨mb,10,none⟩ (.int .i64 0)):=by
  repeat (first | with_reducible refine kA ?_ _ (by simp only;omega) _)
  exact hb
 have hsz:(((((((((((w2.setCell ⟨mb,0,none⟩ (tn)).setCell ⟨mb,1,none⟩ (aO)).setCell ⟨mb,2,none⟩ (.int .i64 fuel)).setCell ⟨mb,3,none⟩ (.int .i64 0)).setCell ⟨mb,4,none⟩ (.int .i64 0)).setCell ⟨mb,5,none⟩ (.slice (some ⟨w2.heap.size,0,none⟩) k k)).setCell ⟨mb,6,none⟩ (.slice none 0 0)).setCell ⟨mb,7,none⟩ (.slice none 0 0)).setCell ⟨mb,8,none⟩ (.int .i64 0)).setCell ⟨mb,9,none⟩ (.int .i64 0)).setCell ⟨mb,10,none⟩ (.int .i64 0)).heap.size=w2.heap.size:=by simp only [World.setCell,Array.size_modify]
 clear h0 h1 h2 h3 h4 h5 h6 h7 h8 h9
 generalize (((((((((((w2.setCell ⟨mb,0,none⟩ (tn)).setCell ⟨mb,1,none⟩ (aO)).setCell ⟨mb,2,none⟩ (.int .i64 fuel)).setCell ⟨mb,3,none⟩ (.int .i64 0)).setCell ⟨mb,4,none⟩ (.int .i64 0)).setCell ⟨mb,5,none⟩ (.slice (some ⟨w2.heap.size,0,none⟩) k k)).setCell ⟨mb,6,none⟩ (.slice none 0 0)).setCell ⟨mb,7,none⟩ (.slice none 0 0)).setCell ⟨mb,8,none⟩ (.int .i64 0)).setCell ⟨mb,9,none⟩ (.int .i64 0)).setCell ⟨mb,10,none⟩ (.int .i64 0))=W at h10 hB hsz ⊢
 refine Bs (gm:=w2.heap.size) hk hM (aE hB _) (aN _ h10) ?_ (by omega) (by omega) hs
 rw [<- hsz]
 exact aj W M
theorem Tryz.vN:(Tryz.prog.info? 35).map (·.size)=some 5:=by kernel_rfl
def xp (m:MM) (X:Vl):Value:=if m.fault≠0 then .agg #[.string ⟨#[]⟩,.int .i64 0,.int .i64 0,.int .i64 0,.int .i64 0] else .agg #[.string (bs X.txt),.int .i64 m.steps,.int .i64 m.cells.length,.int .i64 m.most,.int .i64 m.live]
theorem Ye (fuel k:Nat):nG fuel (m0 k):=by
 refine ⟨by simp [m0],by simp [m0],by simp [m0,j9],by simp [m0,j9],by simp [m0],?_,by simp [m0],by simp [m0],by simp [m0]⟩
 intro v hv
 simp only [m0,List.mem_replicate] at hv
 rw [hv.2];exact sE
theorem QG (x1:Option Addr) (n1 c1:Nat) (x2:Option Addr) (n2 c2:Nat) (fuel:Nat) (ns:List NR) (op:List Int) (hf:fuel<=20000) (hl:ns.length<=9000) (w:World) (hT:bg w (.slice x1 n1 c1) (.slice x2 n2 c2) ns op) (htab:Lib.TabIs Tryz.prog w "internal/strconv.uint64pow10" .u64 Lib.pow10Tab) (t:PT) (hsh:kZ ns [] t 0) (hwf:t.wf) (hrg:t.jr) (jL:t.cnt=ns.length)
  (x:MV × MM) (hx:x=mW fuel t [] 0 ((m0 ns.length).opn (-1))) (X:Vl) (hX:gu x.2.cells X x.1) (Po:X.size<=63) :
  Calls Tryz.prog 48 #[aJ (.slice x1 n1 c1) (.slice x2 n2 c2),.int .i64 fuel] w fun e w'=>e=.returned (.tuple #[xp (cT X x.1 x.2) X,.int .i64 (cT X x.1 x.2).fault])/\Below w.heap.size w w':=by
 have G9:Below w.heap.size w ((w.alloc (.cells #[.slice x1 n1 c1,.slice x2 n2 c2] 62)).alloc (.cells #[.string ⟨#[]⟩,.int .i64 0,.int .i64 0,.int .i64 0,.int .i64 0] 35)):=aE (aE (Below.refl _ _) _) _
 have hwk:=MG (B:=w.heap.size) (fuel:=fuel) (x1:=x1) (n1:=n1) (c1:=c1) (x2:=x2) (n2:=n2) (c2:=c2) (ns:=ns) (op:=op) (t:=t)
 have UL:Hid (∀ mb,gB mb w.heap.size (.slice x1 n1 c1) (.slice x2 n2 c2) fuel ns op ((ns.length:Int) - 1) t.cnt (fun m=>mW fuel t [] 0 m)):=fun mb=>by
  have:=hwk mb [] 0 hsh (fun _ h=>by simp at h) hwf hrg (by omega) hl hf
  rw [Nat.zero_add,jL] at this
  rw [jL];exact this
 have HT:Hid _:=hT
 have MJ:Hid (∀ w',Below w.heap.size w w'->Lib.TabIs Tryz.prog w' "internal/strconv.uint64pow10" .u64 Lib.pow10Tab):=Lib.tabBelow_of_tabIs htab
 have UM:Hid _:=jL
 have HX:Hid _:=hx
 have Yf:Hid _:=hX
 obtain ⟨RV,hRV⟩:∃ RV,RV=xp (cT X x.1 x.2) X:=⟨_,rfl⟩
 obtain ⟨FV,hFV⟩:∃ FV:Nat,FV=(cT X x.1 x.2).fault:=⟨_,rfl⟩
 rw [<- hRV,<- hFV]
 have Qe:Hid _:=hRV
 have Z4:Hid _:=hFV
 clear hFV
 clear hwk hsh hwf hrg jL hx hX htab hRV
 have hle:=fun w' (h:Below ((w.alloc (.cells #[.slice x1 n1 c1,.slice x2 n2 c2] 62)).alloc (.cells #[.string ⟨#[]⟩,.int .i64 0,.int .i64 0,.int .i64 0,.int .i64 0] 35)).heap.size ((w.alloc (.cells #[.slice x1 n1 c1,.slice x2 n2 c2] 62)).alloc (.cells #[.string ⟨#[]⟩,.int .i64 0,.int .i64 0,.int .i64 0,.int .i64 0] 35)) w')=>(gJ w' _ _ ns op ((hT.below G9).below h)).mono (fun _ w'' (hx:_/\Below w'.heap.size w' w'')=>(⟨hx.1,hx.2,h.trans (hx.2.mono h.size)⟩:_/\_/\Below ((w.alloc (.cells #[.slice x1 n1 c1,.slice x2 n2 c2] 62)).alloc (.cells #[.string ⟨#[]⟩,.int .i64 0,.int .i64 0,.int .i64 0,.int .i64 0] 35)).heap.size ((w.alloc (.cells #[.slice x1 n1 c1,.slice x2 n2 c2] 62)).alloc (.cells #[.string ⟨#[]⟩,.int .i64 0,.int .i64 0,.int .i64 0,.int .i64 0] 35)) w''))
 have K4:Hid _:=hle
 obtain ⟨i0,hi,hz0,hz1,hz2⟩:=info_parts Tryz.QA
 obtain ⟨M,hM⟩:∃ M:Obj,M=.cells (madeCells #[.bool false,.int .i64 0] (ns.length * 2)) 122:=⟨_,rfl⟩
 have hmk:∀ W:World,(Instr.makeSlice 116 (.int .i64 ns.length) (.int .i64 ns.length)).run Tryz.prog W=.ok (.slice (some ⟨W.heap.size,0,none⟩) ns.length ns.length) (W.alloc M):=by
  intro W
  have hr:=run_make (P:=Tryz.prog) W 116 122 i0 _ Tryz.QB hi hz0 .i64 .i64 ns.length ns.length (by omega) (Int.le_refl _) (by rw [hz2];omega) (by omega)
  simp only [Int.toNat_natCast,hz1] at hr
  rw [hr,hM];rfl
 have HM:Hid _:=hM
 clear hT hle hi hz0 hz1 hz2 hM
 obtain ⟨k,hk⟩:∃ k,ns.length=k:=⟨_,rfl⟩
 have tI:Hid _:=hk
 rw [hk] at hl K4 hmk HM HX UL
 clear hk
 unfold aJ at K4
 unfold aJ
 go_enter Tryz.func48,Tryz.ntmps48
 go_upto_region 1 with fail
 go_cut [6] from 9 to 14 (fun t6 wx=>MO ((w.alloc (.cells #[.slice x1 n1 c1,.slice x2 n2 c2] 62)).alloc (.cells #[.string ⟨#[]⟩,.int .i64 0,.int .i64 0,.int .i64 0,.int .i64 0] 35)) (.slice x1 n1 c1) (.slice x2 n2 c2) fuel k t6 wx)
 case first =>
  go_region_law (first
   | (refine JZ rfl 60 #[.agg #[.slice x1 n1 c1,.slice x2 n2 c2]] (by go_simp) ?_
      refine Calls.mono (K4.out _ (by repeat (first | with_reducible exact Below.refl _ _ | with_reducible refine aE ?_ _ | with_reducible refine o8 ?_ | with_reducible refine iJ ?_))) ?_
      rintro e w2 ⟨rfl,hb2,hBw⟩
      have Jz:w.heap.size+1 < w2.heap.size:=by have:=hb2.size;simp at this;omega
      have hkA:w2.heap[w.heap.size]?=some (.cells #[.slice x1 n1 c1,.slice x2 n2 c2] 62):=(by rw [hb2.block _ (by simp;omega)];first | exact Sx w _ _ | exact Yd w _ _ _)
      have hlA:=af hkA
      have a0:w2.cell? ⟨w.heap.size,0,none⟩=some (.slice x1 n1 c1):=(by rw [aa hkA];rfl)
      have a1:w2.cell? ⟨w.heap.size,1,none⟩=some (.slice x2 n2 c2):=(by rw [aa hkA];rfl)
      try (have Z5:w2.heap[w.heap.size+1+1]?=some (.cells mz 120):=(by rw [hb2.block _ (by simp)];exact MP w _ _ _);have hlz:=af Z5;obtain ⟨z0,z1,z2,z3,z4,z5,z6,z7,z8,z9,z10⟩:=MQ Z5;obtain ⟨f0,f1,f2,f3,f4,f5,f6,f7,f8,f9,f10⟩:=QC Z5)
      refine ⟨_,rfl,?_⟩))
  all_goals (go_wp2_with fail;go_meet)
  all_goals first
   | exact QD hl HM.out hBw
   | exact QE hl HM.out hBw
   | exact QF (by simp) hl HM.out hBw Z5
 case rest =>
  obtain ⟨mb,nv,rfl,hi,zg,nR,pG⟩:=hcut
  have A2:=G9.size
  have aaH:((w.alloc (.cells #[.slice x1 n1 c1,.slice x2 n2 c2] 62)).alloc (.cells #[.string ⟨#[]⟩,.int .i64 0,.int .i64 0,.int .i64 0,.int .i64 0] 35)).heap.size=w.heap.size+1+1:=by simp
  have QH:Below w.heap.size w wc:=G9.trans (zg.mono A2)
  have Qr:Beside mb w.heap.size wc nv (.slice none 0 0) (.slice none 0 0) (.cells #[.slice x1 n1 c1,.slice x2 n2 c2] 62):=⟨by rw [zg.block _ (by omega)];exact Sx w _ _,by omega,fun e=>by have:=pG _ e;omega,by simp [Value.ownBlock],by simp [Value.ownBlock]⟩
  have kX:Beside mb (w.heap.size+1) wc nv (.slice none 0 0) (.slice none 0 0) (.cells #[.string ⟨#[]⟩,.int .i64 0,.int .i64 0,.int .i64 0,.int .i64 0] 35):=⟨by rw [zg.block _ (by omega)];have:=aj (w.alloc (.cells #[.slice x1 n1 c1,.slice x2 n2 c2] 62)) (.cells #[.string ⟨#[]⟩,.int .i64 0,.int .i64 0,.int .i64 0,.int .i64 0] 35);simpa using this,by omega,fun e=>by have:=pG _ e;omega,by simp [Value.ownBlock],by simp [Value.ownBlock]⟩
  have aZ:Dl mb w.heap.size wc nv (.slice none 0 0) (.slice none 0 0) (.slice x1 n1 c1) (.slice x2 n2 c2) ns op:=⟨by omega,QH.size,fun g hg=>by have:=pG g hg;omega,fun g hg=>by simp [Value.ownBlock] at hg,fun g hg=>by simp [Value.ownBlock] at hg,fun w' hw'=>HT.out.below (QH.trans hw'),by have:=tI.out;omega⟩
  have hop:=Dh mb wc _ _ fuel nv _ _ (m0 k) (-1) (by simp [m0]) (by simp [m0]) hi
  have Jh:Hid _:=hop
  have ow:Hid _:=aZ
  have Sp:Hid _:=Qr
  have jR:Hid _:=kX
  have yR:Hid _:=QH
  clear hop aZ Qr kX QH zg hi pG nR aaH G9 A2 K4 hmk HM
  unfold ptr at Jh
  go_wp2_with fail
  refine Calls.mono Jh.out ?_
  rintro _ w2 ⟨rfl,j0,hf2,qW⟩
  have Hx:=ow.out.on hf2
  have jb:=MM.FA (Ye fuel k) (-1) (by omega) (by simp [m0])
  have Yg:ja mb w.heap.size w2 (.slice x1 n1 c1) (.slice x2 n2 c2) fuel nv (.slice none 0 0) j0 ((m0 k).opn (-1)) ns op t.cnt:=⟨qW,jb,Hx,by simp [MM.opn],by have:=UM.out;have:=tI.out;simp [MM.opn,m0];omega,by have:=UM.out;have:=tI.out;simp only [MM.opn,m0];omega,by have:=tI.out;simp [MM.opn,m0];omega,hf⟩
  have hro:=sr w2 _ _ ns op (Hx.tree w2 (Below.refl _ _)) Hx.len
  rw [tI.out] at hro
  have K3:Hid _:=hro
  have eA:Hid _:=Yg
  have aaI:Hid _:=Sp.out.keep hf2
  have kY:Hid _:=jR.out.keep hf2
  have cx:Hid _:=hf2
  have a0:w2.cell? ⟨w.heap.size,0,none⟩=some (.slice x1 n1 c1):=by rw [aa (Sp.out.keep hf2).b];rfl
  have a1:w2.cell? ⟨w.heap.size,1,none⟩=some (.slice x2 n2 c2):=by rw [aa (Sp.out.keep hf2).b];rfl
  have hlA:=af (Sp.out.keep hf2).b
  have Yh:Hid _:=yR.out.trans (ow.out.Sq hf2)
  clear Hx jb Yg hro hf2 qW Jh ow Sp jR yR
  unfold aJ at K3
  go_wp2_with fail
  refine Calls.mono K3.out ?_
  rintro _ w3 ⟨rfl,hb3⟩
  have UN:=eA.out.below hb3
  have hf3:bz mb mb w2 w3 nv (.slice none 0 0) j0 nv (.slice none 0 0) j0:=bz.below mb mb _ _ _ hb3
  have qt:=UL.out mb w3 nv (.slice none 0 0) j0 _ UN
  dsimp only at qt
  rw [<- HX.out] at qt
  have vf:Hid _:=qt.2
  have HKP:Hid _:=qt.1
  have wE:Hid _:=UN
  have eI:Hid _:=kY.out.keep hf3
  have Qc:Hid _:=Yh.out.trans (eA.out.env.Sq hf3)
  clear UN hf3 qt hb3 K3 eA aaI kY cx Yh a0 a1 hlA
  unfold ptr at vf
  go_wp2_with fail
  refine Calls.mono vf.out ?_
  rintro _ w4 ⟨rfl,gK,Af,zF,dc,hi4⟩
  obtain ⟨W5,uK⟩:∃ W5,W5=w4.alloc (.cells #[.bool x.1.c,.int .i64 x.1.n] 122):=⟨_,rfl⟩
  have wQ:Below w4.heap.size w4 W5:=by rw [uK];exact aE (Below.refl _ _) _
  have MS:=wE.out.env.on dc
  have eG:bz mb mb w4 W5 gK Af zF gK Af zF:=bz.below mb mb _ _ _ wQ
  have MT:=MS.on eG
  have UO:=(Qc.out.trans (wE.out.env.Sq dc)).trans (MS.Sq eG)
  have Bt:=xo mb w.heap.size _ _ fuel hf ns op gK Af zF x.2.cells X x.1 W5 x.2 rfl Yf.out Po HKP.out.2.1 (hi4.below wQ) HKP.out.1 MT (fun w' h'=>MJ.out w' (UO.trans h'))
  have Wk:Hid _:=Bt
  have dq:Hid _:=(eI.out.keep dc).keep eG
  have Yi:Hid _:=UO
  have Sy:Hid _:=MT
  clear wQ MS eG MT UO Bt dc hi4 vf wE eI Qc HKP Yf MJ
  unfold ptr lG at Wk
  unfold lG
  go_wp2_with fail
  rw [<- uK]
  refine Calls.mono Wk.out ?_
  rintro _ w6 ⟨rfl,xd,Ph⟩
  have UQ:=dq.out.keep xd
  have QI:Hid _:=Yi.out.trans (Sy.out.Sq xd)
  have Dp:Hid _:=UQ
  obtain ⟨_,y3,y4,_,y6,_,_,y9,y10⟩:=bw Ph.y
  obtain ⟨ca,cc,hcv⟩:=kV Ph.cl
  rw [hcv] at y6
  have abN:=af Ph.y
  have hq6:=af UQ.b
  clear uK xd Ph UQ Wk dq Yi Sy UL HT UM tI HX hcv
  generalize cT X x.1 x.2=m2 at *
  have HQ:Hid (w.heap.size<=w.heap.size+1):=Nat.le_succ _
  generalize w.heap.size+1=q at *
  by_cases hz:m2.fault=0
  ·rw [hz] at y4
   have CZ:RV=.agg #[.string (bs X.txt),.int .i64 m2.steps,.int .i64 m2.cells.length,.int .i64 m2.most,.int .i64 m2.live]:=by rw [Qe.out];unfold xp;rw [if_neg (fun h=>h hz)]
   have Wb:FV=0:=by rw [Z4.out];exact hz
   clear Qe Z4 hz
   subst CZ
   subst Wb
   have hsb:=Dp.out.b
   have K1:Hid (w.heap.size<=q):=HQ.out
   go_wp2_with (refine jq rfl 35 (.tmp 4) (.tmp 37) rfl q #[.string (bs X.txt),.int .i64 m2.steps,.int .i64 m2.cells.length,.int .i64 m2.most,.int .i64 m2.live] rfl rfl 35 _ hsb Tryz.vN rfl (by simp [Value.oneCell']) ?_;intro W hW lH mP hW1 hW2 hW3)
   have s0:W.cell? ⟨q,0,none⟩=some (.string (bs X.txt)):=by rw [aa hW];rfl
   have s1:W.cell? ⟨q,1,none⟩=some (.int .i64 m2.steps):=by rw [aa hW];rfl
   have s2:W.cell? ⟨q,2,none⟩=some (.int .i64 m2.cells.length):=by rw [aa hW];rfl
   have s3:W.cell? ⟨q,3,none⟩=some (.int .i64 m2.most):=by rw [aa hW];rfl
   have s4:W.cell? ⟨q,4,none⟩=some (.int .i64 m2.live):=by rw [aa hW];rfl
   have Cj:Hid _:=fp QI.out K1.out lH mP hW1 hW2 hW3
   clear hW lH mP hW1 hW2 hW3 QI hsb Dp y3 y4 y6 y9 y10
   go_wp2
   refine bodyPost_ret (v:=.tuple #[.agg #[.string (bs X.txt),.int .i64 m2.steps,.int .i64 m2.cells.length,.int .i64 m2.most,.int .i64 m2.live],.int .i64 0]) (by simp [results,Tryz.results48,go_sem,s0,s1,s2,s3,s4]) rfl ⟨rfl,Cj.out⟩
  ·have CZ:RV=.agg #[.string ⟨#[]⟩,.int .i64 0,.int .i64 0,.int .i64 0,.int .i64 0]:=by rw [Qe.out];unfold xp;rw [if_pos hz]
   have Wb:FV=m2.fault:=Z4.out
   have hne:((m2.fault:Int) != 0)=true:=by simpa using hz
   clear Qe Z4 hz
   subst CZ
   subst Wb
   have hsb:=Dp.out.b
   have r0:w6.cell? ⟨q,0,none⟩=some (.string ⟨#[]⟩):=by rw [aa hsb];rfl
   have r1:w6.cell? ⟨q,1,none⟩=some (.int .i64 0):=by rw [aa hsb];rfl
   have r2:w6.cell? ⟨q,2,none⟩=some (.int .i64 0):=by rw [aa hsb];rfl
   have r3:w6.cell? ⟨q,3,none⟩=some (.int .i64 0):=by rw [aa hsb];rfl
   have r4:w6.cell? ⟨q,4,none⟩=some (.int .i64 0):=by rw [aa hsb];rfl
   have g0:=ag hsb 0
   have g1:=ag hsb 1
   have g2:=ag hsb 2
   have g3:=ag hsb 3
   have g4:=ag hsb 4
   have hqm:q≠mb:=Dp.out.ne
   have hmq:mb≠q:=fun e=>hqm e.symm
   have hN:(((((w6.setCell ⟨q,0,none⟩ (.string ⟨#[]⟩)).setCell ⟨q,1,none⟩ (.int .i64 0)).setCell ⟨q,2,none⟩ (.int .i64 0)).setCell ⟨q,3,none⟩ (.int .i64 0)).setCell ⟨q,4,none⟩ (.int .i64 0)).heap[q]?=some (.cells #[.string ⟨#[]⟩,.int .i64 0,.int .i64 0,.int .i64 0,.int .i64 0] 35):=ay (ay (ay (ay (ay hsb 0 _) 1 _) 2 _) 3 _) 4 _
   have HN:Hid _:=hN
   have Cj:Hid (Below w.heap.size w (((((w6.setCell ⟨q,0,none⟩ (.string ⟨#[]⟩)).setCell ⟨q,1,none⟩ (.int .i64 0)).setCell ⟨q,2,none⟩ (.int .i64 0)).setCell ⟨q,3,none⟩ (.int .i64 0)).setCell ⟨q,4,none⟩ (.int .i64 0))):=kA (kA (kA (kA (kA QI.out _ HQ.out _) _ HQ.out _) _ HQ.out _) _ HQ.out _) _ HQ.out _
   clear hsb hN Dp QI
   go_upto_region 6 with fail
   go_region
   obtain ⟨W7,QJ⟩:∃ W7,W7=(((((w6.setCell ⟨q,0,none⟩ (.string ⟨#[]⟩)).setCell ⟨q,1,none⟩ (.int .i64 0)).setCell ⟨q,2,none⟩ (.int .i64 0)).setCell ⟨q,3,none⟩ (.int .i64 0)).setCell ⟨q,4,none⟩ (.int .i64 0)).drew:=⟨_,rfl⟩
   have QK:W7.heap[q]?=some (.cells #[.string ⟨#[]⟩,.int .i64 0,.int .i64 0,.int .i64 0,.int .i64 0] 35):=by rw [QJ];exact HN.out
   have K7:Hid (Below w.heap.size w W7):=by rw [QJ];exact o8 Cj.out
   rw [<- QJ]
   have s0:W7.cell? ⟨q,0,none⟩=some (.string ⟨#[]⟩):=by rw [aa QK];rfl
   have s1:W7.cell? ⟨q,1,none⟩=some (.int .i64 0):=by rw [aa QK];rfl
   have s2:W7.cell? ⟨q,2,none⟩=some (.int .i64 0):=by rw [aa QK];rfl
   have s3:W7.cell? ⟨q,3,none⟩=some (.int .i64 0):=by rw [aa QK];rfl
   have s4:W7.cell? ⟨q,4,none⟩=some (.int .i64 0):=by rw [aa QK];rfl
   clear QJ QK HN Cj r0 r1 r2 r3 r4 g0 g1 g2 g3 g4 y3 y4 y6 y9 y10
   go_wp2
   refine bodyPost_ret (v:=.tuple #[.agg #[.string ⟨#[]⟩,.int .i64 0,.int .i64 0,.int .i64 0,.int .i64 0],.int .i64 m2.fault]) (by simp [results,Tryz.results48,go_sem,s0,s1,s2,s3,s4]) rfl ⟨rfl,K7.out⟩
end Go.Proofs.YtpicaknklgccoabGreatDoor
