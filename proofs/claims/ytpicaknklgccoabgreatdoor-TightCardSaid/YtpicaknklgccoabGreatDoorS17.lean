import Derived.Deep.LoopGhost
import Derived.Deep.DeepCutAuto
import Derived.Deep.Light
import Derived.Test.YtpicaknklgccoabGreatDoorS16
import Derived.Lib.AppendStr
set_option maxHeartbeats 8000000
set_option maxRecDepth 100000
namespace Go.Proofs.YtpicaknklgccoabGreatDoor
open Go.RowKit
def CO (t:PT):dM:=⟨0,0,List.replicate t.cnt []⟩
mutual
theorem PE.wf {ae:Bool}:∀ {l:List Tk} {e:PT} {r:List Tk},PE ae l e r->e.wf
 | _,_,_,.num _=>by simp [PT.wf]
 | _,_,_,.name _=>by simp [PT.wf]
 | _,_,_,.node (k:=k) _ _ h3 h4=>by
  simp only [PT.wf]
  refine ⟨?_,PW.Xn h4⟩
  rw [PW.og h4]
  cases k <;> cases ae <;> first | decide | exact absurd rfl h3
theorem PW.Xn {ae:Bool}:∀ {ws:List Wt} {l:List Tk} {nm rg:List UInt8} {kids:List PT} {r:List Tk},PW ae ws l nm rg kids r->oZ kids
 | _,_,_,_,_,_,.nil=>by simp [oZ]
 | _,_,_,_,_,_,.close _ h1=>PW.Xn h1
 | _,_,_,_,_,_,.name _ h1=>PW.Xn h1
 | _,_,_,_,_,_,.region _ h1=>PW.Xn h1
 | _,_,_,_,_,_,.e h h1=>by simp only [oZ];exact ⟨PE.wf h,PW.Xn h1⟩
end
theorem jn {s:ByteArray} {ae:Bool} {e:PT} (hp:PE ae (tokens s.data.toList) e []):e.cnt<=s.size:=by
 have h1:=hp.used.1
 have h2:=Cs s.data.toList.length 0 s.data.toList
 rw [dN] at h2
 unfold tokens at h1
 rw [dN] at h1
 simp at h1
 omega
def cC (e:PT):Nat × Nat :=
 if 100 < e.bK then (3,((e.EW[100]?).map (·.1)).getD 0)
 else ((aD (List.range e.bK) e 0 0 [] (CO e)).2.e,(aD (List.range e.bK) e 0 0 [] (CO e)).2.at_)
theorem Hb (st:dM) (e p:Nat) (he:e≠0):(cZ st e p).e=0->(cZ st e p).at_=st.at_:=by
 intro h;exact absurd h (tE st e p he)
theorem fin_at (id p:Nat) (x:Ty × dM):(fin id p x).2.e=0->x.2.e=0/\(fin id p x).2.at_=x.2.at_:=by
 unfold fin
 simp only
 split
 ·intro h;exact absurd h (tE _ _ _ (by decide))
 ·intro h;exact ⟨h,rfl⟩
theorem LU (cls:List Nat) (k:Kw) (p site:Nat) (ks:List Ty) (st:dM):(bD cls k p site ks st).2.e=0->(bD cls k p site ks st).2.at_=st.at_:=by
 have err:(cZ st 5 p).e=0->(cZ st 5 p).at_=st.at_:=Hb st 5 p (by decide)
 unfold bD
 split <;> (first | (intro _;rfl) | exact err | (split <;> first | (intro _;rfl) | exact err))
theorem Hc {a b:dM} (h:a.e≠0->b.e=a.e/\b.at_=a.at_) (hb:b.e=0):a.e=0:=by
 by_cases e:a.e=0
 ·exact e
 ·exact absurd ((h e).1.symm.trans hb) e
mutual
theorem jo (cls:List Nat):∀ (t:PT) (id site:Nat) (env:aQ) (st:dM),(aD cls t id site env st).2.e=0->(aD cls t id site env st).2.at_=st.at_
 | .num p s,id,site,env,st=>by
  simp only [aD];intro h;exact (fin_at id p _ h).2
 | .name p s,id,site,env,st=>by
  simp only [aD]
  intro h
  obtain ⟨h1,h2⟩:=fin_at id p _ h
  rw [h2]
  revert h1
  split
  ·intro _;rfl
  ·exact Hb st 4 p (by decide)
 | .node p k nm rg kids,id,site,env,st=>by
  simp only [aD]
  intro h
  obtain ⟨h1,h2⟩:=fin_at id p _ h
  rw [h2]
  revert h1
  split
  ·exact LV cls nm kids (id+1) site env st
  ·have hx:(if k=.loop then aW cls nm kids (id+1) site env st else bh cls kids (id+1) (site+if k=.pair then 1 else 0) env st).2.e=0->(if k=.loop then aW cls nm kids (id+1) site env st else bh cls kids (id+1) (site+if k=.pair then 1 else 0) env st).2.at_=st.at_:=by
    by_cases hk:k=.loop
    ·simp only [if_pos hk];exact Jp cls nm kids _ _ env st
    ·simp only [if_neg hk];exact zY cls kids _ _ env st
   generalize (if k=.loop then aW cls nm kids (id+1) site env st else bh cls kids (id+1) (site+if k=.pair then 1 else 0) env st)=x at hx
   split
   ·rename_i hne;intro h0;exact absurd h0 hne
   ·rename_i hne
    have h0:x.2.e=0:=by simpa using hne
    intro h1
    rw [LU cls k p site x.1 x.2 h1,hx h0]
theorem zY (cls:List Nat):∀ (ts:List PT) (id site:Nat) (env:aQ) (st:dM),(bh cls ts id site env st).2.e=0->(bh cls ts id site env st).2.at_=st.at_
 | [],_,_,_,st=>by simp [bh]
 | a::r,id,site,env,st=>by
  simp only [bh]
  intro h
  have h2:=zY cls r (id+a.cnt) (site+a.bK) env (aD cls a id site env st).2 h
  have h0:=Hc (fun e=>om cls r (id+a.cnt) (site+a.bK) env _ e) h
  rw [h2,jo cls a id site env st h0]
theorem LV (cls:List Nat) (nm:List UInt8):∀ (ts:List PT) (id site:Nat) (env:aQ) (st:dM),(dH cls nm ts id site env st).2.e=0->(dH cls nm ts id site env st).2.at_=st.at_
 | [a,b],id,site,env,st=>by
  simp only [dH]
  intro h
  have h2:=jo cls b (id+a.cnt) (site+a.bK) (env++[(nm,(aD cls a id site env st).1)]) (aD cls a id site env st).2 h
  have h0:=Hc (fun e=>di cls b (id+a.cnt) (site+a.bK) _ _ e) h
  rw [h2,jo cls a id site env st h0]
 | [],_,_,_,st=>by simp [dH]
 | [_],_,_,_,st=>by simp [dH]
 | _::_::_::_,_,_,_,st=>by simp [dH]
theorem Jp (cls:List Nat) (nm:List UInt8):∀ (ts:List PT) (id site:Nat) (env:aQ) (st:dM),(aW cls nm ts id site env st).2.e=0->(aW cls nm ts id site env st).2.at_=st.at_
 | [a,b,c],id,site,env,st=>by
  simp only [aW]
  intro h
  have h3:=jo cls c _ _ _ _ h
  have h0:=Hc (fun e=>di cls c _ _ _ _ e) h
  have h2:=jo cls b _ _ _ _ h0
  have h00:=Hc (fun e=>di cls b _ _ _ _ e) h0
  rw [h3,h2,jo cls a id site env st h00]
 | [],_,_,_,st=>by simp [aW]
 | [_],_,_,_,st=>by simp [aW]
 | [_,_],_,_,_,st=>by simp [aW]
 | _::_::_::_::_,_,_,_,st=>by simp [aW]
end
theorem wJ {e:PT} {ns:List NR} (bt:NA [] e 0 ns):mQ ns (opn e 0)=cC e:=by
 have jj:(opn e 0).filterMap (bS ns)=e.EW.map (·.1):=tJ ns e [] 0 ns bt (fun j _=>by rw [Nat.zero_add])
 have hlen:((opn e 0).filterMap (bS ns)).length=e.bK:=by rw [jj,List.length_map,vE]
 unfold mQ cC fE
 rw [hlen]
 by_cases hm:100 < e.bK
 ·simp only [if_pos hm]
  rw [if_pos (by decide),jj,List.getElem?_map]
 ·simp only [if_neg hm]
  rw [if_neg (by decide),Lr ns Ls]
  have hA:=Xo (List.range e.bK) (fun x hx=>by rw [List.mem_range] at hx;omega) e [] ns [] (CO e) [] 0 0 bt trivial rfl ⟨by simp,by simp⟩
  have hat:=jo (List.range e.bK) e 0 0 [] (CO e)
  rcases hA with ⟨h0,h1,_⟩ | ⟨_,h1⟩
  ·rw [h1,h0,hat h0];rfl
  ·exact h1
theorem zZ {e:PT} {ns:List NR} (bt:NA [] e 0 ns):wq ns (opn e 0):=by
 have hl:=bt.len
 refine ⟨by rw [Hd,hl],fun x hx=>?_⟩
 have:=Lt e 0 x hx
 simp only [Nat.zero_add] at this
 omega
theorem qp {w w2:World} {A:Obj} (hb:Below (w.alloc A).heap.size (w.alloc A) w2):w2.heap[w.heap.size]?=some A:=by
 rw [hb.block w.heap.size (by simp)];exact aj w A
theorem mh {w w2:World} {A:Obj} (hb:Below (w.alloc A).heap.size (w.alloc A) w2):Below w.heap.size w w2:=((Below.refl _ w).alloc (Nat.le_refl _) A).trans (hb.mono (by simp))
theorem jT (s:ByteArray) (w:World) (hs:s.size<=9000):Calls Tryz.prog 56 #[.string s] w fun v w'=>sx s true w v w':=by
 have jj:=uE s true (w.heap.size+1) hs _ _ _ _ _ (wK s hs) (LW s true w (.cells #[.slice none 0 0,.slice none 0 0] 62))
 unfold ptr fF at jj
 unfold sx
 generalize jH true s.size (tokens s.data.toList)=P at *
 go_enter Tryz.func56,Tryz.ntmps56
 go_wp2_with fail
 refine jj.mono ?_
 rintro v w1 ⟨zk,tq,u4,hfr,hin,hv⟩
 obtain ⟨hb,hr,hsz⟩:=hfr.toBelow
 have r0:w1.cell? ⟨w.heap.size,0,none⟩=some (.slice none 0 0):=by rw [aa hr];rfl
 have r1:w1.cell? ⟨w.heap.size,1,none⟩=some (.slice none 0 0):=by rw [aa hr];rfl
 have f0:=ag hr 0
 have f1:=ag hr 1
 have HB:Hid _:=hb
 rcases hv with ⟨q,hfl,rfl⟩ | ⟨hfl,rfl⟩
 ·have K6:Hid _:=hfl
  unfold aJ
  clear hfl hfr hin hb hr jj
  go_wp2
  refine bodyPost_ret (v:=.tuple #[.agg #[.slice none 0 0,.slice none 0 0],.int .i64 q,.bool false]) (by simp [results,Tryz.results56,go_sem,r0,r1]) rfl ⟨?_,Or.inl ⟨q,K6.out,rfl⟩⟩
  exact (HB.out.setCell (p:=⟨w.heap.size,0,none⟩) (Nat.le_refl _) _).setCell (p:=⟨w.heap.size,1,none⟩) (Nat.le_refl _) _
 ·have K6:Hid _:=hfl
  obtain ⟨x6,n6,c6,e6⟩:∃ a n c,tq=.slice a n c:=by
   rcases hin.nd.2 with ⟨h1,_⟩ | ⟨g,cap,cur,h1,_⟩
   ·exact ⟨_,_,_,h1⟩
   ·exact ⟨_,_,_,h1⟩
  obtain ⟨x7,n7,c7,e7⟩:∃ a n c,u4=.slice a n c:=by
   rcases hin.op.2 with ⟨h1,_⟩ | ⟨g,cap,cur,h1,_⟩
   ·exact ⟨_,_,_,h1⟩
   ·exact ⟨_,_,_,h1⟩
  have rT:∀ k,tq.ownBlock=some k->k≠w.heap.size:=fun k hk=>by
   rcases hfr.n k hk with e | e
   ·simp [Value.ownBlock] at e
   ·simp at e;omega
  have hro:∀ k,u4.ownBlock=some k->k≠w.heap.size:=fun k hk=>by
   rcases hfr.o k hk with e | e
   ·simp [Value.ownBlock] at e
   ·simp at e;omega
  subst e6
  subst e7
  have HT:Hid (bg ((w1.setCell ⟨w.heap.size,0,none⟩ (.slice x6 n6 c6)).setCell ⟨w.heap.size,1,none⟩ (.slice x7 n7 c7)) (.slice x6 n6 c6) (.slice x7 n7 c7) P.nodes P.opened):=by
   refine ⟨ax hin.nd (fun k hk=>?_),ax hin.op (fun k hk=>?_)⟩
   ·rw [ak _ _ (by simpa using rT k hk),ak _ _ (by simpa using rT k hk)]
   ·rw [ak _ _ (by simpa using hro k hk),ak _ _ (by simpa using hro k hk)]
  unfold aJ
  clear hfl hfr hin hb hr jj rT hro
  go_wp2
  refine bodyPost_ret (v:=.tuple #[.agg #[.slice x6 n6 c6,.slice x7 n7 c7],.int .i64 0,.bool true]) (by simp [results,Tryz.results56,go_sem,r0,r1]) rfl ⟨?_,Or.inr ⟨K6.out,_,_,rfl,HT.out⟩⟩
  exact (HB.out.setCell (p:=⟨w.heap.size,0,none⟩) (Nat.le_refl _) _).setCell (p:=⟨w.heap.size,1,none⟩) (Nat.le_refl _) _
open Go.Lib (strCells)
theorem wL {P:Program} (w:World) (t u ty e:TypeId) (i:TypeInfo) (ht:P.underlying t=some (.slice e)) (hu:P.underlying u=some .string) (hi:P.info? e=some i) (hz:i.zero=some (.int .u8 0))
  (hsize:i.size=1) (hby:i.bytes=1) (base:Nat) (v:Value) (n:Nat) (xs:List Value) (hown:w.ownsRow base e 1 v n xs) (s:ByteArray) (nK:n+s.size<=140737488355328) (hbase:base<=w.heap.size) :
  ∃ v' w',(Builtin.append_ #[t,u] ty #[v,.string s]).run P w=.ok v' w'/\w'.ownsRow base e 1 v' (n+s.size) (xs++strCells s)/\w.grownBy w' v.ownBlock/\(∀ g,v'.ownBlock=some g->v.ownBlock=some g\/w.heap.size<=g):=by
 have h63:n+s.size<=maxLen:=by unfold maxLen;omega
 obtain ⟨v',w',hr,h2,h3,h4⟩:=Lib.run_append_own_string (P:=P) w base t u ty e i ht hu hi hz hsize hby v n xs hown s h63 nK hbase
 refine ⟨v',w',hr,h2,h3,?_⟩
 intro g hg
 rcases hown.2 with ⟨hv,hn0⟩ | ⟨g0,cap,cur,hv,hgb,hh,hn',hcm,hcs,htake⟩
 ·subst hv
  subst hn0
  have hx:xs=[]:=List.eq_nil_of_length_eq_zero (by simpa using hown.1)
  subst hx
  obtain ⟨v2,w2,eH,k2,_,_⟩:=Lib.run_append_own_string (P:=P) w w.heap.size t u ty e i ht hu hi hz hsize hby (.slice none 0 0) 0 [] (World.ownsRow_nil w _ e 1) s h63 nK (Nat.le_refl _)
  rw [hr] at eH
  cases eH
  exact Or.inr (k2.lt g hg).1
 ·subst hv
  by_cases hroom:n+s.size<=cap
  ·have eH:=Lib.run_append_room_string (P:=P) w t u ty e i ht hu hi hsize g0 n cap cur hh s hroom (by omega)
   rw [hr] at eH
   cases eH
   exact Or.inl hg
  ·have eH:=Lib.run_append_grow_string (P:=P) w t u ty e i (.int .u8 0) ht hu hi hz ⟨g0,0,none⟩ n cap xs (by rw [hsize];exact hown.1) (hown.cells (g:=g0) rfl) s (by omega) (by unfold maxLen at h63;omega) (by rw [hby];exact growslice_fits (by omega) (by omega))
   rw [hr] at eH
   cases eH
   simp [Value.ownBlock] at hg
   exact Or.inr (by omega)
theorem sA {P:Program} {w:World} {ops:Array Oper} {rest:List Oper} {o:Oper} {a:Act} {Q:Exit->Act->World->Prop} (hgd:o.guard=none) (sl x:Operand) (t u:TypeId)
  (ho:o.op=.call { callee:=.builtin .append,args:=#[sl,x],argTypes:=#[t,u] }) (base:Nat) (e:TypeId) (i:TypeInfo) (ht:P.underlying t=some (.slice e)) (hu:P.underlying u=some .string) (hi:P.info? e=some i) (hz:i.zero=some (.int .u8 0))
  (hsize:i.size=1) (hby:i.bytes=1) (v:Value) (n:Nat) (xs:List Value) (hs:a.eval sl=v) (hown:w.ownsRow base e 1 v n xs) (s:ByteArray) (hx:a.eval x=.string s) (nK:n+s.size<=140737488355328) (hbase:base<=w.heap.size)
  (h:∀ v' w',w'.ownsRow base e 1 v' (n+s.size) (xs++strCells s)->w.grownBy w' v.ownBlock->(∀ g,v'.ownBlock=some g->v.ownBlock=some g\/w.heap.size<=g)->wpList P ops Q rest (a.put o.dst v') w'):wpList P ops Q (o::rest) a w:=by
 refine wpList_plain hgd fun K hK=>?_
 obtain ⟨v',w',hr,h2,h3,h4⟩:=wL (P:=P) w t u o.type e i ht hu hi hz hsize hby base v n xs hown s nK hbase
 unfold Oper.wp execOp
 simp only [ho,resolve,invoke,builtin,Sem.run_bind,Sem.run_pure,Result.andThen_ok,List.map_toArray,List.map_cons,List.map_nil,hs,hx,hr]
 exact hK _ _ (h v' w' h2 h3 h4)
theorem Tryz.TL:(Tryz.prog.info? 5).map (fun i=>(i.zero,i.size,i.bytes))=some (some (.int .u8 0),1,1):=by kernel_rfl
theorem Tryz.wM:Tryz.prog.underlying 82=some (.slice 5):=by kernel_rfl
theorem Tryz.Fp:Tryz.prog.underlying 9=some .string:=by kernel_rfl
structure Ly where
 lr:Value
 la:Value
 regs:List Int
 news:List Int
structure kz (L:Ly) (wb:Nat) (w:World) (nv ov v:Value) (tx:List UInt8):Prop where
 blk:w.heap[wb]?=some (.cells #[nv,ov,L.lr,L.la,v] 95 (0,0))
 row:w.ownsRow (wb+1) 5 1 v tx.length (strCells (bs tx))
structure jU (wb:Nat) (w w':World) (v v':Value):Prop where
 os:w'.os=w.os
 tape:w'.tape=w.tape
 output:w'.output=w.output
 size:w.heap.size<=w'.heap.size
 blk:∀ k,k < w.heap.size->k≠wb->v.ownBlock≠some k->w'.heap[k]?=w.heap[k]?
 o:∀ g,v'.ownBlock=some g->v.ownBlock=some g\/w.heap.size<=g
theorem jU.refl (wb:Nat) (w:World) (v:Value):jU wb w w v v:=⟨rfl,rfl,rfl,Nat.le_refl _,fun _ _ _ _=>rfl,fun _ h=>Or.inl h⟩
theorem jU.trans {wb:Nat} {w w1 w2:World} {v v1 v2:Value} (h:jU wb w w1 v v1) (h':jU wb w1 w2 v1 v2):jU wb w w2 v v2:=by
 refine ⟨h'.os.trans h.os,h'.tape.trans h.tape,h'.output.trans h.output,Nat.le_trans h.size h'.size,?_,?_⟩
 ·intro k hk hp ho
  rw [h'.blk k (Nat.lt_of_lt_of_le hk h.size) hp (fun e=>by rcases h.o k e with e | e;exact ho e;omega)]
  exact h.blk k hk hp ho
 ·intro g hg
  rcases h'.o g hg with e | e
  ·exact h.o g e
  ·exact Or.inr (Nat.le_trans h.size e)
theorem jU.jI {wb:Nat} {w w':World} (v:Value) (h:Below w.heap.size w w'):jU wb w w' v v:=⟨h.os,h.tape,h.output,h.size,fun k hk _ _=>h.block k hk,fun _ h=>Or.inl h⟩
theorem kz.below {L:Ly} {wb:Nat} {w w':World} {nv ov v:Value} {tx:List UInt8} (h:kz L wb w nv ov v tx) (hb:Below w.heap.size w w'):kz L wb w' nv ov v tx :=
 ⟨by rw [hb.block wb (af h.blk)];exact h.blk,aB h.row hb⟩
theorem lP {L:Ly} (wb:Nat) (w:World) (nv ov v:Value) (tx s:List UInt8) (h:kz L wb w nv ov v tx) (hl:tx.length+s.length<=400000000) :
  Calls Tryz.prog 78 #[.pointer (some ⟨wb,0,none⟩),.string (bs s)] w fun e w'=>∃ v',e=.returned (.tuple #[])/\jU wb w w' v v'/\kz L wb w' nv ov v' (tx++s):=by
 obtain ⟨i0,hi,hz0,hz1,hz2⟩:=info_parts Tryz.TL
 have HI:Hid _:=hi
 have pZ:Hid _:=hz0
 have p8:Hid _:=hz1
 have p9:Hid _:=hz2
 clear hi hz0 hz1 hz2
 have hb:=h.blk
 have hlt:=af hb
 have x2:w.cell? ⟨wb,4,none⟩=some v:=by rw [aa hb];rfl
 have hsl:=cN s
 obtain ⟨xa,xn,xc,hv⟩:∃ a n c,v=.slice a n c:=by
  rcases h.row.2 with ⟨h1,_⟩ | ⟨g,cap,cur,h1,_⟩
  ·exact ⟨_,_,_,h1⟩
  ·exact ⟨_,_,_,h1⟩
 subst hv
 have HW:Hid _:=h
 have WE:Hid _:=hb
 clear h hb
 go_enter Tryz.func78,Tryz.ntmps78
 go_wp2_with (at_builtin;go_must (refine sA rfl (.tmp 8) (.tmp 9) 82 9 rfl (wb+1) 5 i0 Tryz.wM Tryz.Fp HI.out pZ.out p8.out p9.out _ tx.length (strCells (bs tx)) rfl HW.out.row (bs s) rfl (by omega) (by omega) ?_))
 intro v' w1 hown hgrow hfresh
 obtain ⟨ya,yn,yc,hv'⟩:∃ a n c,v'=.slice a n c:=by
  rcases hown.2 with ⟨h1,_⟩ | ⟨g,cap,cur,h1,_⟩
  ·exact ⟨_,_,_,h1⟩
  ·exact ⟨_,_,_,h1⟩
 subst hv'
 have hnb:(Value.slice xa xn xc).ownBlock≠some wb:=fun e=>by have:=(HW.out.row.lt wb e).1;omega
 have hb1:w1.heap[wb]?=some (.cells #[nv,ov,L.lr,L.la,.slice xa xn xc] 95 (0,0)):=by rw [hgrow.block wb hlt (fun e=>hnb e.symm)];exact WE.out
 have ZM:w1.cell? ⟨wb,4,none⟩=some (.slice xa xn xc):=by rw [aa hb1];rfl
 have f2:=ag hb1 4
 have Jq:=af hb1
 have hset:=ay hb1 4 (.slice ya yn yc)
 have Bc:Hid _:=hset
 have HO:Hid (w1.ownsRow (wb+1) 5 1 (.slice ya yn yc) (tx.length+s.length) (strCells (bs tx)++strCells (bs s))):=hown
 have HG:Hid _:=hgrow
 have HF:Hid _:=hfresh
 clear hown hgrow hfresh hb1 hset
 go_wp2
 refine bodyPost_end (v:=.tuple #[]) (by simp [results,Tryz.results78,go_sem]) rfl ⟨.slice ya yn yc,rfl,?_,?_⟩
 ·refine ⟨HG.out.os,HG.out.tape,HG.out.output,by have:=HG.out.size;simp [World.setCell];omega,?_,HF.out⟩
  intro k hk cG hko
  rw [ak _ _ (by simpa using cG)]
  exact HG.out.block k hk (fun e=>hko e.symm)
 ·refine ⟨Bc.out,?_⟩
  have e:strCells (bs tx)++strCells (bs s)=strCells (bs (tx++s)):=by simp [strCells,bs]
  have h:=HO.out
  rw [e] at h
  rw [List.length_append]
  refine ax h (fun k hk=>ak _ _ ?_)
  have:=(h.lt k hk).1
  simp only;omega
open Go.Lib (decDigits)
mutual
def fG (ns:List NR):PT->Nat->Prop
 | .num _ s,base=>∃ n,ns[base]?=some n/\n.form=1/\n.num=aq s
 | .name _ s,base=>∃ n,ns[base]?=some n/\n.form=2/\n.word=s
 | .node _ k nm _ kids,base=>(∃ n,ns[base+az kids]?=some n/\n.form=aY k/\n.word=nm/\n.p0=(aA kids base).getD 0 (-1)/\n.p1=(aA kids base).getD 1 (-1)/\n.p2=(aA kids base).getD 2 (-1))/\fM ns kids base
def fM (ns:List NR):List PT->Nat->Prop
 | [],_=>True
 | t::r,base=>fG ns t base/\fM ns r (base+t.cnt)
end
theorem Bd {α:Type} (pre a post:List α) (j:Nat) (x:α) (h:a[j]?=some x):(pre++(a++post))[pre.length+j]?=some x:=by
 have hj:=(List.getElem?_eq_some_iff.1 h).1
 rw [List.getElem?_append_right (by omega),Nat.add_sub_cancel_left,List.getElem?_append_left hj];exact h
mutual
theorem NA.shows:∀ {scope:Sc} {t:PT} {base:Nat} {ms:List NR},NA scope t base ms->∀ (pre post:List NR),pre.length=base->fG (pre++(ms++post)) t base
 | _,.num _ s,_,_,h,pre,post,hb=>by
  simp only [NA] at h;subst h;subst hb
  simp only [fG]
  exact ⟨_,Bd pre _ post 0 _ rfl,rfl,rfl⟩
 | _,.name _ s,_,_,h,pre,post,hb=>by
  simp only [NA] at h;subst h;subst hb
  simp only [fG]
  exact ⟨_,Bd pre _ post 0 _ rfl,rfl,rfl⟩
 | _,.node p k nm rg kids,base,_,h,pre,post,hb=>by
  simp only [NA] at h
  obtain ⟨ks,aR,h1,rfl⟩:=h
  have hl:=cY.len h1
  simp only [fG]
  refine ⟨⟨⟨aY k,p,aR,0,nm,aq rg,-1,(aA kids base).getD 0 (-1),(aA kids base).getD 1 (-1),(aA kids base).getD 2 (-1)⟩,?_,rfl,rfl,rfl,rfl,rfl⟩,?_⟩
  ·rw [<- hl];conv=>lhs;rw [show base+ks.length=pre.length+ks.length from by rw [hb]]
   refine Bd pre _ post ks.length _ ?_
   rw [List.getElem?_append_right (Nat.le_refl _),Nat.sub_self];rfl
  ·have h2:=cY.shows h1 pre (⟨aY k,p,aR,0,nm,aq rg,-1,(aA kids base).getD 0 (-1),(aA kids base).getD 1 (-1),(aA kids base).getD 2 (-1)⟩::post) hb
   rw [List.append_assoc,List.singleton_append]
   exact h2
theorem cY.shows:∀ {scope:Sc} {nm:List UInt8} {ts:List PT} {bs:List Bool} {base:Nat} {ms:List NR},cY scope nm ts bs base ms->∀ (pre post:List NR),pre.length=base->fM (pre++(ms++post)) ts base
 | _,_,[],_,_,_,_,_,_,_=>by simp [fM]
 | _,_,_::_,[],_,_,h,_,_,_=>by simp [cY] at h
 | _,_,t::r,b::bs,_,_,h,pre,post,hb=>by
  simp only [cY] at h
  obtain ⟨a,c,h1,h2,rfl⟩:=h
  have hl:=NA.len h1
  simp only [fM]
  constructor
  ·have:=NA.shows h1 pre (c++post) hb
   rw [List.append_assoc];exact this
  ·have:=cY.shows h2 (pre++a) post (by rw [List.length_append,hl,hb])
   simp only [List.append_assoc] at this ⊢;exact this
end
theorem NA.wN {scope:Sc} {t:PT} {ns:List NR} (h:NA scope t 0 ns):fG ns t 0:=by
 have:=NA.shows h [] [] rfl
 simpa using this
theorem Fq (k:Kw) (w:World) (hk:k≠.new):Calls Tryz.prog 121 #[.int .i64 (aY k)] w fun v w'=>v=.returned (.string (bs k.bytes))/\w'=w:=by
 cases k <;> first | exact absurd rfl hk | (go_enter Tryz.func121,Tryz.ntmps121;go_wp2;go_ret;exact ⟨rfl,rfl⟩)
def Jr:Kw->Int
 | .aT=>0
 | .loop=>1
 | _=>-1
theorem qU (k:Kw) (w:World):Calls Tryz.prog 122 #[.int .i64 (aY k)] w fun v w'=>v=.returned (.int .i64 (Jr k))/\w'=w:=by
 cases k <;> (go_enter Tryz.func122,Tryz.ntmps122;go_wp2;go_ret;exact ⟨rfl,rfl⟩)
def Wa (r:Nat):List UInt8:=[40,110,101,119]++([32,35]++(decDigits r++[32]))
def rU:List Int->Nat->Int->List UInt8
 | [],_,_=>[]
 | a::l,r,i=>(if a=i then Wa r else [])++rU l (r+1) i
def rV (news:List Int) (i:Int):Nat:=(news.filter (· == i)).length
def R7 (news:List Int) (i:Int):List UInt8:=List.replicate (rV news i) 41
def jJ (regs:List Int) (i:Nat):Int:=(regs[i]?).getD (-1)
def LX (regs:List Int) (i:Nat):List UInt8:=if jJ regs i=-1 then [] else [32,35]++decDigits (jJ regs i).toNat
mutual
def PT.vF (regs news:List Int):PT->Nat->List UInt8
 | .num _ s,_=>decDigits (aq s).toNat
 | .name _ s,_=>s
 | .node _ k nm _ kids,b=>if k=.new then (gz regs news kids b).headD [] else 40::(k.bytes++(LX regs (b+az kids)++(bn k nm 0 (gz regs news kids b)++[41])))
def gz (regs news:List Int):List PT->Nat->List (List UInt8)
 | [],_=>[]
 | t::r,b=>(rU news 0 ((b+t.cnt:Nat) - 1:Int)++(PT.vF regs news t b++R7 news ((b+t.cnt:Nat) - 1:Int)))::gz regs news r (b+t.cnt)
end
def PT.u7 (regs news:List Int) (t:PT) (b:Nat):List UInt8:=rU news 0 ((b+t.cnt:Nat) - 1:Int)++(t.vF regs news b++R7 news ((b+t.cnt:Nat) - 1:Int))
theorem CP (i a:Int):∀ (l:List Int) (r:Nat),rU (l++[a]) r i=rU l r i++(if a=i then Wa (r+l.length) else [])
 | [],r=>by simp [rU]
 | x::l,r=>by
  simp only [List.cons_append,rU,CP i a l (r+1),List.append_assoc,List.length_cons]
  rw [show r+1+l.length=r+(l.length+1) by omega]
theorem LY (l:List Int) (a i:Int):rV (l++[a]) i=rV l i+(if a=i then 1 else 0):=by
 unfold rV
 rw [List.filter_append,List.length_append]
 by_cases h:a=i <;> simp [h]
theorem He (r:Nat) (h:r<=9999):(Wa r).length<=11:=by
 have:=kT r h
 unfold Wa;simp only [List.length_append,List.length_cons,List.length_nil];omega
theorem vG (i:Int):∀ (l:List Int) (r:Nat),r+l.length<=9999->(rU l r i).length<=11 * l.length
 | [],_,_=>by simp [rU]
 | a::l,r,h=>by
  simp only [List.length_cons] at h
  have h1:=vG i l (r+1) (by omega)
  have h2:=He r (by omega)
  simp only [rU,List.length_append,List.length_cons]
  split
  ·omega
  ·simp only [List.length_nil];omega
theorem Fs (l:List Int) (i:Int):rV l i<=l.length:=List.length_filter_le _ _
theorem Be (regs:List Int) (i:Nat) (h:jJ regs i<=9999):(LX regs i).length<=6:=by
 unfold LX
 split
 ·simp
 ·have:=kT (jJ regs i).toNat (by omega)
  simp only [List.length_append,List.length_cons,List.length_nil];omega
structure Xp (regs news:List Int):Prop where
 n:news.length<=150
 r:∀ i,jJ regs i<=9999
theorem oo (k:Kw) (nm:List UInt8) (h:nm.length<=9000):∀ (l:List (List UInt8)) (i:Nat) (B:Nat),(l.map fun x=>x.length+9002).sum<=B->(bn k nm i l).length<=B
 | [],_,_,_=>by simp [bn]
 | x::r,i,B,hb=>by
  simp only [List.map_cons,List.sum_cons] at hb
  have h1:=oo k nm h r (i+1) (B - (x.length+9002)) (by omega)
  have h2:=Fo k nm i x h
  simp only [bn,List.length_append];omega
mutual
theorem Hf {regs news:List Int} (H:Xp regs news):∀ (t:PT) (b:Nat),t.bL->(t.vF regs news b).length+9002+1800<=20000 * t.cnt
 | .num _ s,_,h=>by
  simp only [PT.bL] at h
  simp only [PT.vF,PT.cnt]
  have:=kT (aq s).toNat (by omega)
  omega
 | .name _ s,_,h=>by simp only [PT.bL] at h;simp only [PT.vF,PT.cnt];omega
 | .node _ k nm _ kids,b,h=>by
  simp only [PT.bL] at h
  have h0:=wO H kids b h.2
  have h1:=oo k nm h.1 (gz regs news kids b) 0 _ h0
  have h3:k.bytes.length<=4:=by cases k <;> decide
  have h4:=Be regs (b+az kids) (H.r _)
  have h5:((gz regs news kids b).headD []).length<=20000 * az kids:=by
   cases hw:gz regs news kids b with
   | nil=>simp
   | cons x r=>rw [hw] at h0;simp only [List.map_cons,List.sum_cons,List.headD_cons] at h0 ⊢;omega
  simp only [PT.vF,PT.cnt]
  split
  ·omega
  ·simp only [List.length_cons,List.length_append,List.length_nil];omega
theorem wO {regs news:List Int} (H:Xp regs news):∀ (ts:List PT) (b:Nat),bI ts->((gz regs news ts b).map fun x=>x.length+9002).sum<=20000 * az ts
 | [],_,_=>by simp [gz]
 | t::r,b,h=>by
  simp only [bI] at h
  have h1:=Hf H t b h.1
  have h2:=wO H r (b+t.cnt) h.2
  have h3:=vG ((b+t.cnt:Nat) - 1:Int) news 0 (by have:=H.n;omega)
  have h4:=Fs news ((b+t.cnt:Nat) - 1:Int)
  have h5:=H.n
  simp only [gz,List.map_cons,List.sum_cons,az,List.length_append,R7,List.length_replicate]
  omega
end
theorem tK (regs news:List Int):∀ (ts:List PT) (b j:Nat),gz regs news (ts.take j) b=(gz regs news ts b).take j
 | [],b,j=>by simp [gz]
 | t::r,b,0=>by simp [gz]
 | t::r,b,j+1=>by simp [gz,tK regs news r (b+t.cnt) j]
theorem CQ (regs news:List Int):∀ (ts:List PT) (b j:Nat) (x:PT),ts[j]?=some x->(gz regs news ts b)[j]?=some (x.u7 regs news (b+az (ts.take j)))
 | [],_,_,_,h=>by simp at h
 | t::r,b,0,x,h=>by simp only [List.getElem?_cons_zero,Option.some.injEq] at h;subst h;simp [gz,PT.u7,az]
 | t::r,b,j+1,x,h=>by
  have:=CQ regs news r (b+t.cnt) j x (by simpa using h)
  simp only [gz,List.getElem?_cons_succ,List.take_succ_cons,az,<- Nat.add_assoc]
  exact this
theorem oq (regs news:List Int):∀ (ts:List PT) (b:Nat),(gz regs news ts b).length=ts.length
 | [],_=>rfl
 | t::r,b=>by simp [gz,oq regs news r]
def mi (regs news:List Int) (k:Kw) (nm:List UInt8) (kids:List PT) (b i j:Nat):List UInt8:=40::(k.bytes++(LX regs i++bn k nm 0 (gz regs news (kids.take j) b)))
theorem Js (regs news:List Int) (k:Kw) (nm:List UInt8) (kids:List PT) (b i j:Nat) (x:PT) (hx:kids[j]?=some x):mi regs news k nm kids b i (j+1)=mi regs news k nm kids b i j++bP k nm j (x.u7 regs news (b+az (kids.take j))):=by
 have hlt:j < kids.length:=(List.getElem?_eq_some_iff.1 hx).1
 unfold mi
 rw [tK,tK,List.take_add_one,CQ regs news kids b j x hx]
 simp only [Option.toList_some]
 rw [qR,List.length_take,oq,Nat.min_eq_left (by omega),Nat.zero_add]
 simp [List.append_assoc]
theorem CR {regs news:List Int} (H:Xp regs news) (k:Kw) (nm:List UInt8) (kids:List PT) (b i j:Nat) (hn:nm.length<=9000) (ht:bI kids):(mi regs news k nm kids b i j).length<=11+20000 * az (kids.take j):=by
 have h0:=wO H (kids.take j) b (wI kids j ht)
 have h1:=oo k nm hn (gz regs news (kids.take j) b) 0 _ h0
 have h3:k.bytes.length<=4:=by cases k <;> decide
 have h4:=Be regs i (H.r _)
 unfold mi
 simp only [List.length_cons,List.length_append]
 omega
theorem LZ (regs news:List Int) (p:Nat) (k:Kw) (nm rg:List UInt8) (kids:List PT) (b:Nat) (hk:k≠.new):mi regs news k nm kids b (b+az kids) kids.length++[41]=(PT.node p k nm rg kids).vF regs news b:=by
 unfold mi
 simp [PT.vF,hk]
mutual
theorem Hg:∀ (t:PT) (b:Nat),t.vF [] [] b=t.lO
 | .num _ _,_=>rfl
 | .name _ _,_=>rfl
 | .node _ k nm _ kids,b=>by simp [PT.vF,PT.lO,CS kids b,LX,jJ]
theorem CS:∀ (ts:List PT) (b:Nat),gz [] [] ts b=ig ts
 | [],_=>rfl
 | t::r,b=>by simp [gz,ig,Hg t b,CS r,rU,R7,rV]
end
theorem P4 (t:PT) (b:Nat):t.u7 [] [] b=t.lO:=by simp [PT.u7,Hg,rU,R7,rV]
theorem L0 {w:World} {base:Nat} {e:TypeId} {size:Nat} {v:Value} {n:Nat} {xs:List Value} (h:w.ownsRow base e size v n xs) {b:Nat} {arr:Array Value} {t:TypeId} {fr:Nat × Nat} (hb:w.heap[b]?=some (.cells arr t fr)) (ht:t≠e):∀ k,v.ownBlock=some k->k≠b:=by
 intro k hk hkb
 rcases h.2 with ⟨h1,_⟩ | ⟨g,cap,cur,h1,_,hh,_⟩
 ·rw [h1] at hk;simp [Value.ownBlock] at hk
 ·rw [h1] at hk
  simp [Value.ownBlock] at hk
  rw [hk,hkb,hb] at hh
  simp only [Option.some.injEq,Obj.cells.injEq] at hh
  exact ht hh.2.1
theorem tL (s:ByteArray) (w:World) (hs:s.size<=9000) (e:PT) (hp:PE true (tokens s.data.toList) e []):Calls Tryz.prog 36 #[.string s] w fun v w'=>∃ x1 n1 c1 x2 n2 c2 ns,v=.returned (.tuple #[aJ (.slice x1 n1 c1) (.slice x2 n2 c2),.int .i64 0,.int .i64 0])/\Below w.heap.size w w'/\bg w' (.slice x1 n1 c1) (.slice x2 n2 c2) ns (opn e 0)/\NA [] e 0 ns:=by
 obtain ⟨ns,bt,A7⟩:=ot (len:=s.size) hp
 have vH:=fun w=>jT s w (by omega)
 have L3:Hid _:=A7
 have yT:Hid _:=bt
 clear hp A7 bt
 go_enter Tryz.func36,Tryz.ntmps36
 go_wp2_with fail
 refine (vH _).mono ?_
 rintro v w1 ⟨hb,hv⟩
 have hr:=qp hb
 have hlt:=af hr
 have HB:Hid _:=mh hb
 have HR:Hid _:=hr
 rcases hv with ⟨q',hq',_⟩ | ⟨_,nv,ov,rfl,hT⟩
 ·rw [L3.out] at hq';cases hq'
 ·rw [L3.out] at hT
  simp only at hT
  obtain ⟨x1,c1,e1⟩:=aF hT.nd
  obtain ⟨x2,c2,e2⟩:=aF hT.op
  have hnn:=L0 hT.nd hr (by decide)
  have hno:=L0 hT.op hr (by decide)
  have r0:w1.cell? ⟨w.heap.size,0,none⟩=some (.slice none 0 0):=by rw [aa hr];rfl
  have r1:w1.cell? ⟨w.heap.size,1,none⟩=some (.slice none 0 0):=by rw [aa hr];rfl
  have f0:=ag hr 0
  have f1:=ag hr 1
  subst e1
  subst e2
  have hW:=aN (.cells #[.slice x1 ns.length c1,.slice x2 (opn e 0).length c2] 62) (ay (ay hr 0 (.slice x1 ns.length c1)) 1 (.slice x2 (opn e 0).length c2))
  have S0:Hid ((((w1.setCell ⟨w.heap.size,0,none⟩ (.slice x1 ns.length c1)).setCell ⟨w.heap.size,1,none⟩ (.slice x2 (opn e 0).length c2)).alloc (.cells #[.slice x1 ns.length c1,.slice x2 (opn e 0).length c2] 62)).cell? ⟨w.heap.size,0,none⟩=some (.slice x1 ns.length c1)):=by show _=_;rw [aa hW];rfl
  have S1:Hid ((((w1.setCell ⟨w.heap.size,0,none⟩ (.slice x1 ns.length c1)).setCell ⟨w.heap.size,1,none⟩ (.slice x2 (opn e 0).length c2)).alloc (.cells #[.slice x1 ns.length c1,.slice x2 (opn e 0).length c2] 62)).cell? ⟨w.heap.size,1,none⟩=some (.slice x2 (opn e 0).length c2)):=by show _=_;rw [aa hW];rfl
  have R8:Hid _:=hT
  have zm:Hid _:=hnn
  have qQ:Hid _:=hno
  unfold aJ
  have hne:w.heap.size≠w1.heap.size:=by omega
  clear hT hb hr vH hW hnn hno
  go_wp2
  refine bodyPost_ret (v:=.tuple #[.agg #[.slice x1 ns.length c1,.slice x2 (opn e 0).length c2],.int .i64 0,.int .i64 0]) (by have s0:=S0.out;have s1:=S1.out;simp [results,Tryz.results36,go_sem,s0,s1]) rfl ⟨x1,ns.length,c1,x2,(opn e 0).length,c2,ns,rfl,?_,?_,yT.out⟩
  ·exact ((HB.out.setCell (p:=⟨w.heap.size,0,none⟩) (Nat.le_refl _) _).setCell (p:=⟨w.heap.size,1,none⟩) (Nat.le_refl _) _).alloc (by have:=HB.out.size;simp [World.setCell];omega) _
  ·refine bg.below (w:=(w1.setCell ⟨w.heap.size,0,none⟩ (.slice x1 ns.length c1)).setCell ⟨w.heap.size,1,none⟩ (.slice x2 (opn e 0).length c2)) ?_ ((Below.refl _ _).alloc (Nat.le_refl _) _)
   refine ⟨ax R8.out.nd (fun k hk=>?_),ax R8.out.op (fun k hk=>?_)⟩
   ·rw [ak _ _ (by simpa using zm.out k hk),ak _ _ (by simpa using zm.out k hk)]
   ·rw [ak _ _ (by simpa using qQ.out k hk),ak _ _ (by simpa using qQ.out k hk)]
end Go.Proofs.YtpicaknklgccoabGreatDoor
