import Derived.Deep.LoopGhost
import Derived.Deep.DeepCutAuto
import Derived.Deep.Light
import Derived.Test.YtpicaknklgccoabGreatDoorV16
import Derived.Lib.AppendStr
set_option maxHeartbeats 8000000
set_option maxRecDepth 100000
namespace Go.Proofs.YtpicaknklgccoabGreatDoor
open Go.RowKit
def XE (t:PT):fY:=⟨0,0,List.replicate t.cnt []⟩
mutual
theorem PE.wf {ae:Bool}:∀ {l:List Tk} {e:PT} {r:List Tk},PE ae l e r->e.wf
 | _,_,_,.num _=>by simp[PT.wf]
 | _,_,_,.name _=>by simp[PT.wf]
 | _,_,_,.node (k:=k) _ _ h3 h4=>by
  simp only[PT.wf];refine⟨?_,PW.YB h4⟩;rw[PW.pO h4]
  cases k <;> cases ae <;> first | decide | exact absurd rfl h3
theorem PW.YB {ae:Bool}:∀ {ws:List Wt} {l:List Tk} {nm rg:List UInt8} {kids:List PT} {r:List Tk},PW ae ws l nm rg kids r->qO kids
 | _,_,_,_,_,_,.nil=>by simp[qO]
 | _,_,_,_,_,_,.close _ h1=>PW.YB h1
 | _,_,_,_,_,_,.name _ h1=>PW.YB h1
 | _,_,_,_,_,_,.region _ h1=>PW.YB h1
 | _,_,_,_,_,_,.e h h1=>by simp only[qO];exact⟨PE.wf h,PW.YB h1⟩
end
theorem jU {s:ByteArray} {ae:Bool} {e:PT} (hp:PE ae (tokens s.data.toList) e []):e.cnt<=s.size:=by
 have h1:=hp.used.1;have h2:=DD s.data.toList.length 0 s.data.toList;rw[ez] at h2;unfold tokens at h1;rw[ez] at h1;simp at h1;omega
def dF (e:PT):Nat × Nat :=
 if 100<e.bz then (3,((e.Q3[100]?).map (·.1)).getD 0)
 else ((aH (List.range e.bz) e 0 0 [] (XE e)).2.e,(aH (List.range e.bz) e 0 0 [] (XE e)).2.at_)
theorem Ji (st:fY) (e p:Nat) (he:e≠0):(gC st e p).e=0->(gC st e p).at_=st.at_:=by
 intro h;exact absurd h (u4 st e p he)
theorem fin_at (id p:Nat) (x:Ty × fY):(fin id p x).2.e=0->x.2.e=0/\(fin id p x).2.at_=x.2.at_:=by
 unfold fin;simp only
 split
 ·intro h;exact absurd h (u4 _ _ _ (by decide))
 ·intro h;exact⟨h,rfl⟩
theorem Nj (cls:List Nat) (k:Kw) (p site:Nat) (ks:List Ty) (st:fY):(cZ cls k p site ks st).2.e=0->(cZ cls k p site ks st).2.at_=st.at_:=by
 have err:(gC st 5 p).e=0->(gC st 5 p).at_=st.at_:=Ji st 5 p (by decide);unfold cZ
 split <;> (first | (intro _;rfl) | exact err | (split <;> first | (intro _;rfl) | exact err))
theorem Jj {a b:fY} (h:a.e≠0->b.e=a.e/\b.at_=a.at_) (hb:b.e=0):a.e=0:=by
 by_cases e:a.e=0
 ·exact e
 ·exact absurd ((h e).1.symm.trans hb) e
mutual
theorem jV (cls:List Nat):∀ (t:PT) (id site:Nat) (env:aV) (st:fY),(aH cls t id site env st).2.e=0->(aH cls t id site env st).2.at_=st.at_
 | .num p s,id,site,env,st=>by
  simp only[aH];intro h;exact (fin_at id p _ h).2
 | .name p s,id,site,env,st=>by
  simp only[aH];intro h;obtain⟨h1,h2⟩:=fin_at id p _ h;rw[h2]
  revert h1
  split
  ·intro _;rfl
  ·exact Ji st 4 p (by decide)
 | .node p k nm rg kids,id,site,env,st=>by
  simp only[aH];intro h;obtain⟨h1,h2⟩:=fin_at id p _ h;rw[h2]
  revert h1
  split
  ·exact Nk cls nm kids (id+1) site env st
  ·have hx:(if k=.loop then bS cls nm kids (id+1) site env st else bW cls kids (id+1) (site+if k=.pair then 1 else 0) env st).2.e=0->(if k=.loop then bS cls nm kids (id+1) site env st else bW cls kids (id+1) (site+if k=.pair then 1 else 0) env st).2.at_=st.at_:=by
    by_cases hk:k=.loop
    ·simp only[if_pos hk];exact KQ cls nm kids _ _ env st
    ·simp only[if_neg hk];exact Bb cls kids _ _ env st
   generalize (if k=.loop then bS cls nm kids (id+1) site env st else bW cls kids (id+1) (site+if k=.pair then 1 else 0) env st)=x at hx
   split
   ·rename_i hne;intro h0;exact absurd h0 hne
   ·rename_i hne
    have h0:x.2.e=0:=by simpa using hne
    intro h1;rw[Nj cls k p site x.1 x.2 h1,hx h0]
theorem Bb (cls:List Nat):∀ (ts:List PT) (id site:Nat) (env:aV) (st:fY),(bW cls ts id site env st).2.e=0->(bW cls ts id site env st).2.at_=st.at_
 | [],_,_,_,st=>by simp[bW]
 | a::r,id,site,env,st=>by
  simp only[bW];intro h;have h2:=Bb cls r (id+a.cnt) (site+a.bz) env (aH cls a id site env st).2 h;have h0:=Jj (λe=>pQ cls r (id+a.cnt) (site+a.bz) env _ e) h;rw[h2,jV cls a id site env st h0]
theorem Nk (cls:List Nat) (nm:List UInt8):∀ (ts:List PT) (id site:Nat) (env:aV) (st:fY),(fZ cls nm ts id site env st).2.e=0->(fZ cls nm ts id site env st).2.at_=st.at_
 | [a,b],id,site,env,st=>by
  simp only[fZ];intro h;have h2:=jV cls b (id+a.cnt) (site+a.bz) (env++[(nm,(aH cls a id site env st).1)]) (aH cls a id site env st).2 h;have h0:=Jj (λe=>dJ cls b (id+a.cnt) (site+a.bz) _ _ e) h;rw[h2,jV cls a id site env st h0]
 | [],_,_,_,st=>by simp[fZ]
 | [_],_,_,_,st=>by simp[fZ]
 | _::_::_::_,_,_,_,st=>by simp[fZ]
theorem KQ (cls:List Nat) (nm:List UInt8):∀ (ts:List PT) (id site:Nat) (env:aV) (st:fY),(bS cls nm ts id site env st).2.e=0->(bS cls nm ts id site env st).2.at_=st.at_
 | [a,b,c],id,site,env,st=>by
  simp only[bS];intro h;have h3:=jV cls c _ _ _ _ h;have h0:=Jj (λe=>dJ cls c _ _ _ _ e) h;have h2:=jV cls b _ _ _ _ h0;have h00:=Jj (λe=>dJ cls b _ _ _ _ e) h0;rw[h3,h2,jV cls a id site env st h00]
 | [],_,_,_,st=>by simp[bS]
 | [_],_,_,_,st=>by simp[bS]
 | [_,_],_,_,_,st=>by simp[bS]
 | _::_::_::_::_,_,_,_,st=>by simp[bS]
end
theorem xS {e:PT} {ns:List NR} (aO:NA [] e 0 ns):nW ns (opn e 0)=dF e:=by
 have jN:(opn e 0).filterMap (cw ns)=e.Q3.map (·.1):=ve ns e [] 0 ns aO (λj _=>by rw[Nat.zero_add])
 have hlen:((opn e 0).filterMap (cw ns)).length=e.bz:=by rw[jN,List.length_map,Cp]
 unfold nW dF fX;rw[hlen]
 by_cases hm:100<e.bz
 ·simp only[if_pos hm]
  rw[if_pos (by decide),jN,List.getElem?_map]
 ·simp only[if_neg hm]
  rw[if_neg (by decide),M4 ns M5];have hA:=YC (List.range e.bz) (λx hx=>by rw[List.mem_range] at hx;omega) e [] ns [] (XE e) [] 0 0 aO trivial rfl ⟨by simp,by simp⟩;have hat:=jV (List.range e.bz) e 0 0 [] (XE e)
  rcases hA with ⟨h0,h1,_⟩ | ⟨_,h1⟩
  ·rw[h1,h0,hat h0];rfl
  ·exact h1
theorem xT {e:PT} {ns:List NR} (aO:NA [] e 0 ns):xK ns (opn e 0):=by
 have hl:=aO.len;refine⟨by rw[Jk,hl],λx hx=>?_⟩;have:=M6 e 0 x hx;simp only[Nat.zero_add] at this;omega
theorem tP {w w2:World} {A:Obj} (hb:Below (w.alloc A).heap.size (w.alloc A) w2):w2.heap[w.heap.size]?=some A:=by
 rw[hb.block w.heap.size (by simp)];exact aj w A
theorem n8 {w w2:World} {A:Obj} (hb:Below (w.alloc A).heap.size (w.alloc A) w2):Below w.heap.size w w2:=((Below.refl _ w).alloc (Nat.le_refl _) A).trans (hb.mono (by simp))
theorem oM (s:ByteArray) (w:World) (hs:s.size<=9000):Calls Tryz.prog 56 #[.string s] w λv w'=>tQ s true w v w':=by
 have jN:=wg s true (w.heap.size+1) hs _ _ _ _ _ (xU s hs) (Nl s true w (.cells #[.slice none 0 0,.slice none 0 0] 62));unfold ptr gb at jN;unfold tQ;generalize kB true s.size (tokens s.data.toList)=P at *
 go_enter Tryz.func56,Tryz.ntmps56
 go_wp2_with fail
 refine jN.mono ?_;rintro v w1 ⟨AJ,sL,wG,hfr,hin,hv⟩;obtain⟨hb,hr,hsz⟩:=hfr.toBelow
 have r0:w1.cell? ⟨w.heap.size,0,none⟩=some (.slice none 0 0):=by rw[aa hr];rfl
 have r1:w1.cell? ⟨w.heap.size,1,none⟩=some (.slice none 0 0):=by rw[aa hr];rfl
 have f0:=ag hr 0;have f1:=ag hr 1;have HB:Hid _:=hb
 rcases hv with ⟨q,hfl,rfl⟩ | ⟨hfl,rfl⟩
 ·have My:Hid _:=hfl
  unfold aQ;clear hfl hfr hin hb hr jN
  go_wp2
  refine bodyPost_ret (v:=.tuple #[.agg #[.slice none 0 0,.slice none 0 0],.int .i64 q,.bool false]) (by simp[results,Tryz.results56,go_sem,r0,r1]) rfl ⟨?_,Or.inl ⟨q,My.out,rfl⟩⟩;exact (HB.out.setCell (p:=⟨w.heap.size,0,none⟩) (Nat.le_refl _) _).setCell (p:=⟨w.heap.size,1,none⟩) (Nat.le_refl _) _
 ·have My:Hid _:=hfl
  obtain⟨x6,n6,c6,e6⟩:∃ a n c,sL=.slice a n c:=by
   rcases hin.nd.2 with ⟨h1,_⟩ | ⟨g,cap,cur,h1,_⟩
   ·exact⟨_,_,_,h1⟩
   ·exact⟨_,_,_,h1⟩
  obtain⟨x7,n7,c7,e7⟩:∃ a n c,wG=.slice a n c:=by
   rcases hin.op.2 with ⟨h1,_⟩ | ⟨g,cap,cur,h1,_⟩
   ·exact⟨_,_,_,h1⟩
   ·exact⟨_,_,_,h1⟩
  have pz:∀ k,sL.ownBlock=some k->k≠w.heap.size:=λk hk=>by
   rcases hfr.n k hk with e | e
   ·simp[Value.ownBlock] at e
   ·simp at e;omega
  have hro:∀ k,wG.ownBlock=some k->k≠w.heap.size:=λk hk=>by
   rcases hfr.o k hk with e | e
   ·simp[Value.ownBlock] at e
   ·simp at e;omega
  subst e6;subst e7
  have HT:Hid (bB ((w1.setCell ⟨w.heap.size,0,none⟩ (.slice x6 n6 c6)).setCell ⟨w.heap.size,1,none⟩ (.slice x7 n7 c7)) (.slice x6 n6 c6) (.slice x7 n7 c7) P.nodes P.opened):=by
   refine⟨ay hin.nd (λk hk=>?_),ay hin.op (λk hk=>?_)⟩
   ·rw[aq _ _ (by simpa using pz k hk),aq _ _ (by simpa using pz k hk)]
   ·rw[aq _ _ (by simpa using hro k hk),aq _ _ (by simpa using hro k hk)]
  unfold aQ;clear hfl hfr hin hb hr jN pz hro
  go_wp2
  refine bodyPost_ret (v:=.tuple #[.agg #[.slice x6 n6 c6,.slice x7 n7 c7],.int .i64 0,.bool true]) (by simp[results,Tryz.results56,go_sem,r0,r1]) rfl ⟨?_,Or.inr ⟨My.out,_,_,rfl,HT.out⟩⟩;exact (HB.out.setCell (p:=⟨w.heap.size,0,none⟩) (Nat.le_refl _) _).setCell (p:=⟨w.heap.size,1,none⟩) (Nat.le_refl _) _
open Go.Lib (strCells)
theorem xV {P:Program} (w:World) (t u ty e:TypeId) (i:TypeInfo) (ht:P.underlying t=some (.slice e)) (hu:P.underlying u=some .string) (hi:P.info? e=some i) (hz:i.zero=some (.int .u8 0))
  (hsize:i.size=1) (hby:i.bytes=1) (base:Nat) (v:Value) (n:Nat) (xs:List Value) (hown:w.ownsRow base e 1 v n xs) (s:ByteArray) (oX:n+s.size<=140737488355328) (hbase:base<=w.heap.size) :
  ∃ v' w',(Builtin.append_ #[t,u] ty #[v,.string s]).run P w=.ok v' w'/\w'.ownsRow base e 1 v' (n+s.size) (xs++strCells s)/\w.grownBy w' v.ownBlock/\(∀ g,v'.ownBlock=some g->v.ownBlock=some g\/w.heap.size<=g):=by
 have h63:n+s.size<=maxLen:=by unfold maxLen;omega
 obtain⟨v',w',hr,h2,h3,h4⟩:=Lib.run_append_own_string (P:=P) w base t u ty e i ht hu hi hz hsize hby v n xs hown s h63 oX hbase;refine⟨v',w',hr,h2,h3,?_⟩;intro g hg
 rcases hown.2 with ⟨hv,hn0⟩ | ⟨g0,cap,cur,hv,hgb,hh,hn',hcm,hcs,htake⟩
 ·subst hv
  subst hn0;have hx:xs=[]:=List.eq_nil_of_length_eq_zero (by simpa using hown.1);subst hx;obtain⟨v2,w2,dV,k2,_,_⟩:=Lib.run_append_own_string (P:=P) w w.heap.size t u ty e i ht hu hi hz hsize hby (.slice none 0 0) 0 [] (World.ownsRow_nil w _ e 1) s h63 oX (Nat.le_refl _);rw[hr] at dV
  cases dV
  exact Or.inr (k2.lt g hg).1
 ·subst hv
  by_cases hroom:n+s.size<=cap
  ·have dV:=Lib.run_append_room_string (P:=P) w t u ty e i ht hu hi hsize g0 n cap cur hh s hroom (by omega)
   rw[hr] at dV
   cases dV
   exact Or.inl hg
  ·have dV:=Lib.run_append_grow_string (P:=P) w t u ty e i (.int .u8 0) ht hu hi hz ⟨g0,0,none⟩ n cap xs (by rw[hsize];exact hown.1) (hown.cells (g:=g0) rfl) s (by omega) (by unfold maxLen at h63;omega) (by rw[hby];exact growslice_fits (by omega) (by omega))
   rw[hr] at dV
   cases dV
   simp[Value.ownBlock] at hg;exact Or.inr (by omega)
theorem tR {P:Program} {w:World} {ops:Array Oper} {rest:List Oper} {o:Oper} {a:Act} {Q:Exit->Act->World->Prop} (hgd:o.guard=none) (sl x:Operand) (t u:TypeId)
  (ho:o.op=.call { callee:=.builtin .append,args:=#[sl,x],argTypes:=#[t,u] }) (base:Nat) (e:TypeId) (i:TypeInfo) (ht:P.underlying t=some (.slice e)) (hu:P.underlying u=some .string) (hi:P.info? e=some i) (hz:i.zero=some (.int .u8 0))
  (hsize:i.size=1) (hby:i.bytes=1) (v:Value) (n:Nat) (xs:List Value) (hs:a.eval sl=v) (hown:w.ownsRow base e 1 v n xs) (s:ByteArray) (hx:a.eval x=.string s) (oX:n+s.size<=140737488355328) (hbase:base<=w.heap.size)
  (h:∀ v' w',w'.ownsRow base e 1 v' (n+s.size) (xs++strCells s)->w.grownBy w' v.ownBlock->(∀ g,v'.ownBlock=some g->v.ownBlock=some g\/w.heap.size<=g)->wpList P ops Q rest (a.put o.dst v') w'):wpList P ops Q (o::rest) a w:=by
 refine wpList_plain hgd λK hK=>?_
 obtain⟨v',w',hr,h2,h3,h4⟩:=xV (P:=P) w t u o.type e i ht hu hi hz hsize hby base v n xs hown s oX hbase;unfold Oper.wp execOp;simp only[ho,resolve,invoke,builtin,Sem.run_bind,Sem.run_pure,Result.andThen_ok,List.map_toArray,List.map_cons,List.map_nil,hs,hx,hr];exact hK _ _ (h v' w' h2 h3 h4)
theorem Tryz.Vn:(Tryz.prog.info? 5).map (λi=>(i.zero,i.size,i.bytes))=some (some (.int .u8 0),1,1):=by kernel_rfl
theorem Tryz.xW:Tryz.prog.underlying 82=some (.slice 5):=by kernel_rfl
theorem Tryz.G5:Tryz.prog.underlying 9=some .string:=by kernel_rfl
structure Ly where
 lr:Value
 la:Value
 regs:List Int
 news:List Int
structure lu (L:Ly) (wb:Nat) (w:World) (nv ov v:Value) (tx:List UInt8):Prop where
 blk:w.heap[wb]?=some (.cells #[nv,ov,L.lr,L.la,v] 95 (0,0))
 row:w.ownsRow (wb+1) 5 1 v tx.length (strCells (bs tx))
structure kL (wb:Nat) (w w':World) (v v':Value):Prop where
 os:w'.os=w.os
 tape:w'.tape=w.tape
 output:w'.output=w.output
 size:w.heap.size<=w'.heap.size
 blk:∀ k,k<w.heap.size->k≠wb->v.ownBlock≠some k->w'.heap[k]?=w.heap[k]?
 o:∀ g,v'.ownBlock=some g->v.ownBlock=some g\/w.heap.size<=g
theorem kL.refl (wb:Nat) (w:World) (v:Value):kL wb w w v v:=⟨rfl,rfl,rfl,Nat.le_refl _,λ_ _ _ _=>rfl,λ_ h=>Or.inl h⟩
theorem kL.trans {wb:Nat} {w w1 w2:World} {v v1 v2:Value} (h:kL wb w w1 v v1) (h':kL wb w1 w2 v1 v2):kL wb w w2 v v2:=by
 refine⟨h'.os.trans h.os,h'.tape.trans h.tape,h'.output.trans h.output,Nat.le_trans h.size h'.size,?_,?_⟩
 ·intro k hk hp ho
  rw[h'.blk k (Nat.lt_of_lt_of_le hk h.size) hp (λe=>by rcases h.o k e with e | e;exact ho e;omega)];exact h.blk k hk hp ho
 ·intro g hg
  rcases h'.o g hg with e | e
  ·exact h.o g e
  ·exact Or.inr (Nat.le_trans h.size e)
theorem kL.kC {wb:Nat} {w w':World} (v:Value) (h:Below w.heap.size w w'):kL wb w w' v v:=⟨h.os,h.tape,h.output,h.size,λk hk _ _=>h.block k hk,λ_ h=>Or.inl h⟩
theorem lu.below {L:Ly} {wb:Nat} {w w':World} {nv ov v:Value} {tx:List UInt8} (h:lu L wb w nv ov v tx) (hb:Below w.heap.size w w'):lu L wb w' nv ov v tx :=
 ⟨by rw[hb.block wb (af h.blk)];exact h.blk,aB h.row hb⟩
theorem mH {L:Ly} (wb:Nat) (w:World) (nv ov v:Value) (tx s:List UInt8) (h:lu L wb w nv ov v tx) (hl:tx.length+s.length<=400000000) :
  Calls Tryz.prog 78 #[.pointer (some ⟨wb,0,none⟩),.string (bs s)] w λe w'=>∃ v',e=.returned (.tuple #[])/\kL wb w w' v v'/\lu L wb w' nv ov v' (tx++s):=by
 obtain⟨i0,hi,hz0,hz1,hz2⟩:=info_parts Tryz.Vn;have HI:Hid _:=hi;have rR:Hid _:=hz0;have rS:Hid _:=hz1;have rT:Hid _:=hz2;clear hi hz0 hz1 hz2;have hb:=h.blk;have hlt:=af hb
 have x2:w.cell? ⟨wb,4,none⟩=some v:=by rw[aa hb];rfl
 have hsl:=bE s
 obtain⟨xa,xn,xc,hv⟩:∃ a n c,v=.slice a n c:=by
  rcases h.row.2 with ⟨h1,_⟩ | ⟨g,cap,cur,h1,_⟩
  ·exact⟨_,_,_,h1⟩
  ·exact⟨_,_,_,h1⟩
 subst hv;have HW:Hid _:=h;have HBK:Hid _:=hb;clear h hb
 go_enter Tryz.func78,Tryz.ntmps78
 go_wp2_with (at_builtin;go_must (refine tR rfl (.tmp 8) (.tmp 9) 82 9 rfl (wb+1) 5 i0 Tryz.xW Tryz.G5 HI.out rR.out rS.out rT.out _ tx.length (strCells (bs tx)) rfl HW.out.row (bs s) rfl (by omega) (by omega) ?_))
 intro v' w1 hown hgrow hfresh
 obtain⟨ya,yn,yc,hv'⟩:∃ a n c,v'=.slice a n c:=by
  rcases hown.2 with ⟨h1,_⟩ | ⟨g,cap,cur,h1,_⟩
  ·exact⟨_,_,_,h1⟩
  ·exact⟨_,_,_,h1⟩
 subst hv'
 have hnb:(Value.slice xa xn xc).ownBlock≠some wb:=λe=>by have:=(HW.out.row.lt wb e).1;omega
 have hb1:w1.heap[wb]?=some (.cells #[nv,ov,L.lr,L.la,.slice xa xn xc] 95 (0,0)):=by rw[hgrow.block wb hlt (λe=>hnb e.symm)];exact HBK.out
 have x2':w1.cell? ⟨wb,4,none⟩=some (.slice xa xn xc):=by rw[aa hb1];rfl
 have f2:=ag hb1 4;have KR:=af hb1;have hset:=aA hb1 4 (.slice ya yn yc);have Cq:Hid _:=hset;have HO:Hid (w1.ownsRow (wb+1) 5 1 (.slice ya yn yc) (tx.length+s.length) (strCells (bs tx)++strCells (bs s))):=hown;have HG:Hid _:=hgrow;have HF:Hid _:=hfresh;clear hown hgrow hfresh hb1 hset
 go_wp2
 refine bodyPost_end (v:=.tuple #[]) (by simp[results,Tryz.results78,go_sem]) rfl ⟨.slice ya yn yc,rfl,?_,?_⟩
 ·refine⟨HG.out.os,HG.out.tape,HG.out.output,by have:=HG.out.size;simp[World.setCell];omega,?_,HF.out⟩
  intro k hk df hko;rw[aq _ _ (by simpa using df)];exact HG.out.block k hk (λe=>hko e.symm)
 ·refine⟨Cq.out,?_⟩
  have e:strCells (bs tx)++strCells (bs s)=strCells (bs (tx++s)):=by simp[strCells,bs]
  have h:=HO.out;rw[e] at h;rw[List.length_append];refine ay h (λk hk=>aq _ _ ?_);have:=(h.lt k hk).1;simp only;omega
open Go.Lib (decDigits)
mutual
def gN (ns:List NR):PT->Nat->Prop
 | .num _ s,base=>∃ n,ns[base]?=some n/\n.form=1/\n.num=ak s
 | .name _ s,base=>∃ n,ns[base]?=some n/\n.form=2/\n.word=s
 | .node _ k nm _ kids,base=>(∃ n,ns[base+ax kids]?=some n/\n.form=aZ k/\n.word=nm/\n.p0=(az kids base).getD 0 (-1)/\n.p1=(az kids base).getD 1 (-1)/\n.p2=(az kids base).getD 2 (-1))/\gq ns kids base
def gq (ns:List NR):List PT->Nat->Prop
 | [],_=>True
 | t::r,base=>gN ns t base/\gq ns r (base+t.cnt)
end
theorem Cr {α:Type} (pre a post:List α) (j:Nat) (x:α) (h:a[j]?=some x):(pre++(a++post))[pre.length+j]?=some x:=by
 have hj:=(List.getElem?_eq_some_iff.1 h).1;rw[List.getElem?_append_right (by omega),Nat.add_sub_cancel_left,List.getElem?_append_left hj];exact h
mutual
theorem NA.shows:∀ {scope:Sc} {t:PT} {base:Nat} {ms:List NR},NA scope t base ms->∀ (pre post:List NR),pre.length=base->gN (pre++(ms++post)) t base
 | _,.num _ s,_,_,h,pre,post,hb=>by
  simp only[NA] at h;subst h;subst hb;simp only[gN];exact⟨_,Cr pre _ post 0 _ rfl,rfl,rfl⟩
 | _,.name _ s,_,_,h,pre,post,hb=>by
  simp only[NA] at h;subst h;subst hb;simp only[gN];exact⟨_,Cr pre _ post 0 _ rfl,rfl,rfl⟩
 | _,.node p k nm rg kids,base,_,h,pre,post,hb=>by
  simp only[NA] at h;obtain⟨ks,aL,h1,rfl⟩:=h;have hl:=cK.len h1;simp only[gN];refine⟨⟨⟨aZ k,p,aL,0,nm,ak rg,-1,(az kids base).getD 0 (-1),(az kids base).getD 1 (-1),(az kids base).getD 2 (-1)⟩,?_,rfl,rfl,rfl,rfl,rfl⟩,?_⟩
  ·rw[<- hl];conv=>lhs;rw[show base+ks.length=pre.length+ks.length from by rw[hb]]
   refine Cr pre _ post ks.length _ ?_;rw[List.getElem?_append_right (Nat.le_refl _),Nat.sub_self];rfl
  ·have h2:=cK.shows h1 pre (⟨aZ k,p,aL,0,nm,ak rg,-1,(az kids base).getD 0 (-1),(az kids base).getD 1 (-1),(az kids base).getD 2 (-1)⟩::post) hb
   rw[List.append_assoc,List.singleton_append];exact h2
theorem cK.shows:∀ {scope:Sc} {nm:List UInt8} {ts:List PT} {bs:List Bool} {base:Nat} {ms:List NR},cK scope nm ts bs base ms->∀ (pre post:List NR),pre.length=base->gq (pre++(ms++post)) ts base
 | _,_,[],_,_,_,_,_,_,_=>by simp[gq]
 | _,_,_::_,[],_,_,h,_,_,_=>by simp[cK] at h
 | _,_,t::r,b::bs,_,_,h,pre,post,hb=>by
  simp only[cK] at h;obtain⟨a,c,h1,h2,rfl⟩:=h;have hl:=NA.len h1;simp only[gq]
  constructor
  ·have:=NA.shows h1 pre (c++post) hb
   rw[List.append_assoc];exact this
  ·have:=cK.shows h2 (pre++a) post (by rw[List.length_append,hl,hb])
   simp only[List.append_assoc] at this ⊢;exact this
end
theorem NA.G6 {scope:Sc} {t:PT} {ns:List NR} (h:NA scope t 0 ns):gN ns t 0:=by
 have:=NA.shows h [] [] rfl
 simpa using this
theorem G7 (k:Kw) (w:World) (hk:k≠.new):Calls Tryz.prog 121 #[.int .i64 (aZ k)] w λv w'=>v=.returned (.string (bs k.bytes))/\w'=w:=by
 cases k <;> first | exact absurd rfl hk | (go_enter Tryz.func121,Tryz.ntmps121;go_wp2;go_ret;exact⟨rfl,rfl⟩)
def KS:Kw->Int
 | .aP=>0
 | .loop=>1
 | _=>-1
theorem sM (k:Kw) (w:World):Calls Tryz.prog 122 #[.int .i64 (aZ k)] w λv w'=>v=.returned (.int .i64 (KS k))/\w'=w:=by
 cases k <;> (go_enter Tryz.func122,Tryz.ntmps122;go_wp2;go_ret;exact⟨rfl,rfl⟩)
def XF (r:Nat):List UInt8:=[40,110,101,119]++([32,35]++(decDigits r++[32]))
def uQ:List Int->Nat->Int->List UInt8
 | [],_,_=>[]
 | a::l,r,i=>(if a=i then XF r else [])++uQ l (r+1) i
def uR (news:List Int) (i:Int):Nat:=(news.filter (·==i)).length
def XG (news:List Int) (i:Int):List UInt8:=List.replicate (uR news i) 41
def jW (regs:List Int) (i:Nat):Int:=(regs[i]?).getD (-1)
def Qy (regs:List Int) (i:Nat):List UInt8:=if jW regs i=-1 then [] else [32,35]++decDigits (jW regs i).toNat
mutual
def PT.Ap (regs news:List Int):PT->Nat->List UInt8
 | .num _ s,_=>decDigits (ak s).toNat
 | .name _ s,_=>s
 | .node _ k nm _ kids,b=>if k=.new then (iK regs news kids b).headD [] else 40::(k.bytes++(Qy regs (b+ax kids)++(bh k nm 0 (iK regs news kids b)++[41])))
def iK (regs news:List Int):List PT->Nat->List (List UInt8)
 | [],_=>[]
 | t::r,b=>(uQ news 0 ((b+t.cnt:Nat)-1:Int)++(PT.Ap regs news t b++XG news ((b+t.cnt:Nat)-1:Int)))::iK regs news r (b+t.cnt)
end
def PT.wW (regs news:List Int) (t:PT) (b:Nat):List UInt8:=uQ news 0 ((b+t.cnt:Nat)-1:Int)++(t.Ap regs news b++XG news ((b+t.cnt:Nat)-1:Int))
theorem DZ (i a:Int):∀ (l:List Int) (r:Nat),uQ (l++[a]) r i=uQ l r i++(if a=i then XF (r+l.length) else [])
 | [],r=>by simp[uQ]
 | x::l,r=>by
  simp only[List.cons_append,uQ,DZ i a l (r+1),List.append_assoc,List.length_cons];rw[show r+1+l.length=r+(l.length+1) by omega]
theorem Nn (l:List Int) (a i:Int):uR (l++[a]) i=uR l i+(if a=i then 1 else 0):=by
 unfold uR;rw[List.filter_append,List.length_append]
 by_cases h:a=i <;> simp[h]
theorem Jl (r:Nat) (h:r<=9999):(XF r).length<=11:=by
 have:=lP r h;unfold XF;simp only[List.length_append,List.length_cons,List.length_nil];omega
theorem wX (i:Int):∀ (l:List Int) (r:Nat),r+l.length<=9999->(uQ l r i).length<=11*l.length
 | [],_,_=>by simp[uQ]
 | a::l,r,h=>by
  simp only[List.length_cons] at h;have h1:=wX i l (r+1) (by omega);have h2:=Jl r (by omega);simp only[uQ,List.length_append,List.length_cons]
  split
  ·omega
  ·simp only[List.length_nil];omega
theorem G8 (l:List Int) (i:Int):uR l i<=l.length:=List.length_filter_le _ _
theorem Cs (regs:List Int) (i:Nat) (h:jW regs i<=9999):(Qy regs i).length<=6:=by
 unfold Qy
 split
 ·simp
 ·have:=lP (jW regs i).toNat (by omega)
  simp only[List.length_append,List.length_cons,List.length_nil];omega
structure YD (regs news:List Int):Prop where
 n:news.length<=150
 r:∀ i,jW regs i<=9999
theorem pR (k:Kw) (nm:List UInt8) (h:nm.length<=9000):∀ (l:List (List UInt8)) (i:Nat) (B:Nat),(l.map λx=>x.length+9002).sum<=B->(bh k nm i l).length<=B
 | [],_,_,_=>by simp[bh]
 | x::r,i,B,hb=>by
  simp only[List.map_cons,List.sum_cons] at hb;have h1:=pR k nm h r (i+1) (B-(x.length+9002)) (by omega);have h2:=GZ k nm i x h;simp only[bh,List.length_append];omega
mutual
theorem Jn {regs news:List Int} (H:YD regs news):∀ (t:PT) (b:Nat),t.bQ->(t.Ap regs news b).length+9002+1800<=20000*t.cnt
 | .num _ s,_,h=>by
  simp only[PT.bQ] at h;simp only[PT.Ap,PT.cnt];have:=lP (ak s).toNat (by omega);omega
 | .name _ s,_,h=>by simp only[PT.bQ] at h;simp only[PT.Ap,PT.cnt];omega
 | .node _ k nm _ kids,b,h=>by
  simp only[PT.bQ] at h;have h0:=xX H kids b h.2;have h1:=pR k nm h.1 (iK regs news kids b) 0 _ h0
  have h3:k.bytes.length<=4:=by cases k <;> decide
  have h4:=Cs regs (b+ax kids) (H.r _)
  have h5:((iK regs news kids b).headD []).length<=20000*ax kids:=by
   cases hw:iK regs news kids b with
   | nil=>simp
   | cons x r=>rw[hw] at h0;simp only[List.map_cons,List.sum_cons,List.headD_cons] at h0 ⊢;omega
  simp only[PT.Ap,PT.cnt]
  split
  ·omega
  ·simp only[List.length_cons,List.length_append,List.length_nil];omega
theorem xX {regs news:List Int} (H:YD regs news):∀ (ts:List PT) (b:Nat),bH ts->((iK regs news ts b).map λx=>x.length+9002).sum<=20000*ax ts
 | [],_,_=>by simp[iK]
 | t::r,b,h=>by
  simp only[bH] at h;have h1:=Jn H t b h.1;have h2:=xX H r (b+t.cnt) h.2;have h3:=wX ((b+t.cnt:Nat)-1:Int) news 0 (by have:=H.n;omega);have h4:=G8 news ((b+t.cnt:Nat)-1:Int);have h5:=H.n;simp only[iK,List.map_cons,List.sum_cons,ax,List.length_append,XG,List.length_replicate];omega
end
theorem vf (regs news:List Int):∀ (ts:List PT) (b j:Nat),iK regs news (ts.take j) b=(iK regs news ts b).take j
 | [],b,j=>by simp[iK]
 | t::r,b,0=>by simp[iK]
 | t::r,b,j+1=>by simp[iK,vf regs news r (b+t.cnt) j]
theorem D1 (regs news:List Int):∀ (ts:List PT) (b j:Nat) (x:PT),ts[j]?=some x->(iK regs news ts b)[j]?=some (x.wW regs news (b+ax (ts.take j)))
 | [],_,_,_,h=>by simp at h
 | t::r,b,0,x,h=>by simp only[List.getElem?_cons_zero,Option.some.injEq] at h;subst h;simp[iK,PT.wW,ax]
 | t::r,b,j+1,x,h=>by
  have:=D1 regs news r (b+t.cnt) j x (by simpa using h);simp only[iK,List.getElem?_cons_succ,List.take_succ_cons,ax,<- Nat.add_assoc];exact this
theorem pS (regs news:List Int):∀ (ts:List PT) (b:Nat),(iK regs news ts b).length=ts.length
 | [],_=>rfl
 | t::r,b=>by simp[iK,pS regs news r]
def mV (regs news:List Int) (k:Kw) (nm:List UInt8) (kids:List PT) (b i j:Nat):List UInt8:=40::(k.bytes++(Qy regs i++bh k nm 0 (iK regs news (kids.take j) b)))
theorem KU (regs news:List Int) (k:Kw) (nm:List UInt8) (kids:List PT) (b i j:Nat) (x:PT) (hx:kids[j]?=some x):mV regs news k nm kids b i (j+1)=mV regs news k nm kids b i j++bF k nm j (x.wW regs news (b+ax (kids.take j))):=by
 have hlt:j<kids.length:=(List.getElem?_eq_some_iff.1 hx).1;unfold mV;rw[vf,vf,List.take_add_one,D1 regs news kids b j x hx];simp only[Option.toList_some];rw[sK,List.length_take,pS,Nat.min_eq_left (by omega),Nat.zero_add];simp[List.append_assoc]
theorem D2 {regs news:List Int} (H:YD regs news) (k:Kw) (nm:List UInt8) (kids:List PT) (b i j:Nat) (hn:nm.length<=9000) (ht:bH kids):(mV regs news k nm kids b i j).length<=11+20000*ax (kids.take j):=by
 have h0:=xX H (kids.take j) b (xR kids j ht);have h1:=pR k nm hn (iK regs news (kids.take j) b) 0 _ h0
 have h3:k.bytes.length<=4:=by cases k <;> decide
 have h4:=Cs regs i (H.r _);unfold mV;simp only[List.length_cons,List.length_append];omega
theorem Np (regs news:List Int) (p:Nat) (k:Kw) (nm rg:List UInt8) (kids:List PT) (b:Nat) (hk:k≠.new):mV regs news k nm kids b (b+ax kids) kids.length++[41]=(PT.node p k nm rg kids).Ap regs news b:=by
 unfold mV;simp[PT.Ap,hk]
def vg (t:Tk):Prop:=t.c=.GH->0<=ak t.s/\ak t.s<=999
theorem Vo (l:List UInt8):(aN l).2=.GH->0<=ak (l.take (aN l).1)/\ak (l.take (aN l).1)<=999:=by
 unfold aN
 split
 ·intro h
  simp only[eQ] at h
  split at h
  ·simp at h
  ·split at h <;> simp at h
 ·split
  ·intro h
   simp only at h
   split at h <;> simp at h
  ·split
   ·simp
   ·rename_i c r _ _
    split
    ·rename_i hc
     intro h;simp only at h
     split at h
     ·rename_i hn
      simp only[cL,Bool.and_eq_true,decide_eq_true_eq] at hn;have hf:=xQ (r.take (run 48 57 r)) 0 (λc hc=>xP 48 57 r c hc) (by omega);have hp:10 ^ (r.take (run 48 57 r)).length<=10 ^ 3:=Nat.pow_le_pow_right (by omega) hn.1.2;simp only[List.take_succ_cons];unfold ak;rw[List.foldl_cons,if_pos hc];omega
     ·simp at h
    ·intro h
     simp only at h
     split at h
     ·simp at h
     ·split at h <;> simp at h
theorem nE (l:List UInt8):∀ t∈tokens l,vg t:=by
 intro t ht;obtain⟨l',_,hs,hc⟩:=tM _ _ _ t ht;unfold vg;rw[hs,hc];exact Vo l'
mutual
def PT.rK:PT->Prop
 | .num _ _=>True
 | .name _ _=>True
 | .node _ _ _ rg kids=>(0<=ak rg/\ak rg<=999)/\n9 kids
def n9:List PT->Prop
 | []=>True
 | t::r=>t.rK/\n9 r
end
mutual
theorem PE.rK {ae:Bool}:∀ {l:List Tk} {e:PT} {r:List Tk},PE ae l e r->(∀ t∈l,vg t)->e.rK/\∀ t∈r,vg t
 | _,_,_,.num _,ha=>⟨by simp[PT.rK],λx hx=>ha x (by simp[hx])⟩
 | _,_,_,.name _,ha=>⟨by simp[PT.rK],λx hx=>ha x (by simp[hx])⟩
 | _,_,_,.node _ _ _ h4,ha=>by
  have h:=PW.rK h4 (λx hx=>ha x (by simp[hx]));exact⟨by simp only[PT.rK];exact⟨h.1,h.2.1⟩,h.2.2⟩
theorem PW.rK {ae:Bool}:∀ {ws:List Wt} {l:List Tk} {nm rg:List UInt8} {kids:List PT} {r:List Tk},PW ae ws l nm rg kids r->(∀ t∈l,vg t)->(0<=ak rg/\ak rg<=999)/\n9 kids/\∀ t∈r,vg t
 | _,_,_,_,_,_,.nil,ha=>⟨by decide,by simp[n9],ha⟩
 | _,_,_,_,_,_,.close _ h1,ha=>PW.rK h1 (λx hx=>ha x (by simp[hx]))
 | _,_,_,_,_,_,.name _ h1,ha=>PW.rK h1 (λx hx=>ha x (by simp[hx]))
 | _,_,_,_,_,_,.region (t:=t) h h1,ha=>by
  have h':=PW.rK h1 (λx hx=>ha x (by simp[hx]));exact⟨ha t (by simp) h,h'.2⟩
 | _,_,_,_,_,_,.e h0 h1,ha=>by
  have a:=PE.rK h0 ha;have b:=PW.rK h1 a.2;exact⟨b.1,by simp only[n9];exact⟨a.1,b.2.1⟩,b.2.2⟩
end
def posOf (len:Nat):List Tk->Nat
 | []=>len
 | t::_=>t.at_
theorem dO (len:Nat) (t:Tk) (r:List Tk):posOf len (t::r)=t.at_:=rfl
theorem Bc (len:Nat):posOf len []=len:=rfl
def kD (len:Nat):List Tk->Prop
 | []=>True
 | t::r=>0<t.s.length/\t.at_+t.s.length<=posOf len r/\kD len r
theorem xY (len:Nat):∀ (f p:Nat) (l:List UInt8),p+l.length=len->kD len (toks f p l)/\p<=posOf len (toks f p l)
 | 0,p,l,h=>by simp only[toks,kD,Bc,true_and];omega
 | f+1,p,[],h=>by simp only[toks,kD,Bc,true_and];simp at h;omega
 | f+1,p,c::r,h=>by
  simp only[List.length_cons] at h;simp only[toks]
  split
  ·have:=xY len f (p+1) r (by omega)
   exact⟨this.1,by omega⟩
  ·have hp:=mE (c::r)
   have hl:=su (c::r) (by simp);simp only[List.length_cons] at hl;have:=xY len f (p+(aN (c::r)).1) ((c::r).drop (aN (c::r)).1) (by simp only[List.length_drop,List.length_cons];omega);simp only[kD,dO,List.length_take,List.length_cons];exact⟨⟨by omega,by omega,this.1⟩,Nat.le_refl _⟩
theorem xZ (l:List UInt8):kD l.length (tokens l):=(xY l.length l.length 0 l (by omega)).1
mutual
def bG:PT->List NR->Nat->Nat->Prop
 | .num p _,ns,lo,hi=>∃ n,ns=[n]/\n.at_=p/\lo<=p/\p<n.aL/\n.aL<=hi
 | .name p _,ns,lo,hi=>∃ n,ns=[n]/\n.at_=p/\lo<=p/\p<n.aL/\n.aL<=hi
 | .node p _ _ _ kids,ns,lo,hi=>∃ ks n,ns=ks++[n]/\n.at_=p/\lo<=p/\ba kids ks (p+1) n.aL/\p<n.aL/\n.aL<=hi
def ba:List PT->List NR->Nat->Nat->Prop
 | [],ns,lo,hi=>ns=[]/\lo<=hi
 | t::r,ns,lo,hi=>∃ a c mid,ns=a++c/\bG t a lo mid/\ba r c mid hi
end
theorem bG.lo {t:PT} {ns:List NR} {lo YE hi:Nat} (h:bG t ns lo hi) (hl:YE<=lo):bG t ns YE hi:=by
 cases t with
 | num p s=>simp only[bG] at h ⊢;obtain⟨n,h1,h2,h3,h4⟩:=h;exact⟨n,h1,h2,by omega,h4⟩
 | name p s=>simp only[bG] at h ⊢;obtain⟨n,h1,h2,h3,h4⟩:=h;exact⟨n,h1,h2,by omega,h4⟩
 | node p k nm rg kids=>simp only[bG] at h ⊢;obtain⟨ks,n,h1,h2,h3,h4⟩:=h;exact⟨ks,n,h1,h2,by omega,h4⟩
theorem ba.lo {ts:List PT} {ns:List NR} {lo YE hi:Nat} (h:ba ts ns lo hi) (hl:YE<=lo):ba ts ns YE hi:=by
 cases ts with
 | nil=>simp only[ba] at h ⊢;exact⟨h.1,by omega⟩
 | cons t r=>simp only[ba] at h ⊢;obtain⟨a,c,mid,h1,h2,h3⟩:=h;exact⟨a,c,mid,h1,h2.lo hl,h3⟩
theorem ba.hi:∀ {ts:List PT} {ns:List NR} {lo hi hi':Nat},ba ts ns lo hi->hi<=hi'->ba ts ns lo hi'
 | [],_,_,_,_,h,hl=>by simp only[ba] at h ⊢;exact⟨h.1,by omega⟩
 | t::r,_,_,_,_,h,hl=>by simp only[ba] at h ⊢;obtain⟨a,c,mid,h1,h2,h3⟩:=h;exact⟨a,c,mid,h1,h2,h3.hi hl⟩
theorem bG.lt {t:PT} {ns:List NR} {lo hi:Nat} (h:bG t ns lo hi):lo<hi:=by
 cases t with
 | num p s=>simp only[bG] at h;obtain⟨n,h1,h2,h3,h4⟩:=h;omega
 | name p s=>simp only[bG] at h;obtain⟨n,h1,h2,h3,h4⟩:=h;omega
 | node p k nm rg kids=>simp only[bG] at h;obtain⟨ks,n,h1,h2,h3,h4⟩:=h;omega
theorem ba.le:∀ {ts:List PT} {ns:List NR} {lo hi:Nat},ba ts ns lo hi->lo<=hi
 | [],_,_,_,h=>by simp only[ba] at h;exact h.2
 | t::r,_,_,_,h=>by simp only[ba] at h;obtain⟨a,c,mid,h1,h2,h3⟩:=h;have:=h2.lt;have:=h3.le;omega
def Vp (ae:Bool) (len:Nat) (pE:PS->Int × PS) (m:Nat):Prop:=∀ (l:List Tk) (e:PT) (r:List Tk),PE ae l e r->l.length<=m->kD len l->∀ st:PS,st.l=l->st.fl=none ->
 ∃ ns,(pE st).2.nodes=st.nodes++ns/\bG e ns (posOf len l) (posOf len r)
theorem Nq {ae:Bool} {len:Nat} {pE:PS->Int × PS} {m:Nat} (hY:Vp ae len pE m) (w:List UInt8) (src:Int) {l:List Tk} {e:PT} {r:List Tk} (h:PE ae l e r) (hm:l.length<=m) (ht:kD len l) (st:PS) (hl:st.l=l) (hf:st.fl=none) :
  ∃ ns,(fF pE w src st).2.nodes=st.nodes++ns/\bG e ns (posOf len l) (posOf len r):=hY l e r h hm ht { st with scope:=st.scope++[(w,src)] } hl hf
mutual
theorem PE.Ct {ae:Bool} {len:Nat}:∀ {l:List Tk} {e:PT} {r:List Tk},PE ae l e r->kD len l->kD len r/\posOf len l<=posOf len r
 | _,_,_,.num _,h=>by simp only[kD] at h;exact⟨h.2.2,by simp only[dO];omega⟩
 | _,_,_,.name _,h=>by simp only[kD] at h;exact⟨h.2.2,by simp only[dO];omega⟩
 | _,_,_,.node _ _ _ h4,h=>by
  simp only[kD] at h;have:=PW.Ct h4 h.2.2.2.2;have h1:=h.2.1;simp only[dO] at h1 ⊢;exact⟨this.1,by omega⟩
theorem PW.Ct {ae:Bool} {len:Nat}:∀ {ws:List Wt} {l:List Tk} {nm rg:List UInt8} {kids:List PT} {r:List Tk},PW ae ws l nm rg kids r->kD len l->kD len r/\posOf len l<=posOf len r
 | _,_,_,_,_,_,.nil,h=>⟨h,Nat.le_refl _⟩
 | _,_,_,_,_,_,.close _ h1,h=>by simp only[kD] at h;have:=PW.Ct h1 h.2.2;simp only[dO];exact⟨this.1,by omega⟩
 | _,_,_,_,_,_,.name _ h1,h=>by simp only[kD] at h;have:=PW.Ct h1 h.2.2;simp only[dO];exact⟨this.1,by omega⟩
 | _,_,_,_,_,_,.region _ h1,h=>by simp only[kD] at h;have:=PW.Ct h1 h.2.2;simp only[dO];exact⟨this.1,by omega⟩
 | _,_,_,_,_,_,.e h0 h1,h=>by have a:=PE.Ct h0 h;have b:=PW.Ct h1 a.1;exact⟨b.1,by omega⟩
end
theorem Q4 {ae:Bool} (len:Nat) {pE:PS->Int × PS} {m:Nat} (hY:Nr ae pE m) (hP:Vp ae len pE m):∀ (is:List sN) (l:List Tk) (nm rg:List UInt8) (kids:List PT) (r:List Tk),PW ae (is.map sN.wt++[.close]) l nm rg kids r ->
  l.length<=m->kD len l->∀ (st:PS) (fs:FS),st.l=l->st.fl=none ->
  ∃ t ns,(ik len pE is fs st).2.l=t::r/\(ik len pE is fs st).2.nodes=st.nodes++ns/\ba kids ns (posOf len l) t.at_/\0<t.s.length/\t.at_+t.s.length<=posOf len r:=by
 intro is
 induction is with
 | nil =>
  intro l nm rg kids r h hm ht st fs hl hf;simp only[List.map_nil,List.nil_append] at h
  cases h with
  | close hc h1 =>
   cases h1
   simp only[kD] at ht;refine⟨_,[],by simp only[ik];exact hl,by simp only[ik,List.append_nil],?_,ht.1,ht.2.1⟩;simp only[ba,dO,true_and];exact Nat.le_refl _
 | cons i is ih =>
  intro l nm rg kids r h hm ht st fs hl hf
  cases i with
  | name =>
   simp only[List.map_cons,sN.wt,List.cons_append] at h
   cases h with
   | name hc h1 =>
    rename_i t r1 nm1
    simp only[List.length_cons] at hm;simp only[kD] at ht
    have hk:(fE len st.l).kind=4:=by rw[hl];exact (nB _).2 hc
    have hex:st.expect len 4={ st with l:=r1 }:=by
     unfold PS.expect;rw[if_neg (by simp[hk])];simp[PS.tail,hl]
    obtain⟨t',ns,h2,h3,h4,h5⟩:=ih r1 nm1 rg kids r h1 (by omega) ht.2.2 { st with l:=r1 } { fs with word:=(fE len st.l).word } rfl hf;refine⟨t',ns,?_,?_,h4.lo (by simp only[dO];omega),h5⟩
    ·simp only[ik];rw[hex];exact h2
    ·simp only[ik];rw[hex];exact h3
  | region =>
   simp only[List.map_cons,sN.wt,List.cons_append] at h
   cases h with
   | region hc h1 =>
    rename_i t r1 rg1
    simp only[List.length_cons] at hm;simp only[kD] at ht
    have hk:(fE len st.l).kind=6:=by rw[hl];exact (qI _).2 hc
    have hex:st.expect len 6={ st with l:=r1 }:=by
     unfold PS.expect;rw[if_neg (by simp[hk])];simp[PS.tail,hl]
    obtain⟨t',ns,h2,h3,h4,h5⟩:=ih r1 nm rg1 kids r h1 (by omega) ht.2.2 { st with l:=r1 } { fs with region:=(fE len st.l).num } rfl hf;refine⟨t',ns,?_,?_,h4.lo (by simp only[dO];omega),h5⟩
    ·simp only[ik];rw[hex];exact h2
    ·simp only[ik];rw[hex];exact h3
  | e =>
   simp only[List.map_cons,sN.wt,List.cons_append] at h
   cases h with
   | e he h1 =>
    rename_i e r1 x5
    have hlt:=he.len;have htk:=he.Ct ht;obtain⟨Q5,ct,fk⟩:=hY l e r1 he hm st hl hf;obtain⟨YF,hq0,hpos⟩:=hP l e r1 he hm ht st hl hf;obtain⟨t',ns,h2,h3,h4,h5⟩:=ih r1 nm rg x5 r h1 (by omega) htk.1 (pE st).2 { fs with parts:=fs.parts++[(pE st).1] } (by rw[fk]) (by rw[fk];exact hf);refine⟨t',YF++ns,?_,?_,?_,h5⟩
    ·simp only[ik];exact h2
    ·simp only[ik];rw[h3,hq0,List.append_assoc]
    ·simp only[ba];exact⟨YF,ns,_,rfl,hpos,h4⟩
  | body =>
   simp only[List.map_cons,sN.wt,List.cons_append] at h
   cases h with
   | e he h1 =>
    rename_i e r1 x5
    have hlt:=he.len;have htk:=he.Ct ht;obtain⟨Q5,ct,fk⟩:=x8 hY fs.word (fs.parts.getLastD (-1)) he hm st hl hf;obtain⟨YF,hq0,hpos⟩:=Nq hP fs.word (fs.parts.getLastD (-1)) he hm ht st hl hf;obtain⟨t',ns,h2,h3,h4,h5⟩:=ih r1 nm rg x5 r h1 (by omega) htk.1 (fF pE fs.word (fs.parts.getLastD (-1)) st).2 { fs with parts:=fs.parts++[(fF pE fs.word (fs.parts.getLastD (-1)) st).1] } (by rw[fk]) (by rw[fk];exact hf);refine⟨t',YF++ns,?_,?_,?_,h5⟩
    ·simp only[ik];exact h2
    ·simp only[ik];rw[h3,hq0,List.append_assoc]
    ·simp only[ba];exact⟨YF,ns,_,rfl,hpos,h4⟩
theorem Ns (ae:Bool) (len:Nat):∀ n:Nat,Vp ae len (fG ae len n) n:=by
 intro n
 induction n with
 | zero =>
  intro l e r h hm;obtain⟨t,r',he,_⟩:=h.suffix;rw[he] at hm;simp at hm
 | succ m ih =>
  intro l e r h hm ht st hl hf
  cases h with
  | num hc =>
   rename_i t
   simp only[kD] at ht;obtain⟨ns,hn,hp⟩:=(pT ae len (m+1)).1 _ _ _ (PE.num hc) hm st hl hf;simp only[NA] at hn;subst hn;refine⟨_,by rw[hp],⟨_,rfl,rfl,Nat.le_refl _,?_⟩⟩;simp only;exact⟨by omega,ht.2.1⟩
  | name hc =>
   rename_i t
   simp only[kD] at ht;obtain⟨ns,hn,hp⟩:=(pT ae len (m+1)).1 _ _ _ (PE.name hc) hm st hl hf;simp only[NA] at hn;subst hn;refine⟨_,by rw[hp],⟨_,rfl,rfl,Nat.le_refl _,?_⟩⟩;simp only;exact⟨by omega,ht.2.1⟩
  | node hc hk hw h4 =>
   rename_i t u k r0 nm rg kids
   have A9:¬ (dw (bR u.c)=0\/(dw (bR u.c)=12/\ae=false)):=by
    rw[og,hk];exact hw
   rw[oh k ae hw] at h4;simp only[List.length_cons] at hm;simp only[kD] at ht;obtain⟨c,ns,h1,h2,h3,h5,h6⟩:=Q4 len (pT ae len m).1 ih (sO k ae) r0 nm rg kids r h4 (by omega) ht.2.2.2.2 { st with opened:=st.opened++[-1],l:=r0 } ⟨[],[],0⟩ rfl hf
   obtain ⟨c',ns',h1',_,h3'⟩:=Jo len (pT ae len m).1 (sO k ae) r0 nm rg kids r h4 (Jp k ae) (by omega)
     { st with opened:=st.opened++[-1],l:=r0 } ⟨[],[],0⟩ nm rfl hf (λe=>absurd e (Bd k ae)) (by
      split
      ·rfl
      ·rename_i hn
       have:Wt.name ∉ (sO k ae).map sN.wt++[.close]:=by
        intro hh
        rcases List.mem_append.1 hh with hh | hh
        ·obtain⟨i,hi,e⟩:=List.mem_map.1 hh
         cases i with
         | name=>exact hn (by simpa using hi)
         | _=>cases e
        ·simp at hh
       exact (PW.x9 h4 this).symm)
   have hcc:c=c':=by rw[h3'] at h1;simp only at h1;cases h1;rfl
   subst hcc;have h21:=ht.2.1;simp only[dO] at h21;have h22:=ht.2.2.2.1;refine⟨ns++[{ NR.filled ⟨aZ k,t.at_,t.at_+t.s.length,0,[],0,-1,-1,-1,-1⟩ (ik len (fG ae len m) (sO k ae) ⟨[],[],0⟩ { st with opened:=st.opened++[-1],l:=r0 }).1 with aL:=c.at_+c.s.length }],?_,⟨ns,_,rfl,rfl,Nat.le_refl _,?_,?_,h6⟩⟩
   ·show (jg (jf len (ig ae len (fG ae len m))) st).2.nodes=_
    unfold jg;rw[yd len _ { st with opened:=st.opened++[-1] } hl hc];unfold ig;have htk:fE len (u::r0)=iF u:=rfl;simp only[htk];rw[if_neg (by simpa [iF] using A9)]
    have hform:dw (iF u).kind=aZ k:=by simp[iF,hk,aZ]
    rw[hform,vh ae len _ k hw];simp only[PS.tail,List.tail_cons];have hkc:(fE len (c::r)).kind=3:=(uX _).2 h1';simp only[PS.expect,h1,hkc];rw[if_neg (by simp)];simp only[PS.tail,PS.add,h2,List.append_assoc];rfl
   ·exact (h3.lo (by omega)).hi (by show c.at_<=c.at_+c.s.length;omega)
   ·have hlo:posOf len r0<=c.at_:=h3.le
    show t.at_<c.at_+c.s.length
    omega
theorem G9 (a:Nat) (st:PS):(st.fail a).nodes=st.nodes:=by unfold PS.fail;split <;> rfl
theorem Cu (len k:Nat) (st:PS):(st.expect len k).nodes=st.nodes:=by
 unfold PS.expect
 split
 ·rw[G9];rfl
 ·rfl
theorem D3 {ae:Bool} {len:Nat} {l:List Tk} {e:PT} (h:PE ae l e []) (ht:kD len l):bG e (kB ae len l).nodes (posOf len l) len:=by
 obtain⟨ns,h1,h2⟩:=Ns ae len l.length l e [] h (Nat.le_refl _) ht (ps0 l) rfl rfl;unfold kB;rw[Cu,h1];exact h2
structure Bri (r:Rec) (n:NR):Prop where
 p:r.p=n.at_
 nw:n.form=12↔r.op=Kw.new.bytes
 pr:n.form=4↔r.op=Kw.pair.bytes
 rg:n.form=12\/n.form=4->n.region=r.n
 il:(n.form=7\/n.form=11)↔(r.op=Kw.di.bytes\/r.op=Kw.loop.bytes)
theorem Nt (k:Kw):(aZ k=12↔k.bytes=Kw.new.bytes)/\(aZ k=4↔k.bytes=Kw.pair.bytes)/\((aZ k=7\/aZ k=11)↔(k.bytes=Kw.di.bytes\/k.bytes=Kw.loop.bytes)):=by cases k <;> decide
theorem Bri.node (k:Kw) (p:Nat) (nm rg:List UInt8) (a b c aL:Nat) (src p0 p1 p2 num:Int):Bri ⟨k.bytes,p,nm,ak rg,a,b,c⟩ ⟨aZ k,p,aL,num,nm,ak rg,src,p0,p1,p2⟩ :=
 ⟨rfl,(Nt k).1,(Nt k).2.1,λ_=>rfl,(Nt k).2.2⟩
end Go.Proofs.YtpicaknklgccoabGreatDoor
