import Derived.Test.YtpicaknklgccoabGreatDoorS2
import Derived.Deep.RegionLaw
set_option maxHeartbeats 4000000
set_option maxRecDepth 100000
namespace Go.Proofs.YtpicaknklgccoabGreatDoor
open Go.RowKit
theorem xW (s:ByteArray) (ae:Bool) (pb:Nat) (w:World) (sv nv ov:Value) (st:PS) (a:Nat) (h:eC s ae pb w sv nv ov st) :
  Calls Tryz.prog 119 #[ptr pb,.int .i64 a] w fun v w'=>v=.returned (.tuple #[])/\bz pb pb w w' sv nv ov sv nv ov/\eC s ae pb w' sv nv ov (st.fail a):=by
 obtain ⟨fr,hf1,hf2,hf3⟩:=h.y
 have y0:w.cell? ⟨pb,0,none⟩=some (.string s):=by rw [aa hf3];rfl
 have y2:w.cell? ⟨pb,2,none⟩=some (.int .i64 fr):=by rw [aa hf3];rfl
 have y3:w.cell? ⟨pb,3,none⟩=some (.bool st.fl.isSome):=by rw [aa hf3];rfl
 have y4:w.cell? ⟨pb,4,none⟩=some (.int .i64 (st.fl.getD 0)):=by rw [aa hf3];rfl
 have g2:w.frozen? ⟨pb,2,none⟩=false:=ag hf3 2
 have g3:w.frozen? ⟨pb,3,none⟩=false:=ag hf3 3
 have g4:w.frozen? ⟨pb,4,none⟩=false:=ag hf3 4
 have HH:Hid _:=h
 have dK:Hid _:=hf3
 have rS:=af hf3
 clear hf1 hf2 hf3 h
 show Calls _ _ #[Value.pointer (some ⟨pb,0,none⟩),_] w _
 cases hfl:st.fl with
 | some q =>
  have e:st.fail a=st:=by unfold PS.fail;rw [hfl]
  rw [hfl] at y3 y4
  rw [e]
  simp only [Option.isSome_some] at y3
  clear e hfl
  go_enter Tryz.func119,Tryz.ntmps119
  go_wp2
  refine bodyPost_ret (v:=.tuple #[]) (by simp [results,Tryz.results119,go_sem]) rfl ⟨rfl,bz.refl _ _ _ _ _ _,HH.out⟩
 | none =>
  have e:st.fail a={ st with l:=[],fl:=some a }:=by unfold PS.fail;rw [hfl]
  rw [hfl] at y3 y4
  rw [e]
  simp only [Option.isSome_none] at y3
  have K6:Hid _:=hfl
  clear e hfl
  go_enter Tryz.func119,Tryz.ntmps119
  go_wp2
  refine bodyPost_end (v:=.tuple #[]) (by simp [results,Tryz.results119,go_sem]) rfl ⟨rfl,?_,?_⟩
  ·refine ⟨rfl,rfl,rfl,by simp [World.setCell],?_,fun _ h=>Or.inl h,fun _ h=>Or.inl h,fun _ h=>Or.inl h⟩
   intro k hk hkp _ _ _ _
   rw [ak _ _ (by simpa using hkp),ak _ _ (by simpa using hkp),ak _ _ (by simpa using hkp)]
  ·have kp:∀ k,k≠pb->(((w.setCell ⟨pb,3,none⟩ (.bool true)).setCell ⟨pb,4,none⟩ (.int .i64 a)).setCell ⟨pb,2,none⟩ (.int .i64 s.size)).heap[k]?=w.heap[k]?:=by
    intro k hkp
    rw [ak _ _ (by simpa using hkp),ak _ _ (by simpa using hkp),ak _ _ (by simpa using hkp)]
   refine eC.move HH.out [] (some a) (fun k hk=>kp k (fun e=>HH.out.sy (by rw [hk,e]))) (fun k hk=>kp k (fun e=>HH.out.ny (by rw [hk,e]))) (fun k hk=>kp k (fun e=>HH.out.oy (by rw [hk,e]))) ⟨s.size,Nat.le_refl _,vI s s.size (Nat.le_refl _),?_⟩
   exact ay (ay (ay dK.out 3 _) 4 _) 2 _
theorem Ii {s:ByteArray} {ae:Bool} {pb nb:Nat} {w w1 w2 W:World} {A:Obj} {sv nv ov fC bB fH:Value} {st st':PS} (h:eC s ae pb w sv nv ov st) (hfr:bz pb nb (w.alloc A) w1 sv nv ov fC bB fH) (hin:eC s ae pb w1 fC bB fH st')
  (hb:Below w1.heap.size w1 w2) (lH:W.heap.size=w2.heap.size) (mP:∀ k,k≠w.heap.size->W.heap[k]?=w2.heap[k]?) (e1:W.os=w2.os) (e2:W.tape=w2.tape) (e3:W.output=w2.output) :
  bz pb nb w W sv nv ov fC bB fH/\eC s ae pb W fC bB fH st':=by
 obtain ⟨l1,l2,l3,l4⟩:=h.slt
 have hsz:w.heap.size+1<=w1.heap.size:=by have:=hfr.size;simpa using this
 have hbs:=hb.size
 have f0:bz pb nb w w1 sv nv ov fC bB fH:=(bz.below pb nb sv nv ov ((Below.refl _ w).alloc (Nat.le_refl _) A)).trans hfr
 have f1:=f0.trans (bz.below pb nb fC bB fH hb)
 refine ⟨⟨e1.trans f1.os,e2.trans f1.tape,e3.trans f1.output,by rw [lH];exact f1.size,fun k hk hp hn a b c=>by rw [mP k (by omega)];exact f1.blk k hk hp hn a b c,f1.s,f1.n,f1.o⟩,?_⟩
 obtain ⟨m1,m2,m3,m4⟩:=hin.slt
 have hal:(w.alloc A).heap.size=w.heap.size+1:=by simp
 have kp:∀ k,k < w1.heap.size->k≠w.heap.size->W.heap[k]?=w1.heap[k]?:=fun k hk hne=>by rw [mP k hne];exact hb.block k hk
 obtain ⟨fr,y1,y2,y3⟩:=hin.y
 refine eC.move hin st'.l st'.fl (fun k hk=>kp k (m1 k hk) ?_) (fun k hk=>kp k (m2 k hk) ?_) (fun k hk=>kp k (m3 k hk) ?_) ⟨fr,y1,y2,by rw [kp pb m4 (by omega)];exact y3⟩
 ·rcases hfr.s k hk with e | e
  ·have:=l1 k e;omega
  ·omega
 ·rcases hfr.n k hk with e | e
  ·have:=l2 k e;omega
  ·omega
 ·rcases hfr.o k hk with e | e
  ·have:=l3 k e;omega
  ·omega
theorem bz.Nt {pb nb:Nat} {w w1:World} {A:Obj} {sv nv ov fC bB fH:Value} (hfr:bz pb nb (w.alloc A) w1 sv nv ov fC bB fH) (l1:∀ k,sv.ownBlock=some k->k < w.heap.size) (l2:∀ k,nv.ownBlock=some k->k < w.heap.size) (l3:∀ k,ov.ownBlock=some k->k < w.heap.size) (l4:pb < w.heap.size) (l5:nb < w.heap.size) :
  w1.heap[w.heap.size]?=some A:=by
 rw [hfr.blk w.heap.size (by simp) (by omega) (by omega) (fun e=>by have:=l1 _ e;omega) (fun e=>by have:=l2 _ e;omega) (fun e=>by have:=l3 _ e;omega)]
 exact aj _ _
theorem ll (s:ByteArray) (ae:Bool) (pb:Nat) (w:World) (sv nv ov:Value) (st:PS) (k:Nat) (hs:s.size<=9000) (h:eC s ae pb w sv nv ov st) :
  Calls Tryz.prog 92 #[ptr pb,.int .i64 k] w fun v w'=>v=.returned (iz (eY s.size st.l))/\bz pb pb w w' sv nv ov sv nv ov/\eC s ae pb w' sv nv ov (st.expect s.size k):=by
 have htk:=fun w h=>wV s ae pb w sv nv ov st hs h
 have hfa:=fun w a h=>xW s ae pb w sv nv ov st.tail a h
 have HH:Hid _:=h
 obtain ⟨l1,l2,l3,l4⟩:=h.slt
 have R6:Hid _:=l1
 have XL:Hid _:=l2
 have XM:Hid _:=l3
 have hex:st.expect s.size k=if (eY s.size st.l).kind≠k then st.tail.fail (eY s.size st.l).at_ else st.tail:=rfl
 rw [hex]
 clear hex l1 l2 l3 h
 generalize eY s.size st.l=T at htk
 unfold iz ptr at htk
 unfold ptr at hfa
 have ha:eC s ae pb (w.alloc (.cells #[.int .i64 0,.int .i64 0,.int .i64 0,.string ⟨#[]⟩,.int .i64 0] 159)) sv nv ov st:=HH.out.below ((Below.refl _ w).alloc (Nat.le_refl _) _)
 have Q4:=htk _ ha
 show Calls _ _ #[Value.pointer (some ⟨pb,0,none⟩),_] w _
 clear htk ha
 by_cases hk:T.kind=k
 ·have hkb:((T.kind:Int) != (k:Int))=false:=by simp [hk]
  rw [if_neg (by simp [hk])]
  clear hk hfa
  go_enter Tryz.func92,Tryz.ntmps92
  go_wp2_with fail
  refine Q4.mono ?_
  rintro _ w1 ⟨rfl,hfr,hin⟩
  have hs1:w.heap.size+1<=w1.heap.size:=by have:=hfr.size;simpa using this
  have G7:w1.heap[w.heap.size]?=some (.cells #[.int .i64 0,.int .i64 0,.int .i64 0,.string ⟨#[]⟩,.int .i64 0] 159 (0,0)):=by
   rw [hfr.blk w.heap.size (by simp) (by omega) (by omega) (fun e=>by have:=R6.out _ e;omega) (fun e=>by have:=XL.out _ e;omega) (fun e=>by have:=XM.out _ e;omega)]
   exact aj _ _
  have aaQ:=aN (.cells #[.int .i64 T.kind,.int .i64 T.at_,.int .i64 T.aR,.string (bs T.word),.int .i64 T.num] 159) G7
  have qI:Hid _:=hfr
  have mq:Hid _:=hin
  have aaR:w.heap.size≠w1.heap.size:=by omega
  clear hfr hin G7 Q4
  go_wp2_with (refine jq rfl 159 (.tmp 4) (.tmp 16) rfl w.heap.size #[.int .i64 T.kind,.int .i64 T.at_,.int .i64 T.aR,.string (bs T.word),.int .i64 T.num] rfl rfl 159 _ aaQ Tryz.tN rfl (tO T) ?_;intro W hW lH mP hW1 hW2 hW3)
  obtain ⟨d0,d1,d2,d3,d4⟩:=fW hW
  refine bodyPost_ret (v:=.agg #[.int .i64 T.kind,.int .i64 T.at_,.int .i64 T.aR,.string (bs T.word),.int .i64 T.num]) (by simp [results,Tryz.results92,go_sem,d0,d1,d2,d3,d4]) rfl ⟨rfl,Ii HH.out qI.out mq.out ((Below.refl _ w1).alloc (Nat.le_refl _) _) lH mP hW1 hW2 hW3⟩
 ·have hkb:((T.kind:Int) != (k:Int))=true:=by simp;omega
  rw [if_pos hk]
  clear hk
  go_enter Tryz.func92,Tryz.ntmps92
  go_wp2_with fail
  refine Q4.mono ?_
  rintro _ w1 ⟨rfl,hfr,hin⟩
  have G7:=hfr.Nt R6.out XL.out XM.out l4 l4
  have hs1:w.heap.size+1<=w1.heap.size:=by have:=hfr.size;simpa using this
  have qI:Hid _:=hfr
  have mq:Hid _:=hin
  have aaR:w.heap.size≠w1.heap.size:=by omega
  clear hfr hin Q4
  go_wp2_with fail
  refine (hfa _ T.at_ (mq.out.below ((Below.refl _ w1).alloc (Nat.le_refl _) _))).mono ?_
  rintro _ w3 ⟨rfl,bQ,dZ⟩
  have hlt:=mq.out.slt
  have hq:=bQ.Nt hlt.1 hlt.2.1 hlt.2.2.1 hlt.2.2.2 hlt.2.2.2
  obtain ⟨c0,c1,c2,c3,c4⟩:=fW hq
  have aaS:w3.heap[w.heap.size]?=some (.cells #[.int .i64 0,.int .i64 0,.int .i64 0,.string ⟨#[]⟩,.int .i64 0] 159 (0,0)):=by
   rw [bQ.blk w.heap.size (by simp;omega) (by omega) (by omega) (fun e=>by have:=R6.out _ e;omega) (fun e=>by have:=XL.out _ e;omega) (fun e=>by have:=XM.out _ e;omega)]
   exact aN _ G7
  have dK:Hid _:=qI.out.trans ((bz.below pb pb sv nv ov ((Below.refl _ w1).alloc (Nat.le_refl _) _)).trans bQ)
  have Ug:Hid _:=dZ
  clear bQ dZ hq hlt G7
  go_wp2_with (refine jq rfl 159 (.tmp 4) (.tmp 16) rfl w.heap.size #[.int .i64 T.kind,.int .i64 T.at_,.int .i64 T.aR,.string (bs T.word),.int .i64 T.num] rfl rfl 159 _ aaS Tryz.tN rfl (tO T) ?_;intro W hW lH mP hW1 hW2 hW3)
  obtain ⟨d0,d1,d2,d3,d4⟩:=fW hW
  refine bodyPost_ret (v:=.agg #[.int .i64 T.kind,.int .i64 T.at_,.int .i64 T.aR,.string (bs T.word),.int .i64 T.num]) (by simp [results,Tryz.results92,go_sem,d0,d1,d2,d3,d4]) rfl ⟨rfl,Ii HH.out dK.out Ug.out (Below.refl _ _) lH mP hW1 hW2 hW3⟩
theorem Kg (env:aQ) (x:List UInt8 × Ty) (s:List UInt8):look (env++[x]) s=if x.1 == s then some x.2 else look env s:=by
 unfold look
 rw [List.reverse_append,List.reverse_singleton,List.singleton_append,List.find?_cons]
 cases h:(x.1 == s) <;> simp
def arity (k:Kw):Nat:=match k with
 | .aT=>2
 | .pair=>2
 | .fst=>1
 | .snd=>1
 | .dQ=>3
 | .add=>2
 | .sub=>2
 | .less=>2
 | .loop=>3
 | .new=>1
def j3 (env:aQ) (st:dM):Prop:=(∀ x∈env,x.2.fit)/\(st.e=0->∀ x∈env,x.2.size<=63)
def Ij (st:dM) (x:Ty × dM):Prop:=x.1.fit/\(x.2.e=0->st.e=0/\x.1.size<=63)/\x.2.of.length=st.of.length
def Ik (st:dM) (x:Ty × dM):Prop:=x.1.fit/\(x.2.e=0->st.e=0)/\x.2.of.length=st.of.length
theorem lU:Ty.n.fit:=⟨by simp [Ty.size],trivial⟩
theorem xX (st:dM) (e p:Nat):(cZ st e p).of.length=st.of.length:=by unfold cZ;split <;> rfl
theorem tE (st:dM) (e p:Nat) (he:e≠0):(cZ st e p).e≠0:=by unfold cZ;split <;> simp_all
theorem F9 {id p:Nat} {st:dM} {x:Ty × dM} (h:Ik st x):Ij st (fin id p x):=by
 obtain ⟨h1,h2,h3⟩:=h
 unfold Ij
 by_cases hb:x.2.e=0/\63 < x.1.size
 ·have e:fin id p x=(x.1,{ (cZ x.2 6 p) with of:=(cZ x.2 6 p).of.set id x.1.txt }):=by simp only [fin];rw [if_pos hb]
  rw [e]
  refine ⟨h1,fun h0=>absurd h0 (tE _ _ _ (by decide)),?_⟩
  simp only [List.length_set];rw [xX];exact h3
 ·have e:fin id p x=(x.1,{ x.2 with of:=x.2.of.set id x.1.txt }):=by simp only [fin];rw [if_neg hb]
  rw [e]
  refine ⟨h1,fun h0=>⟨h2 h0,?_⟩,by simp only [List.length_set];exact h3⟩
  simp only at h0 ⊢
  exact Nat.le_of_not_lt (fun h=>hb ⟨h0,h⟩)
theorem DN {env:aQ} {s:List UInt8} {t:Ty} (h:look env s=some t):∃ x∈env,x.2=t:=by
 unfold look at h
 rw [Option.map_eq_some_iff] at h
 obtain ⟨x,hx,rfl⟩:=h
 exact ⟨x,by have:=List.mem_of_find?_eq_some hx;simpa using this,rfl⟩
theorem Nu {cls:List Nat} {k:Kw} {p site:Nat} {ks:List Ty} {st:dM} (hc:∀ x∈cls,x < 1000) (hk:∀ t∈ks,t.fit/\t.size<=63):Ik st (bD cls k p site ks st):=by
 have hr:cls.getD site 0 < 1000:=by
  rw [List.getD_eq_getElem?_getD]
  cases h:cls[site]? with
  | none=>simp
  | some x=>exact hc x (List.mem_of_getElem? h)
 have err:Ik st (Ty.n,cZ st 5 p):=⟨lU,fun h=>absurd h (tE _ _ _ (by decide)),xX _ _ _⟩
 unfold bD
 split
 ·rename_i a _;exact ⟨(hk a (by simp)).1,fun h=>h,rfl⟩
 ·rename_i a b
  have ha:=hk a (by simp)
  have hb:=hk b (by simp)
  exact ⟨⟨by simp only [Ty.size];omega,⟨hr,ha.1.2,hb.1.2⟩⟩,fun h=>h,rfl⟩
 ·rename_i r a b _
  have ha:=hk (.p r a b) (by simp)
  exact ⟨⟨by show a.size<=127;have:=ha.2;simp only [Ty.size] at this;omega,ha.1.2.2.1⟩,fun h=>h,rfl⟩
 ·rename_i r a b _
  have ha:=hk (.p r a b) (by simp)
  exact ⟨⟨by show b.size<=127;have:=ha.2;simp only [Ty.size] at this;omega,ha.1.2.2.2⟩,fun h=>h,rfl⟩
 ·rename_i a b c
  split
  ·exact ⟨(hk b (by simp)).1,fun h=>h,rfl⟩
  ·exact err
 ·rename_i a b c
  split
  ·exact ⟨(hk b (by simp)).1,fun h=>h,rfl⟩
  ·exact err
 ·split
  ·exact ⟨lU,fun h=>h,rfl⟩
  ·exact err
 ·split
  ·exact ⟨lU,fun h=>h,rfl⟩
  ·exact err
 ·split
  ·exact ⟨lU,fun h=>h,rfl⟩
  ·exact err
 ·exact err
theorem j3.on {env:aQ} {st st':dM} (h:j3 env st) (hs:st'.e=0->st.e=0):j3 env st':=⟨h.1,fun h0=>h.2 (hs h0)⟩
theorem j3.snoc {env:aQ} {st:dM} {nm:List UInt8} {x:Ty × dM} (h:j3 env st) (hx:Ij st x):j3 (env++[(nm,x.1)]) x.2:=by
 constructor
 ·intro y hy
  rcases List.mem_append.1 hy with hy | hy
  ·exact h.1 y hy
  ·rw [List.mem_singleton] at hy;subst hy;exact hx.1
 ·intro h0 y hy
  rcases List.mem_append.1 hy with hy | hy
  ·exact h.2 (hx.2.1 h0).1 y hy
  ·rw [List.mem_singleton] at hy;subst hy;exact (hx.2.1 h0).2
def Ve (st:dM) (x:List Ty × dM):Prop:=(∀ t∈x.1,t.fit)/\(x.2.e=0->st.e=0/\∀ t∈x.1,t.size<=63)/\x.2.of.length=st.of.length
mutual
theorem fw (cls:List Nat) (hc:∀ x∈cls,x < 1000):∀ (t:PT) (id site:Nat) (env:aQ) (st:dM),j3 env st->Ij st (aD cls t id site env st)
 | .num p s,id,site,env,st,h=>by simp only [aD];exact F9 ⟨lU,fun h=>h,rfl⟩
 | .name p s,id,site,env,st,h=>by
  simp only [aD]
  refine F9 ?_
  split
  ·rename_i t ht
   obtain ⟨x,hx,rfl⟩:=DN ht
   exact ⟨h.1 x hx,fun h=>h,rfl⟩
  ·exact ⟨lU,fun h=>absurd h (tE _ _ _ (by decide)),xX _ _ _⟩
 | .node p k nm rg kids,id,site,env,st,h=>by
  simp only [aD]
  refine F9 ?_
  split
  ·have:=Nv cls hc nm kids (id+1) site env st h
   exact ⟨this.1,fun h0=>(this.2.1 h0),this.2.2⟩
  ·have hx:Ve st (if k=.loop then aW cls nm kids (id+1) site env st else bh cls kids (id+1) (site+if k=.pair then 1 else 0) env st):=by
    split
    ·exact Kh cls hc nm kids _ _ env st h
    ·exact Aw cls hc kids _ _ env st h
   generalize (if k=.loop then aW cls nm kids (id+1) site env st else bh cls kids (id+1) (site+if k=.pair then 1 else 0) env st)=x at hx
   split
   ·rename_i hne
    exact ⟨lU,fun h0=>absurd h0 hne,hx.2.2⟩
   ·rename_i hne
    have h0:x.2.e=0:=by simpa using hne
    have hm:=Nu (k:=k) (p:=p) (site:=site) (st:=x.2) hc (fun t ht=>⟨hx.1 t ht,(hx.2.1 h0).2 t ht⟩)
    exact ⟨hm.1,fun h1=>(hx.2.1 (hm.2.1 h1)).1,hm.2.2.trans hx.2.2⟩
theorem Aw (cls:List Nat) (hc:∀ x∈cls,x < 1000):∀ (ts:List PT) (id site:Nat) (env:aQ) (st:dM),j3 env st->Ve st (bh cls ts id site env st)
 | [],_,_,_,st,_=>by simp only [bh];exact ⟨by simp,fun h=>⟨h,by simp⟩,rfl⟩
 | a::r,id,site,env,st,h=>by
  simp only [bh]
  have h1:=fw cls hc a id site env st h
  have h2:=Aw cls hc r (id+a.cnt) (site+a.bK) env (aD cls a id site env st).2 (h.on (fun h0=>(h1.2.1 h0).1))
  refine ⟨?_,?_,h2.2.2.trans h1.2.2⟩
  ·intro t ht
   rcases List.mem_cons.1 ht with rfl | ht
   ·exact h1.1
   ·exact h2.1 t ht
  ·intro h0
   have q:=h2.2.1 h0
   have q1:=h1.2.1 q.1
   refine ⟨q1.1,?_⟩
   intro t ht
   rcases List.mem_cons.1 ht with rfl | ht
   ·exact q1.2
   ·exact q.2 t ht
theorem Nv (cls:List Nat) (hc:∀ x∈cls,x < 1000) (nm:List UInt8):∀ (ts:List PT) (id site:Nat) (env:aQ) (st:dM),j3 env st->Ik st (dH cls nm ts id site env st)
 | [a,b],id,site,env,st,h=>by
  simp only [dH]
  have h1:=fw cls hc a id site env st h
  have h2:=fw cls hc b (id+a.cnt) (site+a.bK) (env++[(nm,(aD cls a id site env st).1)]) (aD cls a id site env st).2 (h.snoc h1)
  exact ⟨h2.1,fun h0=>(h1.2.1 (h2.2.1 h0).1).1,h2.2.2.trans h1.2.2⟩
 | [],_,_,_,st,_=>by simp only [dH];exact ⟨lU,fun h=>h,rfl⟩
 | [_],_,_,_,st,_=>by simp only [dH];exact ⟨lU,fun h=>h,rfl⟩
 | _::_::_::_,_,_,_,st,_=>by simp only [dH];exact ⟨lU,fun h=>h,rfl⟩
theorem Kh (cls:List Nat) (hc:∀ x∈cls,x < 1000) (nm:List UInt8):∀ (ts:List PT) (id site:Nat) (env:aQ) (st:dM),j3 env st->Ve st (aW cls nm ts id site env st)
 | [a,b,c],id,site,env,st,h=>by
  simp only [aW]
  have h1:=fw cls hc a id site env st h
  have h2:=fw cls hc b (id+a.cnt) (site+a.bK) env (aD cls a id site env st).2 (h.on (fun h0=>(h1.2.1 h0).1))
  have h3:=fw cls hc c (id+a.cnt+b.cnt) (site+a.bK+b.bK) (env++[(nm,(aD cls b (id+a.cnt) (site+a.bK) env (aD cls a id site env st).2).1)]) (aD cls b (id+a.cnt) (site+a.bK) env (aD cls a id site env st).2).2 ((h.on (fun h0=>(h1.2.1 h0).1)).snoc h2)
  refine ⟨?_,?_,h3.2.2.trans (h2.2.2.trans h1.2.2)⟩
  ·intro t ht
   simp only [List.mem_cons,List.not_mem_nil,or_false] at ht
   rcases ht with rfl | rfl | rfl
   ·exact h1.1
   ·exact h2.1
   ·exact h3.1
  ·intro h0
   have q3:=h3.2.1 h0
   have q2:=h2.2.1 q3.1
   have q1:=h1.2.1 q2.1
   refine ⟨q1.1,?_⟩
   intro t ht
   simp only [List.mem_cons,List.not_mem_nil,or_false] at ht
   rcases ht with rfl | rfl | rfl
   ·exact q1.2
   ·exact q2.2
   ·exact q3.2
 | [],_,_,_,st,_=>by simp only [aW];exact ⟨by simp,fun h=>⟨h,by simp⟩,rfl⟩
 | [_],_,_,_,st,_=>by simp only [aW];exact ⟨by simp,fun h=>⟨h,by simp⟩,rfl⟩
 | [_,_],_,_,_,st,_=>by simp only [aW];exact ⟨by simp,fun h=>⟨h,by simp⟩,rfl⟩
 | _::_::_::_::_,_,_,_,st,_=>by simp only [aW];exact ⟨by simp,fun h=>⟨h,by simp⟩,rfl⟩
end
theorem sJ {P:Program} {ops:Array Oper} {o:Oper} {a:Act} {w:World} {K:Act->World->Prop} {Q:Exit->Act->World->Prop} {E:Prop}
  (hg:o.guard=none) (s x:Operand) (t:TypeId) (hop:o.op=Op.call { callee:=Callee.builtin Builtin.append,args:=#[s,x],argTypes:=#[t,t] })
  (e:TypeId) (i:TypeInfo) (z:Value) (size bytes:Nat) (h1:P.underlying t=some (.slice e)) (h2:P.info? e=some i) (h3:i.zero=some z) (h4:i.size=size) (h5:i.bytes=bytes) (h6:z.cells.size=size) (h7:0 < size)
  (v:Value) (n:Nat) (xs:List Value) (hs:a.eval s=v) (hown:w.ownsRow 0 e size v n xs)
  (ad:Addr) (m c:Nat) (news:List Value) (hx:a.eval x=.slice (some ad) m c) (hn:news.length=m * size) (hc:∀ j u,news[j]?=some u->w.cell? (ad.add j)=some u) (h1c:∀ u∈news,u.oneCell'=true)
  (hm:0 < m) (b1:n+m<=maxLen) (b2:(n+m) * bytes<=140737488355328)
  (hK:∀ (g cap:Nat) (w':World),w'.ownsRow 0 e size (.slice (some ⟨g,0,none⟩) (n+m) cap) (n+m) (xs++news)->w.grownBy w' v.ownBlock->(v.ownBlock=some g\/w.heap.size<=g)->K (a.put o.dst (.slice (some ⟨g,0,none⟩) (n+m) cap)) w') :
  if Region.wanted o (yielded ops a.tmps)=true then Oper.wp P o a w K Q else E:=by
 have hw:Region.wanted o (yielded ops a.tmps)=true:=by simp [Region.wanted,hg]
 rw [if_pos hw]
 have fin:∀ (v':Value) (w':World),w'.ownsRow w.heap.size e size v' (n+m) (xs++news)->w.grownBy w' none->K (a.put o.dst v') w':=by
  intro v' w' C5 hg'
  obtain ⟨g,cap,hv'⟩:∃ g cap,v'=.slice (some ⟨g,0,none⟩) (n+m) cap:=by
   rcases C5.2 with ⟨_,hh⟩ | ⟨g,cap,cur,hv,_⟩
   ·omega
   ·exact ⟨_,_,hv⟩
  subst hv'
  have hlt:=C5.lt g rfl
  exact hK g cap w' (dn C5 (fun k hk=>Nat.zero_le _)) ⟨hg'.os,hg'.tape,hg'.output,hg'.size,fun k hk _=>hg'.block k hk (by simp)⟩ (Or.inr hlt.1)
 rcases hown.2 with ⟨hv,hn0⟩ | ⟨g,cap,cur,hv,hgb,hh,hn',hcm,hcs,htake⟩
 ·subst hn0
  have hxs:xs=[]:=List.length_eq_zero_iff.1 (by have:=hown.1;omega)
  subst hxs
  obtain ⟨v',w',hrun,r1,r2,_⟩:=run_append_own (P:=P) w w.heap.size t o.type e i z size bytes h1 h2 h3 h4 h5 h6 h7 (.slice none 0 0) 0 [] (World.ownsRow_nil w _ e size) ad m c news hn hc h1c b1 b2 (Nat.le_refl _)
  unfold Oper.wp
  rw [hv] at hs
  simp [execOp,hop,resolve,invoke,builtin,hs,hx,hrun,Result.andThen]
  exact fin v' w' r1 r2
 ·by_cases hroom:n+m<=cap
  ·have hown':=hown
   rw [hv] at hown' hs
   obtain ⟨w',hrun,r1,r2⟩:=run_append_fits (P:=P) w 0 t o.type e i size h1 h2 h4 g n cap xs hown' ad m c news hn hc h1c hroom
   unfold Oper.wp
   simp [execOp,hop,resolve,invoke,builtin,hs,hx,hrun,Result.andThen]
   exact hK g cap w' r1 (by rw [hv];exact r2) (Or.inl (by rw [hv];rfl))
  ·obtain ⟨v',w',hrun,r1,r2⟩:=run_append_arg_grows (P:=P) w t o.type e i z size bytes h1 h2 h3 h4 h5 h6 h7 ⟨g,0,none⟩ n cap xs hown.1 (fun j u hj=>hown.cells (by rw [hv];rfl) j u hj) ad m c news hn hc (by omega) b1 b2
   unfold Oper.wp
   rw [hv] at hs
   simp [execOp,hop,resolve,invoke,builtin,hs,hx,hrun,Result.andThen]
   exact fin v' w' r1 r2
theorem Tryz.CC:(Tryz.prog.info? 108).map (fun i=>(i.zero,i.size,i.bytes))=some (some (.agg #[.int .i64 0,.int .i64 0,.int .i64 0,.int .i64 0,.string ⟨#[]⟩,.int .i64 0,.int .i64 0,.int .i64 0,.int .i64 0,.int .i64 0]),10,88):=by kernel_rfl
theorem Tryz.CE:Tryz.prog.underlying 60=some (.slice 108):=by kernel_rfl
theorem Tryz.Nw:(Tryz.prog.info? 190).map (fun i=>(i.zero,i.size,i.bytes))=some (some (.agg #[.string ⟨#[]⟩,.int .i64 0]),2,24):=by kernel_rfl
theorem Tryz.Nx:Tryz.prog.underlying 125=some (.slice 190):=by kernel_rfl
def aI (n:NR):Value:=.agg #[.int .i64 n.form,.int .i64 n.at_,.int .i64 n.aR,.int .i64 n.num,.string (bs n.word),.int .i64 n.region,.int .i64 n.source,.int .i64 n.p0,.int .i64 n.p1,.int .i64 n.p2]
theorem Ny:∀ (l:List (List UInt8 × Int)) (i:Nat),(l.flatMap Ad)[i * 2]?=(l[i]?).map (fun x=>Value.string (bs x.1))/\(l.flatMap Ad)[i * 2+1]?=(l[i]?).map (fun x=>Value.int .i64 x.2)
 | [],i=>by simp
 | x::l,0=>by simp [Ad]
 | x::l,i+1=>by
  have:=Ny l i
  rw [List.flatMap_cons,show (i+1) * 2=(Ad x).length+i * 2 from by simp [Ad];omega,List.getElem?_append_right (by omega),Nat.add_sub_cancel_left,show (Ad x).length+i * 2+1=(Ad x).length+(i * 2+1) from by omega,List.getElem?_append_right (by omega),Nat.add_sub_cancel_left]
  simpa using this
theorem Ga (l:List (List UInt8 × Int)) (k:Nat) (hk:k < l.length) (u:List UInt8):bN (l.take (k+1)) u=if l[k].1 == u then l[k].2 else bN (l.take k) u:=by
 unfold bN
 rw [List.take_succ_eq_append_getElem hk,List.reverse_append,List.reverse_singleton,List.singleton_append,List.find?_cons]
 cases h:(l[k].1 == u) <;> simp
theorem Nz (s:ByteArray) (ae:Bool) (pb:Nat) (w:World) (sv nv ov:Value) (st:PS) (u:List UInt8) (hl:st.scope.length<=9000) (h:eC s ae pb w sv nv ov st) :
  Calls Tryz.prog 128 #[ptr pb,.string (bs u)] w fun v w'=>v=.returned (.int .i64 (bN st.scope u))/\w'=w:=by
 obtain ⟨fr,hf1,hf2,hf3⟩:=h.y
 have hsc:=h.sc
 obtain ⟨scope,NB⟩:∃ x,x=st.scope:=⟨_,rfl⟩
 rw [<- NB] at hsc hl ⊢
 obtain ⟨n,hn⟩:∃ n,n=scope.length:=⟨_,rfl⟩
 rw [<- hn] at hsc hl
 have EX:(∃ g cap,sv=.slice (some ⟨g,0,none⟩) n cap)\/(sv=.slice none 0 0/\n=0):=by
  rcases hsc.2 with ⟨h1,h2⟩ | ⟨g,cap,cur,h1,_⟩
  ·exact Or.inr ⟨h1,h2⟩
  ·exact Or.inl ⟨g,cap,h1⟩
 have y5:w.cell? ⟨pb,5,none⟩=some sv:=by rw [aa hf3];rfl
 have HN:Hid _:=hn
 show Calls _ _ #[Value.pointer (some ⟨pb,0,none⟩),_] w _
 clear hf3 hf1 hf2 h NB hn
 obtain ⟨ao,cap,rfl,hcell⟩:∃ ao cap,sv=.slice ao n cap/\(∀ j,j < n->∃ g,ao=some ⟨g,0,none⟩/\w.cell? ⟨g,j * 2,none⟩=(scope[j]?).map (fun x=>Value.string (bs x.1))/\w.cell? ⟨g,j * 2+1,none⟩=(scope[j]?).map (fun x=>Value.int .i64 x.2)):=by
  rcases EX with ⟨g,cap,rfl⟩ | ⟨rfl,h0⟩
  ·refine ⟨_,cap,rfl,fun j hj=>⟨g,rfl,?_,?_⟩⟩
   ·have h1:=hsc.cellAt (j * 2) (by omega)
    rw [h1,(Ny scope j).1]
   ·have h1:=hsc.cellAt (j * 2+1) (by omega)
    rw [h1,(Ny scope j).2]
  ·exact ⟨none,0,by rw [h0],fun j hj=>by omega⟩
 clear EX hsc
 have YC:Hid _:=hcell
 clear hcell
 go_enter Tryz.func128,Tryz.ntmps128
 go_wp2
 go_loop [5] (fun i=>∃ k:Nat,k<=n/\i=.int .i64 ((k:Int) - 1)/\bN scope u=bN (scope.take k) u) (fun i=>(intOf i+1).toNat)
 case atStart=>exact ⟨n,Nat.le_refl _,rfl,by rw [HN.out,List.take_length]⟩
 case round =>
  obtain ⟨k,hk,rfl,hr⟩:=hrel
  have HR:Hid _:=hr
  clear hr
  cases k with
  | zero =>
   go_wp2
   go_ret
   exact ⟨lM (by rw [HR.out];rfl),rfl⟩
  | succ k =>
   obtain ⟨g,rfl,hc1,hc2⟩:=YC.out k (by omega)
   have hkl:k < scope.length:=by have:=HN.out;omega
   rw [List.getElem?_eq_getElem hkl] at hc1 hc2
   simp only [Option.map_some] at hc1 hc2
   have hft:=Ga scope k hkl u
   have ek:((k+1:Nat):Int) - 1=(k:Int):=by omega
   rw [ek]
   cases hb:(scope[k].1 == u) with
   | true =>
    have q:((bs scope[k].1).toList == (bs u).toList)=true:=by rw [Lj,Lib.toList_data];exact hb
    rw [hb] at hft
    have HFT:Hid _:=hft
    clear hft hb ek
    go_wp2
    go_ret
    exact ⟨lM (by rw [HR.out,HFT.out];rfl),rfl⟩
   | false =>
    have q:((bs scope[k].1).toList == (bs u).toList)=false:=by rw [Lj,Lib.toList_data];exact hb
    rw [hb] at hft
    have HFT:Hid _:=hft
    clear hft hb ek
    go_wp2
    go_round
    case rel=>exact ⟨k,by omega,rfl,by rw [HR.out,HFT.out];rfl⟩
    case measure=>simp [intOf]
theorem cE {W0 w':World} {row:Option Nat} {pb:Nat} {X:Obj} (hg:W0.grownBy w' row) (hp:W0.heap[pb]?=some X) (hne:row≠some pb):w'.heap[pb]?=some X:=by
 rw [hg.block pb (af hp) (fun e=>hne e.symm)];exact hp
theorem eC.aaT {s:ByteArray} {ae:Bool} {pb:Nat} {w W0 w':World} {sv nv ov:Value} {st:PS} (h:eC s ae pb w sv nv ov st) (n:NR) {g cap:Nat} (hW:Below w.heap.size w W0) (hg:W0.grownBy w' nv.ownBlock)
  (hown:w'.ownsRow 0 108 10 (.slice (some ⟨g,0,none⟩) (st.nodes.length+1) cap) (st.nodes.length+1) (st.nodes.flatMap qg++qg n)) (ik:nv.ownBlock=some g\/W0.heap.size<=g) :
  bz pb pb w (w'.setCell ⟨pb,6,none⟩ (.slice (some ⟨g,0,none⟩) (st.nodes.length+1) cap)) sv nv ov sv (.slice (some ⟨g,0,none⟩) (st.nodes.length+1) cap) ov/\eC s ae pb (w'.setCell ⟨pb,6,none⟩ (.slice (some ⟨g,0,none⟩) (st.nodes.length+1) cap)) sv (.slice (some ⟨g,0,none⟩) (st.nodes.length+1) cap) ov { st with nodes:=st.nodes++[n] }:=by
 obtain ⟨l1,l2,l3,l4⟩:=h.slt
 have lH:=hW.size
 have hgs:=hg.size
 obtain ⟨fr,y1,y2,y3⟩:=h.y
 have yW:W0.heap[pb]?=some (.cells (fF s ae fr st.fl.isSome (st.fl.getD 0) sv nv ov) 127 (0,0)):=by rw [hW.block pb l4];exact y3
 have yw:=cE hg yW h.ny
 have n8:g≠pb:=by
  rcases ik with e | e
  ·intro e';rw [e'] at e;exact h.ny e
  ·omega
 have kp:∀ k,k < w.heap.size->k≠pb->nv.ownBlock≠some k->(w'.setCell ⟨pb,6,none⟩ (.slice (some ⟨g,0,none⟩) (st.nodes.length+1) cap)).heap[k]?=w.heap[k]?:=by
  intro k hk hkp hne
  rw [ak _ _ (by simpa using hkp),hg.block k (by omega) (fun e=>hne e.symm),hW.block k hk]
 refine ⟨⟨hg.os.trans hW.os,hg.tape.trans hW.tape,hg.output.trans hW.output,by simp only [World.setCell,Array.size_modify];omega,fun k hk hp _ hs hn ho=>kp k hk hp hn,fun _ h=>Or.inl h,fun g' hg'=>by simp only [Value.ownBlock,Option.some.injEq] at hg';subst hg';rcases ik with e | e;exact Or.inl e;exact Or.inr (by omega),fun _ h=>Or.inl h⟩,?_⟩
 refine ⟨⟨fr,y1,y2,ay yw 6 _⟩,ax h.sc (fun k hk=>kp k (l1 k hk) (fun e=>h.sy (by rw [hk,e])) (fun e=>h.sn k hk e)),by have:=ax (w':=w'.setCell ⟨pb,6,none⟩ (.slice (some ⟨g,0,none⟩) (st.nodes.length+1) cap)) hown (fun k hk=>by simp only [Value.ownBlock,Option.some.injEq] at hk;subst hk;exact ak _ _ (by simpa using n8));simpa using this,ax h.op (fun k hk=>kp k (l3 k hk) (fun e=>h.oy (by rw [hk,e])) (fun e=>h.no.symm k hk e)),h.sy,by simp only [Value.ownBlock,ne_eq,Option.some.injEq];exact n8,h.oy,(fun k hk hk'=>by
   simp only [Value.ownBlock,Option.some.injEq] at hk'
   rcases ik with e | e
   ·rw [hk'] at e;exact h.sn k hk e
   ·have:=l1 k hk;omega),h.so,(fun k hk hk'=>by
   simp only [Value.ownBlock,Option.some.injEq] at hk
   rcases ik with e | e
   ·rw [hk] at e;exact h.no.symm k hk' e
   ·have:=l3 k hk';omega)⟩
theorem eC.aaU {s:ByteArray} {ae:Bool} {pb:Nat} {w W0 w':World} {sv nv ov:Value} {st:PS} (h:eC s ae pb w sv nv ov st) (x:List UInt8 × Int) {g cap:Nat} (hW:Below w.heap.size w W0) (hg:W0.grownBy w' sv.ownBlock)
  (hown:w'.ownsRow 0 190 2 (.slice (some ⟨g,0,none⟩) (st.scope.length+1) cap) (st.scope.length+1) (st.scope.flatMap Ad++Ad x)) (ik:sv.ownBlock=some g\/W0.heap.size<=g) :
  bz pb pb w (w'.setCell ⟨pb,5,none⟩ (.slice (some ⟨g,0,none⟩) (st.scope.length+1) cap)) sv nv ov (.slice (some ⟨g,0,none⟩) (st.scope.length+1) cap) nv ov/\eC s ae pb (w'.setCell ⟨pb,5,none⟩ (.slice (some ⟨g,0,none⟩) (st.scope.length+1) cap)) (.slice (some ⟨g,0,none⟩) (st.scope.length+1) cap) nv ov { st with scope:=st.scope++[x] }:=by
 obtain ⟨l1,l2,l3,l4⟩:=h.slt
 have lH:=hW.size
 have hgs:=hg.size
 obtain ⟨fr,y1,y2,y3⟩:=h.y
 have yW:W0.heap[pb]?=some (.cells (fF s ae fr st.fl.isSome (st.fl.getD 0) sv nv ov) 127 (0,0)):=by rw [hW.block pb l4];exact y3
 have yw:=cE hg yW h.sy
 have n8:g≠pb:=by
  rcases ik with e | e
  ·intro e';rw [e'] at e;exact h.sy e
  ·omega
 have kp:∀ k,k < w.heap.size->k≠pb->sv.ownBlock≠some k->(w'.setCell ⟨pb,5,none⟩ (.slice (some ⟨g,0,none⟩) (st.scope.length+1) cap)).heap[k]?=w.heap[k]?:=by
  intro k hk hkp hne
  rw [ak _ _ (by simpa using hkp),hg.block k (by omega) (fun e=>hne e.symm),hW.block k hk]
 refine ⟨⟨hg.os.trans hW.os,hg.tape.trans hW.tape,hg.output.trans hW.output,by simp only [World.setCell,Array.size_modify];omega,fun k hk hp _ hs hn ho=>kp k hk hp hs,fun g' hg'=>by simp only [Value.ownBlock,Option.some.injEq] at hg';subst hg';rcases ik with e | e;exact Or.inl e;exact Or.inr (by omega),fun _ h=>Or.inl h,fun _ h=>Or.inl h⟩,?_⟩
 refine ⟨⟨fr,y1,y2,ay yw 5 _⟩,by have:=ax (w':=w'.setCell ⟨pb,5,none⟩ (.slice (some ⟨g,0,none⟩) (st.scope.length+1) cap)) hown (fun k hk=>by simp only [Value.ownBlock,Option.some.injEq] at hk;subst hk;exact ak _ _ (by simpa using n8));simpa using this,ax h.nd (fun k hk=>kp k (l2 k hk) (fun e=>h.ny (by rw [hk,e])) (fun e=>h.sn.symm k hk e)),ax h.op (fun k hk=>kp k (l3 k hk) (fun e=>h.oy (by rw [hk,e])) (fun e=>h.so.symm k hk e)),by simp only [Value.ownBlock,ne_eq,Option.some.injEq];exact n8,h.ny,h.oy,(fun k hk hk'=>by
   simp only [Value.ownBlock,Option.some.injEq] at hk
   rcases ik with e | e
   ·rw [hk] at e;exact h.sn.symm k hk' e
   ·have:=l2 k hk';omega),(fun k hk hk'=>by
   simp only [Value.ownBlock,Option.some.injEq] at hk
   rcases ik with e | e
   ·rw [hk] at e;exact h.so.symm k hk' e
   ·have:=l3 k hk';omega),h.no⟩
theorem eC.aaV {s:ByteArray} {ae:Bool} {pb:Nat} {w W0 w':World} {sv nv ov:Value} {st:PS} (h:eC s ae pb w sv nv ov st) (x:Int) {g cap:Nat} (hW:Below w.heap.size w W0) (hg:W0.grownBy w' ov.ownBlock)
  (hown:w'.ownsRow 0 3 1 (.slice (some ⟨g,0,none⟩) (st.opened.length+1) cap) (st.opened.length+1) (st.opened.map nL++[nL x])) (ik:ov.ownBlock=some g\/W0.heap.size<=g) :
  bz pb pb w (w'.setCell ⟨pb,7,none⟩ (.slice (some ⟨g,0,none⟩) (st.opened.length+1) cap)) sv nv ov sv nv (.slice (some ⟨g,0,none⟩) (st.opened.length+1) cap)/\eC s ae pb (w'.setCell ⟨pb,7,none⟩ (.slice (some ⟨g,0,none⟩) (st.opened.length+1) cap)) sv nv (.slice (some ⟨g,0,none⟩) (st.opened.length+1) cap) { st with opened:=st.opened++[x] }:=by
 obtain ⟨l1,l2,l3,l4⟩:=h.slt
 have lH:=hW.size
 have hgs:=hg.size
 obtain ⟨fr,y1,y2,y3⟩:=h.y
 have yW:W0.heap[pb]?=some (.cells (fF s ae fr st.fl.isSome (st.fl.getD 0) sv nv ov) 127 (0,0)):=by rw [hW.block pb l4];exact y3
 have yw:=cE hg yW h.oy
 have n8:g≠pb:=by
  rcases ik with e | e
  ·intro e';rw [e'] at e;exact h.oy e
  ·omega
 have kp:∀ k,k < w.heap.size->k≠pb->ov.ownBlock≠some k->(w'.setCell ⟨pb,7,none⟩ (.slice (some ⟨g,0,none⟩) (st.opened.length+1) cap)).heap[k]?=w.heap[k]?:=by
  intro k hk hkp hne
  rw [ak _ _ (by simpa using hkp),hg.block k (by omega) (fun e=>hne e.symm),hW.block k hk]
 refine ⟨⟨hg.os.trans hW.os,hg.tape.trans hW.tape,hg.output.trans hW.output,by simp only [World.setCell,Array.size_modify];omega,fun k hk hp _ hs hn ho=>kp k hk hp ho,fun _ h=>Or.inl h,fun _ h=>Or.inl h,fun g' hg'=>by simp only [Value.ownBlock,Option.some.injEq] at hg';subst hg';rcases ik with e | e;exact Or.inl e;exact Or.inr (by omega)⟩,?_⟩
 refine ⟨⟨fr,y1,y2,ay yw 7 _⟩,ax h.sc (fun k hk=>kp k (l1 k hk) (fun e=>h.sy (by rw [hk,e])) (fun e=>h.so k hk e)),ax h.nd (fun k hk=>kp k (l2 k hk) (fun e=>h.ny (by rw [hk,e])) (fun e=>h.no k hk e)),by have:=ax (w':=w'.setCell ⟨pb,7,none⟩ (.slice (some ⟨g,0,none⟩) (st.opened.length+1) cap)) hown (fun k hk=>by simp only [Value.ownBlock,Option.some.injEq] at hk;subst hk;exact ak _ _ (by simpa using n8));simpa using this,h.sy,h.ny,by simp only [Value.ownBlock,ne_eq,Option.some.injEq];exact n8,h.sn,(fun k hk hk'=>by
   simp only [Value.ownBlock,Option.some.injEq] at hk'
   rcases ik with e | e
   ·rw [hk'] at e;exact h.so k hk e
   ·have:=l1 k hk;omega),(fun k hk hk'=>by
   simp only [Value.ownBlock,Option.some.injEq] at hk'
   rcases ik with e | e
   ·rw [hk'] at e;exact h.no k hk e
   ·have:=l2 k hk;omega)⟩
theorem LF (n:NR):∀ u∈qg n,u.oneCell'=true:=by intro u hu;simp only [qg,List.mem_cons,List.not_mem_nil,or_false] at hu;rcases hu with rfl | rfl | rfl | rfl | rfl | rfl | rfl | rfl | rfl | rfl <;> rfl
theorem Il (s:ByteArray) (ae:Bool) (pb:Nat) (w:World) (sv nv ov:Value) (st:PS) (n:NR) (hl:st.nodes.length<=9000) (h:eC s ae pb w sv nv ov st) :
  Calls Tryz.prog 127 #[ptr pb,aI n] w fun v w'=>v=.returned (.int .i64 st.nodes.length)/\∃ bB,bz pb pb w w' sv nv ov sv bB ov/\eC s ae pb w' sv bB ov (st.add n):=by
 obtain ⟨i0,hi,hz0,hz1,hz2⟩:=info_parts Tryz.CC
 have HI:Hid _:=hi
 have pZ:Hid _:=hz0
 have p8:Hid _:=hz1
 have p9:Hid _:=hz2
 clear hi hz0 hz1 hz2
 obtain ⟨fr,hf1,hf2,hf3⟩:=h.y
 have rS:=af hf3
 have y6:w.cell? ⟨pb,6,none⟩=some nv:=by rw [aa hf3];rfl
 obtain ⟨B,hB⟩:∃ B:Obj,B=.cells #[.int .i64 n.form,.int .i64 n.at_,.int .i64 n.aR,.int .i64 n.num,.string (bs n.word),.int .i64 n.region,.int .i64 n.source,.int .i64 n.p0,.int .i64 n.p1,.int .i64 n.p2] 108:=⟨_,rfl⟩
 have hW:Below w.heap.size w ((w.alloc B).alloc B).drew:=(((Below.refl _ w).alloc (Nat.le_refl _) B).alloc (by simp) B).trans ⟨rfl,rfl,rfl,Nat.le_refl _,fun _ _=>rfl⟩
 have HW:Hid _:=hW
 have dY:Hid (((w.alloc B).alloc B).drew.ownsRow 0 108 10 nv st.nodes.length (st.nodes.flatMap qg)):=aB h.nd hW
 have zi:Hid (∀ (j:Nat) (u:Value),(qg n)[j]?=some u->((w.alloc B).alloc B).drew.cell? ((⟨w.heap.size+1,0,none⟩:Addr).add j)=some u):=by
  intro j u hj
  have hq:=bJ (w.alloc B) (qg n) 108 j
  have e:(w.alloc B).heap.size=w.heap.size+1:=by simp
  rw [e] at hq
  rw [<- hj,<- hq,hB];rfl
 have EL:Hid (((w.alloc B).alloc B).drew.heap[pb]?=some (.cells (fF s ae fr st.fl.isSome (st.fl.getD 0) sv nv ov) 127 (0,0))):=by
  show ((w.alloc B).alloc B).drew.heap[pb]?=_
  rw [hW.block pb rS];exact hf3
 have HH:Hid _:=h
 have HNY:Hid _:=h.ny
 clear hf1 hf2 hf3 h hW
 show Calls _ _ #[Value.pointer (some ⟨pb,0,none⟩),Value.agg _] w _
 go_enter Tryz.func127,Tryz.ntmps127
 subst hB
 go_wp2
 go_region_law (refine sJ rfl (.tmp 10) (.tmp 12) 60 rfl 108 i0 _ 10 88 Tryz.CE HI.out pZ.out p8.out p9.out rfl (by decide) nv st.nodes.length (st.nodes.flatMap qg) (by simp [Act.eval]) dY.out ⟨w.heap.size+1,0,none⟩ 1 1 (qg n) (by simp [Act.eval]) rfl zi.out (LF n) (by decide) (by unfold maxLen;omega) (by omega) ?_;intro g cap w' hown hgrow ik;have oD:=cE hgrow EL.out HNY.out;have c6:w'.cell? ⟨pb,6,none⟩=some nv:=(by rw [aa oD];rfl);have f6:=ag oD 6)
 all_goals
  have hadd:=eC.aaT HH.out n HW.out hgrow hown ik
  have zw:Hid _:=hadd
  clear hadd hown hgrow ik
  go_wp2
  go_ret
  exact ⟨lM (by omega),_,zw.out⟩
theorem Ae {w:World} {base:Nat} {e:TypeId} {size g n cap:Nat} {xs:List Value} (h:w.ownsRow base e size (.slice (some ⟨g,0,none⟩) n cap) n xs) (m:Nat) (hm:m<=n):w.ownsRow base e size (.slice (some ⟨g,0,none⟩) m cap) m (xs.take (m * size)):=by
 obtain ⟨h1,h2⟩:=h
 have hms:m * size<=n * size:=Nat.mul_le_mul_right _ hm
 rcases h2 with ⟨h2,_⟩ | ⟨g',cap',cur,hv,hg,hh,hn,hcm,hcs,htake⟩
 ·cases h2
 ·simp only [Value.slice.injEq,Option.some.injEq,Addr.mk.injEq] at hv
  obtain ⟨⟨e1,_⟩,_,e2⟩:=hv
  subst e1
  subst e2
  refine ⟨by rw [List.length_take,h1];omega,Or.inr ⟨g,cap,cur,rfl,hg,hh,by omega,hcm,hcs,?_⟩⟩
  rw [<- htake,List.take_take,Nat.min_eq_left hms]
theorem Ki (l:List (List UInt8 × Int)):(l.flatMap Ad).take ((l.length - 1) * 2)=l.dropLast.flatMap Ad:=by
 rcases List.eq_nil_or_concat l with rfl | ⟨r,x,rfl⟩
 ·rfl
 ·rw [List.concat_eq_append,List.dropLast_concat,List.flatMap_append,List.length_append,List.length_singleton,Nat.add_sub_cancel]
  have hlen:(r.flatMap Ad).length=r.length * 2:=by
   induction r with
   | nil=>rfl
   | cons a r ih=>simp [Ad,ih];omega
  rw [<- hlen,List.take_left]
theorem Q5 (st:PS) (h:st.scope.dropLast=st.scope):{ st with scope:=st.scope.dropLast }=st:=by rw [h]
theorem eC.YD {s:ByteArray} {ae:Bool} {pb:Nat} {w:World} {nv ov:Value} {st:PS} {g n cap:Nat} (h:eC s ae pb w (.slice (some ⟨g,0,none⟩) n cap) nv ov st) (n8:g≠pb)
  (ho:w.ownsRow 0 190 2 (.slice (some ⟨g,0,none⟩) (n - 1) cap) (n - 1) (st.scope.dropLast.flatMap Ad)) (hn:n=st.scope.length) :
  bz pb pb w (w.setCell ⟨pb,5,none⟩ (.slice (some ⟨g,0,none⟩) (n - 1) cap)).drew (.slice (some ⟨g,0,none⟩) n cap) nv ov (.slice (some ⟨g,0,none⟩) (n - 1) cap) nv ov /\
  eC s ae pb (w.setCell ⟨pb,5,none⟩ (.slice (some ⟨g,0,none⟩) (n - 1) cap)).drew (.slice (some ⟨g,0,none⟩) (n - 1) cap) nv ov { st with scope:=st.scope.dropLast }:=by
 obtain ⟨fr,y1,y2,y3⟩:=h.y
 have kp:∀ k,k≠pb->(w.setCell ⟨pb,5,none⟩ (.slice (some ⟨g,0,none⟩) (n - 1) cap)).drew.heap[k]?=w.heap[k]?:=fun k hk=>ak _ _ (by simpa using hk)
 refine ⟨⟨rfl,rfl,rfl,by show _<=(w.setCell _ _).heap.size;simp only [World.setCell,Array.size_modify];omega,fun k _ hp _ _ _ _=>kp k hp,fun _ h=>Or.inl h,fun _ h=>Or.inl h,fun _ h=>Or.inl h⟩,?_⟩
 refine ⟨⟨fr,y1,y2,ay y3 5 _⟩,?_,ax h.nd (fun k hk=>kp k (fun e=>h.ny (by rw [hk,e]))),ax h.op (fun k hk=>kp k (fun e=>h.oy (by rw [hk,e]))),by simp only [Value.ownBlock,ne_eq,Option.some.injEq];exact n8,h.ny,h.oy,fun k hk=>h.sn k hk,fun k hk=>h.so k hk,h.no⟩
 have:=ax (w':=(w.setCell ⟨pb,5,none⟩ (.slice (some ⟨g,0,none⟩) (n - 1) cap)).drew) ho (fun k hk=>kp k (by simp only [Value.ownBlock,Option.some.injEq] at hk;omega))
 simp only [List.length_dropLast,<- hn]
 exact this
theorem Gb (s:ByteArray) (ae:Bool) (pb:Nat) (w:World) (sv nv ov:Value) (st:PS) (hl:st.scope.length<=9000) (h:eC s ae pb w sv nv ov st) :
  Calls Tryz.prog 150 #[ptr pb] w fun v w'=>v=.returned (.tuple #[])/\∃ fC,bz pb pb w w' sv nv ov fC nv ov/\eC s ae pb w' fC nv ov { st with scope:=st.scope.dropLast }:=by
 obtain ⟨fr,hf1,hf2,hf3⟩:=h.y
 have rS:=af hf3
 have y5:w.cell? ⟨pb,5,none⟩=some sv:=by rw [aa hf3];rfl
 have f5:w.frozen? ⟨pb,5,none⟩=false:=ag hf3 5
 obtain ⟨n,hn⟩:∃ n,n=st.scope.length:=⟨_,rfl⟩
 have hsc:=h.sc
 rw [<- hn] at hsc hl
 show Calls _ _ #[Value.pointer (some ⟨pb,0,none⟩)] w _
 by_cases h0:n=0
 ·have hnil:st.scope=[]:=List.length_eq_zero_iff.1 (by omega)
  have hst:=Q5 st (by rw [hnil];rfl)
  rw [hst]
  obtain ⟨ao,cap,rfl⟩:∃ ao cap,sv=.slice ao n cap:=by
   rcases hsc.2 with ⟨h1,h2⟩ | ⟨g,cap,cur,h1,_⟩
   ·exact ⟨none,0,by rw [h1,h0]⟩
   ·exact ⟨_,_,h1⟩
  have HH:Hid _:=h
  clear h hsc hf3 hst hnil hn
  go_enter Tryz.func150,Tryz.ntmps150
  go_wp2
  refine bodyPost_end (v:=.tuple #[]) (by simp [results,Tryz.results150,go_sem]) rfl ⟨rfl,_,bz.refl _ _ _ _ _ _,HH.out⟩
 ·obtain ⟨g,cap,rfl⟩:∃ g cap,sv=.slice (some ⟨g,0,none⟩) n cap:=by
   rcases hsc.2 with ⟨h1,h2⟩ | ⟨g,cap,cur,h1,_⟩
   ·omega
   ·exact ⟨_,_,h1⟩
  have hcap:n<=cap:=by
   rcases hsc.2 with ⟨h1,h2⟩ | ⟨g',cap',cur,h1,_,_,h3,_⟩
   ·omega
   ·simp only [Value.slice.injEq] at h1;omega
  have My:cap<=maxLen:=by
   rcases hsc.2 with ⟨h1,h2⟩ | ⟨g',cap',cur,h1,_,_,_,h3,_⟩
   ·omega
   ·simp only [Value.slice.injEq] at h1;omega
  unfold maxLen at My
  have n8:g≠pb:=fun e=>h.sy (by rw [e];rfl)
  have HO:Hid (w.ownsRow 0 190 2 (.slice (some ⟨g,0,none⟩) (n - 1) cap) (n - 1) (st.scope.dropLast.flatMap Ad)):=by
   have:=Ae hsc (n - 1) (by omega)
   rw [hn,Ki] at this
   rw [hn];exact this
  have HH:Hid _:=h
  have dK:Hid _:=hf3
  have HN:Hid _:=hn
  clear h hsc hf3 hf1 hf2 hn
  go_enter Tryz.func150,Tryz.ntmps150
  go_wp2
  go_region
  all_goals
   go_wp2
   have hd:=eC.YD HH.out n8 HO.out HN.out
   have HD:Hid _:=hd
   refine bodyPost_end (v:=.tuple #[]) (by simp [results,Tryz.results150,go_sem]) rfl ⟨rfl,(.slice (some ⟨g,0,none⟩) (n - 1) cap),?_⟩
   exact HD.out
def Bd0 (st:PS):Prop:=st.scope.length+st.l.length<=9000/\st.nodes.length+st.l.length<=9000/\st.opened.length+4 * st.l.length<=50000
def Pq (st:PS):Prop:=st.scope.length+st.l.length<=8999/\st.nodes.length+st.l.length<=8999/\st.opened.length+4 * st.l.length<=49997
theorem Pq.to {a b:PS} {j:Nat} (h:Pq a) (g:Gs a b j 0) (hj:j<=3):Bd0 b:=by
 obtain ⟨h1,h2,h3⟩:=h
 exact ⟨by rw [g.sc];have:=g.l;omega,by have:=g.nd;omega,by have:=g.op;omega⟩
theorem Pq.on {a b:PS} (h:Pq a) (g:Gs a b 0 0):Pq b:=by
 obtain ⟨h1,h2,h3⟩:=h
 exact ⟨by rw [g.sc];have:=g.l;omega,by have:=g.nd;omega,by have:=g.op;omega⟩
def Vf (s:ByteArray) (ae:Bool) (pb:Nat) (pE:PS->Int × PS) (m:Nat):Prop :=
 ∀ (w:World) (sv nv ov:Value) (st:PS),eC s ae pb w sv nv ov st->st.l.length<=m->Bd0 st->Calls Tryz.prog 91 #[ptr pb] w fun v w'=>v=.returned (.int .i64 (pE st).1) /\
  ∃ fC bB fH,bz pb pb w w' sv nv ov fC bB fH/\eC s ae pb w' fC bB fH (pE st).2
theorem DP (s:ByteArray) (ae:Bool) (pb:Nat) (pE:PS->Int × PS) (m:Nat) (hE:Vf s ae pb pE m) (hG:jZ pE m) (w:World) (sv nv ov:Value) (st:PS) (u:List UInt8) (src:Int) (hm:st.l.length<=m)
  (hl:st.scope.length+st.l.length<=8999) (hb:Bd0 st) (h:eC s ae pb w sv nv ov st) :
  Calls Tryz.prog 149 #[ptr pb,.string (bs u),.int .i64 src] w fun v w'=>v=.returned (.int .i64 (eZ pE u src st).1)/\∃ fC bB fH,bz pb pb w w' sv nv ov fC bB fH/\eC s ae pb w' fC bB fH (eZ pE u src st).2:=by
 obtain ⟨i0,hi,hz0,hz1,hz2⟩:=info_parts Tryz.Nw
 have HI:Hid _:=hi
 have pZ:Hid _:=hz0
 have p8:Hid _:=hz1
 have p9:Hid _:=hz2
 clear hi hz0 hz1 hz2
 obtain ⟨fr,hf1,hf2,hf3⟩:=h.y
 have rS:=af hf3
 have y5:w.cell? ⟨pb,5,none⟩=some sv:=by rw [aa hf3];rfl
 have Vg:=fun w sv nv ov h=>hE w sv nv ov { st with scope:=st.scope++[(u,src)] } h hm ⟨by simp;omega,hb.2.1,hb.2.2⟩
 have hgr:=hG { st with scope:=st.scope++[(u,src)] } hm
 have hun:=fun w sv nv ov h=>Gb s ae pb w sv nv ov (pE { st with scope:=st.scope++[(u,src)] }).2 (by rw [hgr.sc];simp;omega) h
 unfold ptr at Vg hun
 have Cw:Hid _:=Vg
 have HUN:Hid _:=hun
 have RX:Hid (eZ pE u src st=((pE { st with scope:=st.scope++[(u,src)] }).1,{ (pE { st with scope:=st.scope++[(u,src)] }).2 with scope:=(pE { st with scope:=st.scope++[(u,src)] }).2.scope.dropLast })):=rfl
 have HH:Hid _:=h
 have dK:Hid _:=hf3
 have hW:Below w.heap.size w (w.alloc (.cells #[.string (bs u),.int .i64 src] 190)):=(Below.refl _ w).alloc (Nat.le_refl _) _
 have HW:Hid _:=hW
 have dY:Hid ((w.alloc (.cells #[.string (bs u),.int .i64 src] 190)).ownsRow 0 190 2 sv st.scope.length (st.scope.flatMap Ad)):=aB h.sc hW
 have EL:Hid ((w.alloc (.cells #[.string (bs u),.int .i64 src] 190)).heap[pb]?=some (.cells (fF s ae fr st.fl.isSome (st.fl.getD 0) sv nv ov) 127 (0,0))):=aN _ hf3
 clear hf1 hf2 hf3 h hW Vg hun hgr hE hG
 show Calls _ _ #[Value.pointer (some ⟨pb,0,none⟩),_,_] w _
 go_enter Tryz.func149,Tryz.ntmps149
 go_wp2_with (at_builtin;go_must (refine oX _ rfl (.tmp 12) (.tmp 16) 125 rfl 190 i0 _ 2 24 Tryz.Nx HI.out pZ.out p8.out p9.out rfl (by decide) sv st.scope.length (st.scope.flatMap Ad) rfl dY.out ⟨w.heap.size,0,none⟩ 1 1 (Ad (u,src)) rfl rfl ?c1 ?c2 (by decide) ?c3 ?c4 ?_))
 case c1 =>
  intro j v hj
  rw [<- hj]
  first | rfl | exact bJ _ _ _ _
 case c2=>intro v hv;simp only [Ad,List.mem_cons,List.not_mem_nil,or_false] at hv;rcases hv with rfl | rfl <;> rfl
 case c3=>unfold maxLen;omega
 case c4=>omega
 intro g cap w' hown hgrow ik
 have oD:=cE hgrow EL.out HH.out.sy
 have c5:w'.cell? ⟨pb,5,none⟩=some sv:=by rw [aa oD];rfl
 have f5:=ag oD 5
 have hadd:=eC.aaU HH.out (u,src) HW.out hgrow hown (by rw [show (w.alloc (.cells #[.string (bs u),.int .i64 src] 190)).heap.size=w.heap.size+1 from by simp];exact ik)
 have hE1:=Cw.out _ _ _ _ hadd.2
 have zw:Hid _:=hadd.1
 clear hown hgrow ik oD hadd
 go_wp2_with fail
 refine hE1.mono ?_
 rintro _ w2 ⟨rfl,Hr,cz,Fx,cW,bq⟩
 have hU:=HUN.out _ _ _ _ bq
 have cx:Hid _:=zw.out.trans cW
 clear cW bq hE1
 go_wp2_with fail
 refine hU.mono ?_
 rintro _ w3 ⟨rfl,sv3,bQ,dZ⟩
 have HR:Hid _:=cx.out.trans bQ
 have HI3:Hid _:=dZ
 clear bQ dZ hU
 go_wp2
 go_ret
 exact ⟨rfl,_,_,_,HR.out,HI3.out⟩
end Go.Proofs.YtpicaknklgccoabGreatDoor
