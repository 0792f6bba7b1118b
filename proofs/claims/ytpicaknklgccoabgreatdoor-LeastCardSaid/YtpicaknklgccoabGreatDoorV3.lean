import Derived.Test.YtpicaknklgccoabGreatDoorV2
import Derived.Deep.CutRange
import Derived.Deep.RegionLaw
set_option maxHeartbeats 4000000
set_option maxRecDepth 100000
namespace Go.Proofs.YtpicaknklgccoabGreatDoor
open Go.RowKit
def gb (s:ByteArray) (ae:Bool) (fr:Nat) (fl:Bool) (a:Nat) (sv nv ov:Value):Array Value:=#[.string s,.bool ae,.int .i64 fr,.bool fl,.int .i64 a,sv,nv,ov]
def rV (n:NR):List Value:=[.int .i64 n.form,.int .i64 n.at_,.int .i64 n.aL,.int .i64 n.num,.string (bs n.word),.int .i64 n.region,.int .i64 n.source,.int .i64 n.p0,.int .i64 n.p1,.int .i64 n.p2]
def BA (x:List UInt8 × Int):List Value:=[.string (bs x.1),.int .i64 x.2]
def o9 (i:Int):Value:=.int .i64 i
structure eX (s:ByteArray) (ae:Bool) (pb:Nat) (w:World) (sv nv ov:Value) (st:PS):Prop where
 y:∃ fr,fr<=s.size/\gK s.data.toList fr=st.l/\w.heap[pb]?=some (.cells (gb s ae fr st.fl.isSome (st.fl.getD 0) sv nv ov) 127 (0,0))
 sc:w.ownsRow 0 190 2 sv st.scope.length (st.scope.flatMap BA)
 nd:w.ownsRow 0 108 10 nv st.nodes.length (st.nodes.flatMap rV)
 op:w.ownsRow 0 3 1 ov st.opened.length (st.opened.map o9)
 sy:sv.ownBlock≠some pb
 ny:nv.ownBlock≠some pb
 oy:ov.ownBlock≠some pb
 sn:apart sv nv
 so:apart sv ov
 no:apart nv ov
structure bL (pb nb:Nat) (w w':World) (sv nv ov fV bJ gh:Value):Prop where
 os:w'.os=w.os
 tape:w'.tape=w.tape
 output:w'.output=w.output
 size:w.heap.size<=w'.heap.size
 blk:∀ k,k<w.heap.size->k≠pb->k≠nb->sv.ownBlock≠some k->nv.ownBlock≠some k->ov.ownBlock≠some k->w'.heap[k]?=w.heap[k]?
 s:∀ g,fV.ownBlock=some g->sv.ownBlock=some g\/w.heap.size<=g
 n:∀ g,bJ.ownBlock=some g->nv.ownBlock=some g\/w.heap.size<=g
 o:∀ g,gh.ownBlock=some g->ov.ownBlock=some g\/w.heap.size<=g
theorem bL.refl (pb nb:Nat) (w:World) (sv nv ov:Value):bL pb nb w w sv nv ov sv nv ov:=⟨rfl,rfl,rfl,Nat.le_refl _,λ_ _ _ _ _ _ _=>rfl,λ_ h=>Or.inl h,λ_ h=>Or.inl h,λ_ h=>Or.inl h⟩
theorem bL.trans {pb nb:Nat} {w w1 w2:World} {sv nv ov AJ sL wG JS cO Ip:Value} (h:bL pb nb w w1 sv nv ov AJ sL wG) (h':bL pb nb w1 w2 AJ sL wG JS cO Ip):bL pb nb w w2 sv nv ov JS cO Ip:=by
 refine⟨h'.os.trans h.os,h'.tape.trans h.tape,h'.output.trans h.output,Nat.le_trans h.size h'.size,?_,?_,?_,?_⟩
 ·intro k hk hp hnb hs hn ho
  rw[h'.blk k (Nat.lt_of_lt_of_le hk h.size) hp hnb (λe=>by rcases h.s k e with e | e;exact hs e;omega) (λe=>by rcases h.n k e with e | e;exact hn e;omega) (λe=>by rcases h.o k e with e | e;exact ho e;omega)];exact h.blk k hk hp hnb hs hn ho
 ·intro g hg
  rcases h'.s g hg with e | e
  ·exact h.s g e
  ·exact Or.inr (Nat.le_trans h.size e)
 ·intro g hg
  rcases h'.n g hg with e | e
  ·exact h.n g e
  ·exact Or.inr (Nat.le_trans h.size e)
 ·intro g hg
  rcases h'.o g hg with e | e
  ·exact h.o g e
  ·exact Or.inr (Nat.le_trans h.size e)
theorem bL.below {w w':World} (pb nb:Nat) (sv nv ov:Value) (h:Below w.heap.size w w'):bL pb nb w w' sv nv ov sv nv ov:=⟨h.os,h.tape,h.output,h.size,λk hk _ _ _ _ _=>h.block k hk,λ_ h=>Or.inl h,λ_ h=>Or.inl h,λ_ h=>Or.inl h⟩
theorem bL.nb {pb nb:Nat} {w w':World} {sv nv ov fV bJ gh:Value} (h:bL pb pb w w' sv nv ov fV bJ gh):bL pb nb w w' sv nv ov fV bJ gh:=⟨h.os,h.tape,h.output,h.size,λk hk hp _ hs hn ho=>h.blk k hk hp hp hs hn ho,h.s,h.n,h.o⟩
theorem eX.move {s:ByteArray} {ae:Bool} {pb:Nat} {w w':World} {sv nv ov:Value} {st:PS} (h:eX s ae pb w sv nv ov st) (l:List Tk) (fl:Option Nat)
  (hs:∀ k,sv.ownBlock=some k->w'.heap[k]?=w.heap[k]?) (hn:∀ k,nv.ownBlock=some k->w'.heap[k]?=w.heap[k]?) (ho:∀ k,ov.ownBlock=some k->w'.heap[k]?=w.heap[k]?)
  (hy:∃ fr,fr<=s.size/\gK s.data.toList fr=l/\w'.heap[pb]?=some (.cells (gb s ae fr fl.isSome (fl.getD 0) sv nv ov) 127 (0,0))) :
  eX s ae pb w' sv nv ov { st with l:=l,fl:=fl } :=
 ⟨hy,ay h.sc hs,ay h.nd hn,ay h.op ho,h.sy,h.ny,h.oy,h.sn,h.so,h.no⟩
theorem eX.slt {s:ByteArray} {ae:Bool} {pb:Nat} {w:World} {sv nv ov:Value} {st:PS} (h:eX s ae pb w sv nv ov st):(∀ k,sv.ownBlock=some k->k<w.heap.size)/\(∀ k,nv.ownBlock=some k->k<w.heap.size)/\(∀ k,ov.ownBlock=some k->k<w.heap.size)/\pb<w.heap.size :=
 ⟨λk hk=>(h.sc.lt k hk).2,λk hk=>(h.nd.lt k hk).2,λk hk=>(h.op.lt k hk).2,by obtain⟨fr,_,_,hy⟩:=h.y;exact af hy⟩
theorem eX.below {s:ByteArray} {ae:Bool} {pb:Nat} {w w':World} {sv nv ov:Value} {st:PS} (h:eX s ae pb w sv nv ov st) (hb:Below w.heap.size w w'):eX s ae pb w' sv nv ov st:=by
 obtain⟨h1,h2,h3,h4⟩:=h.slt;obtain⟨fr,hf1,hf2,hf3⟩:=h.y;exact eX.move h st.l st.fl (λk hk=>hb.block k (h1 k hk)) (λk hk=>hb.block k (h2 k hk)) (λk hk=>hb.block k (h3 k hk)) ⟨fr,hf1,hf2,by rw[hb.block pb h4];exact hf3⟩
theorem kF {w w2:World} {A:Obj} {cs:Array Value} {t:TypeId} (hb:Below ((w.alloc A).alloc (.cells cs t)).drew.heap.size ((w.alloc A).alloc (.cells cs t)).drew w2):w2.heap[w.heap.size+1]?=some (.cells cs t (0,0)):=by
 rw[hb.block (w.heap.size+1) (by show w.heap.size+1<((w.alloc A).alloc (.cells cs t)).heap.size;simp)];have h:=aj (w.alloc A) (.cells cs t)
 have e:(w.alloc A).heap.size=w.heap.size+1:=by simp
 rw[e] at h;exact h
theorem gI {w:World} {g:Nat} {t:TypeId} {a b c d e:Value} (h:w.heap[g]?=some (.cells #[a,b,c,d,e] t (0,0))):w.cell? ⟨g,0,none⟩=some a/\w.cell? ⟨g,1,none⟩=some b/\w.cell? ⟨g,2,none⟩=some c/\w.cell? ⟨g,3,none⟩=some d/\w.cell? ⟨g,4,none⟩=some e :=
 ⟨by rw[aa h];rfl,by rw[aa h];rfl,by rw[aa h];rfl,by rw[aa h];rfl,by rw[aa h];rfl⟩
theorem OD (s:ByteArray) (a:Nat) (ha:a<=s.size):gK s.data.toList (fE s.size (gK s.data.toList a)).aL=(gK s.data.toList a).tail/\(fE s.size (gK s.data.toList a)).aL<=s.size:=by
 obtain⟨h1,h2⟩:=Eg s s.size a (by omega);have kJ:=MU (s.data.toList.drop a);rw[List.length_drop,ez] at kJ;rw[<- h1];obtain⟨p,hp⟩:∃ p,p=a+wD (s.data.toList.drop a):=⟨_,rfl⟩;rw[<- hp]
 have h3:∀ h:p<s.size,eS s[p]=false:=by subst hp;exact h2
 by_cases hlt:p<s.size
 ·have ht:=Jy s p hlt (h3 hlt)
  rw[ht];have hlen:=DC s p hlt;have hle:=su (s.data.toList.drop p) (by rw[drop_cons s p hlt];simp);rw[List.length_drop,ez] at hle
  have hb:(fE s.size (kU s p::gK s.data.toList (p+(aN (s.data.toList.drop p)).1))).aL=p+(aN (s.data.toList.drop p)).1:=by
   show (kU s p).at_+(kU s p).s.length=_
   rw[hlen];rfl
  rw[hb];exact⟨rfl,by omega⟩
 ·have ht:=xb s p (by omega)
  rw[ht];exact⟨xb s s.size (Nat.le_refl _),Nat.le_refl _⟩
theorem EW {w w2:World} {T:TN} {A:Array Value} {t:TypeId} (hb:Below ((w.alloc (.cells A t)).drew).heap.size ((w.alloc (.cells A t)).drew) w2) :
  ∃ g,w.heap.size<g/\Value.pointer (some ⟨w2.heap.size,0,none⟩)=.pointer (some ⟨g,0,none⟩)/\(w2.alloc (.cells #[.int .i64 T.kind,.int .i64 T.at_,.int .i64 T.aL,.string (bs T.word),.int .i64 T.num] t)).heap[g]?=some (.cells #[.int .i64 T.kind,.int .i64 T.at_,.int .i64 T.aL,.string (bs T.word),.int .i64 T.num] t (0,0)) /\
   (w2.alloc (.cells #[.int .i64 T.kind,.int .i64 T.at_,.int .i64 T.aL,.string (bs T.word),.int .i64 T.num] t)).heap[w.heap.size]?=some (.cells A t (0,0))/\Below w.heap.size w (w2.alloc (.cells #[.int .i64 T.kind,.int .i64 T.at_,.int .i64 T.aL,.string (bs T.word),.int .i64 T.num] t)):=by
 have hs:w.heap.size+1<=w2.heap.size:=by have:=hb.size;simpa using this
 have h0:w2.heap[w.heap.size]?=some (.cells A t (0,0)):=by
  rw[hb.block w.heap.size (by show w.heap.size<(w.alloc (.cells A t)).heap.size;simp)];exact aj w (.cells A t)
 refine⟨w2.heap.size,by omega,rfl,aj _ _,aR _ h0,?_⟩;have h1:Below w.heap.size w (w.alloc (.cells A t)).drew:=((Below.refl _ w).alloc (Nat.le_refl _) (.cells A t)).trans ⟨rfl,rfl,rfl,Nat.le_refl _,λ_ _=>rfl⟩;exact (h1.trans (hb.mono (by show w.heap.size<=(w.alloc (.cells A t)).heap.size;simp))).alloc (by omega) _
theorem EX {w w2:World} {T:TN} {A:Array Value} {a b c d e:Value} {t:TypeId} (hb:Below ((w.alloc (.cells A t)).alloc (.cells #[a,b,c,d,e] t)).drew.heap.size ((w.alloc (.cells A t)).alloc (.cells #[a,b,c,d,e] t)).drew w2) :
  ∃ g,w.heap.size<g/\Value.pointer (some ⟨w.heap.size+1,0,none⟩)=.pointer (some ⟨g,0,none⟩)/\(((((w2.setCell ⟨w.heap.size+1,0,none⟩ (.int .i64 T.kind)).setCell ⟨w.heap.size+1,1,none⟩ (.int .i64 T.at_)).setCell ⟨w.heap.size+1,2,none⟩ (.int .i64 T.aL)).setCell ⟨w.heap.size+1,3,none⟩ (.string (bs T.word))).setCell ⟨w.heap.size+1,4,none⟩ (.int .i64 T.num)).heap[g]?=some (.cells #[.int .i64 T.kind,.int .i64 T.at_,.int .i64 T.aL,.string (bs T.word),.int .i64 T.num] t (0,0)) /\
   (((((w2.setCell ⟨w.heap.size+1,0,none⟩ (.int .i64 T.kind)).setCell ⟨w.heap.size+1,1,none⟩ (.int .i64 T.at_)).setCell ⟨w.heap.size+1,2,none⟩ (.int .i64 T.aL)).setCell ⟨w.heap.size+1,3,none⟩ (.string (bs T.word))).setCell ⟨w.heap.size+1,4,none⟩ (.int .i64 T.num)).heap[w.heap.size]?=some (.cells A t (0,0)) /\
   Below w.heap.size w (((((w2.setCell ⟨w.heap.size+1,0,none⟩ (.int .i64 T.kind)).setCell ⟨w.heap.size+1,1,none⟩ (.int .i64 T.at_)).setCell ⟨w.heap.size+1,2,none⟩ (.int .i64 T.aL)).setCell ⟨w.heap.size+1,3,none⟩ (.string (bs T.word))).setCell ⟨w.heap.size+1,4,none⟩ (.int .i64 T.num)):=by
 have hq:=kF hb
 have h0:w2.heap[w.heap.size]?=some (.cells A t (0,0)):=by
  rw[hb.block w.heap.size (by show w.heap.size<((w.alloc (.cells A t)).alloc (.cells #[a,b,c,d,e] t)).heap.size;simp;omega)];exact aR _ (aj w (.cells A t))
 refine⟨w.heap.size+1,by omega,rfl,?_,?_,?_⟩
 ·exact aA (aA (aA (aA (aA hq 0 _) 1 _) 2 _) 3 _) 4 _
 ·rw[aq _ _ (by simp only;omega),aq _ _ (by simp only;omega),aq _ _ (by simp only;omega),aq _ _ (by simp only;omega),aq _ _ (by simp only;omega)]
  exact h0
 ·have h1:Below w.heap.size w ((w.alloc (.cells A t)).alloc (.cells #[a,b,c,d,e] t)).drew:=(((Below.refl _ w).alloc (Nat.le_refl _) (.cells A t)).alloc (by simp) (.cells #[a,b,c,d,e] t)).trans ⟨rfl,rfl,rfl,Nat.le_refl _,λ_ _=>rfl⟩
  have h2:=h1.trans (hb.mono (by show w.heap.size<=((w.alloc (.cells A t)).alloc (.cells #[a,b,c,d,e] t)).heap.size;simp;omega));exact ((((h2.setCell (p:=⟨w.heap.size+1,0,none⟩) (by simp) _).setCell (p:=⟨w.heap.size+1,1,none⟩) (by simp) _).setCell (p:=⟨w.heap.size+1,2,none⟩) (by simp) _).setCell (p:=⟨w.heap.size+1,3,none⟩) (by simp) _).setCell (p:=⟨w.heap.size+1,4,none⟩) (by simp) _
theorem zh (s:ByteArray) (ae:Bool) (pb:Nat) (w:World) (sv nv ov:Value) (st:PS) (hs:s.size<=9000) (h:eX s ae pb w sv nv ov st) :
  Calls Tryz.prog 118 #[ptr pb] w λv w'=>v=.returned (jh (fE s.size st.l))/\bL pb pb w w' sv nv ov sv nv ov/\eX s ae pb w' sv nv ov st.tail:=by
 obtain⟨fr,hf1,hf2,hf3⟩:=h.y;obtain⟨l1,l2,l3,l4⟩:=h.slt
 have iL:=λw=>NI s fr w hs hf1
 have hnb:=OD s fr hf1;rw[hf2] at iL hnb
 have y0:w.cell? ⟨pb,0,none⟩=some (.string s):=by rw[aa hf3];rfl
 have y2:w.cell? ⟨pb,2,none⟩=some (.int .i64 fr):=by rw[aa hf3];rfl
 have Mu:Hid _:=hnb;have HH:Hid _:=h;have ee:Hid _:=hf3;have OE:Hid _:=l1;have Uh:Hid _:=l2;have Ui:Hid _:=l3;generalize fE s.size st.l=T at iL Mu;unfold jh at iL;clear hf1 hf2 hf3 hnb h l1 l2 l3
 show Calls _ _ #[Value.pointer (some ⟨pb,0,none⟩)] w _
 go_enter Tryz.func118,Tryz.ntmps118
 go_upto_region 1 with fail
 go_cut [3] from 4 to 12 (λt3 wx=>∃ g,w.heap.size<g/\t3=.pointer (some ⟨g,0,none⟩)/\wx.heap[g]?=some (.cells #[.int .i64 T.kind,.int .i64 T.at_,.int .i64 T.aL,.string (bs T.word),.int .i64 T.num] 159 (0,0)) /\
   wx.heap[w.heap.size]?=some (.cells #[.int .i64 0,.int .i64 0,.int .i64 0,.string ⟨#[]⟩,.int .i64 0] 159 (0,0))/\Below w.heap.size w wx)
 case first =>
  go_region_with (go_at_call 130;refine (iL _).mono ?_;rintro e w2 ⟨rfl,hb2⟩;(try (have hq:=kF hb2;obtain⟨c0,c1,c2,c3,c4⟩:=gI hq;have f0:=ag hq 0;have f1:=ag hq 1;have f2:=ag hq 2;have f3:=ag hq 3;have f4:=ag hq 4)))
  all_goals (go_wp2_with fail;go_meet)
  all_goals first
   | exact EW hb2
   | exact EX hb2
 case rest =>
 obtain⟨g,hg,rfl,hcg,KG,hbc⟩:=hcut;obtain⟨c0,c1,c2,c3,c4⟩:=gI hcg
 have yc:wc.heap[pb]?=some (.cells (gb s ae fr st.fl.isSome (st.fl.getD 0) sv nv ov) 127 (0,0)):=by rw[hbc.block pb l4];exact ee.out
 have z2:wc.cell? ⟨pb,2,none⟩=some (.int .i64 fr):=by rw[aa yc];rfl
 have zf2:wc.frozen? ⟨pb,2,none⟩=false:=ag yc 2
 have pM:g≠pb:=by omega
 have JT:w.heap.size≠pb:=by omega
 have dV:(wc.setCell ⟨pb,2,none⟩ (.int .i64 T.aL)).heap[w.heap.size]?=some (.cells #[.int .i64 0,.int .i64 0,.int .i64 0,.string ⟨#[]⟩,.int .i64 0] 159 (0,0)):=by
  rw[aq _ _ (by simp only;omega)];exact KG
 have HYC:Hid _:=yc;have RS:Hid _:=hbc;have hgw:=af hcg;clear yc hbc KG hcg y0 y2 iL
 go_wp2_with (refine jY rfl 159 (.tmp 2) (.tmp 18) rfl w.heap.size #[.int .i64 T.kind,.int .i64 T.at_,.int .i64 T.aL,.string (bs T.word),.int .i64 T.num] rfl rfl 159 _ dV Tryz.vp rfl (vq T) ?_;intro W hW mr nU hW1 hW2 hW3)
 obtain⟨d0,d1,d2,d3,d4⟩:=gI hW;refine bodyPost_ret (v:=.agg #[.int .i64 T.kind,.int .i64 T.at_,.int .i64 T.aL,.string (bs T.word),.int .i64 T.num]) (by simp[results,Tryz.results118,go_sem,d0,d1,d2,d3,d4]) rfl ⟨rfl,?_,?_⟩
 ·have hb:=RS.out
  refine⟨hW1.trans hb.os,hW2.trans hb.tape,hW3.trans hb.output,by rw[mr];simp only[World.setCell,Array.size_modify];exact hb.size,?_,λ_ h=>Or.inl h,λ_ h=>Or.inl h,λ_ h=>Or.inl h⟩;intro k hk hkp _ _ _ _;rw[nU k (by omega),aq _ _ (by simpa using hkp)];exact hb.block k hk
 ·have kp:∀ k,k<w.heap.size->k≠pb->W.heap[k]?=w.heap[k]?:=by
   intro k hk hkp;rw[nU k (by omega),aq _ _ (by simpa using hkp)];exact RS.out.block k hk
  refine eX.move HH.out st.tail.l st.tail.fl (λk hk=>kp k (OE.out k hk) (λe=>HH.out.sy (by rw[hk,e]))) (λk hk=>kp k (Uh.out k hk) (λe=>HH.out.ny (by rw[hk,e]))) (λk hk=>kp k (Ui.out k hk) (λe=>HH.out.oy (by rw[hk,e]))) ⟨T.aL,Mu.out.2,Mu.out.1,?_⟩;rw[nU pb (by omega)];exact aA HYC.out 2 _
theorem zi (s:ByteArray) (ae:Bool) (pb:Nat) (w:World) (sv nv ov:Value) (st:PS) (a:Nat) (h:eX s ae pb w sv nv ov st) :
  Calls Tryz.prog 119 #[ptr pb,.int .i64 a] w λv w'=>v=.returned (.tuple #[])/\bL pb pb w w' sv nv ov sv nv ov/\eX s ae pb w' sv nv ov (st.fail a):=by
 obtain⟨fr,hf1,hf2,hf3⟩:=h.y
 have y0:w.cell? ⟨pb,0,none⟩=some (.string s):=by rw[aa hf3];rfl
 have y2:w.cell? ⟨pb,2,none⟩=some (.int .i64 fr):=by rw[aa hf3];rfl
 have y3:w.cell? ⟨pb,3,none⟩=some (.bool st.fl.isSome):=by rw[aa hf3];rfl
 have y4:w.cell? ⟨pb,4,none⟩=some (.int .i64 (st.fl.getD 0)):=by rw[aa hf3];rfl
 have g2:w.frozen? ⟨pb,2,none⟩=false:=ag hf3 2;have g3:w.frozen? ⟨pb,3,none⟩=false:=ag hf3 3;have g4:w.frozen? ⟨pb,4,none⟩=false:=ag hf3 4;have HH:Hid _:=h;have ee:Hid _:=hf3;have mQ:=af hf3;clear hf1 hf2 hf3 h
 show Calls _ _ #[Value.pointer (some ⟨pb,0,none⟩),_] w _
 cases hfl:st.fl with
 | some q =>
  have e:st.fail a=st:=by unfold PS.fail;rw[hfl]
  rw[hfl] at y3 y4;rw[e];simp only[Option.isSome_some] at y3;clear e hfl
  go_enter Tryz.func119,Tryz.ntmps119
  go_wp2
  refine bodyPost_ret (v:=.tuple #[]) (by simp[results,Tryz.results119,go_sem]) rfl ⟨rfl,bL.refl _ _ _ _ _ _,HH.out⟩
 | none =>
  have e:st.fail a={ st with l:=[],fl:=some a }:=by unfold PS.fail;rw[hfl]
  rw[hfl] at y3 y4;rw[e];simp only[Option.isSome_none] at y3;have My:Hid _:=hfl;clear e hfl
  go_enter Tryz.func119,Tryz.ntmps119
  go_wp2
  refine bodyPost_end (v:=.tuple #[]) (by simp[results,Tryz.results119,go_sem]) rfl ⟨rfl,?_,?_⟩
  ·refine⟨rfl,rfl,rfl,by simp[World.setCell],?_,λ_ h=>Or.inl h,λ_ h=>Or.inl h,λ_ h=>Or.inl h⟩
   intro k hk hkp _ _ _ _;rw[aq _ _ (by simpa using hkp),aq _ _ (by simpa using hkp),aq _ _ (by simpa using hkp)]
  ·have kp:∀ k,k≠pb->(((w.setCell ⟨pb,3,none⟩ (.bool true)).setCell ⟨pb,4,none⟩ (.int .i64 a)).setCell ⟨pb,2,none⟩ (.int .i64 s.size)).heap[k]?=w.heap[k]?:=by
    intro k hkp;rw[aq _ _ (by simpa using hkp),aq _ _ (by simpa using hkp),aq _ _ (by simpa using hkp)]
   refine eX.move HH.out [] (some a) (λk hk=>kp k (λe=>HH.out.sy (by rw[hk,e]))) (λk hk=>kp k (λe=>HH.out.ny (by rw[hk,e]))) (λk hk=>kp k (λe=>HH.out.oy (by rw[hk,e]))) ⟨s.size,Nat.le_refl _,xb s s.size (Nat.le_refl _),?_⟩;exact aA (aA (aA ee.out 3 _) 4 _) 2 _
theorem JU {s:ByteArray} {ae:Bool} {pb nb:Nat} {w w1 w2 W:World} {A:Obj} {sv nv ov fV bJ gh:Value} {st st':PS} (h:eX s ae pb w sv nv ov st) (hfr:bL pb nb (w.alloc A) w1 sv nv ov fV bJ gh) (hin:eX s ae pb w1 fV bJ gh st')
  (hb:Below w1.heap.size w1 w2) (mr:W.heap.size=w2.heap.size) (nU:∀ k,k≠w.heap.size->W.heap[k]?=w2.heap[k]?) (e1:W.os=w2.os) (e2:W.tape=w2.tape) (e3:W.output=w2.output) :
  bL pb nb w W sv nv ov fV bJ gh/\eX s ae pb W fV bJ gh st':=by
 obtain⟨l1,l2,l3,l4⟩:=h.slt
 have hsz:w.heap.size+1<=w1.heap.size:=by have:=hfr.size;simpa using this
 have hbs:=hb.size;have f0:bL pb nb w w1 sv nv ov fV bJ gh:=(bL.below pb nb sv nv ov ((Below.refl _ w).alloc (Nat.le_refl _) A)).trans hfr;have f1:=f0.trans (bL.below pb nb fV bJ gh hb);refine⟨⟨e1.trans f1.os,e2.trans f1.tape,e3.trans f1.output,by rw[mr];exact f1.size,λk hk hp hn a b c=>by rw[nU k (by omega)];exact f1.blk k hk hp hn a b c,f1.s,f1.n,f1.o⟩,?_⟩;obtain⟨m1,m2,m3,m4⟩:=hin.slt
 have hal:(w.alloc A).heap.size=w.heap.size+1:=by simp
 have kp:∀ k,k<w1.heap.size->k≠w.heap.size->W.heap[k]?=w1.heap[k]?:=λk hk hne=>by rw[nU k hne];exact hb.block k hk
 obtain⟨fr,y1,y2,y3⟩:=hin.y;refine eX.move hin st'.l st'.fl (λk hk=>kp k (m1 k hk) ?_) (λk hk=>kp k (m2 k hk) ?_) (λk hk=>kp k (m3 k hk) ?_) ⟨fr,y1,y2,by rw[kp pb m4 (by omega)];exact y3⟩
 ·rcases hfr.s k hk with e | e
  ·have:=l1 k e;omega
  ·omega
 ·rcases hfr.n k hk with e | e
  ·have:=l2 k e;omega
  ·omega
 ·rcases hfr.o k hk with e | e
  ·have:=l3 k e;omega
  ·omega
theorem bL.OG {pb nb:Nat} {w w1:World} {A:Obj} {sv nv ov fV bJ gh:Value} (hfr:bL pb nb (w.alloc A) w1 sv nv ov fV bJ gh) (l1:∀ k,sv.ownBlock=some k->k<w.heap.size) (l2:∀ k,nv.ownBlock=some k->k<w.heap.size) (l3:∀ k,ov.ownBlock=some k->k<w.heap.size) (l4:pb<w.heap.size) (l5:nb<w.heap.size) :
  w1.heap[w.heap.size]?=some A:=by
 rw[hfr.blk w.heap.size (by simp) (by omega) (by omega) (λe=>by have:=l1 _ e;omega) (λe=>by have:=l2 _ e;omega) (λe=>by have:=l3 _ e;omega)];exact aj _ _
theorem l7 (s:ByteArray) (ae:Bool) (pb:Nat) (w:World) (sv nv ov:Value) (st:PS) (k:Nat) (hs:s.size<=9000) (h:eX s ae pb w sv nv ov st) :
  Calls Tryz.prog 92 #[ptr pb,.int .i64 k] w λv w'=>v=.returned (jh (fE s.size st.l))/\bL pb pb w w' sv nv ov sv nv ov/\eX s ae pb w' sv nv ov (st.expect s.size k):=by
 have htk:=λw h=>zh s ae pb w sv nv ov st hs h
 have hfa:=λw a h=>zi s ae pb w sv nv ov st.tail a h
 have HH:Hid _:=h;obtain⟨l1,l2,l3,l4⟩:=h.slt;have OE:Hid _:=l1;have Uh:Hid _:=l2;have Ui:Hid _:=l3
 have hex:st.expect s.size k=if (fE s.size st.l).kind≠k then st.tail.fail (fE s.size st.l).at_ else st.tail:=rfl
 rw[hex];clear hex l1 l2 l3 h;generalize fE s.size st.l=T at htk;unfold jh ptr at htk;unfold ptr at hfa;have ha:eX s ae pb (w.alloc (.cells #[.int .i64 0,.int .i64 0,.int .i64 0,.string ⟨#[]⟩,.int .i64 0] 159)) sv nv ov st:=HH.out.below ((Below.refl _ w).alloc (Nat.le_refl _) _);have RT:=htk _ ha
 show Calls _ _ #[Value.pointer (some ⟨pb,0,none⟩),_] w _
 clear htk ha
 by_cases hk:T.kind=k
 ·have hkb:((T.kind:Int) != (k:Int))=false:=by simp[hk]
  rw[if_neg (by simp[hk])];clear hk hfa
  go_enter Tryz.func92,Tryz.ntmps92
  go_wp2_with fail
  refine RT.mono ?_;rintro _ w1 ⟨rfl,hfr,hin⟩
  have hs1:w.heap.size+1<=w1.heap.size:=by have:=hfr.size;simpa using this
  have Jf:w1.heap[w.heap.size]?=some (.cells #[.int .i64 0,.int .i64 0,.int .i64 0,.string ⟨#[]⟩,.int .i64 0] 159 (0,0)):=by
   rw[hfr.blk w.heap.size (by simp) (by omega) (by omega) (λe=>by have:=OE.out _ e;omega) (λe=>by have:=Uh.out _ e;omega) (λe=>by have:=Ui.out _ e;omega)];exact aj _ _
  have abH:=aR (.cells #[.int .i64 T.kind,.int .i64 T.at_,.int .i64 T.aL,.string (bs T.word),.int .i64 T.num] 159) Jf;have sC:Hid _:=hfr;have nn:Hid _:=hin
  have abI:w.heap.size≠w1.heap.size:=by omega
  clear hfr hin Jf RT
  go_wp2_with (refine jY rfl 159 (.tmp 4) (.tmp 16) rfl w.heap.size #[.int .i64 T.kind,.int .i64 T.at_,.int .i64 T.aL,.string (bs T.word),.int .i64 T.num] rfl rfl 159 _ abH Tryz.vp rfl (vq T) ?_;intro W hW mr nU hW1 hW2 hW3)
  obtain⟨d0,d1,d2,d3,d4⟩:=gI hW;refine bodyPost_ret (v:=.agg #[.int .i64 T.kind,.int .i64 T.at_,.int .i64 T.aL,.string (bs T.word),.int .i64 T.num]) (by simp[results,Tryz.results92,go_sem,d0,d1,d2,d3,d4]) rfl ⟨rfl,JU HH.out sC.out nn.out ((Below.refl _ w1).alloc (Nat.le_refl _) _) mr nU hW1 hW2 hW3⟩
 ·have hkb:((T.kind:Int) != (k:Int))=true:=by simp;omega
  rw[if_pos hk];clear hk
  go_enter Tryz.func92,Tryz.ntmps92
  go_wp2_with fail
  refine RT.mono ?_;rintro _ w1 ⟨rfl,hfr,hin⟩;have Jf:=hfr.OG OE.out Uh.out Ui.out l4 l4
  have hs1:w.heap.size+1<=w1.heap.size:=by have:=hfr.size;simpa using this
  have sC:Hid _:=hfr;have nn:Hid _:=hin
  have abI:w.heap.size≠w1.heap.size:=by omega
  clear hfr hin RT
  go_wp2_with fail
  refine (hfa _ T.at_ (nn.out.below ((Below.refl _ w1).alloc (Nat.le_refl _) _))).mono ?_;rintro _ w3 ⟨rfl,cj,eO⟩;have hlt:=nn.out.slt;have hq:=cj.OG hlt.1 hlt.2.1 hlt.2.2.1 hlt.2.2.2 hlt.2.2.2;obtain⟨c0,c1,c2,c3,c4⟩:=gI hq
  have abJ:w3.heap[w.heap.size]?=some (.cells #[.int .i64 0,.int .i64 0,.int .i64 0,.string ⟨#[]⟩,.int .i64 0] 159 (0,0)):=by
   rw[cj.blk w.heap.size (by simp;omega) (by omega) (by omega) (λe=>by have:=OE.out _ e;omega) (λe=>by have:=Uh.out _ e;omega) (λe=>by have:=Ui.out _ e;omega)];exact aR _ Jf
  have ee:Hid _:=sC.out.trans ((bL.below pb pb sv nv ov ((Below.refl _ w1).alloc (Nat.le_refl _) _)).trans cj);have Wg:Hid _:=eO;clear cj eO hq hlt Jf
  go_wp2_with (refine jY rfl 159 (.tmp 4) (.tmp 16) rfl w.heap.size #[.int .i64 T.kind,.int .i64 T.at_,.int .i64 T.aL,.string (bs T.word),.int .i64 T.num] rfl rfl 159 _ abJ Tryz.vp rfl (vq T) ?_;intro W hW mr nU hW1 hW2 hW3)
  obtain⟨d0,d1,d2,d3,d4⟩:=gI hW;refine bodyPost_ret (v:=.agg #[.int .i64 T.kind,.int .i64 T.at_,.int .i64 T.aL,.string (bs T.word),.int .i64 T.num]) (by simp[results,Tryz.results92,go_sem,d0,d1,d2,d3,d4]) rfl ⟨rfl,JU HH.out ee.out Wg.out (Below.refl _ _) mr nU hW1 hW2 hW3⟩
theorem Lh (env:aV) (x:List UInt8 × Ty) (s:List UInt8):look (env++[x]) s=if x.1==s then some x.2 else look env s:=by
 unfold look;rw[List.reverse_append,List.reverse_singleton,List.singleton_append,List.find?_cons]
 cases h:(x.1==s) <;> simp
def arity (k:Kw):Nat:=match k with
 | .aP=>2
 | .pair=>2
 | .fst=>1
 | .snd=>1
 | .di=>3
 | .add=>2
 | .sub=>2
 | .less=>2
 | .loop=>3
 | .new=>1
def nM (env:aV) (st:fY):Prop:=(∀ x∈env,x.2.fit)/\(st.e=0->∀ x∈env,x.2.size<=63)
def JV (st:fY) (x:Ty × fY):Prop:=x.1.fit/\(x.2.e=0->st.e=0/\x.1.size<=63)/\x.2.of.length=st.of.length
def JW (st:fY) (x:Ty × fY):Prop:=x.1.fit/\(x.2.e=0->st.e=0)/\x.2.of.length=st.of.length
theorem qy:Ty.n.fit:=⟨by simp[Ty.size],trivial⟩
theorem zj (st:fY) (e p:Nat):(gC st e p).of.length=st.of.length:=by unfold gC;split <;> rfl
theorem u4 (st:fY) (e p:Nat) (he:e≠0):(gC st e p).e≠0:=by unfold gC;split <;> simp_all
theorem Iq {id p:Nat} {st:fY} {x:Ty × fY} (h:JW st x):JV st (fin id p x):=by
 obtain⟨h1,h2,h3⟩:=h;unfold JV
 by_cases hb:x.2.e=0/\63<x.1.size
 ·have e:fin id p x=(x.1,{ (gC x.2 6 p) with of:=(gC x.2 6 p).of.set id x.1.txt }):=by simp only[fin];rw[if_pos hb]
  rw[e];refine⟨h1,λh0=>absurd h0 (u4 _ _ _ (by decide)),?_⟩;simp only[List.length_set];rw[zj];exact h3
 ·have e:fin id p x=(x.1,{ x.2 with of:=x.2.of.set id x.1.txt }):=by simp only[fin];rw[if_neg hb]
  rw[e];refine⟨h1,λh0=>⟨h2 h0,?_⟩,by simp only[List.length_set];exact h3⟩;simp only at h0 ⊢;exact Nat.le_of_not_lt (λh=>hb ⟨h0,h⟩)
theorem EY {env:aV} {s:List UInt8} {t:Ty} (h:look env s=some t):∃ x∈env,x.2=t:=by
 unfold look at h;rw[Option.map_eq_some_iff] at h;obtain⟨x,hx,rfl⟩:=h;exact⟨x,by have:=List.mem_of_find?_eq_some hx;simpa using this,rfl⟩
theorem OH {cls:List Nat} {k:Kw} {p site:Nat} {ks:List Ty} {st:fY} (hc:∀ x∈cls,x<1000) (hk:∀ t∈ks,t.fit/\t.size<=63):JW st (cZ cls k p site ks st):=by
 have hr:cls.getD site 0<1000:=by
  rw[List.getD_eq_getElem?_getD]
  cases h:cls[site]? with
  | none=>simp
  | some x=>exact hc x (List.mem_of_getElem? h)
 have err:JW st (Ty.n,gC st 5 p):=⟨qy,λh=>absurd h (u4 _ _ _ (by decide)),zj _ _ _⟩;unfold cZ
 split
 ·rename_i a _;exact⟨(hk a (by simp)).1,λh=>h,rfl⟩
 ·rename_i a b
  have ha:=hk a (by simp);have hb:=hk b (by simp);exact⟨⟨by simp only[Ty.size];omega,⟨hr,ha.1.2,hb.1.2⟩⟩,λh=>h,rfl⟩
 ·rename_i r a b _
  have ha:=hk (.p r a b) (by simp);exact⟨⟨by show a.size<=127;have:=ha.2;simp only[Ty.size] at this;omega,ha.1.2.2.1⟩,λh=>h,rfl⟩
 ·rename_i r a b _
  have ha:=hk (.p r a b) (by simp);exact⟨⟨by show b.size<=127;have:=ha.2;simp only[Ty.size] at this;omega,ha.1.2.2.2⟩,λh=>h,rfl⟩
 ·rename_i a b c
  split
  ·exact⟨(hk b (by simp)).1,λh=>h,rfl⟩
  ·exact err
 ·rename_i a b c
  split
  ·exact⟨(hk b (by simp)).1,λh=>h,rfl⟩
  ·exact err
 ·split
  ·exact⟨qy,λh=>h,rfl⟩
  ·exact err
 ·split
  ·exact⟨qy,λh=>h,rfl⟩
  ·exact err
 ·split
  ·exact⟨qy,λh=>h,rfl⟩
  ·exact err
 ·exact err
theorem nM.on {env:aV} {st st':fY} (h:nM env st) (hs:st'.e=0->st.e=0):nM env st':=⟨h.1,λh0=>h.2 (hs h0)⟩
theorem nM.snoc {env:aV} {st:fY} {nm:List UInt8} {x:Ty × fY} (h:nM env st) (hx:JV st x):nM (env++[(nm,x.1)]) x.2:=by
 constructor
 ·intro y hy
  rcases List.mem_append.1 hy with hy | hy
  ·exact h.1 y hy
  ·rw[List.mem_singleton] at hy;subst hy;exact hx.1
 ·intro h0 y hy
  rcases List.mem_append.1 hy with hy | hy
  ·exact h.2 (hx.2.1 h0).1 y hy
  ·rw[List.mem_singleton] at hy;subst hy;exact (hx.2.1 h0).2
def Wh (st:fY) (x:List Ty × fY):Prop:=(∀ t∈x.1,t.fit)/\(x.2.e=0->st.e=0/\∀ t∈x.1,t.size<=63)/\x.2.of.length=st.of.length
mutual
theorem j6 (cls:List Nat) (hc:∀ x∈cls,x<1000):∀ (t:PT) (id site:Nat) (env:aV) (st:fY),nM env st->JV st (aH cls t id site env st)
 | .num p s,id,site,env,st,h=>by simp only[aH];exact Iq ⟨qy,λh=>h,rfl⟩
 | .name p s,id,site,env,st,h=>by
  simp only[aH];refine Iq ?_
  split
  ·rename_i t ht
   obtain⟨x,hx,rfl⟩:=EY ht;exact⟨h.1 x hx,λh=>h,rfl⟩
  ·exact⟨qy,λh=>absurd h (u4 _ _ _ (by decide)),zj _ _ _⟩
 | .node p k nm rg kids,id,site,env,st,h=>by
  simp only[aH];refine Iq ?_
  split
  ·have:=OI cls hc nm kids (id+1) site env st h
   exact⟨this.1,λh0=>(this.2.1 h0),this.2.2⟩
  ·have hx:Wh st (if k=.loop then bS cls nm kids (id+1) site env st else bW cls kids (id+1) (site+if k=.pair then 1 else 0) env st):=by
    split
    ·exact LN cls hc nm kids _ _ env st h
    ·exact BB cls hc kids _ _ env st h
   generalize (if k=.loop then bS cls nm kids (id+1) site env st else bW cls kids (id+1) (site+if k=.pair then 1 else 0) env st)=x at hx
   split
   ·rename_i hne
    exact⟨qy,λh0=>absurd h0 hne,hx.2.2⟩
   ·rename_i hne
    have h0:x.2.e=0:=by simpa using hne
    have hm:=OH (k:=k) (p:=p) (site:=site) (st:=x.2) hc (λt ht=>⟨hx.1 t ht,(hx.2.1 h0).2 t ht⟩);exact⟨hm.1,λh1=>(hx.2.1 (hm.2.1 h1)).1,hm.2.2.trans hx.2.2⟩
theorem BB (cls:List Nat) (hc:∀ x∈cls,x<1000):∀ (ts:List PT) (id site:Nat) (env:aV) (st:fY),nM env st->Wh st (bW cls ts id site env st)
 | [],_,_,_,st,_=>by simp only[bW];exact⟨by simp,λh=>⟨h,by simp⟩,rfl⟩
 | a::r,id,site,env,st,h=>by
  simp only[bW];have h1:=j6 cls hc a id site env st h;have h2:=BB cls hc r (id+a.cnt) (site+a.bz) env (aH cls a id site env st).2 (h.on (λh0=>(h1.2.1 h0).1));refine⟨?_,?_,h2.2.2.trans h1.2.2⟩
  ·intro t ht
   rcases List.mem_cons.1 ht with rfl | ht
   ·exact h1.1
   ·exact h2.1 t ht
  ·intro h0
   have q:=h2.2.1 h0;have q1:=h1.2.1 q.1;refine⟨q1.1,?_⟩;intro t ht
   rcases List.mem_cons.1 ht with rfl | ht
   ·exact q1.2
   ·exact q.2 t ht
theorem OI (cls:List Nat) (hc:∀ x∈cls,x<1000) (nm:List UInt8):∀ (ts:List PT) (id site:Nat) (env:aV) (st:fY),nM env st->JW st (fZ cls nm ts id site env st)
 | [a,b],id,site,env,st,h=>by
  simp only[fZ];have h1:=j6 cls hc a id site env st h;have h2:=j6 cls hc b (id+a.cnt) (site+a.bz) (env++[(nm,(aH cls a id site env st).1)]) (aH cls a id site env st).2 (h.snoc h1);exact⟨h2.1,λh0=>(h1.2.1 (h2.2.1 h0).1).1,h2.2.2.trans h1.2.2⟩
 | [],_,_,_,st,_=>by simp only[fZ];exact⟨qy,λh=>h,rfl⟩
 | [_],_,_,_,st,_=>by simp only[fZ];exact⟨qy,λh=>h,rfl⟩
 | _::_::_::_,_,_,_,st,_=>by simp only[fZ];exact⟨qy,λh=>h,rfl⟩
theorem LN (cls:List Nat) (hc:∀ x∈cls,x<1000) (nm:List UInt8):∀ (ts:List PT) (id site:Nat) (env:aV) (st:fY),nM env st->Wh st (bS cls nm ts id site env st)
 | [a,b,c],id,site,env,st,h=>by
  simp only[bS];have h1:=j6 cls hc a id site env st h;have h2:=j6 cls hc b (id+a.cnt) (site+a.bz) env (aH cls a id site env st).2 (h.on (λh0=>(h1.2.1 h0).1));have h3:=j6 cls hc c (id+a.cnt+b.cnt) (site+a.bz+b.bz) (env++[(nm,(aH cls b (id+a.cnt) (site+a.bz) env (aH cls a id site env st).2).1)]) (aH cls b (id+a.cnt) (site+a.bz) env (aH cls a id site env st).2).2 ((h.on (λh0=>(h1.2.1 h0).1)).snoc h2);refine⟨?_,?_,h3.2.2.trans (h2.2.2.trans h1.2.2)⟩
  ·intro t ht
   simp only[List.mem_cons,List.not_mem_nil,or_false] at ht
   rcases ht with rfl | rfl | rfl
   ·exact h1.1
   ·exact h2.1
   ·exact h3.1
  ·intro h0
   have q3:=h3.2.1 h0;have q2:=h2.2.1 q3.1;have q1:=h1.2.1 q2.1;refine⟨q1.1,?_⟩;intro t ht;simp only[List.mem_cons,List.not_mem_nil,or_false] at ht
   rcases ht with rfl | rfl | rfl
   ·exact q1.2
   ·exact q2.2
   ·exact q3.2
 | [],_,_,_,st,_=>by simp only[bS];exact⟨by simp,λh=>⟨h,by simp⟩,rfl⟩
 | [_],_,_,_,st,_=>by simp only[bS];exact⟨by simp,λh=>⟨h,by simp⟩,rfl⟩
 | [_,_],_,_,_,st,_=>by simp only[bS];exact⟨by simp,λh=>⟨h,by simp⟩,rfl⟩
 | _::_::_::_::_,_,_,_,st,_=>by simp only[bS];exact⟨by simp,λh=>⟨h,by simp⟩,rfl⟩
end
theorem tK {P:Program} {ops:Array Oper} {o:Oper} {a:Act} {w:World} {K:Act->World->Prop} {Q:Exit->Act->World->Prop} {E:Prop}
  (hg:o.guard=none) (s x:Operand) (t:TypeId) (hop:o.op=Op.call { callee:=Callee.builtin Builtin.append,args:=#[s,x],argTypes:=#[t,t] })
  (e:TypeId) (i:TypeInfo) (z:Value) (size bytes:Nat) (h1:P.underlying t=some (.slice e)) (h2:P.info? e=some i) (h3:i.zero=some z) (h4:i.size=size) (h5:i.bytes=bytes) (h6:z.cells.size=size) (h7:0<size)
  (v:Value) (n:Nat) (xs:List Value) (hs:a.eval s=v) (hown:w.ownsRow 0 e size v n xs)
  (ad:Addr) (m c:Nat) (news:List Value) (hx:a.eval x=.slice (some ad) m c) (hn:news.length=m*size) (hc:∀ j u,news[j]?=some u->w.cell? (ad.add j)=some u) (h1c:∀ u∈news,u.oneCell'=true)
  (hm:0<m) (b1:n+m<=maxLen) (b2:(n+m)*bytes<=140737488355328)
  (hK:∀ (g cap:Nat) (w':World),w'.ownsRow 0 e size (.slice (some ⟨g,0,none⟩) (n+m) cap) (n+m) (xs++news)->w.grownBy w' v.ownBlock->(v.ownBlock=some g\/w.heap.size<=g)->K (a.put o.dst (.slice (some ⟨g,0,none⟩) (n+m) cap)) w') :
  if Region.wanted o (yielded ops a.tmps)=true then Oper.wp P o a w K Q else E:=by
 have hw:Region.wanted o (yielded ops a.tmps)=true:=by simp[Region.wanted,hg]
 rw[if_pos hw]
 have fin:∀ (v':Value) (w':World),w'.ownsRow w.heap.size e size v' (n+m) (xs++news)->w.grownBy w' none->K (a.put o.dst v') w':=by
  intro v' w' MF hg'
  obtain⟨g,cap,hv'⟩:∃ g cap,v'=.slice (some ⟨g,0,none⟩) (n+m) cap:=by
   rcases MF.2 with ⟨_,hh⟩ | ⟨g,cap,cur,hv,_⟩
   ·omega
   ·exact⟨_,_,hv⟩
  subst hv';have hlt:=MF.lt g rfl;exact hK g cap w' (dL MF (λk hk=>Nat.zero_le _)) ⟨hg'.os,hg'.tape,hg'.output,hg'.size,λk hk _=>hg'.block k hk (by simp)⟩ (Or.inr hlt.1)
 rcases hown.2 with ⟨hv,hn0⟩ | ⟨g,cap,cur,hv,hgb,hh,hn',hcm,hcs,htake⟩
 ·subst hn0
  have hxs:xs=[]:=List.length_eq_zero_iff.1 (by have:=hown.1;omega);subst hxs;obtain⟨v',w',hrun,r1,r2,_⟩:=run_append_own (P:=P) w w.heap.size t o.type e i z size bytes h1 h2 h3 h4 h5 h6 h7 (.slice none 0 0) 0 [] (World.ownsRow_nil w _ e size) ad m c news hn hc h1c b1 b2 (Nat.le_refl _);unfold Oper.wp;rw[hv] at hs;simp[execOp,hop,resolve,invoke,builtin,hs,hx,hrun,Result.andThen];exact fin v' w' r1 r2
 ·by_cases hroom:n+m<=cap
  ·have hown':=hown
   rw[hv] at hown' hs;obtain⟨w',hrun,r1,r2⟩:=run_append_fits (P:=P) w 0 t o.type e i size h1 h2 h4 g n cap xs hown' ad m c news hn hc h1c hroom;unfold Oper.wp;simp[execOp,hop,resolve,invoke,builtin,hs,hx,hrun,Result.andThen];exact hK g cap w' r1 (by rw[hv];exact r2) (Or.inl (by rw[hv];rfl))
  ·obtain⟨v',w',hrun,r1,r2⟩:=run_append_arg_grows (P:=P) w t o.type e i z size bytes h1 h2 h3 h4 h5 h6 h7 ⟨g,0,none⟩ n cap xs hown.1 (λj u hj=>hown.cells (by rw[hv];rfl) j u hj) ad m c news hn hc (by omega) b1 b2
   unfold Oper.wp;rw[hv] at hs;simp[execOp,hop,resolve,invoke,builtin,hs,hx,hrun,Result.andThen];exact fin v' w' r1 r2
theorem Tryz.DQ:(Tryz.prog.info? 108).map (λi=>(i.zero,i.size,i.bytes))=some (some (.agg #[.int .i64 0,.int .i64 0,.int .i64 0,.int .i64 0,.string ⟨#[]⟩,.int .i64 0,.int .i64 0,.int .i64 0,.int .i64 0,.int .i64 0]),10,88):=by kernel_rfl
theorem Tryz.DS:Tryz.prog.underlying 60=some (.slice 108):=by kernel_rfl
theorem Tryz.OJ:(Tryz.prog.info? 190).map (λi=>(i.zero,i.size,i.bytes))=some (some (.agg #[.string ⟨#[]⟩,.int .i64 0]),2,24):=by kernel_rfl
theorem Tryz.OK:Tryz.prog.underlying 125=some (.slice 190):=by kernel_rfl
def aK (n:NR):Value:=.agg #[.int .i64 n.form,.int .i64 n.at_,.int .i64 n.aL,.int .i64 n.num,.string (bs n.word),.int .i64 n.region,.int .i64 n.source,.int .i64 n.p0,.int .i64 n.p1,.int .i64 n.p2]
theorem OL:∀ (l:List (List UInt8 × Int)) (i:Nat),(l.flatMap BA)[i*2]?=(l[i]?).map (λx=>Value.string (bs x.1))/\(l.flatMap BA)[i*2+1]?=(l[i]?).map (λx=>Value.int .i64 x.2)
 | [],i=>by simp
 | x::l,0=>by simp[BA]
 | x::l,i+1=>by
  have:=OL l i;rw[List.flatMap_cons,show (i+1)*2=(BA x).length+i*2 from by simp[BA];omega,List.getElem?_append_right (by omega),Nat.add_sub_cancel_left,show (BA x).length+i*2+1=(BA x).length+(i*2+1) from by omega,List.getElem?_append_right (by omega),Nat.add_sub_cancel_left]
  simpa using this
theorem Ir (l:List (List UInt8 × Int)) (k:Nat) (hk:k<l.length) (u:List UInt8):cE (l.take (k+1)) u=if l[k].1==u then l[k].2 else cE (l.take k) u:=by
 unfold cE;rw[List.take_succ_eq_append_getElem hk,List.reverse_append,List.reverse_singleton,List.singleton_append,List.find?_cons]
 cases h:(l[k].1==u) <;> simp
theorem OM (s:ByteArray) (ae:Bool) (pb:Nat) (w:World) (sv nv ov:Value) (st:PS) (u:List UInt8) (hl:st.scope.length<=9000) (h:eX s ae pb w sv nv ov st) :
  Calls Tryz.prog 128 #[ptr pb,.string (bs u)] w λv w'=>v=.returned (.int .i64 (cE st.scope u))/\w'=w:=by
 obtain⟨fr,hf1,hf2,hf3⟩:=h.y;have hsc:=h.sc;obtain⟨scope,OO⟩:∃ x,x=st.scope:=⟨_,rfl⟩;rw[<- OO] at hsc hl ⊢;obtain⟨n,hn⟩:∃ n,n=scope.length:=⟨_,rfl⟩;rw[<- hn] at hsc hl
 have Gw:(∃ g cap,sv=.slice (some ⟨g,0,none⟩) n cap)\/(sv=.slice none 0 0/\n=0):=by
  rcases hsc.2 with ⟨h1,h2⟩ | ⟨g,cap,cur,h1,_⟩
  ·exact Or.inr ⟨h1,h2⟩
  ·exact Or.inl ⟨g,cap,h1⟩
 have y5:w.cell? ⟨pb,5,none⟩=some sv:=by rw[aa hf3];rfl
 have HN:Hid _:=hn
 show Calls _ _ #[Value.pointer (some ⟨pb,0,none⟩),_] w _
 clear hf3 hf1 hf2 h OO hn
 obtain⟨ao,cap,rfl,hcell⟩:∃ ao cap,sv=.slice ao n cap/\(∀ j,j<n->∃ g,ao=some ⟨g,0,none⟩/\w.cell? ⟨g,j*2,none⟩=(scope[j]?).map (λx=>Value.string (bs x.1))/\w.cell? ⟨g,j*2+1,none⟩=(scope[j]?).map (λx=>Value.int .i64 x.2)):=by
  rcases Gw with ⟨g,cap,rfl⟩ | ⟨rfl,h0⟩
  ·refine⟨_,cap,rfl,λj hj=>⟨g,rfl,?_,?_⟩⟩
   ·have h1:=hsc.cellAt (j*2) (by omega)
    rw[h1,(OL scope j).1]
   ·have h1:=hsc.cellAt (j*2+1) (by omega)
    rw[h1,(OL scope j).2]
  ·exact⟨none,0,by rw[h0],λj hj=>by omega⟩
 clear Gw hsc;have ZQ:Hid _:=hcell;clear hcell
 go_enter Tryz.func128,Tryz.ntmps128
 go_wp2
 go_loop [5] (λi=>∃ k:Nat,k<=n/\i=.int .i64 ((k:Int)-1)/\cE scope u=cE (scope.take k) u) (λi=>(intOf i+1).toNat)
 case atStart=>exact⟨n,Nat.le_refl _,rfl,by rw[HN.out,List.take_length]⟩
 case round =>
  obtain⟨k,hk,rfl,hr⟩:=hrel;have HR:Hid _:=hr;clear hr
  cases k with
  | zero =>
   go_wp2
   go_ret
   exact⟨mF (by rw[HR.out];rfl),rfl⟩
  | succ k =>
   obtain⟨g,rfl,hc1,hc2⟩:=ZQ.out k (by omega)
   have hkl:k<scope.length:=by have:=HN.out;omega
   rw[List.getElem?_eq_getElem hkl] at hc1 hc2;simp only[Option.map_some] at hc1 hc2;have hft:=Ir scope k hkl u
   have ek:((k+1:Nat):Int)-1=(k:Int):=by omega
   rw[ek]
   cases hb:(scope[k].1==u) with
   | true =>
    have q:((bs scope[k].1).toList==(bs u).toList)=true:=by rw[MQ,Lib.toList_data];exact hb
    rw[hb] at hft;have HFT:Hid _:=hft;clear hft hb ek
    go_wp2
    go_ret
    exact⟨mF (by rw[HR.out,HFT.out];rfl),rfl⟩
   | false =>
    have q:((bs scope[k].1).toList==(bs u).toList)=false:=by rw[MQ,Lib.toList_data];exact hb
    rw[hb] at hft;have HFT:Hid _:=hft;clear hft hb ek
    go_wp2
    go_round
    case rel=>exact⟨k,by omega,rfl,by rw[HR.out,HFT.out];rfl⟩
    case measure=>simp[intOf]
theorem cY {W0 w':World} {row:Option Nat} {pb:Nat} {X:Obj} (hg:W0.grownBy w' row) (hp:W0.heap[pb]?=some X) (hne:row≠some pb):w'.heap[pb]?=some X:=by
 rw[hg.block pb (af hp) (λe=>hne e.symm)];exact hp
theorem eX.abK {s:ByteArray} {ae:Bool} {pb:Nat} {w W0 w':World} {sv nv ov:Value} {st:PS} (h:eX s ae pb w sv nv ov st) (n:NR) {g cap:Nat} (hW:Below w.heap.size w W0) (hg:W0.grownBy w' nv.ownBlock)
  (hown:w'.ownsRow 0 108 10 (.slice (some ⟨g,0,none⟩) (st.nodes.length+1) cap) (st.nodes.length+1) (st.nodes.flatMap rV++rV n)) (jC:nv.ownBlock=some g\/W0.heap.size<=g) :
  bL pb pb w (w'.setCell ⟨pb,6,none⟩ (.slice (some ⟨g,0,none⟩) (st.nodes.length+1) cap)) sv nv ov sv (.slice (some ⟨g,0,none⟩) (st.nodes.length+1) cap) ov/\eX s ae pb (w'.setCell ⟨pb,6,none⟩ (.slice (some ⟨g,0,none⟩) (st.nodes.length+1) cap)) sv (.slice (some ⟨g,0,none⟩) (st.nodes.length+1) cap) ov { st with nodes:=st.nodes++[n] }:=by
 obtain⟨l1,l2,l3,l4⟩:=h.slt;have mr:=hW.size;have hgs:=hg.size;obtain⟨fr,y1,y2,y3⟩:=h.y
 have yW:W0.heap[pb]?=some (.cells (gb s ae fr st.fl.isSome (st.fl.getD 0) sv nv ov) 127 (0,0)):=by rw[hW.block pb l4];exact y3
 have yw:=cY hg yW h.ny
 have pM:g≠pb:=by
  rcases jC with e | e
  ·intro e';rw[e'] at e;exact h.ny e
  ·omega
 have kp:∀ k,k<w.heap.size->k≠pb->nv.ownBlock≠some k->(w'.setCell ⟨pb,6,none⟩ (.slice (some ⟨g,0,none⟩) (st.nodes.length+1) cap)).heap[k]?=w.heap[k]?:=by
  intro k hk hkp hne;rw[aq _ _ (by simpa using hkp),hg.block k (by omega) (λe=>hne e.symm),hW.block k hk]
 refine⟨⟨hg.os.trans hW.os,hg.tape.trans hW.tape,hg.output.trans hW.output,by simp only[World.setCell,Array.size_modify];omega,λk hk hp _ hs hn ho=>kp k hk hp hn,λ_ h=>Or.inl h,λg' hg'=>by simp only[Value.ownBlock,Option.some.injEq] at hg';subst hg';rcases jC with e | e;exact Or.inl e;exact Or.inr (by omega),λ_ h=>Or.inl h⟩,?_⟩
 refine ⟨⟨fr,y1,y2,aA yw 6 _⟩,ay h.sc (λk hk=>kp k (l1 k hk) (λe=>h.sy (by rw[hk,e])) (λe=>h.sn k hk e)),by have:=ay (w':=w'.setCell ⟨pb,6,none⟩ (.slice (some ⟨g,0,none⟩) (st.nodes.length+1) cap)) hown (λk hk=>by simp only[Value.ownBlock,Option.some.injEq] at hk;subst hk;exact aq _ _ (by simpa using pM));simpa using this,ay h.op (λk hk=>kp k (l3 k hk) (λe=>h.oy (by rw[hk,e])) (λe=>h.no.symm k hk e)),h.sy,by simp only[Value.ownBlock,ne_eq,Option.some.injEq];exact pM,h.oy,(λk hk hk'=>by
   simp only[Value.ownBlock,Option.some.injEq] at hk'
   rcases jC with e | e
   ·rw[hk'] at e;exact h.sn k hk e
   ·have:=l1 k hk;omega),h.so,(λk hk hk'=>by
   simp only[Value.ownBlock,Option.some.injEq] at hk
   rcases jC with e | e
   ·rw[hk] at e;exact h.no.symm k hk' e
   ·have:=l3 k hk';omega)⟩
theorem eX.abM {s:ByteArray} {ae:Bool} {pb:Nat} {w W0 w':World} {sv nv ov:Value} {st:PS} (h:eX s ae pb w sv nv ov st) (x:List UInt8 × Int) {g cap:Nat} (hW:Below w.heap.size w W0) (hg:W0.grownBy w' sv.ownBlock)
  (hown:w'.ownsRow 0 190 2 (.slice (some ⟨g,0,none⟩) (st.scope.length+1) cap) (st.scope.length+1) (st.scope.flatMap BA++BA x)) (jC:sv.ownBlock=some g\/W0.heap.size<=g) :
  bL pb pb w (w'.setCell ⟨pb,5,none⟩ (.slice (some ⟨g,0,none⟩) (st.scope.length+1) cap)) sv nv ov (.slice (some ⟨g,0,none⟩) (st.scope.length+1) cap) nv ov/\eX s ae pb (w'.setCell ⟨pb,5,none⟩ (.slice (some ⟨g,0,none⟩) (st.scope.length+1) cap)) (.slice (some ⟨g,0,none⟩) (st.scope.length+1) cap) nv ov { st with scope:=st.scope++[x] }:=by
 obtain⟨l1,l2,l3,l4⟩:=h.slt;have mr:=hW.size;have hgs:=hg.size;obtain⟨fr,y1,y2,y3⟩:=h.y
 have yW:W0.heap[pb]?=some (.cells (gb s ae fr st.fl.isSome (st.fl.getD 0) sv nv ov) 127 (0,0)):=by rw[hW.block pb l4];exact y3
 have yw:=cY hg yW h.sy
 have pM:g≠pb:=by
  rcases jC with e | e
  ·intro e';rw[e'] at e;exact h.sy e
  ·omega
 have kp:∀ k,k<w.heap.size->k≠pb->sv.ownBlock≠some k->(w'.setCell ⟨pb,5,none⟩ (.slice (some ⟨g,0,none⟩) (st.scope.length+1) cap)).heap[k]?=w.heap[k]?:=by
  intro k hk hkp hne;rw[aq _ _ (by simpa using hkp),hg.block k (by omega) (λe=>hne e.symm),hW.block k hk]
 refine⟨⟨hg.os.trans hW.os,hg.tape.trans hW.tape,hg.output.trans hW.output,by simp only[World.setCell,Array.size_modify];omega,λk hk hp _ hs hn ho=>kp k hk hp hs,λg' hg'=>by simp only[Value.ownBlock,Option.some.injEq] at hg';subst hg';rcases jC with e | e;exact Or.inl e;exact Or.inr (by omega),λ_ h=>Or.inl h,λ_ h=>Or.inl h⟩,?_⟩
 refine ⟨⟨fr,y1,y2,aA yw 5 _⟩,by have:=ay (w':=w'.setCell ⟨pb,5,none⟩ (.slice (some ⟨g,0,none⟩) (st.scope.length+1) cap)) hown (λk hk=>by simp only[Value.ownBlock,Option.some.injEq] at hk;subst hk;exact aq _ _ (by simpa using pM));simpa using this,ay h.nd (λk hk=>kp k (l2 k hk) (λe=>h.ny (by rw[hk,e])) (λe=>h.sn.symm k hk e)),ay h.op (λk hk=>kp k (l3 k hk) (λe=>h.oy (by rw[hk,e])) (λe=>h.so.symm k hk e)),by simp only[Value.ownBlock,ne_eq,Option.some.injEq];exact pM,h.ny,h.oy,(λk hk hk'=>by
   simp only[Value.ownBlock,Option.some.injEq] at hk
   rcases jC with e | e
   ·rw[hk] at e;exact h.sn.symm k hk' e
   ·have:=l2 k hk';omega),(λk hk hk'=>by
   simp only[Value.ownBlock,Option.some.injEq] at hk
   rcases jC with e | e
   ·rw[hk] at e;exact h.so.symm k hk' e
   ·have:=l3 k hk';omega),h.no⟩
theorem eX.abN {s:ByteArray} {ae:Bool} {pb:Nat} {w W0 w':World} {sv nv ov:Value} {st:PS} (h:eX s ae pb w sv nv ov st) (x:Int) {g cap:Nat} (hW:Below w.heap.size w W0) (hg:W0.grownBy w' ov.ownBlock)
  (hown:w'.ownsRow 0 3 1 (.slice (some ⟨g,0,none⟩) (st.opened.length+1) cap) (st.opened.length+1) (st.opened.map o9++[o9 x])) (jC:ov.ownBlock=some g\/W0.heap.size<=g) :
  bL pb pb w (w'.setCell ⟨pb,7,none⟩ (.slice (some ⟨g,0,none⟩) (st.opened.length+1) cap)) sv nv ov sv nv (.slice (some ⟨g,0,none⟩) (st.opened.length+1) cap)/\eX s ae pb (w'.setCell ⟨pb,7,none⟩ (.slice (some ⟨g,0,none⟩) (st.opened.length+1) cap)) sv nv (.slice (some ⟨g,0,none⟩) (st.opened.length+1) cap) { st with opened:=st.opened++[x] }:=by
 obtain⟨l1,l2,l3,l4⟩:=h.slt;have mr:=hW.size;have hgs:=hg.size;obtain⟨fr,y1,y2,y3⟩:=h.y
 have yW:W0.heap[pb]?=some (.cells (gb s ae fr st.fl.isSome (st.fl.getD 0) sv nv ov) 127 (0,0)):=by rw[hW.block pb l4];exact y3
 have yw:=cY hg yW h.oy
 have pM:g≠pb:=by
  rcases jC with e | e
  ·intro e';rw[e'] at e;exact h.oy e
  ·omega
 have kp:∀ k,k<w.heap.size->k≠pb->ov.ownBlock≠some k->(w'.setCell ⟨pb,7,none⟩ (.slice (some ⟨g,0,none⟩) (st.opened.length+1) cap)).heap[k]?=w.heap[k]?:=by
  intro k hk hkp hne;rw[aq _ _ (by simpa using hkp),hg.block k (by omega) (λe=>hne e.symm),hW.block k hk]
 refine⟨⟨hg.os.trans hW.os,hg.tape.trans hW.tape,hg.output.trans hW.output,by simp only[World.setCell,Array.size_modify];omega,λk hk hp _ hs hn ho=>kp k hk hp ho,λ_ h=>Or.inl h,λ_ h=>Or.inl h,λg' hg'=>by simp only[Value.ownBlock,Option.some.injEq] at hg';subst hg';rcases jC with e | e;exact Or.inl e;exact Or.inr (by omega)⟩,?_⟩
 refine ⟨⟨fr,y1,y2,aA yw 7 _⟩,ay h.sc (λk hk=>kp k (l1 k hk) (λe=>h.sy (by rw[hk,e])) (λe=>h.so k hk e)),ay h.nd (λk hk=>kp k (l2 k hk) (λe=>h.ny (by rw[hk,e])) (λe=>h.no k hk e)),by have:=ay (w':=w'.setCell ⟨pb,7,none⟩ (.slice (some ⟨g,0,none⟩) (st.opened.length+1) cap)) hown (λk hk=>by simp only[Value.ownBlock,Option.some.injEq] at hk;subst hk;exact aq _ _ (by simpa using pM));simpa using this,h.sy,h.ny,by simp only[Value.ownBlock,ne_eq,Option.some.injEq];exact pM,h.sn,(λk hk hk'=>by
   simp only[Value.ownBlock,Option.some.injEq] at hk'
   rcases jC with e | e
   ·rw[hk'] at e;exact h.so k hk e
   ·have:=l1 k hk;omega),(λk hk hk'=>by
   simp only[Value.ownBlock,Option.some.injEq] at hk'
   rcases jC with e | e
   ·rw[hk'] at e;exact h.no k hk e
   ·have:=l2 k hk;omega)⟩
theorem Nb (n:NR):∀ u∈rV n,u.oneCell'=true:=by intro u hu;simp only[rV,List.mem_cons,List.not_mem_nil,or_false] at hu;rcases hu with rfl | rfl | rfl | rfl | rfl | rfl | rfl | rfl | rfl | rfl <;> rfl
theorem JX (s:ByteArray) (ae:Bool) (pb:Nat) (w:World) (sv nv ov:Value) (st:PS) (n:NR) (hl:st.nodes.length<=9000) (h:eX s ae pb w sv nv ov st) :
  Calls Tryz.prog 127 #[ptr pb,aK n] w λv w'=>v=.returned (.int .i64 st.nodes.length)/\∃ bJ,bL pb pb w w' sv nv ov sv bJ ov/\eX s ae pb w' sv bJ ov (st.add n):=by
 obtain⟨i0,hi,hz0,hz1,hz2⟩:=info_parts Tryz.DQ;have HI:Hid _:=hi;have rR:Hid _:=hz0;have rS:Hid _:=hz1;have rT:Hid _:=hz2;clear hi hz0 hz1 hz2;obtain⟨fr,hf1,hf2,hf3⟩:=h.y;have mQ:=af hf3
 have y6:w.cell? ⟨pb,6,none⟩=some nv:=by rw[aa hf3];rfl
 obtain⟨B,hB⟩:∃ B:Obj,B=.cells #[.int .i64 n.form,.int .i64 n.at_,.int .i64 n.aL,.int .i64 n.num,.string (bs n.word),.int .i64 n.region,.int .i64 n.source,.int .i64 n.p0,.int .i64 n.p1,.int .i64 n.p2] 108:=⟨_,rfl⟩;have hW:Below w.heap.size w ((w.alloc B).alloc B).drew:=(((Below.refl _ w).alloc (Nat.le_refl _) B).alloc (by simp) B).trans ⟨rfl,rfl,rfl,Nat.le_refl _,λ_ _=>rfl⟩;have HW:Hid _:=hW;have eK:Hid (((w.alloc B).alloc B).drew.ownsRow 0 108 10 nv st.nodes.length (st.nodes.flatMap rV)):=aB h.nd hW
 have Ay:Hid (∀ (j:Nat) (u:Value),(rV n)[j]?=some u->((w.alloc B).alloc B).drew.cell? ((⟨w.heap.size+1,0,none⟩:Addr).add j)=some u):=by
  intro j u hj;have hq:=bV (w.alloc B) (rV n) 108 j
  have e:(w.alloc B).heap.size=w.heap.size+1:=by simp
  rw[e] at hq;rw[<- hj,<- hq,hB];rfl
 have Ge:Hid (((w.alloc B).alloc B).drew.heap[pb]?=some (.cells (gb s ae fr st.fl.isSome (st.fl.getD 0) sv nv ov) 127 (0,0))):=by
  show ((w.alloc B).alloc B).drew.heap[pb]?=_
  rw[hW.block pb mQ];exact hf3
 have HH:Hid _:=h;have HNY:Hid _:=h.ny;clear hf1 hf2 hf3 h hW
 show Calls _ _ #[Value.pointer (some ⟨pb,0,none⟩),Value.agg _] w _
 go_enter Tryz.func127,Tryz.ntmps127
 subst hB
 go_wp2
 go_region_law (refine tK rfl (.tmp 10) (.tmp 12) 60 rfl 108 i0 _ 10 88 Tryz.DS HI.out rR.out rS.out rT.out rfl (by decide) nv st.nodes.length (st.nodes.flatMap rV) (by simp[Act.eval]) eK.out ⟨w.heap.size+1,0,none⟩ 1 1 (rV n) (by simp[Act.eval]) rfl Ay.out (Nb n) (by decide) (by unfold maxLen;omega) (by omega) ?_;intro g cap w' hown hgrow jC;have qp:=cY hgrow Ge.out HNY.out;have c6:w'.cell? ⟨pb,6,none⟩=some nv:=(by rw[aa qp];rfl);have f6:=ag qp 6)
 all_goals
  have hadd:=eX.abK HH.out n HW.out hgrow hown jC;have Az:Hid _:=hadd;clear hadd hown hgrow jC
  go_wp2
  go_ret
  exact⟨mF (by omega),_,Az.out⟩
end Go.Proofs.YtpicaknklgccoabGreatDoor
