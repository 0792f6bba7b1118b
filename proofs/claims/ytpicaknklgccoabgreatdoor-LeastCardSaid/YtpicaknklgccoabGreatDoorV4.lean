import Derived.Test.YtpicaknklgccoabGreatDoorV3
set_option maxHeartbeats 8000000
set_option maxRecDepth 100000
namespace Go.Proofs.YtpicaknklgccoabGreatDoor
open Go.RowKit
theorem Bx {w:World} {base:Nat} {e:TypeId} {size g n cap:Nat} {xs:List Value} (h:w.ownsRow base e size (.slice (some ⟨g,0,none⟩) n cap) n xs) (m:Nat) (hm:m<=n):w.ownsRow base e size (.slice (some ⟨g,0,none⟩) m cap) m (xs.take (m*size)):=by
 obtain⟨h1,h2⟩:=h;have hms:m*size<=n*size:=Nat.mul_le_mul_right _ hm
 rcases h2 with ⟨h2,_⟩ | ⟨g',cap',cur,hv,hg,hh,hn,hcm,hcs,htake⟩
 ·cases h2
 ·simp only[Value.slice.injEq,Option.some.injEq,Addr.mk.injEq] at hv
  obtain⟨⟨e1,_⟩,_,e2⟩:=hv;subst e1;subst e2;refine⟨by rw[List.length_take,h1];omega,Or.inr ⟨g,cap,cur,rfl,hg,hh,by omega,hcm,hcs,?_⟩⟩;rw[<- htake,List.take_take,Nat.min_eq_left hms]
theorem L9 (l:List (List UInt8 × Int)):(l.flatMap BA).take ((l.length-1)*2)=l.dropLast.flatMap BA:=by
 rcases List.eq_nil_or_concat l with rfl | ⟨r,x,rfl⟩
 ·rfl
 ·rw[List.concat_eq_append,List.dropLast_concat,List.flatMap_append,List.length_append,List.length_singleton,Nat.add_sub_cancel]
  have hlen:(r.flatMap BA).length=r.length*2:=by
   induction r with
   | nil=>rfl
   | cons a r ih=>simp[BA,ih];omega
  rw[<- hlen,List.take_left]
theorem SD (st:PS) (h:st.scope.dropLast=st.scope):{ st with scope:=st.scope.dropLast }=st:=by rw[h]
theorem eX.aaB {s:ByteArray} {ae:Bool} {pb:Nat} {w:World} {nv ov:Value} {st:PS} {g n cap:Nat} (h:eX s ae pb w (.slice (some ⟨g,0,none⟩) n cap) nv ov st) (pM:g≠pb)
  (ho:w.ownsRow 0 190 2 (.slice (some ⟨g,0,none⟩) (n-1) cap) (n-1) (st.scope.dropLast.flatMap BA)) (hn:n=st.scope.length) :
  bL pb pb w (w.setCell ⟨pb,5,none⟩ (.slice (some ⟨g,0,none⟩) (n-1) cap)).drew (.slice (some ⟨g,0,none⟩) n cap) nv ov (.slice (some ⟨g,0,none⟩) (n-1) cap) nv ov /\
  eX s ae pb (w.setCell ⟨pb,5,none⟩ (.slice (some ⟨g,0,none⟩) (n-1) cap)).drew (.slice (some ⟨g,0,none⟩) (n-1) cap) nv ov { st with scope:=st.scope.dropLast }:=by
 obtain⟨fr,y1,y2,y3⟩:=h.y
 have kp:∀ k,k≠pb->(w.setCell ⟨pb,5,none⟩ (.slice (some ⟨g,0,none⟩) (n-1) cap)).drew.heap[k]?=w.heap[k]?:=λk hk=>aq _ _ (by simpa using hk)
 refine⟨⟨rfl,rfl,rfl,by show _<=(w.setCell _ _).heap.size;simp only[World.setCell,Array.size_modify];omega,λk _ hp _ _ _ _=>kp k hp,λ_ h=>Or.inl h,λ_ h=>Or.inl h,λ_ h=>Or.inl h⟩,?_⟩;refine⟨⟨fr,y1,y2,aA y3 5 _⟩,?_,ay h.nd (λk hk=>kp k (λe=>h.ny (by rw[hk,e]))),ay h.op (λk hk=>kp k (λe=>h.oy (by rw[hk,e]))),by simp only[Value.ownBlock,ne_eq,Option.some.injEq];exact pM,h.ny,h.oy,λk hk=>h.sn k hk,λk hk=>h.so k hk,h.no⟩;have:=ay (w':=(w.setCell ⟨pb,5,none⟩ (.slice (some ⟨g,0,none⟩) (n-1) cap)).drew) ho (λk hk=>kp k (by simp only[Value.ownBlock,Option.some.injEq] at hk;omega));simp only[List.length_dropLast,<- hn];exact this
theorem IM (s:ByteArray) (ae:Bool) (pb:Nat) (w:World) (sv nv ov:Value) (st:PS) (hl:st.scope.length<=9000) (h:eX s ae pb w sv nv ov st) :
  Calls Tryz.prog 150 #[ptr pb] w λv w'=>v=.returned (.tuple #[])/\∃ fV,bL pb pb w w' sv nv ov fV nv ov/\eX s ae pb w' fV nv ov { st with scope:=st.scope.dropLast }:=by
 obtain⟨fr,hf1,hf2,hf3⟩:=h.y;have mQ:=af hf3
 have y5:w.cell? ⟨pb,5,none⟩=some sv:=by rw[aa hf3];rfl
 have f5:w.frozen? ⟨pb,5,none⟩=false:=ag hf3 5;obtain⟨n,hn⟩:∃ n,n=st.scope.length:=⟨_,rfl⟩;have hsc:=h.sc;rw[<- hn] at hsc hl
 show Calls _ _ #[Value.pointer (some ⟨pb,0,none⟩)] w _
 by_cases h0:n=0
 ·have hnil:st.scope=[]:=List.length_eq_zero_iff.1 (by omega)
  have hst:=SD st (by rw[hnil];rfl);rw[hst]
  obtain⟨ao,cap,rfl⟩:∃ ao cap,sv=.slice ao n cap:=by
   rcases hsc.2 with ⟨h1,h2⟩ | ⟨g,cap,cur,h1,_⟩
   ·exact⟨none,0,by rw[h1,h0]⟩
   ·exact⟨_,_,h1⟩
  have HH:Hid _:=h;clear h hsc hf3 hst hnil hn
  go_enter Tryz.func150,Tryz.ntmps150
  go_wp2
  refine bodyPost_end (v:=.tuple #[]) (by simp[results,Tryz.results150,go_sem]) rfl ⟨rfl,_,bL.refl _ _ _ _ _ _,HH.out⟩
 ·obtain ⟨g,cap,rfl⟩:∃ g cap,sv=.slice (some ⟨g,0,none⟩) n cap:=by
   rcases hsc.2 with ⟨h1,h2⟩ | ⟨g,cap,cur,h1,_⟩
   ·omega
   ·exact⟨_,_,h1⟩
  have hcap:n<=cap:=by
   rcases hsc.2 with ⟨h1,h2⟩ | ⟨g',cap',cur,h1,_,_,h3,_⟩
   ·omega
   ·simp only[Value.slice.injEq] at h1;omega
  have Om:cap<=maxLen:=by
   rcases hsc.2 with ⟨h1,h2⟩ | ⟨g',cap',cur,h1,_,_,_,h3,_⟩
   ·omega
   ·simp only[Value.slice.injEq] at h1;omega
  unfold maxLen at Om
  have pM:g≠pb:=λe=>h.sy (by rw[e];rfl)
  have HO:Hid (w.ownsRow 0 190 2 (.slice (some ⟨g,0,none⟩) (n-1) cap) (n-1) (st.scope.dropLast.flatMap BA)):=by
   have:=Bx hsc (n-1) (by omega);rw[hn,L9] at this;rw[hn];exact this
  have HH:Hid _:=h;have ee:Hid _:=hf3;have HN:Hid _:=hn;clear h hsc hf3 hf1 hf2 hn
  go_enter Tryz.func150,Tryz.ntmps150
  go_wp2
  go_region
  all_goals
   go_wp2
   have hd:=eX.aaB HH.out pM HO.out HN.out;have HD:Hid _:=hd;refine bodyPost_end (v:=.tuple #[]) (by simp[results,Tryz.results150,go_sem]) rfl ⟨rfl,(.slice (some ⟨g,0,none⟩) (n-1) cap),?_⟩;exact HD.out
def Bd0 (st:PS):Prop:=st.scope.length+st.l.length<=9000/\st.nodes.length+st.l.length<=9000/\st.opened.length+4*st.l.length<=50000
def QL (st:PS):Prop:=st.scope.length+st.l.length<=8999/\st.nodes.length+st.l.length<=8999/\st.opened.length+4*st.l.length<=49997
theorem QL.to {a b:PS} {j:Nat} (h:QL a) (g:Gs a b j 0) (hj:j<=3):Bd0 b:=by
 obtain⟨h1,h2,h3⟩:=h;exact⟨by rw[g.sc];have:=g.l;omega,by have:=g.nd;omega,by have:=g.op;omega⟩
theorem QL.on {a b:PS} (h:QL a) (g:Gs a b 0 0):QL b:=by
 obtain⟨h1,h2,h3⟩:=h;exact⟨by rw[g.sc];have:=g.l;omega,by have:=g.nd;omega,by have:=g.op;omega⟩
def W9 (s:ByteArray) (ae:Bool) (pb:Nat) (pE:PS->Int × PS) (m:Nat):Prop :=
 ∀ (w:World) (sv nv ov:Value) (st:PS),eX s ae pb w sv nv ov st->st.l.length<=m->Bd0 st->Calls Tryz.prog 91 #[ptr pb] w λv w'=>v=.returned (.int .i64 (pE st).1) /\
  ∃ fV bJ gh,bL pb pb w w' sv nv ov fV bJ gh/\eX s ae pb w' fV bJ gh (pE st).2
theorem Fz (s:ByteArray) (ae:Bool) (pb:Nat) (pE:PS->Int × PS) (m:Nat) (hE:W9 s ae pb pE m) (hG:kR pE m) (w:World) (sv nv ov:Value) (st:PS) (u:List UInt8) (src:Int) (hm:st.l.length<=m)
  (hl:st.scope.length+st.l.length<=8999) (hb:Bd0 st) (h:eX s ae pb w sv nv ov st) :
  Calls Tryz.prog 149 #[ptr pb,.string (bs u),.int .i64 src] w λv w'=>v=.returned (.int .i64 (fF pE u src st).1)/\∃ fV bJ gh,bL pb pb w w' sv nv ov fV bJ gh/\eX s ae pb w' fV bJ gh (fF pE u src st).2:=by
 obtain⟨i0,hi,hz0,hz1,hz2⟩:=info_parts Tryz.OJ;have HI:Hid _:=hi;have rR:Hid _:=hz0;have rS:Hid _:=hz1;have rT:Hid _:=hz2;clear hi hz0 hz1 hz2;obtain⟨fr,hf1,hf2,hf3⟩:=h.y;have mQ:=af hf3
 have y5:w.cell? ⟨pb,5,none⟩=some sv:=by rw[aa hf3];rfl
 have Xa:=λw sv nv ov h=>hE w sv nv ov { st with scope:=st.scope++[(u,src)] } h hm ⟨by simp;omega,hb.2.1,hb.2.2⟩
 have hgr:=hG { st with scope:=st.scope++[(u,src)] } hm
 have hun:=λw sv nv ov h=>IM s ae pb w sv nv ov (pE { st with scope:=st.scope++[(u,src)] }).2 (by rw[hgr.sc];simp;omega) h
 unfold ptr at Xa hun;have DI:Hid _:=Xa;have HUN:Hid _:=hun;have Tu:Hid (fF pE u src st=((pE { st with scope:=st.scope++[(u,src)] }).1,{ (pE { st with scope:=st.scope++[(u,src)] }).2 with scope:=(pE { st with scope:=st.scope++[(u,src)] }).2.scope.dropLast })):=rfl;have HH:Hid _:=h;have ee:Hid _:=hf3;have hW:Below w.heap.size w (w.alloc (.cells #[.string (bs u),.int .i64 src] 190)):=(Below.refl _ w).alloc (Nat.le_refl _) _;have HW:Hid _:=hW;have eK:Hid ((w.alloc (.cells #[.string (bs u),.int .i64 src] 190)).ownsRow 0 190 2 sv st.scope.length (st.scope.flatMap BA)):=aB h.sc hW;have Ge:Hid ((w.alloc (.cells #[.string (bs u),.int .i64 src] 190)).heap[pb]?=some (.cells (gb s ae fr st.fl.isSome (st.fl.getD 0) sv nv ov) 127 (0,0))):=aR _ hf3;clear hf1 hf2 hf3 h hW Xa hun hgr hE hG
 show Calls _ _ #[Value.pointer (some ⟨pb,0,none⟩),_,_] w _
 go_enter Tryz.func149,Tryz.ntmps149
 go_wp2_with (at_builtin;go_must (refine qM _ rfl (.tmp 12) (.tmp 16) 125 rfl 190 i0 _ 2 24 Tryz.OK HI.out rR.out rS.out rT.out rfl (by decide) sv st.scope.length (st.scope.flatMap BA) rfl eK.out ⟨w.heap.size,0,none⟩ 1 1 (BA (u,src)) rfl rfl ?c1 ?c2 (by decide) ?c3 ?c4 ?_))
 case c1 =>
  intro j v hj;rw[<- hj]
  first | rfl | exact bV _ _ _ _
 case c2=>intro v hv;simp only[BA,List.mem_cons,List.not_mem_nil,or_false] at hv;rcases hv with rfl | rfl <;> rfl
 case c3=>unfold maxLen;omega
 case c4=>omega
 intro g cap w' hown hgrow jC;have qp:=cY hgrow Ge.out HH.out.sy
 have c5:w'.cell? ⟨pb,5,none⟩=some sv:=by rw[aa qp];rfl
 have f5:=ag qp 5;have hadd:=eX.abM HH.out (u,src) HW.out hgrow hown (by rw[show (w.alloc (.cells #[.string (bs u),.int .i64 src] 190)).heap.size=w.heap.size+1 from by simp];exact jC);have hE1:=DI.out _ _ _ _ hadd.2;have Az:Hid _:=hadd.1;clear hown hgrow jC qp hadd
 go_wp2_with fail
 refine hE1.mono ?_;rintro _ w2 ⟨rfl,JS,cO,Ip,dD,bC⟩;have hU:=HUN.out _ _ _ _ bC;have cS:Hid _:=Az.out.trans dD;clear dD bC hE1
 go_wp2_with fail
 refine hU.mono ?_;rintro _ w3 ⟨rfl,sv3,cj,eO⟩;have HR:Hid _:=cS.out.trans cj;have HI3:Hid _:=eO;clear cj eO hU
 go_wp2
 go_ret
 exact⟨rfl,_,_,_,HR.out,HI3.out⟩
structure Bk (pb k:Nat) (w:World) (sv nv ov:Value) (X:Obj):Prop where
 b:w.heap[k]?=some X
 ne:k≠pb
 s:sv.ownBlock≠some k
 n:nv.ownBlock≠some k
 o:ov.ownBlock≠some k
theorem Bk.keep {pb k:Nat} {w w':World} {sv nv ov fV bJ gh:Value} {X:Obj} (h:Bk pb k w sv nv ov X) (hf:bL pb pb w w' sv nv ov fV bJ gh):Bk pb k w' fV bJ gh X:=by
 have hk:=af h.b;refine⟨by rw[hf.blk k hk h.ne h.ne h.s h.n h.o];exact h.b,h.ne,?_,?_,?_⟩
 ·intro e;rcases hf.s k e with e | e
  ·exact h.s e
  ·omega
 ·intro e;rcases hf.n k e with e | e
  ·exact h.n e
  ·omega
 ·intro e;rcases hf.o k e with e | e
  ·exact h.o e
  ·omega
theorem Bk.new {s:ByteArray} {ae:Bool} {pb:Nat} {w:World} {sv nv ov:Value} {st:PS} (h:eX s ae pb w sv nv ov st) (X:Obj):Bk pb w.heap.size (w.alloc X) sv nv ov X:=by
 obtain⟨l1,l2,l3,l4⟩:=h.slt;exact⟨aj _ _,by omega,λe=>by have:=l1 _ e;omega,λe=>by have:=l2 _ e;omega,λe=>by have:=l3 _ e;omega⟩
theorem Bk.alloc {pb k:Nat} {w:World} {sv nv ov:Value} {X:Obj} (h:Bk pb k w sv nv ov X) (Y:Obj):Bk pb k (w.alloc Y) sv nv ov X:=⟨aR _ h.b,h.ne,h.s,h.n,h.o⟩
theorem eX.alloc {s:ByteArray} {ae:Bool} {pb:Nat} {w:World} {sv nv ov:Value} {st:PS} (h:eX s ae pb w sv nv ov st) (Y:Obj):eX s ae pb (w.alloc Y) sv nv ov st:=h.below ((Below.refl _ w).alloc (Nat.le_refl _) Y)
theorem bL.alloc {pb nb:Nat} {w w':World} {sv nv ov fV bJ gh:Value} (h:bL pb nb w w' sv nv ov fV bJ gh) (Y:Obj):bL pb nb w (w'.alloc Y) sv nv ov fV bJ gh:=h.trans (bL.below pb nb fV bJ gh ((Below.refl _ w').alloc (Nat.le_refl _) Y))
theorem Bk.set {s:ByteArray} {ae:Bool} {pb nb:Nat} {w:World} {sv nv ov:Value} {st:PS} {cs:Array Value} {t:TypeId} (h:Bk pb nb w sv nv ov (.cells cs t (0,0))) (hin:eX s ae pb w sv nv ov st) (off:Nat) (v:Value) :
  bL pb nb w (w.setCell ⟨nb,off,none⟩ v) sv nv ov sv nv ov/\eX s ae pb (w.setCell ⟨nb,off,none⟩ v) sv nv ov st/\Bk pb nb (w.setCell ⟨nb,off,none⟩ v) sv nv ov (.cells (cs.setIfInBounds off v) t (0,0)):=by
 have kp:∀ k,k≠nb->(w.setCell ⟨nb,off,none⟩ v).heap[k]?=w.heap[k]?:=λk hk=>aq _ _ (by simpa using hk)
 obtain⟨fr,y1,y2,y3⟩:=hin.y;refine⟨⟨rfl,rfl,rfl,by simp only[World.setCell,Array.size_modify];omega,λk _ _ hn _ _ _=>kp k hn,λ_ h=>Or.inl h,λ_ h=>Or.inl h,λ_ h=>Or.inl h⟩,?_,⟨aA h.b off v,h.ne,h.s,h.n,h.o⟩⟩;exact eX.move hin st.l st.fl (λk hk=>kp k (λe=>h.s (by rw[<- e];exact hk))) (λk hk=>kp k (λe=>h.n (by rw[<- e];exact hk))) (λk hk=>kp k (λe=>h.o (by rw[<- e];exact hk))) ⟨fr,y1,y2,by rw[kp pb (λe=>h.ne e.symm)];exact y3⟩
def AA (n:NR):Array Value:=#[.int .i64 n.form,.int .i64 n.at_,.int .i64 n.aL,.int .i64 n.num,.string (bs n.word),.int .i64 n.region,.int .i64 n.source,.int .i64 n.p0,.int .i64 n.p1,.int .i64 n.p2]
abbrev cA (n:NR):Obj:=.cells (AA n) 108 (0,0)
def Xb (T:TN):Array Value:=#[.int .i64 T.kind,.int .i64 T.at_,.int .i64 T.aL,.string (bs T.word),.int .i64 T.num]
abbrev mN (T:TN):Obj:=.cells (Xb T) 159 (0,0)
def FOk (s:ByteArray) (ae:Bool) (pb:Nat) (fn:Nat) (more:Array Value) (f:NR->PS->NR × PS) (m:Nat):Prop :=
 ∀ (nb:Nat) (w:World) (sv nv ov:Value) (st:PS) (n:NR),eX s ae pb w sv nv ov st->Bk pb nb w sv nv ov (cA n)->st.l.length<=m->QL st->Calls Tryz.prog fn (#[ptr pb,ptr nb]++more) w λv w'=>v=.returned (.tuple #[]) /\
  ∃ fV bJ gh,bL pb nb w w' sv nv ov fV bJ gh/\eX s ae pb w' fV bJ gh (f n st).2/\Bk pb nb w' fV bJ gh (cA (f n st).1)
theorem zO (s:ByteArray) (ae:Bool) (pb m:Nat) (hs:s.size<=9000):FOk s ae pb 143 #[] (λn st=>kV s.size n st) m:=by
 intro nb w sv nv ov st n h hb _ _;have hex:=l7 s ae pb w sv nv ov st 6 hs h;unfold kV;obtain⟨T,hT⟩:∃ T,T=fE s.size st.l:=⟨_,rfl⟩;rw[<- hT] at hex;have HT:Hid _:=hT;clear hT;unfold jh ptr at hex;simp only[Array.append_empty]
 show Calls _ _ #[Value.pointer (some ⟨pb,0,none⟩),Value.pointer (some ⟨nb,0,none⟩)] w _
 have HB:Hid _:=hb;clear h hb
 go_enter Tryz.func143,Tryz.ntmps143
 go_wp2_with fail
 refine hex.mono ?_;rintro _ w1 ⟨rfl,hfr,hin⟩;have hb1:=HB.out.keep hfr
 have c5:w1.cell? ⟨nb,5,none⟩=some (.int .i64 n.region):=by rw[aa hb1.b];rfl
 have f5:w1.frozen? ⟨nb,5,none⟩=false:=ag hb1.b 5;have hne:=af hb1.b;obtain⟨s1,s2,s3⟩:=hb1.set hin 5 (.int .i64 T.num);have HF:Hid (bL pb nb w _ sv nv ov sv nv ov):=(hfr.nb (nb:=nb)).trans s1;have H2:Hid _:=s2;have H3:Hid _:=s3;clear s1 s2 s3 hfr hin hb1 hex
 go_wp2
 refine bodyPost_end (v:=.tuple #[]) (by simp[results,Tryz.results143,go_sem]) rfl ⟨rfl,_,_,_,HF.out.alloc _,H2.out.alloc _,by rw[<- HT.out];exact H3.out.alloc _⟩
def kG (pE:PS->Int × PS) (n:NR) (st:PS):Nat->NR × PS
 | 0=>(n,st)
 | 1=>xA pE n st
 | 2=>vW pE n st
 | _=>DF pE n st
theorem qE (s:ByteArray) (ae:Bool) (pb:Nat) (pE:PS->Int × PS) (m c:Nat) (hc:c<=3) (hE:W9 s ae pb pE m) (hG:kR pE m):FOk s ae pb 144 #[.int .i64 c] (λn st=>kG pE n st c) m:=by
 intro nb w sv nv ov st n h hb hm iW;have hg1:=xe hG n st hm;have hg2:=tZ hG n st hm
 have hgl:∀ k,k<=2->(kG pE n st k).2.l.length<=m/\Bd0 (kG pE n st k).2:=by
  intro k hk
  match k,hk with
  | 0,_=>exact⟨hm,iW.to (Gs.refl st) (by omega)⟩
  | 1,_=>exact⟨Nat.le_trans hg1.l hm,iW.to hg1 (by omega)⟩
  | 2,_=>exact⟨Nat.le_trans hg2.l hm,iW.to hg2 (by omega)⟩
 have iL:∀ k,k<3->kG pE n st (k+1)=(if k=0 then { (kG pE n st k).1 with p0:=(pE (kG pE n st k).2).1 } else if k=1 then { (kG pE n st k).1 with p1:=(pE (kG pE n st k).2).1 } else { (kG pE n st k).1 with p2:=(pE (kG pE n st k).2).1 },(pE (kG pE n st k).2).2):=by
  intro k hk
  match k,hk with
  | 0,_=>rfl
  | 1,_=>rfl
  | 2,_=>rfl
 have Xa:=λw sv nv ov st h hm hb=>hE w sv nv ov st h hm hb
 unfold ptr at Xa;have HE:Hid _:=Xa;have HGL:Hid _:=hgl;have nf:Hid _:=iL;have HB:Hid _:=hb;have HH:Hid _:=h;clear hg1 hg2 hgl iL hb h hE hG Xa iW
 show Calls _ _ #[Value.pointer (some ⟨pb,0,none⟩),Value.pointer (some ⟨nb,0,none⟩),.int .i64 c] w _
 go_enter Tryz.func144,Tryz.ntmps144
 go_wp2
 go_loopw [6,7] (λi _ wr=>∃ k:Nat,k<=c/\i=.int .i64 k/\∃ fV bJ gh,bL pb nb w wr sv nv ov fV bJ gh/\eX s ae pb wr fV bJ gh (kG pE n st k).2/\Bk pb nb wr fV bJ gh (cA (kG pE n st k).1)) (λi _ _=>c-(intOf i).toNat)
 case atStart=>exact⟨0,by omega,rfl,sv,nv,ov,bL.refl _ _ _ _ _ _,HH.out,HB.out⟩
 case round =>
  obtain⟨k,hk,rfl,AJ,sL,wG,sY,oC,hb1⟩:=hrel
  by_cases hlt:k<c
  ·have qQ:k<3:=by omega
   obtain⟨hl1,hd1⟩:=HGL.out k (by omega);have hx:=HE.out wr AJ sL wG _ oC hl1 hd1;have hnk:=nf.out k qQ;have L7:Hid _:=sY;have dZ:Hid _:=hb1;have Ya:Hid _:=hnk;clear sY oC hb1 hl1 hd1 hnk
   go_wp2_with fail
   refine hx.mono ?_;rintro _ w2 ⟨rfl,JS,cO,Ip,dD,bC⟩;have hb2:=dZ.out.keep dD;have cS:Hid _:=L7.out.trans (dD.nb (nb:=nb));have yV:Hid _:=bC;have eC:Hid _:=hb2;clear dD bC hx dZ L7;generalize (pE (kG pE n st k).2).1=part at *;obtain⟨s1,s2,s3⟩:=eC.out.set yV.out (7+k) (.int .i64 part)
   have c7:w2.cell? ⟨nb,7,none⟩=some (.int .i64 (kG pE n st k).1.p0):=by rw[aa hb2.b];rfl
   have c8:w2.cell? ⟨nb,8,none⟩=some (.int .i64 (kG pE n st k).1.p1):=by rw[aa hb2.b];rfl
   have c9:w2.cell? ⟨nb,9,none⟩=some (.int .i64 (kG pE n st k).1.p2):=by rw[aa hb2.b];rfl
   have f7:=ag hb2.b 7;have f8:=ag hb2.b 8;have f9:=ag hb2.b 9;have H1:Hid _:=s1;have H2:Hid _:=s2;have H3:Hid _:=s3;clear s1 s2 s3 hb2
   rcases (by omega:k=0\/k=1\/k=2) with rfl | rfl | rfl
   ·go_wp2
    go_roundw
    case rel=>exact⟨1,by omega,rfl,JS,cO,Ip,cS.out.trans H1.out,by rw[Ya.out];exact H2.out,by rw[Ya.out];exact H3.out⟩
    case measure=>simp[intOf];omega
   ·go_wp2
    go_roundw
    case rel=>exact⟨2,by omega,rfl,JS,cO,Ip,cS.out.trans H1.out,by rw[Ya.out];exact H2.out,by rw[Ya.out];exact H3.out⟩
    case measure=>simp[intOf];omega
   ·go_wp2
    go_roundw
    case rel=>exact⟨3,by omega,rfl,JS,cO,Ip,cS.out.trans H1.out,by rw[Ya.out];exact H2.out,by rw[Ya.out];exact H3.out⟩
    case measure=>simp[intOf];omega
  ·have hkc:k=c:=by omega
   have eH:Hid _:=sY;have HI1:Hid _:=oC;have dZ:Hid _:=hb1;have XT:Hid _:=hkc;clear sY oC hb1 hkc
   go_wp2
   refine bodyPost_end (v:=.tuple #[]) (by simp[results,Tryz.results144,go_sem]) rfl ⟨rfl,_,_,_,eH.out,?_,?_⟩
   ·rw[<- XT.out];exact HI1.out
   ·rw[<- XT.out];exact dZ.out
theorem Bk.aaC {s:ByteArray} {ae:Bool} {pb nb:Nat} {w:World} {sv nv ov:Value} {st:PS} {n:NR} (h:Bk pb nb w sv nv ov (cA n)) (hin:eX s ae pb w sv nv ov st) (u:List UInt8) (a b c:Int) :
  bL pb nb w ((((w.setCell ⟨nb,4,none⟩ (.string (bs u))).setCell ⟨nb,7,none⟩ (.int .i64 a)).setCell ⟨nb,8,none⟩ (.int .i64 b)).setCell ⟨nb,9,none⟩ (.int .i64 c)) sv nv ov sv nv ov /\
  eX s ae pb ((((w.setCell ⟨nb,4,none⟩ (.string (bs u))).setCell ⟨nb,7,none⟩ (.int .i64 a)).setCell ⟨nb,8,none⟩ (.int .i64 b)).setCell ⟨nb,9,none⟩ (.int .i64 c)) sv nv ov st /\
  Bk pb nb ((((w.setCell ⟨nb,4,none⟩ (.string (bs u))).setCell ⟨nb,7,none⟩ (.int .i64 a)).setCell ⟨nb,8,none⟩ (.int .i64 b)).setCell ⟨nb,9,none⟩ (.int .i64 c)) sv nv ov (cA { n with word:=u,p0:=a,p1:=b,p2:=c }):=by
 obtain⟨a1,a2,a3⟩:=h.set hin 4 (.string (bs u));obtain⟨b1,b2,b3⟩:=a3.set a2 7 (.int .i64 a);obtain⟨c1,c2,c3⟩:=b3.set b2 8 (.int .i64 b);obtain⟨d1,d2,d3⟩:=c3.set c2 9 (.int .i64 c);exact⟨((a1.trans b1).trans c1).trans d1,d2,d3⟩
theorem FA {w:World} {nb:Nat} {n:NR} (h:w.heap[nb]?=some (cA n)):w.cell? ⟨nb,4,none⟩=some (.string (bs n.word))/\w.cell? ⟨nb,7,none⟩=some (.int .i64 n.p0)/\w.cell? ⟨nb,8,none⟩=some (.int .i64 n.p1)/\w.cell? ⟨nb,9,none⟩=some (.int .i64 n.p2) :=
 ⟨by rw[aa h];rfl,by rw[aa h];rfl,by rw[aa h];rfl,by rw[aa h];rfl⟩
theorem FB (s:ByteArray) (ae:Bool) (pb:Nat) (pE:PS->Int × PS) (m:Nat) (hs:s.size<=9000) (hE:W9 s ae pb pE m) (hG:kR pE m):FOk s ae pb 141 #[] (λn st=>QQ s.size pE n st) m:=by
 intro nb w sv nv ov st n h hb hm iW;have hex:=l7 s ae pb w sv nv ov st 4 hs h;have g1:=iO s.size 4 st;have g1l:=g1.l;have g2:=tY hG (st.expect s.size 4) (by omega);have g2l:=g2.l
 have hx:=λw sv nv ov h=>hE w sv nv ov (st.expect s.size 4) h (by omega) (iW.to g1 (by omega))
 have Hj:=λw sv nv ov u src h=>Fz s ae pb pE m hE hG w sv nv ov (pE (st.expect s.size 4)).2 u src (by omega) (by rw[(g1.trans g2).sc];have:=iW.1;omega) (iW.to (g1.trans g2) (by omega)) h
 have hres:QQ s.size pE n st=({ n with word:=(fE s.size st.l).word,p0:=(pE (st.expect s.size 4)).1,p1:=(fF pE (fE s.size st.l).word (pE (st.expect s.size 4)).1 (pE (st.expect s.size 4)).2).1,p2:=-1 },(fF pE (fE s.size st.l).word (pE (st.expect s.size 4)).1 (pE (st.expect s.size 4)).2).2):=rfl;simp only[hres];clear hres;generalize fE s.size st.l=T at *;generalize st.expect s.size 4=Uy at *;generalize pE Uy=X at *;generalize hY:fF pE T.word X.1 X.2=Y at *
 have De:=λw sv nv ov h=>Hj w sv nv ov T.word X.1 h
 rw[hY] at De;unfold jh ptr at hex;unfold ptr at hx De;simp only[Array.append_empty]
 show Calls _ _ #[Value.pointer (some ⟨pb,0,none⟩),Value.pointer (some ⟨nb,0,none⟩)] w _
 have HB:Hid _:=hb;have HX:Hid _:=hx;have HBO:Hid _:=De;clear h hb hx Hj De g1 g2 g1l g2l hE hG iW hY
 go_enter Tryz.func141,Tryz.ntmps141
 go_wp2_with fail
 refine hex.mono ?_;rintro _ w1 ⟨rfl,hfr,hin⟩;have hb1:=(HB.out.keep hfr).alloc (mN T);have oN:=Bk.new hin (mN T);have hx1:=HX.out _ _ _ _ (hin.alloc (mN T));have eH:Hid _:=hfr.alloc (mN T);have dZ:Hid _:=hb1;have HT1:Hid _:=oN;clear hfr hin hb1 oN hex HB HX;unfold mN Xb at hx1
 go_wp2_with fail
 refine hx1.mono ?_;rintro _ w2 ⟨rfl,JS,cO,Ip,dD,bC⟩;have hb2:=dZ.out.keep dD;have rM:=HT1.out.keep dD;have Uz:=HBO.out _ _ _ _ bC;have cS:Hid _:=eH.out.trans dD;have eC:Hid _:=hb2;have D6:Hid _:=rM
 have d3:w2.cell? ⟨w1.heap.size,3,none⟩=some (.string (bs T.word)):=by rw[aa rM.b];rfl
 clear dD bC hb2 rM hx1 dZ HT1 eH HBO
 go_wp2_with fail
 refine Uz.mono ?_;rintro _ w3 ⟨rfl,sv3,CC,ov3,cj,eO⟩;have hb3:=eC.out.keep cj;have N8:=D6.out.keep cj
 have e3:w3.cell? ⟨w1.heap.size,3,none⟩=some (.string (bs T.word)):=by rw[aa N8.b];rfl
 obtain⟨c4,c7,c8,c9⟩:=FA hb3.b;have f4:=ag hb3.b 4;have f7:=ag hb3.b 7;have f8:=ag hb3.b 8;have f9:=ag hb3.b 9;obtain⟨r1,r2,r3⟩:=hb3.aaC eO T.word X.1 Y.1 (-1);have IB:Hid _:=(cS.out.nb (nb:=nb)).trans ((cj.nb (nb:=nb)).trans r1);have JM:Hid _:=r2;have Gk:Hid _:=r3;clear cj eO hb3 N8 r1 r2 r3 Uz eC D6 cS d3
 go_wp2
 refine bodyPost_end (v:=.tuple #[]) (by simp[results,Tryz.results141,go_sem]) rfl ⟨rfl,_,_,_,IB.out,JM.out,Gk.out⟩
theorem Df (s:ByteArray) (ae:Bool) (pb:Nat) (pE:PS->Int × PS) (m:Nat) (hs:s.size<=9000) (hE:W9 s ae pb pE m) (hG:kR pE m):FOk s ae pb 142 #[] (λn st=>I9 s.size pE n st) m:=by
 intro nb w sv nv ov st n h hb hm iW;have ht:=hE w sv nv ov st h hm (iW.to (Gs.refl st) (by omega));have g0:=tY hG st hm;have g0l:=g0.l
 have hex:=λw sv nv ov h=>l7 s ae pb w sv nv ov (pE st).2 4 hs h
 have g1:=iO s.size 4 (pE st).2;have g1l:=g1.l;have g2:=tY hG ((pE st).2.expect s.size 4) (by omega);have g2l:=g2.l
 have hx:=λw sv nv ov h=>hE w sv nv ov ((pE st).2.expect s.size 4) h (by omega) (iW.to (g0.trans g1) (by omega))
 have Hj:=λw sv nv ov u src h=>Fz s ae pb pE m hE hG w sv nv ov (pE ((pE st).2.expect s.size 4)).2 u src (by omega) (by rw[((g0.trans g1).trans g2).sc];have:=iW.1;omega) (iW.to ((g0.trans g1).trans g2) (by omega)) h
 have hres:I9 s.size pE n st=({ n with word:=(fE s.size (pE st).2.l).word,p0:=(pE st).1,p1:=(pE ((pE st).2.expect s.size 4)).1,p2:=(fF pE (fE s.size (pE st).2.l).word (pE ((pE st).2.expect s.size 4)).1 (pE ((pE st).2.expect s.size 4)).2).1 },(fF pE (fE s.size (pE st).2.l).word (pE ((pE st).2.expect s.size 4)).1 (pE ((pE st).2.expect s.size 4)).2).2):=rfl;simp only[hres];clear hres;generalize pE st=Z at *;generalize fE s.size Z.2.l=T at *;generalize Z.2.expect s.size 4=Uy at *;generalize pE Uy=X at *;generalize hY:fF pE T.word X.1 X.2=Y at *
 have De:=λw sv nv ov h=>Hj w sv nv ov T.word X.1 h
 rw[hY] at De;unfold jh ptr at hex;unfold ptr at hx De ht;simp only[Array.append_empty]
 show Calls _ _ #[Value.pointer (some ⟨pb,0,none⟩),Value.pointer (some ⟨nb,0,none⟩)] w _
 have HB:Hid _:=hb;have HX:Hid _:=hx;have DI:Hid _:=hex;have HBO:Hid _:=De;clear h hb hx Hj De g0 g1 g2 g0l g1l g2l hE hG iW hY hex
 go_enter Tryz.func142,Tryz.ntmps142
 go_wp2_with fail
 refine ht.mono ?_;rintro _ w0 ⟨rfl,sv0,nv0,ov0,L5,Pp⟩;have hex:=DI.out _ _ _ _ Pp;have yB:Hid _:=L5;have Gx:Hid _:=HB.out.keep L5;clear L5 Pp ht HB DI
 go_wp2_with fail
 refine hex.mono ?_;rintro _ w1 ⟨rfl,hfr,hin⟩;have hb1:=(Gx.out.keep hfr).alloc (mN T);have oN:=Bk.new hin (mN T);have hx1:=HX.out _ _ _ _ (hin.alloc (mN T));have eH:Hid _:=yB.out.trans (hfr.alloc (mN T));have dZ:Hid _:=hb1;have HT1:Hid _:=oN;clear hfr hin hb1 oN hex Gx HX yB;unfold mN Xb at hx1
 go_wp2_with fail
 refine hx1.mono ?_;rintro _ w2 ⟨rfl,JS,cO,Ip,dD,bC⟩;have hb2:=dZ.out.keep dD;have rM:=HT1.out.keep dD;have Uz:=HBO.out _ _ _ _ bC;have cS:Hid _:=eH.out.trans dD;have eC:Hid _:=hb2;have D6:Hid _:=rM
 have d3:w2.cell? ⟨w1.heap.size,3,none⟩=some (.string (bs T.word)):=by rw[aa rM.b];rfl
 clear dD bC hb2 rM hx1 dZ HT1 eH HBO
 go_wp2_with fail
 refine Uz.mono ?_;rintro _ w3 ⟨rfl,sv3,CC,ov3,cj,eO⟩;have hb3:=eC.out.keep cj;have N8:=D6.out.keep cj
 have e3:w3.cell? ⟨w1.heap.size,3,none⟩=some (.string (bs T.word)):=by rw[aa N8.b];rfl
 obtain⟨c4,c7,c8,c9⟩:=FA hb3.b;have f4:=ag hb3.b 4;have f7:=ag hb3.b 7;have f8:=ag hb3.b 8;have f9:=ag hb3.b 9;obtain⟨r1,r2,r3⟩:=hb3.aaC eO T.word Z.1 X.1 Y.1;have IB:Hid _:=(cS.out.nb (nb:=nb)).trans ((cj.nb (nb:=nb)).trans r1);have JM:Hid _:=r2;have Gk:Hid _:=r3;clear cj eO hb3 N8 r1 r2 r3 Uz eC D6 cS d3
 go_wp2
 refine bodyPost_end (v:=.tuple #[]) (by simp[results,Tryz.results142,go_sem]) rfl ⟨rfl,_,_,_,IB.out,JM.out,Gk.out⟩
theorem IP (k:Nat) (w:World) (hk:k<=16):Calls Tryz.prog 133 #[.int .i64 k] w λv w'=>v=.returned (.int .i64 (dw k:Nat))/\w'=w:=by
 match k,hk with
 | 0,_=>go_enter Tryz.func133,Tryz.ntmps133;go_wp2;go_ret;exact⟨rfl,rfl⟩
 | 1,_=>go_enter Tryz.func133,Tryz.ntmps133;go_wp2;go_ret;exact⟨rfl,rfl⟩
 | 2,_=>go_enter Tryz.func133,Tryz.ntmps133;go_wp2;go_ret;exact⟨rfl,rfl⟩
 | 3,_=>go_enter Tryz.func133,Tryz.ntmps133;go_wp2;go_ret;exact⟨rfl,rfl⟩
 | 4,_=>go_enter Tryz.func133,Tryz.ntmps133;go_wp2;go_ret;exact⟨rfl,rfl⟩
 | 5,_=>go_enter Tryz.func133,Tryz.ntmps133;go_wp2;go_ret;exact⟨rfl,rfl⟩
 | 6,_=>go_enter Tryz.func133,Tryz.ntmps133;go_wp2;go_ret;exact⟨rfl,rfl⟩
 | 7,_=>go_enter Tryz.func133,Tryz.ntmps133;go_wp2;go_ret;exact⟨rfl,rfl⟩
 | 8,_=>go_enter Tryz.func133,Tryz.ntmps133;go_wp2;go_ret;exact⟨rfl,rfl⟩
 | 9,_=>go_enter Tryz.func133,Tryz.ntmps133;go_wp2;go_ret;exact⟨rfl,rfl⟩
 | 10,_=>go_enter Tryz.func133,Tryz.ntmps133;go_wp2;go_ret;exact⟨rfl,rfl⟩
 | 11,_=>go_enter Tryz.func133,Tryz.ntmps133;go_wp2;go_ret;exact⟨rfl,rfl⟩
 | 12,_=>go_enter Tryz.func133,Tryz.ntmps133;go_wp2;go_ret;exact⟨rfl,rfl⟩
 | 13,_=>go_enter Tryz.func133,Tryz.ntmps133;go_wp2;go_ret;exact⟨rfl,rfl⟩
 | 14,_=>go_enter Tryz.func133,Tryz.ntmps133;go_wp2;go_ret;exact⟨rfl,rfl⟩
 | 15,_=>go_enter Tryz.func133,Tryz.ntmps133;go_wp2;go_ret;exact⟨rfl,rfl⟩
 | k+17,h=>exact absurd h (by omega)
 | 16,_=>go_enter Tryz.func133,Tryz.ntmps133;go_wp2;go_ret;exact⟨rfl,rfl⟩
theorem SE (len:Nat) (l:List Tk):(fE len l).kind<=16:=by
 unfold fE
 split
 ·simp
 ·rename_i t _
  show bR t.c<=16
  cases t.c with
  | kw k=>cases k <;> decide
  | _=>decide
theorem aJ {a b:Nat} (h:a=b):((a:Int)==(b:Int))=true:=by subst h;simp
theorem ah {a b:Nat} (h:a≠b):((a:Int)==(b:Int))=false:=by rw[beq_eq_false_iff_ne];omega
theorem PF (s:ByteArray) (ae:Bool) (pb:Nat) (pE:PS->Int × PS) (m:Nat) (hs:s.size<=9000) (hE:W9 s ae pb pE m) (hG:kR pE m):FOk s ae pb 134 #[] (λn st=>pJ ae s.size pE n st) m:=by
 intro nb w sv nv ov st n h hb hm iW;have wQ:=FB s ae pb pE m hs hE hG nb w sv nv ov st n h hb hm iW;have hloop:=Df s ae pb pE m hs hE hG nb w sv nv ov st n h hb hm iW;have rQ:=zO s ae pb m hs nb w sv nv ov st n h hb hm iW
 have hr1:∀ (w:World) (sv nv ov:Value) (st:PS) (n:NR),eX s ae pb w sv nv ov st->Bk pb nb w sv nv ov (cA n)->st.l.length<=m->QL st->Calls Tryz.prog 144 #[.pointer (some ⟨pb,0,none⟩),.pointer (some ⟨nb,0,none⟩),.int .i64 1] w λv w'=>v=.returned (.tuple #[]) /\
   ∃ fV bJ gh,bL pb nb w w' sv nv ov fV bJ gh/\eX s ae pb w' fV bJ gh (xA pE n st).2/\Bk pb nb w' fV bJ gh (cA (xA pE n st).1):=λw sv nv ov st n a b c d=>qE s ae pb pE m 1 (by omega) hE hG nb w sv nv ov st n a b c d
 have dV:∀ (w:World) (sv nv ov:Value) (st:PS) (n:NR),eX s ae pb w sv nv ov st->Bk pb nb w sv nv ov (cA n)->st.l.length<=m->QL st->Calls Tryz.prog 144 #[.pointer (some ⟨pb,0,none⟩),.pointer (some ⟨nb,0,none⟩),.int .i64 2] w λv w'=>v=.returned (.tuple #[]) /\
   ∃ fV bJ gh,bL pb nb w w' sv nv ov fV bJ gh/\eX s ae pb w' fV bJ gh (vW pE n st).2/\Bk pb nb w' fV bJ gh (cA (vW pE n st).1):=λw sv nv ov st n a b c d=>qE s ae pb pE m 2 (by omega) hE hG nb w sv nv ov st n a b c d
 have rH:∀ (w:World) (sv nv ov:Value) (st:PS) (n:NR),eX s ae pb w sv nv ov st->Bk pb nb w sv nv ov (cA n)->st.l.length<=m->QL st->Calls Tryz.prog 144 #[.pointer (some ⟨pb,0,none⟩),.pointer (some ⟨nb,0,none⟩),.int .i64 3] w λv w'=>v=.returned (.tuple #[]) /\
   ∃ fV bJ gh,bL pb nb w w' sv nv ov fV bJ gh/\eX s ae pb w' fV bJ gh (DF pE n st).2/\Bk pb nb w' fV bJ gh (cA (DF pE n st).1):=λw sv nv ov st n a b c d=>qE s ae pb pE m 3 (by omega) hE hG nb w sv nv ov st n a b c d
 have hgr:Gs st (kV s.size n st).2 0 0:=iO s.size 6 st;have hgl:(kV s.size n st).2.l.length<=m:=Nat.le_trans hgr.l hm;have hgb:=iW.on hgr;simp only[Array.append_empty] at wQ hloop rQ;unfold ptr at wQ hloop rQ;obtain⟨fr,y1,y2,y3⟩:=h.y
 have c0:w.cell? ⟨nb,0,none⟩=some (.int .i64 n.form):=by rw[aa hb.b];rfl
 have p1:w.cell? ⟨pb,1,none⟩=some (.bool ae):=by rw[aa y3];rfl
 simp only[Array.append_empty]
 show Calls _ _ #[Value.pointer (some ⟨pb,0,none⟩),Value.pointer (some ⟨nb,0,none⟩)] w _
 clear y1 y2 y3 hE hG hgr;unfold pJ
 by_cases k3:n.form=3
 ·skip
  have q3:((n.form:Int)==3)=true:=aJ (b:=3) k3;have HC:Hid _:=wQ;simp only[if_pos k3];clear k3 wQ hloop rQ hr1 dV rH hb iW h hgl hgb
  go_enter Tryz.func134,Tryz.ntmps134
  go_wp2_with fail
  refine Calls.mono HC.out ?_;rintro _ w1 ⟨rfl,AJ,sL,wG,r1,r2,r3⟩;have H1:Hid _:=r1;have H2:Hid _:=r2;have H3:Hid _:=r3;clear r1 r2 r3
  go_wp2
  refine bodyPost_end (v:=.tuple #[]) (by simp[results,Tryz.results134,go_sem]) rfl ⟨rfl,_,_,_,H1.out,H2.out,H3.out⟩
 by_cases k11:n.form=11
 ·skip
  have q3:((n.form:Int)==3)=false:=ah (b:=3) k3;have AB:((n.form:Int)==11)=true:=aJ (b:=11) k11;have HC:Hid _:=hloop;simp only[if_neg k3,if_pos k11];clear k3 k11 wQ hloop rQ hr1 dV rH hb iW h hgl hgb
  go_enter Tryz.func134,Tryz.ntmps134
  go_wp2_with fail
  refine Calls.mono HC.out ?_;rintro _ w1 ⟨rfl,AJ,sL,wG,r1,r2,r3⟩;have H1:Hid _:=r1;have H2:Hid _:=r2;have H3:Hid _:=r3;clear r1 r2 r3
  go_wp2
  refine bodyPost_end (v:=.tuple #[]) (by simp[results,Tryz.results134,go_sem]) rfl ⟨rfl,_,_,_,H1.out,H2.out,H3.out⟩
 by_cases k4:n.form=4
 ·skip
  have q3:((n.form:Int)==3)=false:=ah (b:=3) k3;have AB:((n.form:Int)==11)=false:=ah (b:=11) k11;have q4:((n.form:Int)==4)=true:=aJ (b:=4) k4
  cases ae with
  | true =>
   have HC:Hid _:=rQ;have HR:Hid _:=dV;simp only[if_neg k3,if_neg k11,if_pos k4,if_true];have HGL:Hid _:=hgl;have HGB:Hid _:=hgb;clear k3 k11 k4 wQ hloop rQ hr1 dV rH hb iW h hgl hgb
   go_enter Tryz.func134,Tryz.ntmps134
   go_wp2_with fail
   refine Calls.mono HC.out ?_;rintro _ w1 ⟨rfl,AJ,sL,wG,r1,r2,r3⟩;have hx:=HR.out w1 AJ sL wG _ _ r2 r3 HGL.out HGB.out;have H1:Hid _:=r1;clear r1 r2 r3 HC HR
   go_wp2_with fail
   refine Calls.mono hx ?_;rintro _ w2 ⟨rfl,JS,cO,Ip,t1,t2,t3⟩;have G1:Hid _:=H1.out.trans t1;have G2:Hid _:=t2;have G3:Hid _:=t3;clear t1 t2 t3 hx
   go_wp2
   refine bodyPost_end (v:=.tuple #[]) (by simp[results,Tryz.results134,go_sem]) rfl ⟨rfl,_,_,_,G1.out,G2.out,G3.out⟩
  | false =>
   have HC:Hid _:=(dV w sv nv ov st n h hb hm iW);simp only[if_neg k3,if_neg k11,if_pos k4,Bool.false_eq_true,if_false];clear k3 k11 k4 wQ hloop rQ hr1 dV rH hb iW h hgl hgb
   go_enter Tryz.func134,Tryz.ntmps134
   go_wp2_with fail
   refine Calls.mono HC.out ?_;rintro _ w1 ⟨rfl,AJ,sL,wG,r1,r2,r3⟩;have H1:Hid _:=r1;have H2:Hid _:=r2;have H3:Hid _:=r3;clear r1 r2 r3
   go_wp2
   refine bodyPost_end (v:=.tuple #[]) (by simp[results,Tryz.results134,go_sem]) rfl ⟨rfl,_,_,_,H1.out,H2.out,H3.out⟩
 by_cases k12:n.form=12
 ·skip
  have q3:((n.form:Int)==3)=false:=ah (b:=3) k3;have AB:((n.form:Int)==11)=false:=ah (b:=11) k11;have q4:((n.form:Int)==4)=false:=ah (b:=4) k4;have A5:((n.form:Int)==12)=true:=aJ (b:=12) k12;have HC:Hid _:=rQ;have HR:Hid _:=hr1;simp only[if_neg k3,if_neg k11,if_neg k4,if_pos k12];have HGL:Hid _:=hgl;have HGB:Hid _:=hgb;clear k3 k11 k4 k12 wQ hloop rQ hr1 dV rH hb iW h hgl hgb
  go_enter Tryz.func134,Tryz.ntmps134
  go_wp2_with fail
  refine Calls.mono HC.out ?_;rintro _ w1 ⟨rfl,AJ,sL,wG,r1,r2,r3⟩;have hx:=HR.out w1 AJ sL wG _ _ r2 r3 HGL.out HGB.out;have H1:Hid _:=r1;clear r1 r2 r3 HC HR
  go_wp2_with fail
  refine Calls.mono hx ?_;rintro _ w2 ⟨rfl,JS,cO,Ip,t1,t2,t3⟩;have G1:Hid _:=H1.out.trans t1;have G2:Hid _:=t2;have G3:Hid _:=t3;clear t1 t2 t3 hx
  go_wp2
  refine bodyPost_end (v:=.tuple #[]) (by simp[results,Tryz.results134,go_sem]) rfl ⟨rfl,_,_,_,G1.out,G2.out,G3.out⟩
 by_cases k5:n.form=5
 ·skip
  have q3:((n.form:Int)==3)=false:=ah (b:=3) k3;have AB:((n.form:Int)==11)=false:=ah (b:=11) k11;have q4:((n.form:Int)==4)=false:=ah (b:=4) k4;have A5:((n.form:Int)==12)=false:=ah (b:=12) k12;have q5:((n.form:Int)==5)=true:=aJ (b:=5) k5;have QM:n.form=5\/n.form=6:=Or.inl k5;have HC:Hid _:=(hr1 w sv nv ov st n h hb hm iW);simp only[if_neg k3,if_neg k11,if_neg k4,if_neg k12,if_pos QM];clear k3 k11 k4 k12 k5 QM wQ hloop rQ hr1 dV rH hb iW h hgl hgb
  go_enter Tryz.func134,Tryz.ntmps134
  go_wp2_with fail
  refine Calls.mono HC.out ?_;rintro _ w1 ⟨rfl,AJ,sL,wG,r1,r2,r3⟩;have H1:Hid _:=r1;have H2:Hid _:=r2;have H3:Hid _:=r3;clear r1 r2 r3
  go_wp2
  refine bodyPost_end (v:=.tuple #[]) (by simp[results,Tryz.results134,go_sem]) rfl ⟨rfl,_,_,_,H1.out,H2.out,H3.out⟩
 by_cases k6:n.form=6
 ·skip
  have q3:((n.form:Int)==3)=false:=ah (b:=3) k3;have AB:((n.form:Int)==11)=false:=ah (b:=11) k11;have q4:((n.form:Int)==4)=false:=ah (b:=4) k4;have A5:((n.form:Int)==12)=false:=ah (b:=12) k12;have q5:((n.form:Int)==5)=false:=ah (b:=5) k5;have q6:((n.form:Int)==6)=true:=aJ (b:=6) k6;have QM:n.form=5\/n.form=6:=Or.inr k6;have HC:Hid _:=(hr1 w sv nv ov st n h hb hm iW);simp only[if_neg k3,if_neg k11,if_neg k4,if_neg k12,if_pos QM];clear k3 k11 k4 k12 k5 k6 QM wQ hloop rQ hr1 dV rH hb iW h hgl hgb
  go_enter Tryz.func134,Tryz.ntmps134
  go_wp2_with fail
  refine Calls.mono HC.out ?_;rintro _ w1 ⟨rfl,AJ,sL,wG,r1,r2,r3⟩;have H1:Hid _:=r1;have H2:Hid _:=r2;have H3:Hid _:=r3;clear r1 r2 r3
  go_wp2
  refine bodyPost_end (v:=.tuple #[]) (by simp[results,Tryz.results134,go_sem]) rfl ⟨rfl,_,_,_,H1.out,H2.out,H3.out⟩
 have QM:¬ (n.form=5\/n.form=6):=λe=>e.elim k5 k6
 by_cases k7:n.form=7
 ·skip
  have q3:((n.form:Int)==3)=false:=ah (b:=3) k3;have AB:((n.form:Int)==11)=false:=ah (b:=11) k11;have q4:((n.form:Int)==4)=false:=ah (b:=4) k4;have A5:((n.form:Int)==12)=false:=ah (b:=12) k12;have q5:((n.form:Int)==5)=false:=ah (b:=5) k5;have q6:((n.form:Int)==6)=false:=ah (b:=6) k6;have q7:((n.form:Int)==7)=true:=aJ (b:=7) k7;have HC:Hid _:=(rH w sv nv ov st n h hb hm iW);simp only[if_neg k3,if_neg k11,if_neg k4,if_neg k12,if_neg QM,if_pos k7];clear k3 k11 k4 k12 k5 k6 QM k7 wQ hloop rQ hr1 dV rH hb iW h hgl hgb
  go_enter Tryz.func134,Tryz.ntmps134
  go_wp2_with fail
  refine Calls.mono HC.out ?_;rintro _ w1 ⟨rfl,AJ,sL,wG,r1,r2,r3⟩;have H1:Hid _:=r1;have H2:Hid _:=r2;have H3:Hid _:=r3;clear r1 r2 r3
  go_wp2
  refine bodyPost_end (v:=.tuple #[]) (by simp[results,Tryz.results134,go_sem]) rfl ⟨rfl,_,_,_,H1.out,H2.out,H3.out⟩
 ·skip
  have q3:((n.form:Int)==3)=false:=ah (b:=3) k3;have AB:((n.form:Int)==11)=false:=ah (b:=11) k11;have q4:((n.form:Int)==4)=false:=ah (b:=4) k4;have A5:((n.form:Int)==12)=false:=ah (b:=12) k12;have q5:((n.form:Int)==5)=false:=ah (b:=5) k5;have q6:((n.form:Int)==6)=false:=ah (b:=6) k6;have q7:((n.form:Int)==7)=false:=ah (b:=7) k7;have HC:Hid _:=(dV w sv nv ov st n h hb hm iW);simp only[if_neg k3,if_neg k11,if_neg k4,if_neg k12,if_neg QM,if_neg k7];clear k3 k11 k4 k12 k5 k6 QM k7 wQ hloop rQ hr1 dV rH hb iW h hgl hgb
  go_enter Tryz.func134,Tryz.ntmps134
  go_wp2_with fail
  refine Calls.mono HC.out ?_;rintro _ w1 ⟨rfl,AJ,sL,wG,r1,r2,r3⟩;have H1:Hid _:=r1;have H2:Hid _:=r2;have H3:Hid _:=r3;clear r1 r2 r3
  go_wp2
  refine bodyPost_end (v:=.tuple #[]) (by simp[results,Tryz.results134,go_sem]) rfl ⟨rfl,_,_,_,H1.out,H2.out,H3.out⟩
theorem aC {w:World} {nb:Nat} {n:NR} (h:w.heap[nb]?=some (cA n)) :
  w.cell? ⟨nb,0,none⟩=some (.int .i64 n.form)/\w.cell? ⟨nb,1,none⟩=some (.int .i64 n.at_)/\w.cell? ⟨nb,2,none⟩=some (.int .i64 n.aL)/\w.cell? ⟨nb,3,none⟩=some (.int .i64 n.num)/\w.cell? ⟨nb,4,none⟩=some (.string (bs n.word)) /\
  w.cell? ⟨nb,5,none⟩=some (.int .i64 n.region)/\w.cell? ⟨nb,6,none⟩=some (.int .i64 n.source)/\w.cell? ⟨nb,7,none⟩=some (.int .i64 n.p0)/\w.cell? ⟨nb,8,none⟩=some (.int .i64 n.p1)/\w.cell? ⟨nb,9,none⟩=some (.int .i64 n.p2) :=
 ⟨by rw[aa h];rfl,by rw[aa h];rfl,by rw[aa h];rfl,by rw[aa h];rfl,by rw[aa h];rfl,by rw[aa h];rfl,by rw[aa h];rfl,by rw[aa h];rfl,by rw[aa h];rfl,by rw[aa h];rfl⟩
theorem bL.drop {pb nb:Nat} {w w':World} {X:Obj} {sv nv ov fV bJ gh:Value} (h:bL pb nb (w.alloc X) w' sv nv ov fV bJ gh) (hn:nb=w.heap.size):bL pb pb w w' sv nv ov fV bJ gh:=by
 have hs:(w.alloc X).heap.size=w.heap.size+1:=by simp
 have f:=h.size;rw[hs] at f;have hb:Below w.heap.size w (w.alloc X):=(Below.refl _ w).alloc (Nat.le_refl _) X;refine⟨h.os.trans hb.os,h.tape.trans hb.tape,h.output.trans hb.output,by omega,λk hk hp _ a b c=>?_,λg hg=>?_,λg hg=>?_,λg hg=>?_⟩
 ·rw[h.blk k (by omega) hp (by omega) a b c];exact hb.block k hk
 ·rcases h.s g hg with e | e
  ·exact Or.inl e
  ·exact Or.inr (by omega)
 ·rcases h.n g hg with e | e
  ·exact Or.inl e
  ·exact Or.inr (by omega)
 ·rcases h.o g hg with e | e
  ·exact Or.inl e
  ·exact Or.inr (by omega)
def BOk (s:ByteArray) (ae:Bool) (pb:Nat) (pB:NR->PS->Int × PS) (m:Nat):Prop :=
 ∀ (w:World) (sv nv ov:Value) (st:PS) (n:NR),eX s ae pb w sv nv ov st->st.l.length<=m->QL st->Calls Tryz.prog 129 #[ptr pb,aK n] w λv w'=>v=.returned (.int .i64 (pB n st).1) /\
  ∃ fV bJ gh,bL pb pb w w' sv nv ov fV bJ gh/\eX s ae pb w' fV bJ gh (pB n st).2
theorem FC (s:ByteArray) (ae:Bool) (pb:Nat) (pE:PS->Int × PS) (m:Nat) (hs:s.size<=9000) (hE:W9 s ae pb pE m) (hG:kR pE m):BOk s ae pb (ig ae s.size pE) m:=by
 intro w sv nv ov st n h hm iW;have htk:=zh s ae pb (w.alloc (cA n)) sv nv ov st hs (h.alloc _)
 have hfi:=λnb w sv nv ov n h hb=>PF s ae pb pE m hs hE hG nb w sv nv ov st.tail n h hb (Nat.le_trans (pK st) hm) (iW.on (oq st))
 have hfa:=λw a h=>zi s ae pb w sv nv ov st.tail a h
 have hkl:=SE s.size st.l;have X6:=Bk.new h (cA n);unfold ig;simp only;obtain⟨T,hT⟩:∃ T,T=fE s.size st.l:=⟨_,rfl⟩;rw[<- hT] at htk hkl ⊢
 have hfo:=λw=>IP T.kind w hkl
 have hform:∃ f:Nat,f=dw T.kind:=⟨_,rfl⟩;obtain⟨f,hf⟩:=hform;rw[<- hf] at hfo ⊢;have hgf:=JC hG ae s.size { n with form:=f } st.tail (Nat.le_trans (pK st) hm)
 have hex:=λw sv nv ov h=>l7 s ae pb w sv nv ov (pJ ae s.size pE { n with form:=f } st.tail).2 3 hs h
 have hge:=iO s.size 3 (pJ ae s.size pE { n with form:=f } st.tail).2
 have kJ:((pJ ae s.size pE { n with form:=f } st.tail).2.expect s.size 3).nodes.length<=9000:=by
  have:=hgf.nd;have:=hge.nd;have:=(oq st).nd;have:=iW.2.1;omega
 have had:=λw sv nv ov n' h=>JX s ae pb w sv nv ov ((pJ ae s.size pE { n with form:=f } st.tail).2.expect s.size 3) n' kJ h
 unfold jh ptr at htk hex;unfold ptr at hfa had;simp only[Array.append_empty] at hfi;unfold ptr at hfi;clear hgf hge kJ hE hG iW hm hkl hT hf;have HH:Hid _:=h;have Gx:Hid _:=X6;clear h X6;unfold aK at had
 show Calls _ _ #[Value.pointer (some ⟨pb,0,none⟩),Value.agg #[.int .i64 n.form,.int .i64 n.at_,.int .i64 n.aL,.int .i64 n.num,.string (bs n.word),.int .i64 n.region,.int .i64 n.source,.int .i64 n.p0,.int .i64 n.p1,.int .i64 n.p2]] w _
 by_cases hc:f=0\/(f=12/\ae=false)
 ·simp only[if_pos hc]
  go_enter Tryz.func129,Tryz.ntmps129
  go_wp2_with fail
  refine Calls.mono htk ?_;rintro _ w1 ⟨rfl,hfr,hin⟩;have hb1:=Gx.out.keep hfr;obtain⟨c0,_⟩:=aC hb1.b;have f0:=ag hb1.b 0;have hnb:=af hb1.b;obtain⟨s1,s2,s3⟩:=hb1.set hin 0 (.int .i64 f);have Ma:=hfa _ T.at_ (s2.alloc (mN T));have HF:Hid _:=((hfr.nb (nb:=w.heap.size)).trans s1).alloc (mN T);obtain⟨fr,y1,y2,y3⟩:=s2.y
  have p1:w1.cell? ⟨pb,1,none⟩=some (.bool ae):=by
   obtain⟨fr,y1,y2,y3⟩:=hin.y;rw[aa y3];rfl
  have hpn:w.heap.size≠pb:=hb1.ne;have hpl:pb<w1.heap.size:=hin.slt.2.2.2
  have ab4:pb≠w.heap.size:=λe=>hb1.ne e.symm
  unfold mN Xb at Ma;clear s1 s2 s3 hfr hin hb1 htk hfa Gx hex had hfi y1 y2 y3
  rcases hc with hc | ⟨hc,hp⟩
  ·have q0:((f:Int)==0)=true:=aJ (b:=0) hc
   have HFz:Hid _:=hc;clear hc
   go_wp2_with (first
    | (go_at_call 133;refine (hfo _).mono ?_;rintro e w' ⟨rfl,rfl⟩)
    | (go_at_call 119;refine Calls.mono Ma ?_;rintro e w' ⟨rfl,dD,bC⟩))
   go_ret
   exact⟨rfl,sv,nv,ov,(HF.out.trans (dD.nb (nb:=w.heap.size))).drop rfl,bC⟩
  ·have q0:((f:Int)==0)=false:=ah (b:=0) (by omega)
   have A5:((f:Int)==12)=true:=aJ (b:=12) hc;subst hp;have HFz:Hid _:=hc;clear hc
   go_wp2_with (first
    | (go_at_call 133;refine (hfo _).mono ?_;rintro e w' ⟨rfl,rfl⟩)
    | (go_at_call 119;refine Calls.mono Ma ?_;rintro e w' ⟨rfl,dD,bC⟩))
   go_ret
   exact⟨rfl,sv,nv,ov,(HF.out.trans (dD.nb (nb:=w.heap.size))).drop rfl,bC⟩
 ·simp only[if_neg hc]
  generalize hX:pJ ae s.size pE { n with form:=f } st.tail=X at *;obtain⟨T2,rM⟩:∃ T2,T2=fE s.size X.2.l:=⟨_,rfl⟩;rw[<- rM] at hex ⊢
  have Xc:=λnb w sv nv ov h hb=>hfi nb w sv nv ov { n with form:=f } h hb
  rw[hX] at Xc;generalize X.2.expect s.size 3=S3 at *;have q0:((f:Int)==0)=false:=ah (b:=0) (λe=>hc (Or.inl e))
  have hq:(((f:Int)==12)=true/\ae=true)\/((f:Int)==12)=false:=by
   by_cases e:f=12
   ·left
    refine⟨aJ (b:=12) e,?_⟩
    cases ae with
    | true=>rfl
    | false=>exact absurd (Or.inr ⟨e,rfl⟩) hc
   ·exact Or.inr (ah (b:=12) e)
  have Lx:Hid _:=Xc;have DI:Hid _:=hex;have HAD:Hid _:=had;have HQ:Hid _:=hq;clear hfi Xc hex had hfa hc hX rM hq
  go_enter Tryz.func129,Tryz.ntmps129
  go_wp2_with fail
  refine Calls.mono htk ?_;rintro _ w1 ⟨rfl,hfr,hin⟩;have hb1:=Gx.out.keep hfr;obtain⟨c0,_⟩:=aC hb1.b;have f0:=ag hb1.b 0;have hnb:=af hb1.b;obtain⟨s1,s2,s3⟩:=hb1.set hin 0 (.int .i64 f);have Xd:=Lx.out w.heap.size _ _ _ _ (s2.alloc (mN T)) (s3.alloc (mN T));have HF:Hid _:=((hfr.nb (nb:=w.heap.size)).trans s1).alloc (mN T)
  have p1:w1.cell? ⟨pb,1,none⟩=some (.bool ae):=by
   obtain⟨fr,y1,y2,y3⟩:=hin.y;rw[aa y3];rfl
  have hpn:w.heap.size≠pb:=hb1.ne;have hpl:pb<w1.heap.size:=hin.slt.2.2.2
  have ab4:pb≠w.heap.size:=λe=>hb1.ne e.symm
  unfold mN Xb at Xd;have SF:Hid _:=Xd;clear s1 s2 s3 hfr hin hb1 htk Gx Lx Xd;have hq:=HQ.out;clear HQ
  rcases hq with ⟨A5,hp⟩ | A5
  ·rw[hp] at p1
   go_wp2_with (go_at_call 133;refine (hfo _).mono ?_;rintro e w' ⟨rfl,rfl⟩)
   refine Calls.mono SF.out ?_;rintro _ w2 ⟨rfl,JS,cO,Ip,r1,r2,r3⟩;have PG:=DI.out _ _ _ _ r2;have G1:Hid _:=HF.out.trans r1;have eC:Hid _:=r3;clear r1 r2 r3 SF DI p1 c0 f0
   go_wp2_with fail
   refine Calls.mono PG ?_;rintro _ w3 ⟨rfl,cj,eO⟩;have hb3:=eC.out.keep cj;obtain⟨c0,c1,c2,c3,c4,c5,c6,c7,c8,c9⟩:=aC hb3.b;have f2:=ag hb3.b 2;have LU:=af hb3.b;obtain⟨t1,t2,t3⟩:=hb3.set eO 2 (.int .i64 T2.aL);have vN:=HAD.out _ _ _ _ { X.1 with aL:=T2.aL } (t2.alloc (mN T2));have G2:Hid _:=((G1.out.trans (cj.nb (nb:=w.heap.size))).trans t1).alloc (mN T2);unfold mN Xb at vN;have zP:Hid _:=vN;clear t1 t2 t3 cj eO hb3 PG HAD eC G1 vN
   go_wp2_with fail
   refine Calls.mono zP.out ?_;rintro _ w4 ⟨rfl,iD,iY,cx⟩;have G3:Hid _:=(G2.out.trans (iY.nb (nb:=w.heap.size))).drop rfl;have G4:Hid _:=cx;clear iY cx zP G2
   go_wp2
   go_ret
   exact⟨rfl,_,_,_,G3.out,G4.out⟩
  ·go_wp2_with (go_at_call 133;refine (hfo _).mono ?_;rintro e w' ⟨rfl,rfl⟩)
   refine Calls.mono SF.out ?_;rintro _ w2 ⟨rfl,JS,cO,Ip,r1,r2,r3⟩;have PG:=DI.out _ _ _ _ r2;have G1:Hid _:=HF.out.trans r1;have eC:Hid _:=r3;clear r1 r2 r3 SF DI p1 c0 f0
   go_wp2_with fail
   refine Calls.mono PG ?_;rintro _ w3 ⟨rfl,cj,eO⟩;have hb3:=eC.out.keep cj;obtain⟨c0,c1,c2,c3,c4,c5,c6,c7,c8,c9⟩:=aC hb3.b;have f2:=ag hb3.b 2;have LU:=af hb3.b;obtain⟨t1,t2,t3⟩:=hb3.set eO 2 (.int .i64 T2.aL);have vN:=HAD.out _ _ _ _ { X.1 with aL:=T2.aL } (t2.alloc (mN T2));have G2:Hid _:=((G1.out.trans (cj.nb (nb:=w.heap.size))).trans t1).alloc (mN T2);unfold mN Xb at vN;have zP:Hid _:=vN;clear t1 t2 t3 cj eO hb3 PG HAD eC G1 vN
   go_wp2_with fail
   refine Calls.mono zP.out ?_;rintro _ w4 ⟨rfl,iD,iY,cx⟩;have G3:Hid _:=(G2.out.trans (iY.nb (nb:=w.heap.size))).drop rfl;have G4:Hid _:=cx;clear iY cx zP G2
   go_wp2
   go_ret
   exact⟨rfl,_,_,_,G3.out,G4.out⟩
end Go.Proofs.YtpicaknklgccoabGreatDoor
