import Derived.Test.YtpicaknklgccoabGreatDoorS3
set_option maxHeartbeats 8000000
set_option maxRecDepth 100000
namespace Go.Proofs.YtpicaknklgccoabGreatDoor
open Go.RowKit
structure Bk (pb k:Nat) (w:World) (sv nv ov:Value) (X:Obj):Prop where
 b:w.heap[k]?=some X
 ne:k≠pb
 s:sv.ownBlock≠some k
 n:nv.ownBlock≠some k
 o:ov.ownBlock≠some k
theorem Bk.keep {pb k:Nat} {w w':World} {sv nv ov fC bB fH:Value} {X:Obj} (h:Bk pb k w sv nv ov X) (hf:bz pb pb w w' sv nv ov fC bB fH):Bk pb k w' fC bB fH X:=by
 have hk:=af h.b
 refine ⟨by rw [hf.blk k hk h.ne h.ne h.s h.n h.o];exact h.b,h.ne,?_,?_,?_⟩
 ·intro e;rcases hf.s k e with e | e
  ·exact h.s e
  ·omega
 ·intro e;rcases hf.n k e with e | e
  ·exact h.n e
  ·omega
 ·intro e;rcases hf.o k e with e | e
  ·exact h.o e
  ·omega
theorem Bk.new {s:ByteArray} {ae:Bool} {pb:Nat} {w:World} {sv nv ov:Value} {st:PS} (h:eC s ae pb w sv nv ov st) (X:Obj):Bk pb w.heap.size (w.alloc X) sv nv ov X:=by
 obtain ⟨l1,l2,l3,l4⟩:=h.slt
 exact ⟨aj _ _,by omega,fun e=>by have:=l1 _ e;omega,fun e=>by have:=l2 _ e;omega,fun e=>by have:=l3 _ e;omega⟩
theorem Bk.alloc {pb k:Nat} {w:World} {sv nv ov:Value} {X:Obj} (h:Bk pb k w sv nv ov X) (Y:Obj):Bk pb k (w.alloc Y) sv nv ov X:=⟨aN _ h.b,h.ne,h.s,h.n,h.o⟩
theorem eC.alloc {s:ByteArray} {ae:Bool} {pb:Nat} {w:World} {sv nv ov:Value} {st:PS} (h:eC s ae pb w sv nv ov st) (Y:Obj):eC s ae pb (w.alloc Y) sv nv ov st:=h.below ((Below.refl _ w).alloc (Nat.le_refl _) Y)
theorem bz.alloc {pb nb:Nat} {w w':World} {sv nv ov fC bB fH:Value} (h:bz pb nb w w' sv nv ov fC bB fH) (Y:Obj):bz pb nb w (w'.alloc Y) sv nv ov fC bB fH:=h.trans (bz.below pb nb fC bB fH ((Below.refl _ w').alloc (Nat.le_refl _) Y))
theorem Bk.set {s:ByteArray} {ae:Bool} {pb nb:Nat} {w:World} {sv nv ov:Value} {st:PS} {cs:Array Value} {t:TypeId} (h:Bk pb nb w sv nv ov (.cells cs t (0,0))) (hin:eC s ae pb w sv nv ov st) (off:Nat) (v:Value) :
  bz pb nb w (w.setCell ⟨nb,off,none⟩ v) sv nv ov sv nv ov/\eC s ae pb (w.setCell ⟨nb,off,none⟩ v) sv nv ov st/\Bk pb nb (w.setCell ⟨nb,off,none⟩ v) sv nv ov (.cells (cs.setIfInBounds off v) t (0,0)):=by
 have kp:∀ k,k≠nb->(w.setCell ⟨nb,off,none⟩ v).heap[k]?=w.heap[k]?:=fun k hk=>ak _ _ (by simpa using hk)
 obtain ⟨fr,y1,y2,y3⟩:=hin.y
 refine ⟨⟨rfl,rfl,rfl,by simp only [World.setCell,Array.size_modify];omega,fun k _ _ hn _ _ _=>kp k hn,fun _ h=>Or.inl h,fun _ h=>Or.inl h,fun _ h=>Or.inl h⟩,?_,⟨ay h.b off v,h.ne,h.s,h.n,h.o⟩⟩
 exact eC.move hin st.l st.fl (fun k hk=>kp k (fun e=>h.s (by rw [<- e];exact hk))) (fun k hk=>kp k (fun e=>h.n (by rw [<- e];exact hk))) (fun k hk=>kp k (fun e=>h.o (by rw [<- e];exact hk))) ⟨fr,y1,y2,by rw [kp pb (fun e=>h.ne e.symm)];exact y3⟩
def za (n:NR):Array Value:=#[.int .i64 n.form,.int .i64 n.at_,.int .i64 n.aR,.int .i64 n.num,.string (bs n.word),.int .i64 n.region,.int .i64 n.source,.int .i64 n.p0,.int .i64 n.p1,.int .i64 n.p2]
abbrev bU (n:NR):Obj:=.cells (za n) 108 (0,0)
def VI (T:TN):Array Value:=#[.int .i64 T.kind,.int .i64 T.at_,.int .i64 T.aR,.string (bs T.word),.int .i64 T.num]
abbrev lZ (T:TN):Obj:=.cells (VI T) 159 (0,0)
def Zk (s:ByteArray) (ae:Bool) (pb:Nat) (fn:Nat) (more:Array Value) (f:NR->PS->NR × PS) (m:Nat):Prop :=
 ∀ (nb:Nat) (w:World) (sv nv ov:Value) (st:PS) (n:NR),eC s ae pb w sv nv ov st->Bk pb nb w sv nv ov (bU n)->st.l.length<=m->Pq st->Calls Tryz.prog fn (#[ptr pb,ptr nb]++more) w fun v w'=>v=.returned (.tuple #[]) /\
  ∃ fC bB fH,bz pb nb w w' sv nv ov fC bB fH/\eC s ae pb w' fC bB fH (f n st).2/\Bk pb nb w' fC bB fH (bU (f n st).1)
theorem yK (s:ByteArray) (ae:Bool) (pb m:Nat) (hs:s.size<=9000):Zk s ae pb 143 #[] (fun n st=>j6 s.size n st) m:=by
 intro nb w sv nv ov st n h hb _ _
 have hex:=ll s ae pb w sv nv ov st 6 hs h
 unfold j6
 obtain ⟨T,hT⟩:∃ T,T=eY s.size st.l:=⟨_,rfl⟩
 rw [<- hT] at hex
 have HT:Hid _:=hT
 clear hT
 unfold iz ptr at hex
 simp only [Array.append_empty]
 show Calls _ _ #[Value.pointer (some ⟨pb,0,none⟩),Value.pointer (some ⟨nb,0,none⟩)] w _
 have HB:Hid _:=hb
 clear h hb
 go_enter Tryz.func143,Tryz.ntmps143
 go_wp2_with fail
 refine hex.mono ?_
 rintro _ w1 ⟨rfl,hfr,hin⟩
 have hb1:=HB.out.keep hfr
 have c5:w1.cell? ⟨nb,5,none⟩=some (.int .i64 n.region):=by rw [aa hb1.b];rfl
 have f5:w1.frozen? ⟨nb,5,none⟩=false:=ag hb1.b 5
 have hne:=af hb1.b
 obtain ⟨s1,s2,s3⟩:=hb1.set hin 5 (.int .i64 T.num)
 have HF:Hid (bz pb nb w _ sv nv ov sv nv ov):=(hfr.nb (nb:=nb)).trans s1
 have H2:Hid _:=s2
 have H3:Hid _:=s3
 clear s1 s2 s3 hfr hin hb1 hex
 go_wp2
 refine bodyPost_end (v:=.tuple #[]) (by simp [results,Tryz.results143,go_sem]) rfl ⟨rfl,_,_,_,HF.out.alloc _,H2.out.alloc _,by rw [<- HT.out];exact H3.out.alloc _⟩
def jQ (pE:PS->Int × PS) (n:NR) (st:PS):Nat->NR × PS
 | 0=>(n,st)
 | 1=>vY pE n st
 | 2=>uy pE n st
 | _=>Cu pE n st
theorem oQ (s:ByteArray) (ae:Bool) (pb:Nat) (pE:PS->Int × PS) (m c:Nat) (hc:c<=3) (hE:Vf s ae pb pE m) (hG:jZ pE m):Zk s ae pb 144 #[.int .i64 c] (fun n st=>jQ pE n st c) m:=by
 intro nb w sv nv ov st n h hb hm gZ
 have hg1:=vK hG n st hm
 have hg2:=sC hG n st hm
 have hgl:∀ k,k<=2->(jQ pE n st k).2.l.length<=m/\Bd0 (jQ pE n st k).2:=by
  intro k hk
  match k,hk with
  | 0,_=>exact ⟨hm,gZ.to (Gs.refl st) (by omega)⟩
  | 1,_=>exact ⟨Nat.le_trans hg1.l hm,gZ.to hg1 (by omega)⟩
  | 2,_=>exact ⟨Nat.le_trans hg2.l hm,gZ.to hg2 (by omega)⟩
 have iH:∀ k,k < 3->jQ pE n st (k+1)=(if k=0 then { (jQ pE n st k).1 with p0:=(pE (jQ pE n st k).2).1 } else if k=1 then { (jQ pE n st k).1 with p1:=(pE (jQ pE n st k).2).1 } else { (jQ pE n st k).1 with p2:=(pE (jQ pE n st k).2).1 },(pE (jQ pE n st k).2).2):=by
  intro k hk
  match k,hk with
  | 0,_=>rfl
  | 1,_=>rfl
  | 2,_=>rfl
 have Vg:=fun w sv nv ov st h hm hb=>hE w sv nv ov st h hm hb
 unfold ptr at Vg
 have HE:Hid _:=Vg
 have Zl:Hid _:=hgl
 have nu:Hid _:=iH
 have HB:Hid _:=hb
 have HH:Hid _:=h
 clear hg1 hg2 hgl iH hb h hE hG Vg gZ
 show Calls _ _ #[Value.pointer (some ⟨pb,0,none⟩),Value.pointer (some ⟨nb,0,none⟩),.int .i64 c] w _
 go_enter Tryz.func144,Tryz.ntmps144
 go_wp2
 go_loopw [6,7] (fun i _ wr=>∃ k:Nat,k<=c/\i=.int .i64 k/\∃ fC bB fH,bz pb nb w wr sv nv ov fC bB fH/\eC s ae pb wr fC bB fH (jQ pE n st k).2/\Bk pb nb wr fC bB fH (bU (jQ pE n st k).1)) (fun i _ _=>c - (intOf i).toNat)
 case atStart=>exact ⟨0,by omega,rfl,sv,nv,ov,bz.refl _ _ _ _ _ _,HH.out,HB.out⟩
 case round =>
  obtain ⟨k,hk,rfl,zk,tq,u4,qX,mT,hb1⟩:=hrel
  by_cases hlt:k < c
  ·have qt:k < 3:=by omega
   obtain ⟨hl1,hd1⟩:=Zl.out k (by omega)
   have hx:=HE.out wr zk tq u4 _ mT hl1 hd1
   have hnk:=nu.out k qt
   have JD:Hid _:=qX
   have dG:Hid _:=hb1
   have Ww:Hid _:=hnk
   clear qX mT hb1 hl1 hd1 hnk
   go_wp2_with fail
   refine hx.mono ?_
   rintro _ w2 ⟨rfl,Hr,cz,Fx,cW,bq⟩
   have hb2:=dG.out.keep cW
   have cx:Hid _:=JD.out.trans (cW.nb (nb:=nb))
   have wS:Hid _:=bq
   have dU:Hid _:=hb2
   clear cW bq hx dG JD
   generalize (pE (jQ pE n st k).2).1=part at *
   obtain ⟨s1,s2,s3⟩:=dU.out.set wS.out (7+k) (.int .i64 part)
   have c7:w2.cell? ⟨nb,7,none⟩=some (.int .i64 (jQ pE n st k).1.p0):=by rw [aa hb2.b];rfl
   have c8:w2.cell? ⟨nb,8,none⟩=some (.int .i64 (jQ pE n st k).1.p1):=by rw [aa hb2.b];rfl
   have c9:w2.cell? ⟨nb,9,none⟩=some (.int .i64 (jQ pE n st k).1.p2):=by rw [aa hb2.b];rfl
   have f7:=ag hb2.b 7
   have f8:=ag hb2.b 8
   have f9:=ag hb2.b 9
   have H1:Hid _:=s1
   have H2:Hid _:=s2
   have H3:Hid _:=s3
   clear s1 s2 s3 hb2
   rcases (by omega:k=0\/k=1\/k=2) with rfl | rfl | rfl
   ·go_wp2
    go_roundw
    case rel=>exact ⟨1,by omega,rfl,Hr,cz,Fx,cx.out.trans H1.out,by rw [Ww.out];exact H2.out,by rw [Ww.out];exact H3.out⟩
    case measure=>simp [intOf];omega
   ·go_wp2
    go_roundw
    case rel=>exact ⟨2,by omega,rfl,Hr,cz,Fx,cx.out.trans H1.out,by rw [Ww.out];exact H2.out,by rw [Ww.out];exact H3.out⟩
    case measure=>simp [intOf];omega
   ·go_wp2
    go_roundw
    case rel=>exact ⟨3,by omega,rfl,Hr,cz,Fx,cx.out.trans H1.out,by rw [Ww.out];exact H2.out,by rw [Ww.out];exact H3.out⟩
    case measure=>simp [intOf];omega
  ·have hkc:k=c:=by omega
   have dV:Hid _:=qX
   have HI1:Hid _:=mT
   have dG:Hid _:=hb1
   have Wh:Hid _:=hkc
   clear qX mT hb1 hkc
   go_wp2
   refine bodyPost_end (v:=.tuple #[]) (by simp [results,Tryz.results144,go_sem]) rfl ⟨rfl,_,_,_,dV.out,?_,?_⟩
   ·rw [<- Wh.out];exact HI1.out
   ·rw [<- Wh.out];exact dG.out
theorem Bk.Zm {s:ByteArray} {ae:Bool} {pb nb:Nat} {w:World} {sv nv ov:Value} {st:PS} {n:NR} (h:Bk pb nb w sv nv ov (bU n)) (hin:eC s ae pb w sv nv ov st) (u:List UInt8) (a b c:Int) :
  bz pb nb w ((((w.setCell ⟨nb,4,none⟩ (.string (bs u))).setCell ⟨nb,7,none⟩ (.int .i64 a)).setCell ⟨nb,8,none⟩ (.int .i64 b)).setCell ⟨nb,9,none⟩ (.int .i64 c)) sv nv ov sv nv ov /\
  eC s ae pb ((((w.setCell ⟨nb,4,none⟩ (.string (bs u))).setCell ⟨nb,7,none⟩ (.int .i64 a)).setCell ⟨nb,8,none⟩ (.int .i64 b)).setCell ⟨nb,9,none⟩ (.int .i64 c)) sv nv ov st /\
  Bk pb nb ((((w.setCell ⟨nb,4,none⟩ (.string (bs u))).setCell ⟨nb,7,none⟩ (.int .i64 a)).setCell ⟨nb,8,none⟩ (.int .i64 b)).setCell ⟨nb,9,none⟩ (.int .i64 c)) sv nv ov (bU { n with word:=u,p0:=a,p1:=b,p2:=c }):=by
 obtain ⟨a1,a2,a3⟩:=h.set hin 4 (.string (bs u))
 obtain ⟨b1,b2,b3⟩:=a3.set a2 7 (.int .i64 a)
 obtain ⟨c1,c2,c3⟩:=b3.set b2 8 (.int .i64 b)
 obtain ⟨d1,d2,d3⟩:=c3.set c2 9 (.int .i64 c)
 exact ⟨((a1.trans b1).trans c1).trans d1,d2,d3⟩
theorem Ev {w:World} {nb:Nat} {n:NR} (h:w.heap[nb]?=some (bU n)):w.cell? ⟨nb,4,none⟩=some (.string (bs n.word))/\w.cell? ⟨nb,7,none⟩=some (.int .i64 n.p0)/\w.cell? ⟨nb,8,none⟩=some (.int .i64 n.p1)/\w.cell? ⟨nb,9,none⟩=some (.int .i64 n.p2) :=
 ⟨by rw [aa h];rfl,by rw [aa h];rfl,by rw [aa h];rfl,by rw [aa h];rfl⟩
theorem Ew (s:ByteArray) (ae:Bool) (pb:Nat) (pE:PS->Int × PS) (m:Nat) (hs:s.size<=9000) (hE:Vf s ae pb pE m) (hG:jZ pE m):Zk s ae pb 141 #[] (fun n st=>PD s.size pE n st) m:=by
 intro nb w sv nv ov st n h hb hm gZ
 have hex:=ll s ae pb w sv nv ov st 4 hs h
 have g1:=gU s.size 4 st
 have g1l:=g1.l
 have g2:=sB hG (st.expect s.size 4) (by omega)
 have g2l:=g2.l
 have hx:=fun w sv nv ov h=>hE w sv nv ov (st.expect s.size 4) h (by omega) (gZ.to g1 (by omega))
 have F2:=fun w sv nv ov u src h=>DP s ae pb pE m hE hG w sv nv ov (pE (st.expect s.size 4)).2 u src (by omega) (by rw [(g1.trans g2).sc];have:=gZ.1;omega) (gZ.to (g1.trans g2) (by omega)) h
 have hres:PD s.size pE n st=({ n with word:=(eY s.size st.l).word,p0:=(pE (st.expect s.size 4)).1,p1:=(eZ pE (eY s.size st.l).word (pE (st.expect s.size 4)).1 (pE (st.expect s.size 4)).2).1,p2:=-1 },(eZ pE (eY s.size st.l).word (pE (st.expect s.size 4)).1 (pE (st.expect s.size 4)).2).2):=rfl
 simp only [hres]
 clear hres
 generalize eY s.size st.l=T at *
 generalize st.expect s.size 4=SS at *
 generalize pE SS=X at *
 generalize hY:eZ pE T.word X.1 X.2=Y at *
 have Cc:=fun w sv nv ov h=>F2 w sv nv ov T.word X.1 h
 rw [hY] at Cc
 unfold iz ptr at hex
 unfold ptr at hx Cc
 simp only [Array.append_empty]
 show Calls _ _ #[Value.pointer (some ⟨pb,0,none⟩),Value.pointer (some ⟨nb,0,none⟩)] w _
 have HB:Hid _:=hb
 have HX:Hid _:=hx
 have Zn:Hid _:=Cc
 clear h hb hx F2 Cc g1 g2 g1l g2l hE hG gZ hY
 go_enter Tryz.func141,Tryz.ntmps141
 go_wp2_with fail
 refine hex.mono ?_
 rintro _ w1 ⟨rfl,hfr,hin⟩
 have hb1:=(HB.out.keep hfr).alloc (lZ T)
 have mr:=Bk.new hin (lZ T)
 have hx1:=HX.out _ _ _ _ (hin.alloc (lZ T))
 have dV:Hid _:=hfr.alloc (lZ T)
 have dG:Hid _:=hb1
 have R8:Hid _:=mr
 clear hfr hin hb1 mr hex HB HX
 unfold lZ VI at hx1
 go_wp2_with fail
 refine hx1.mono ?_
 rintro _ w2 ⟨rfl,Hr,cz,Fx,cW,bq⟩
 have hb2:=dG.out.keep cW
 have rY:=R8.out.keep cW
 have SX:=Zn.out _ _ _ _ bq
 have cx:Hid _:=dV.out.trans cW
 have dU:Hid _:=hb2
 have Ds:Hid _:=rY
 have d3:w2.cell? ⟨w1.heap.size,3,none⟩=some (.string (bs T.word)):=by rw [aa rY.b];rfl
 clear cW bq hb2 rY hx1 dG R8 dV Zn
 go_wp2_with fail
 refine SX.mono ?_
 rintro _ w3 ⟨rfl,sv3,BG,ov3,bQ,dZ⟩
 have hb3:=dU.out.keep bQ
 have NK:=Ds.out.keep bQ
 have e3:w3.cell? ⟨w1.heap.size,3,none⟩=some (.string (bs T.word)):=by rw [aa NK.b];rfl
 obtain ⟨c4,c7,c8,c9⟩:=Ev hb3.b
 have f4:=ag hb3.b 4
 have f7:=ag hb3.b 7
 have f8:=ag hb3.b 8
 have f9:=ag hb3.b 9
 obtain ⟨r1,r2,r3⟩:=hb3.Zm dZ T.word X.1 Y.1 (-1)
 have Ha:Hid _:=(cx.out.nb (nb:=nb)).trans ((bQ.nb (nb:=nb)).trans r1)
 have Jw:Hid _:=r2
 have EO:Hid _:=r3
 clear bQ dZ hb3 NK r1 r2 r3 SX dU Ds cx d3
 go_wp2
 refine bodyPost_end (v:=.tuple #[]) (by simp [results,Tryz.results141,go_sem]) rfl ⟨rfl,_,_,_,Ha.out,Jw.out,EO.out⟩
theorem Cd (s:ByteArray) (ae:Bool) (pb:Nat) (pE:PS->Int × PS) (m:Nat) (hs:s.size<=9000) (hE:Vf s ae pb pE m) (hG:jZ pE m):Zk s ae pb 142 #[] (fun n st=>GW s.size pE n st) m:=by
 intro nb w sv nv ov st n h hb hm gZ
 have ht:=hE w sv nv ov st h hm (gZ.to (Gs.refl st) (by omega))
 have g0:=sB hG st hm
 have g0l:=g0.l
 have hex:=fun w sv nv ov h=>ll s ae pb w sv nv ov (pE st).2 4 hs h
 have g1:=gU s.size 4 (pE st).2
 have g1l:=g1.l
 have g2:=sB hG ((pE st).2.expect s.size 4) (by omega)
 have g2l:=g2.l
 have hx:=fun w sv nv ov h=>hE w sv nv ov ((pE st).2.expect s.size 4) h (by omega) (gZ.to (g0.trans g1) (by omega))
 have F2:=fun w sv nv ov u src h=>DP s ae pb pE m hE hG w sv nv ov (pE ((pE st).2.expect s.size 4)).2 u src (by omega) (by rw [((g0.trans g1).trans g2).sc];have:=gZ.1;omega) (gZ.to ((g0.trans g1).trans g2) (by omega)) h
 have hres:GW s.size pE n st=({ n with word:=(eY s.size (pE st).2.l).word,p0:=(pE st).1,p1:=(pE ((pE st).2.expect s.size 4)).1,p2:=(eZ pE (eY s.size (pE st).2.l).word (pE ((pE st).2.expect s.size 4)).1 (pE ((pE st).2.expect s.size 4)).2).1 },(eZ pE (eY s.size (pE st).2.l).word (pE ((pE st).2.expect s.size 4)).1 (pE ((pE st).2.expect s.size 4)).2).2):=rfl
 simp only [hres]
 clear hres
 generalize pE st=Z at *
 generalize eY s.size Z.2.l=T at *
 generalize Z.2.expect s.size 4=SS at *
 generalize pE SS=X at *
 generalize hY:eZ pE T.word X.1 X.2=Y at *
 have Cc:=fun w sv nv ov h=>F2 w sv nv ov T.word X.1 h
 rw [hY] at Cc
 unfold iz ptr at hex
 unfold ptr at hx Cc ht
 simp only [Array.append_empty]
 show Calls _ _ #[Value.pointer (some ⟨pb,0,none⟩),Value.pointer (some ⟨nb,0,none⟩)] w _
 have HB:Hid _:=hb
 have HX:Hid _:=hx
 have Cw:Hid _:=hex
 have Zn:Hid _:=Cc
 clear h hb hx F2 Cc g0 g1 g2 g0l g1l g2l hE hG gZ hY hex
 go_enter Tryz.func142,Tryz.ntmps142
 go_wp2_with fail
 refine ht.mono ?_
 rintro _ w0 ⟨rfl,sv0,nv0,ov0,JB,Md⟩
 have hex:=Cw.out _ _ _ _ Md
 have xT:Hid _:=JB
 have EV:Hid _:=HB.out.keep JB
 clear JB Md ht HB Cw
 go_wp2_with fail
 refine hex.mono ?_
 rintro _ w1 ⟨rfl,hfr,hin⟩
 have hb1:=(EV.out.keep hfr).alloc (lZ T)
 have mr:=Bk.new hin (lZ T)
 have hx1:=HX.out _ _ _ _ (hin.alloc (lZ T))
 have dV:Hid _:=xT.out.trans (hfr.alloc (lZ T))
 have dG:Hid _:=hb1
 have R8:Hid _:=mr
 clear hfr hin hb1 mr hex EV HX xT
 unfold lZ VI at hx1
 go_wp2_with fail
 refine hx1.mono ?_
 rintro _ w2 ⟨rfl,Hr,cz,Fx,cW,bq⟩
 have hb2:=dG.out.keep cW
 have rY:=R8.out.keep cW
 have SX:=Zn.out _ _ _ _ bq
 have cx:Hid _:=dV.out.trans cW
 have dU:Hid _:=hb2
 have Ds:Hid _:=rY
 have d3:w2.cell? ⟨w1.heap.size,3,none⟩=some (.string (bs T.word)):=by rw [aa rY.b];rfl
 clear cW bq hb2 rY hx1 dG R8 dV Zn
 go_wp2_with fail
 refine SX.mono ?_
 rintro _ w3 ⟨rfl,sv3,BG,ov3,bQ,dZ⟩
 have hb3:=dU.out.keep bQ
 have NK:=Ds.out.keep bQ
 have e3:w3.cell? ⟨w1.heap.size,3,none⟩=some (.string (bs T.word)):=by rw [aa NK.b];rfl
 obtain ⟨c4,c7,c8,c9⟩:=Ev hb3.b
 have f4:=ag hb3.b 4
 have f7:=ag hb3.b 7
 have f8:=ag hb3.b 8
 have f9:=ag hb3.b 9
 obtain ⟨r1,r2,r3⟩:=hb3.Zm dZ T.word Z.1 X.1 Y.1
 have Ha:Hid _:=(cx.out.nb (nb:=nb)).trans ((bQ.nb (nb:=nb)).trans r1)
 have Jw:Hid _:=r2
 have EO:Hid _:=r3
 clear bQ dZ hb3 NK r1 r2 r3 SX dU Ds cx d3
 go_wp2
 refine bodyPost_end (v:=.tuple #[]) (by simp [results,Tryz.results142,go_sem]) rfl ⟨rfl,_,_,_,Ha.out,Jw.out,EO.out⟩
theorem GJ (k:Nat) (w:World) (hk:k<=16):Calls Tryz.prog 133 #[.int .i64 k] w fun v w'=>v=.returned (.int .i64 (cP k:Nat))/\w'=w:=by
 match k,hk with
 | 0,_=>go_enter Tryz.func133,Tryz.ntmps133;go_wp2;go_ret;exact ⟨rfl,rfl⟩
 | 1,_=>go_enter Tryz.func133,Tryz.ntmps133;go_wp2;go_ret;exact ⟨rfl,rfl⟩
 | 2,_=>go_enter Tryz.func133,Tryz.ntmps133;go_wp2;go_ret;exact ⟨rfl,rfl⟩
 | 3,_=>go_enter Tryz.func133,Tryz.ntmps133;go_wp2;go_ret;exact ⟨rfl,rfl⟩
 | 4,_=>go_enter Tryz.func133,Tryz.ntmps133;go_wp2;go_ret;exact ⟨rfl,rfl⟩
 | 5,_=>go_enter Tryz.func133,Tryz.ntmps133;go_wp2;go_ret;exact ⟨rfl,rfl⟩
 | 6,_=>go_enter Tryz.func133,Tryz.ntmps133;go_wp2;go_ret;exact ⟨rfl,rfl⟩
 | 7,_=>go_enter Tryz.func133,Tryz.ntmps133;go_wp2;go_ret;exact ⟨rfl,rfl⟩
 | 8,_=>go_enter Tryz.func133,Tryz.ntmps133;go_wp2;go_ret;exact ⟨rfl,rfl⟩
 | 9,_=>go_enter Tryz.func133,Tryz.ntmps133;go_wp2;go_ret;exact ⟨rfl,rfl⟩
 | 10,_=>go_enter Tryz.func133,Tryz.ntmps133;go_wp2;go_ret;exact ⟨rfl,rfl⟩
 | 11,_=>go_enter Tryz.func133,Tryz.ntmps133;go_wp2;go_ret;exact ⟨rfl,rfl⟩
 | 12,_=>go_enter Tryz.func133,Tryz.ntmps133;go_wp2;go_ret;exact ⟨rfl,rfl⟩
 | 13,_=>go_enter Tryz.func133,Tryz.ntmps133;go_wp2;go_ret;exact ⟨rfl,rfl⟩
 | 14,_=>go_enter Tryz.func133,Tryz.ntmps133;go_wp2;go_ret;exact ⟨rfl,rfl⟩
 | 15,_=>go_enter Tryz.func133,Tryz.ntmps133;go_wp2;go_ret;exact ⟨rfl,rfl⟩
 | k+17,h=>exact absurd h (by omega)
 | 16,_=>go_enter Tryz.func133,Tryz.ntmps133;go_wp2;go_ret;exact ⟨rfl,rfl⟩
theorem RI (len:Nat) (l:List Tk):(eY len l).kind<=16:=by
 unfold eY
 split
 ·simp
 ·rename_i t _
  show bF t.c<=16
  cases t.c with
  | kw k=>cases k <;> decide
  | _=>decide
theorem aH {a b:Nat} (h:a=b):((a:Int) == (b:Int))=true:=by subst h;simp
theorem ah {a b:Nat} (h:a≠b):((a:Int) == (b:Int))=false:=by rw [beq_eq_false_iff_ne];omega
theorem OK (s:ByteArray) (ae:Bool) (pb:Nat) (pE:PS->Int × PS) (m:Nat) (hs:s.size<=9000) (hE:Vf s ae pb pE m) (hG:jZ pE m):Zk s ae pb 134 #[] (fun n st=>nX ae s.size pE n st) m:=by
 intro nb w sv nv ov st n h hb hm gZ
 have vz:=Ew s ae pb pE m hs hE hG nb w sv nv ov st n h hb hm gZ
 have hloop:=Cd s ae pb pE m hs hE hG nb w sv nv ov st n h hb hm gZ
 have pU:=yK s ae pb m hs nb w sv nv ov st n h hb hm gZ
 have hr1:∀ (w:World) (sv nv ov:Value) (st:PS) (n:NR),eC s ae pb w sv nv ov st->Bk pb nb w sv nv ov (bU n)->st.l.length<=m->Pq st->Calls Tryz.prog 144 #[.pointer (some ⟨pb,0,none⟩),.pointer (some ⟨nb,0,none⟩),.int .i64 1] w fun v w'=>v=.returned (.tuple #[]) /\
   ∃ fC bB fH,bz pb nb w w' sv nv ov fC bB fH/\eC s ae pb w' fC bB fH (vY pE n st).2/\Bk pb nb w' fC bB fH (bU (vY pE n st).1):=fun w sv nv ov st n a b c d=>oQ s ae pb pE m 1 (by omega) hE hG nb w sv nv ov st n a b c d
 have eH:∀ (w:World) (sv nv ov:Value) (st:PS) (n:NR),eC s ae pb w sv nv ov st->Bk pb nb w sv nv ov (bU n)->st.l.length<=m->Pq st->Calls Tryz.prog 144 #[.pointer (some ⟨pb,0,none⟩),.pointer (some ⟨nb,0,none⟩),.int .i64 2] w fun v w'=>v=.returned (.tuple #[]) /\
   ∃ fC bB fH,bz pb nb w w' sv nv ov fC bB fH/\eC s ae pb w' fC bB fH (uy pE n st).2/\Bk pb nb w' fC bB fH (bU (uy pE n st).1):=fun w sv nv ov st n a b c d=>oQ s ae pb pE m 2 (by omega) hE hG nb w sv nv ov st n a b c d
 have r9:∀ (w:World) (sv nv ov:Value) (st:PS) (n:NR),eC s ae pb w sv nv ov st->Bk pb nb w sv nv ov (bU n)->st.l.length<=m->Pq st->Calls Tryz.prog 144 #[.pointer (some ⟨pb,0,none⟩),.pointer (some ⟨nb,0,none⟩),.int .i64 3] w fun v w'=>v=.returned (.tuple #[]) /\
   ∃ fC bB fH,bz pb nb w w' sv nv ov fC bB fH/\eC s ae pb w' fC bB fH (Cu pE n st).2/\Bk pb nb w' fC bB fH (bU (Cu pE n st).1):=fun w sv nv ov st n a b c d=>oQ s ae pb pE m 3 (by omega) hE hG nb w sv nv ov st n a b c d
 have hgr:Gs st (j6 s.size n st).2 0 0:=gU s.size 6 st
 have hgl:(j6 s.size n st).2.l.length<=m:=Nat.le_trans hgr.l hm
 have hgb:=gZ.on hgr
 simp only [Array.append_empty] at vz hloop pU
 unfold ptr at vz hloop pU
 obtain ⟨fr,y1,y2,y3⟩:=h.y
 have c0:w.cell? ⟨nb,0,none⟩=some (.int .i64 n.form):=by rw [aa hb.b];rfl
 have p1:w.cell? ⟨pb,1,none⟩=some (.bool ae):=by rw [aa y3];rfl
 simp only [Array.append_empty]
 show Calls _ _ #[Value.pointer (some ⟨pb,0,none⟩),Value.pointer (some ⟨nb,0,none⟩)] w _
 clear y1 y2 y3 hE hG hgr
 unfold nX
 by_cases k3:n.form=3
 ·skip
  have q3:((n.form:Int) == 3)=true:=aH (b:=3) k3
  have HC:Hid _:=vz
  simp only [if_pos k3]
  clear k3 vz hloop pU hr1 eH r9 hb gZ h hgl hgb
  go_enter Tryz.func134,Tryz.ntmps134
  go_wp2_with fail
  refine Calls.mono HC.out ?_
  rintro _ w1 ⟨rfl,zk,tq,u4,r1,r2,r3⟩
  have H1:Hid _:=r1
  have H2:Hid _:=r2
  have H3:Hid _:=r3
  clear r1 r2 r3
  go_wp2
  refine bodyPost_end (v:=.tuple #[]) (by simp [results,Tryz.results134,go_sem]) rfl ⟨rfl,_,_,_,H1.out,H2.out,H3.out⟩
 by_cases k11:n.form=11
 ·skip
  have q3:((n.form:Int) == 3)=false:=ah (b:=3) k3
  have zb:((n.form:Int) == 11)=true:=aH (b:=11) k11
  have HC:Hid _:=hloop
  simp only [if_neg k3,if_pos k11]
  clear k3 k11 vz hloop pU hr1 eH r9 hb gZ h hgl hgb
  go_enter Tryz.func134,Tryz.ntmps134
  go_wp2_with fail
  refine Calls.mono HC.out ?_
  rintro _ w1 ⟨rfl,zk,tq,u4,r1,r2,r3⟩
  have H1:Hid _:=r1
  have H2:Hid _:=r2
  have H3:Hid _:=r3
  clear r1 r2 r3
  go_wp2
  refine bodyPost_end (v:=.tuple #[]) (by simp [results,Tryz.results134,go_sem]) rfl ⟨rfl,_,_,_,H1.out,H2.out,H3.out⟩
 by_cases k4:n.form=4
 ·skip
  have q3:((n.form:Int) == 3)=false:=ah (b:=3) k3
  have zb:((n.form:Int) == 11)=false:=ah (b:=11) k11
  have q4:((n.form:Int) == 4)=true:=aH (b:=4) k4
  cases ae with
  | true =>
   have HC:Hid _:=pU
   have HR:Hid _:=eH
   simp only [if_neg k3,if_neg k11,if_pos k4,if_true]
   have Zl:Hid _:=hgl
   have HGB:Hid _:=hgb
   clear k3 k11 k4 vz hloop pU hr1 eH r9 hb gZ h hgl hgb
   go_enter Tryz.func134,Tryz.ntmps134
   go_wp2_with fail
   refine Calls.mono HC.out ?_
   rintro _ w1 ⟨rfl,zk,tq,u4,r1,r2,r3⟩
   have hx:=HR.out w1 zk tq u4 _ _ r2 r3 Zl.out HGB.out
   have H1:Hid _:=r1
   clear r1 r2 r3 HC HR
   go_wp2_with fail
   refine Calls.mono hx ?_
   rintro _ w2 ⟨rfl,Hr,cz,Fx,t1,t2,t3⟩
   have G1:Hid _:=H1.out.trans t1
   have G2:Hid _:=t2
   have G3:Hid _:=t3
   clear t1 t2 t3 hx
   go_wp2
   refine bodyPost_end (v:=.tuple #[]) (by simp [results,Tryz.results134,go_sem]) rfl ⟨rfl,_,_,_,G1.out,G2.out,G3.out⟩
  | false =>
   have HC:Hid _:=(eH w sv nv ov st n h hb hm gZ)
   simp only [if_neg k3,if_neg k11,if_pos k4,Bool.false_eq_true,if_false]
   clear k3 k11 k4 vz hloop pU hr1 eH r9 hb gZ h hgl hgb
   go_enter Tryz.func134,Tryz.ntmps134
   go_wp2_with fail
   refine Calls.mono HC.out ?_
   rintro _ w1 ⟨rfl,zk,tq,u4,r1,r2,r3⟩
   have H1:Hid _:=r1
   have H2:Hid _:=r2
   have H3:Hid _:=r3
   clear r1 r2 r3
   go_wp2
   refine bodyPost_end (v:=.tuple #[]) (by simp [results,Tryz.results134,go_sem]) rfl ⟨rfl,_,_,_,H1.out,H2.out,H3.out⟩
 by_cases k12:n.form=12
 ·skip
  have q3:((n.form:Int) == 3)=false:=ah (b:=3) k3
  have zb:((n.form:Int) == 11)=false:=ah (b:=11) k11
  have q4:((n.form:Int) == 4)=false:=ah (b:=4) k4
  have zQ:((n.form:Int) == 12)=true:=aH (b:=12) k12
  have HC:Hid _:=pU
  have HR:Hid _:=hr1
  simp only [if_neg k3,if_neg k11,if_neg k4,if_pos k12]
  have Zl:Hid _:=hgl
  have HGB:Hid _:=hgb
  clear k3 k11 k4 k12 vz hloop pU hr1 eH r9 hb gZ h hgl hgb
  go_enter Tryz.func134,Tryz.ntmps134
  go_wp2_with fail
  refine Calls.mono HC.out ?_
  rintro _ w1 ⟨rfl,zk,tq,u4,r1,r2,r3⟩
  have hx:=HR.out w1 zk tq u4 _ _ r2 r3 Zl.out HGB.out
  have H1:Hid _:=r1
  clear r1 r2 r3 HC HR
  go_wp2_with fail
  refine Calls.mono hx ?_
  rintro _ w2 ⟨rfl,Hr,cz,Fx,t1,t2,t3⟩
  have G1:Hid _:=H1.out.trans t1
  have G2:Hid _:=t2
  have G3:Hid _:=t3
  clear t1 t2 t3 hx
  go_wp2
  refine bodyPost_end (v:=.tuple #[]) (by simp [results,Tryz.results134,go_sem]) rfl ⟨rfl,_,_,_,G1.out,G2.out,G3.out⟩
 by_cases k5:n.form=5
 ·skip
  have q3:((n.form:Int) == 3)=false:=ah (b:=3) k3
  have zb:((n.form:Int) == 11)=false:=ah (b:=11) k11
  have q4:((n.form:Int) == 4)=false:=ah (b:=4) k4
  have zQ:((n.form:Int) == 12)=false:=ah (b:=12) k12
  have q5:((n.form:Int) == 5)=true:=aH (b:=5) k5
  have Px:n.form=5\/n.form=6:=Or.inl k5
  have HC:Hid _:=(hr1 w sv nv ov st n h hb hm gZ)
  simp only [if_neg k3,if_neg k11,if_neg k4,if_neg k12,if_pos Px]
  clear k3 k11 k4 k12 k5 Px vz hloop pU hr1 eH r9 hb gZ h hgl hgb
  go_enter Tryz.func134,Tryz.ntmps134
  go_wp2_with fail
  refine Calls.mono HC.out ?_
  rintro _ w1 ⟨rfl,zk,tq,u4,r1,r2,r3⟩
  have H1:Hid _:=r1
  have H2:Hid _:=r2
  have H3:Hid _:=r3
  clear r1 r2 r3
  go_wp2
  refine bodyPost_end (v:=.tuple #[]) (by simp [results,Tryz.results134,go_sem]) rfl ⟨rfl,_,_,_,H1.out,H2.out,H3.out⟩
 by_cases k6:n.form=6
 ·skip
  have q3:((n.form:Int) == 3)=false:=ah (b:=3) k3
  have zb:((n.form:Int) == 11)=false:=ah (b:=11) k11
  have q4:((n.form:Int) == 4)=false:=ah (b:=4) k4
  have zQ:((n.form:Int) == 12)=false:=ah (b:=12) k12
  have q5:((n.form:Int) == 5)=false:=ah (b:=5) k5
  have q6:((n.form:Int) == 6)=true:=aH (b:=6) k6
  have Px:n.form=5\/n.form=6:=Or.inr k6
  have HC:Hid _:=(hr1 w sv nv ov st n h hb hm gZ)
  simp only [if_neg k3,if_neg k11,if_neg k4,if_neg k12,if_pos Px]
  clear k3 k11 k4 k12 k5 k6 Px vz hloop pU hr1 eH r9 hb gZ h hgl hgb
  go_enter Tryz.func134,Tryz.ntmps134
  go_wp2_with fail
  refine Calls.mono HC.out ?_
  rintro _ w1 ⟨rfl,zk,tq,u4,r1,r2,r3⟩
  have H1:Hid _:=r1
  have H2:Hid _:=r2
  have H3:Hid _:=r3
  clear r1 r2 r3
  go_wp2
  refine bodyPost_end (v:=.tuple #[]) (by simp [results,Tryz.results134,go_sem]) rfl ⟨rfl,_,_,_,H1.out,H2.out,H3.out⟩
 have Px:¬ (n.form=5\/n.form=6):=fun e=>e.elim k5 k6
 by_cases k7:n.form=7
 ·skip
  have q3:((n.form:Int) == 3)=false:=ah (b:=3) k3
  have zb:((n.form:Int) == 11)=false:=ah (b:=11) k11
  have q4:((n.form:Int) == 4)=false:=ah (b:=4) k4
  have zQ:((n.form:Int) == 12)=false:=ah (b:=12) k12
  have q5:((n.form:Int) == 5)=false:=ah (b:=5) k5
  have q6:((n.form:Int) == 6)=false:=ah (b:=6) k6
  have q7:((n.form:Int) == 7)=true:=aH (b:=7) k7
  have HC:Hid _:=(r9 w sv nv ov st n h hb hm gZ)
  simp only [if_neg k3,if_neg k11,if_neg k4,if_neg k12,if_neg Px,if_pos k7]
  clear k3 k11 k4 k12 k5 k6 Px k7 vz hloop pU hr1 eH r9 hb gZ h hgl hgb
  go_enter Tryz.func134,Tryz.ntmps134
  go_wp2_with fail
  refine Calls.mono HC.out ?_
  rintro _ w1 ⟨rfl,zk,tq,u4,r1,r2,r3⟩
  have H1:Hid _:=r1
  have H2:Hid _:=r2
  have H3:Hid _:=r3
  clear r1 r2 r3
  go_wp2
  refine bodyPost_end (v:=.tuple #[]) (by simp [results,Tryz.results134,go_sem]) rfl ⟨rfl,_,_,_,H1.out,H2.out,H3.out⟩
 ·skip
  have q3:((n.form:Int) == 3)=false:=ah (b:=3) k3
  have zb:((n.form:Int) == 11)=false:=ah (b:=11) k11
  have q4:((n.form:Int) == 4)=false:=ah (b:=4) k4
  have zQ:((n.form:Int) == 12)=false:=ah (b:=12) k12
  have q5:((n.form:Int) == 5)=false:=ah (b:=5) k5
  have q6:((n.form:Int) == 6)=false:=ah (b:=6) k6
  have q7:((n.form:Int) == 7)=false:=ah (b:=7) k7
  have HC:Hid _:=(eH w sv nv ov st n h hb hm gZ)
  simp only [if_neg k3,if_neg k11,if_neg k4,if_neg k12,if_neg Px,if_neg k7]
  clear k3 k11 k4 k12 k5 k6 Px k7 vz hloop pU hr1 eH r9 hb gZ h hgl hgb
  go_enter Tryz.func134,Tryz.ntmps134
  go_wp2_with fail
  refine Calls.mono HC.out ?_
  rintro _ w1 ⟨rfl,zk,tq,u4,r1,r2,r3⟩
  have H1:Hid _:=r1
  have H2:Hid _:=r2
  have H3:Hid _:=r3
  clear r1 r2 r3
  go_wp2
  refine bodyPost_end (v:=.tuple #[]) (by simp [results,Tryz.results134,go_sem]) rfl ⟨rfl,_,_,_,H1.out,H2.out,H3.out⟩
theorem aC {w:World} {nb:Nat} {n:NR} (h:w.heap[nb]?=some (bU n)) :
  w.cell? ⟨nb,0,none⟩=some (.int .i64 n.form)/\w.cell? ⟨nb,1,none⟩=some (.int .i64 n.at_)/\w.cell? ⟨nb,2,none⟩=some (.int .i64 n.aR)/\w.cell? ⟨nb,3,none⟩=some (.int .i64 n.num)/\w.cell? ⟨nb,4,none⟩=some (.string (bs n.word)) /\
  w.cell? ⟨nb,5,none⟩=some (.int .i64 n.region)/\w.cell? ⟨nb,6,none⟩=some (.int .i64 n.source)/\w.cell? ⟨nb,7,none⟩=some (.int .i64 n.p0)/\w.cell? ⟨nb,8,none⟩=some (.int .i64 n.p1)/\w.cell? ⟨nb,9,none⟩=some (.int .i64 n.p2) :=
 ⟨by rw [aa h];rfl,by rw [aa h];rfl,by rw [aa h];rfl,by rw [aa h];rfl,by rw [aa h];rfl,by rw [aa h];rfl,by rw [aa h];rfl,by rw [aa h];rfl,by rw [aa h];rfl,by rw [aa h];rfl⟩
theorem bz.drop {pb nb:Nat} {w w':World} {X:Obj} {sv nv ov fC bB fH:Value} (h:bz pb nb (w.alloc X) w' sv nv ov fC bB fH) (hn:nb=w.heap.size):bz pb pb w w' sv nv ov fC bB fH:=by
 have hs:(w.alloc X).heap.size=w.heap.size+1:=by simp
 have f:=h.size
 rw [hs] at f
 have hb:Below w.heap.size w (w.alloc X):=(Below.refl _ w).alloc (Nat.le_refl _) X
 refine ⟨h.os.trans hb.os,h.tape.trans hb.tape,h.output.trans hb.output,by omega,fun k hk hp _ a b c=>?_,fun g hg=>?_,fun g hg=>?_,fun g hg=>?_⟩
 ·rw [h.blk k (by omega) hp (by omega) a b c];exact hb.block k hk
 ·rcases h.s g hg with e | e
  ·exact Or.inl e
  ·exact Or.inr (by omega)
 ·rcases h.n g hg with e | e
  ·exact Or.inl e
  ·exact Or.inr (by omega)
 ·rcases h.o g hg with e | e
  ·exact Or.inl e
  ·exact Or.inr (by omega)
def BOk (s:ByteArray) (ae:Bool) (pb:Nat) (pB:NR->PS->Int × PS) (m:Nat):Prop :=
 ∀ (w:World) (sv nv ov:Value) (st:PS) (n:NR),eC s ae pb w sv nv ov st->st.l.length<=m->Pq st->Calls Tryz.prog 129 #[ptr pb,aI n] w fun v w'=>v=.returned (.int .i64 (pB n st).1) /\
  ∃ fC bB fH,bz pb pb w w' sv nv ov fC bB fH/\eC s ae pb w' fC bB fH (pB n st).2
theorem Ex (s:ByteArray) (ae:Bool) (pb:Nat) (pE:PS->Int × PS) (m:Nat) (hs:s.size<=9000) (hE:Vf s ae pb pE m) (hG:jZ pE m):BOk s ae pb (gF ae s.size pE) m:=by
 intro w sv nv ov st n h hm gZ
 have htk:=wV s ae pb (w.alloc (bU n)) sv nv ov st hs (h.alloc _)
 have hfi:=fun nb w sv nv ov n h hb=>OK s ae pb pE m hs hE hG nb w sv nv ov st.tail n h hb (Nat.le_trans (nY st) hm) (gZ.on (mV st))
 have hfa:=fun w a h=>xW s ae pb w sv nv ov st.tail a h
 have hkl:=RI s.size st.l
 have Wf:=Bk.new h (bU n)
 unfold gF
 simp only
 obtain ⟨T,hT⟩:∃ T,T=eY s.size st.l:=⟨_,rfl⟩
 rw [<- hT] at htk hkl ⊢
 have hfo:=fun w=>GJ T.kind w hkl
 have hform:∃ f:Nat,f=cP T.kind:=⟨_,rfl⟩
 obtain ⟨f,hf⟩:=hform
 rw [<- hf] at hfo ⊢
 have hgf:=Ho hG ae s.size { n with form:=f } st.tail (Nat.le_trans (nY st) hm)
 have hex:=fun w sv nv ov h=>ll s ae pb w sv nv ov (nX ae s.size pE { n with form:=f } st.tail).2 3 hs h
 have hge:=gU s.size 3 (nX ae s.size pE { n with form:=f } st.tail).2
 have kN:((nX ae s.size pE { n with form:=f } st.tail).2.expect s.size 3).nodes.length<=9000:=by
  have:=hgf.nd;have:=hge.nd;have:=(mV st).nd;have:=gZ.2.1;omega
 have had:=fun w sv nv ov n' h=>Il s ae pb w sv nv ov ((nX ae s.size pE { n with form:=f } st.tail).2.expect s.size 3) n' kN h
 unfold iz ptr at htk hex
 unfold ptr at hfa had
 simp only [Array.append_empty] at hfi
 unfold ptr at hfi
 clear hgf hge kN hE hG gZ hm hkl hT hf
 have HH:Hid _:=h
 have EV:Hid _:=Wf
 clear h Wf
 unfold aI at had
 show Calls _ _ #[Value.pointer (some ⟨pb,0,none⟩),Value.agg #[.int .i64 n.form,.int .i64 n.at_,.int .i64 n.aR,.int .i64 n.num,.string (bs n.word),.int .i64 n.region,.int .i64 n.source,.int .i64 n.p0,.int .i64 n.p1,.int .i64 n.p2]] w _
 by_cases hc:f=0\/(f=12/\ae=false)
 ·simp only [if_pos hc]
  go_enter Tryz.func129,Tryz.ntmps129
  go_wp2_with fail
  refine Calls.mono htk ?_
  rintro _ w1 ⟨rfl,hfr,hin⟩
  have hb1:=EV.out.keep hfr
  obtain ⟨c0,_⟩:=aC hb1.b
  have f0:=ag hb1.b 0
  have hnb:=af hb1.b
  obtain ⟨s1,s2,s3⟩:=hb1.set hin 0 (.int .i64 f)
  have KL:=hfa _ T.at_ (s2.alloc (lZ T))
  have HF:Hid _:=((hfr.nb (nb:=w.heap.size)).trans s1).alloc (lZ T)
  obtain ⟨fr,y1,y2,y3⟩:=s2.y
  have p1:w1.cell? ⟨pb,1,none⟩=some (.bool ae):=by
   obtain ⟨fr,y1,y2,y3⟩:=hin.y
   rw [aa y3];rfl
  have hpn:w.heap.size≠pb:=hb1.ne
  have hpl:pb < w1.heap.size:=hin.slt.2.2.2
  have abj:pb≠w.heap.size:=fun e=>hb1.ne e.symm
  unfold lZ VI at KL
  clear s1 s2 s3 hfr hin hb1 htk hfa EV hex had hfi y1 y2 y3
  rcases hc with hc | ⟨hc,hp⟩
  ·have q0:((f:Int) == 0)=true:=aH (b:=0) hc
   have HFz:Hid _:=hc
   clear hc
   go_wp2_with (first
    | (go_at_call 133;refine (hfo _).mono ?_;rintro e w' ⟨rfl,rfl⟩)
    | (go_at_call 119;refine Calls.mono KL ?_;rintro e w' ⟨rfl,cW,bq⟩))
   go_ret
   exact ⟨rfl,sv,nv,ov,(HF.out.trans (cW.nb (nb:=w.heap.size))).drop rfl,bq⟩
  ·have q0:((f:Int) == 0)=false:=ah (b:=0) (by omega)
   have zQ:((f:Int) == 12)=true:=aH (b:=12) hc
   subst hp
   have HFz:Hid _:=hc
   clear hc
   go_wp2_with (first
    | (go_at_call 133;refine (hfo _).mono ?_;rintro e w' ⟨rfl,rfl⟩)
    | (go_at_call 119;refine Calls.mono KL ?_;rintro e w' ⟨rfl,cW,bq⟩))
   go_ret
   exact ⟨rfl,sv,nv,ov,(HF.out.trans (cW.nb (nb:=w.heap.size))).drop rfl,bq⟩
 ·simp only [if_neg hc]
  generalize hX:nX ae s.size pE { n with form:=f } st.tail=X at *
  obtain ⟨T2,rY⟩:∃ T2,T2=eY s.size X.2.l:=⟨_,rfl⟩
  rw [<- rY] at hex ⊢
  have VJ:=fun nb w sv nv ov h hb=>hfi nb w sv nv ov { n with form:=f } h hb
  rw [hX] at VJ
  generalize X.2.expect s.size 3=S3 at *
  have q0:((f:Int) == 0)=false:=ah (b:=0) (fun e=>hc (Or.inl e))
  have hq:(((f:Int) == 12)=true/\ae=true)\/((f:Int) == 12)=false:=by
   by_cases e:f=12
   ·left
    refine ⟨aH (b:=12) e,?_⟩
    cases ae with
    | true=>rfl
    | false=>exact absurd (Or.inr ⟨e,rfl⟩) hc
   ·exact Or.inr (ah (b:=12) e)
  have Jx:Hid _:=VJ
  have Cw:Hid _:=hex
  have HAD:Hid _:=had
  have HQ:Hid _:=hq
  clear hfi VJ hex had hfa hc hX rY hq
  go_enter Tryz.func129,Tryz.ntmps129
  go_wp2_with fail
  refine Calls.mono htk ?_
  rintro _ w1 ⟨rfl,hfr,hin⟩
  have hb1:=EV.out.keep hfr
  obtain ⟨c0,_⟩:=aC hb1.b
  have f0:=ag hb1.b 0
  have hnb:=af hb1.b
  obtain ⟨s1,s2,s3⟩:=hb1.set hin 0 (.int .i64 f)
  have VK:=Jx.out w.heap.size _ _ _ _ (s2.alloc (lZ T)) (s3.alloc (lZ T))
  have HF:Hid _:=((hfr.nb (nb:=w.heap.size)).trans s1).alloc (lZ T)
  have p1:w1.cell? ⟨pb,1,none⟩=some (.bool ae):=by
   obtain ⟨fr,y1,y2,y3⟩:=hin.y
   rw [aa y3];rfl
  have hpn:w.heap.size≠pb:=hb1.ne
  have hpl:pb < w1.heap.size:=hin.slt.2.2.2
  have abj:pb≠w.heap.size:=fun e=>hb1.ne e.symm
  unfold lZ VI at VK
  have RJ:Hid _:=VK
  clear s1 s2 s3 hfr hin hb1 htk EV Jx VK
  have hq:=HQ.out
  clear HQ
  rcases hq with ⟨zQ,hp⟩ | zQ
  ·rw [hp] at p1
   go_wp2_with (go_at_call 133;refine (hfo _).mono ?_;rintro e w' ⟨rfl,rfl⟩)
   refine Calls.mono RJ.out ?_
   rintro _ w2 ⟨rfl,Hr,cz,Fx,r1,r2,r3⟩
   have OL:=Cw.out _ _ _ _ r2
   have G1:Hid _:=HF.out.trans r1
   have dU:Hid _:=r3
   clear r1 r2 r3 RJ Cw p1 c0 f0
   go_wp2_with fail
   refine Calls.mono OL ?_
   rintro _ w3 ⟨rfl,bQ,dZ⟩
   have hb3:=dU.out.keep bQ
   obtain ⟨c0,c1,c2,c3,c4,c5,c6,c7,c8,c9⟩:=aC hb3.b
   have f2:=ag hb3.b 2
   have Jo:=af hb3.b
   obtain ⟨t1,t2,t3⟩:=hb3.set dZ 2 (.int .i64 T2.aR)
   have ur:=HAD.out _ _ _ _ { X.1 with aR:=T2.aR } (t2.alloc (lZ T2))
   have G2:Hid _:=((G1.out.trans (bQ.nb (nb:=w.heap.size))).trans t1).alloc (lZ T2)
   unfold lZ VI at ur
   have yL:Hid _:=ur
   clear t1 t2 t3 bQ dZ hb3 OL HAD dU G1 ur
   go_wp2_with fail
   refine Calls.mono yL.out ?_
   rintro _ w4 ⟨rfl,gK,ij,bT⟩
   have G3:Hid _:=(G2.out.trans (ij.nb (nb:=w.heap.size))).drop rfl
   have G4:Hid _:=bT
   clear ij bT yL G2
   go_wp2
   go_ret
   exact ⟨rfl,_,_,_,G3.out,G4.out⟩
  ·go_wp2_with (go_at_call 133;refine (hfo _).mono ?_;rintro e w' ⟨rfl,rfl⟩)
   refine Calls.mono RJ.out ?_
   rintro _ w2 ⟨rfl,Hr,cz,Fx,r1,r2,r3⟩
   have OL:=Cw.out _ _ _ _ r2
   have G1:Hid _:=HF.out.trans r1
   have dU:Hid _:=r3
   clear r1 r2 r3 RJ Cw p1 c0 f0
   go_wp2_with fail
   refine Calls.mono OL ?_
   rintro _ w3 ⟨rfl,bQ,dZ⟩
   have hb3:=dU.out.keep bQ
   obtain ⟨c0,c1,c2,c3,c4,c5,c6,c7,c8,c9⟩:=aC hb3.b
   have f2:=ag hb3.b 2
   have Jo:=af hb3.b
   obtain ⟨t1,t2,t3⟩:=hb3.set dZ 2 (.int .i64 T2.aR)
   have ur:=HAD.out _ _ _ _ { X.1 with aR:=T2.aR } (t2.alloc (lZ T2))
   have G2:Hid _:=((G1.out.trans (bQ.nb (nb:=w.heap.size))).trans t1).alloc (lZ T2)
   unfold lZ VI at ur
   have yL:Hid _:=ur
   clear t1 t2 t3 bQ dZ hb3 OL HAD dU G1 ur
   go_wp2_with fail
   refine Calls.mono yL.out ?_
   rintro _ w4 ⟨rfl,gK,ij,bT⟩
   have G3:Hid _:=(G2.out.trans (ij.nb (nb:=w.heap.size))).drop rfl
   have G4:Hid _:=bT
   clear ij bT yL G2
   go_wp2
   go_ret
   exact ⟨rfl,_,_,_,G3.out,G4.out⟩
theorem Ey (w:World):Calls Tryz.prog 83 #[] w fun v w'=>v=.returned (.agg #[.int .i64 (-1),.int .i64 (-1),.int .i64 (-1)])/\Below w.heap.size w w':=by
 go_enter Tryz.func83,Tryz.ntmps83
 go_wp2
 refine bodyPost_ret (v:=.agg #[.int .i64 (-1),.int .i64 (-1),.int .i64 (-1)]) (by simp [results,Tryz.results83,go_sem]) rfl ⟨rfl,(Below.refl _ _).alloc (Nat.le_refl _) _⟩
theorem IY {w:World} {g:Nat} {t:TypeId} {a0 a1 a2 a3 a4 a5 a6 a7 a8 a9:Value} (h:w.heap[g]?=some (.cells #[a0,a1,a2,a3,a4,a5,a6,a7,a8,a9] t (0,0))) :
  w.cell? ⟨g,0,none⟩=some a0/\w.cell? ⟨g,1,none⟩=some a1/\w.cell? ⟨g,2,none⟩=some a2/\w.cell? ⟨g,3,none⟩=some a3/\w.cell? ⟨g,4,none⟩=some a4/\w.cell? ⟨g,5,none⟩=some a5/\w.cell? ⟨g,6,none⟩=some a6/\w.cell? ⟨g,7,none⟩=some a7/\w.cell? ⟨g,8,none⟩=some a8/\w.cell? ⟨g,9,none⟩=some a9 :=
 ⟨by rw [aa h];rfl,by rw [aa h];rfl,by rw [aa h];rfl,by rw [aa h];rfl,by rw [aa h];rfl,by rw [aa h];rfl,by rw [aa h];rfl,by rw [aa h];rfl,by rw [aa h];rfl,by rw [aa h];rfl⟩
theorem OM {w:World} {g:Nat} {t:TypeId} {cs:Array Value} (h:w.heap[g]?=some (.cells cs t (0,0))) :
  w.frozen? ⟨g,0,none⟩=false/\w.frozen? ⟨g,1,none⟩=false/\w.frozen? ⟨g,2,none⟩=false/\w.frozen? ⟨g,3,none⟩=false/\w.frozen? ⟨g,4,none⟩=false/\w.frozen? ⟨g,5,none⟩=false/\w.frozen? ⟨g,6,none⟩=false/\w.frozen? ⟨g,7,none⟩=false/\w.frozen? ⟨g,8,none⟩=false/\w.frozen? ⟨g,9,none⟩=false :=
 ⟨ag h 0,ag h 1,ag h 2,ag h 3,ag h 4,ag h 5,ag h 6,ag h 7,ag h 8,ag h 9⟩
theorem VL {w w2:World} {A:Obj} (hb:Below (w.alloc A).drew.heap.size (w.alloc A).drew w2):w2.heap[w.heap.size]?=some A:=by
 rw [hb.block w.heap.size (by show w.heap.size < (w.alloc A).heap.size;simp)]
 exact aj w A
theorem VM {w w2:World} {A B:Obj} (hb:Below ((w.alloc A).alloc B).drew.heap.size ((w.alloc A).alloc B).drew w2):w2.heap[w.heap.size]?=some A:=by
 rw [hb.block w.heap.size (by show w.heap.size < ((w.alloc A).alloc B).heap.size;simp;omega)]
 exact aN _ (aj w A)
theorem bz.outer {pb nb:Nat} {w w':World} {sv nv ov fC bB fH:Value} (h:bz pb nb w w' sv nv ov fC bB fH) (hn:w.heap.size<=nb):bz pb pb w w' sv nv ov fC bB fH :=
 ⟨h.os,h.tape,h.output,h.size,fun k hk hp _ a b c=>h.blk k hk hp (by omega) a b c,h.s,h.n,h.o⟩
def GK (w1:World) (T:TN) (t4:Value) (wx:World):Prop:=∃ g,w1.heap.size < g/\t4=.pointer (some ⟨g,0,none⟩)/\wx.heap[g]?=some (bU (je T))/\Below (w1.alloc (lZ T)).heap.size (w1.alloc (lZ T)) wx
theorem Ez {w1 w2:World} {T:TN} (hb:Below (w1.alloc (lZ T)).drew.heap.size (w1.alloc (lZ T)).drew w2):GK w1 T (.pointer (some ⟨w2.heap.size,0,none⟩)) (w2.alloc (.cells #[.int .i64 0,.int .i64 T.at_,.int .i64 T.aR,.int .i64 0,.string ⟨#[]⟩,.int .i64 0,.int .i64 (-1),.int .i64 (-1),.int .i64 (-1),.int .i64 (-1)] 108)):=by
 have hs:w1.heap.size+1<=w2.heap.size:=by have:=hb.size;simpa using this
 refine ⟨w2.heap.size,by omega,rfl,aj _ _,?_⟩
 have h1:Below (w1.alloc (lZ T)).heap.size (w1.alloc (lZ T)) w2:=(⟨rfl,rfl,rfl,Nat.le_refl _,fun _ _=>rfl⟩:Below (w1.alloc (lZ T)).heap.size (w1.alloc (lZ T)) (w1.alloc (lZ T)).drew).trans hb
 exact h1.alloc (by simp;omega) _
theorem EA {w1 w2:World} {T:TN} {a0 a1 a2 a3 a4 a5 a6 a7 a8 a9:Value} (hb:Below ((w1.alloc (lZ T)).alloc (.cells #[a0,a1,a2,a3,a4,a5,a6,a7,a8,a9] 108)).drew.heap.size ((w1.alloc (lZ T)).alloc (.cells #[a0,a1,a2,a3,a4,a5,a6,a7,a8,a9] 108)).drew w2) :
  GK w1 T (.pointer (some ⟨w1.heap.size+1,0,none⟩)) ((((((((((w2.setCell ⟨w1.heap.size+1,0,none⟩ (.int .i64 0)).setCell ⟨w1.heap.size+1,1,none⟩ (.int .i64 T.at_)).setCell ⟨w1.heap.size+1,2,none⟩ (.int .i64 T.aR)).setCell ⟨w1.heap.size+1,3,none⟩ (.int .i64 0)).setCell ⟨w1.heap.size+1,4,none⟩ (.string ⟨#[]⟩)).setCell ⟨w1.heap.size+1,5,none⟩ (.int .i64 0)).setCell ⟨w1.heap.size+1,6,none⟩ (.int .i64 (-1))).setCell ⟨w1.heap.size+1,7,none⟩ (.int .i64 (-1))).setCell ⟨w1.heap.size+1,8,none⟩ (.int .i64 (-1))).setCell ⟨w1.heap.size+1,9,none⟩ (.int .i64 (-1))):=by
 have hq:=jK hb
 have e1:(w1.alloc (lZ T)).heap.size=w1.heap.size+1:=by simp
 refine ⟨w1.heap.size+1,by omega,rfl,?_,?_⟩
 ·have h0:(w2.setCell ⟨w1.heap.size+1,0,none⟩ (.int .i64 0)).heap[w1.heap.size+1]?=some (.cells #[.int .i64 0,a1,a2,a3,a4,a5,a6,a7,a8,a9] 108 (0,0)):=ay hq 0 _
  have h1:((w2.setCell ⟨w1.heap.size+1,0,none⟩ (.int .i64 0)).setCell ⟨w1.heap.size+1,1,none⟩ (.int .i64 T.at_)).heap[w1.heap.size+1]?=some (.cells #[.int .i64 0,.int .i64 T.at_,a2,a3,a4,a5,a6,a7,a8,a9] 108 (0,0)):=ay h0 1 _
  have h2:(((w2.setCell ⟨w1.heap.size+1,0,none⟩ (.int .i64 0)).setCell ⟨w1.heap.size+1,1,none⟩ (.int .i64 T.at_)).setCell ⟨w1.heap.size+1,2,none⟩ (.int .i64 T.aR)).heap[w1.heap.size+1]?=some (.cells #[.int .i64 0,.int .i64 T.at_,.int .i64 T.aR,a3,a4,a5,a6,a7,a8,a9] 108 (0,0)):=ay h1 2 _
  have h3:((((w2.setCell ⟨w1.heap.size+1,0,none⟩ (.int .i64 0)).setCell ⟨w1.heap.size+1,1,none⟩ (.int .i64 T.at_)).setCell ⟨w1.heap.size+1,2,none⟩ (.int .i64 T.aR)).setCell ⟨w1.heap.size+1,3,none⟩ (.int .i64 0)).heap[w1.heap.size+1]?=some (.cells #[.int .i64 0,.int .i64 T.at_,.int .i64 T.aR,.int .i64 0,a4,a5,a6,a7,a8,a9] 108 (0,0)):=ay h2 3 _
  have h4:(((((w2.setCell ⟨w1.heap.size+1,0,none⟩ (.int .i64 0)).setCell ⟨w1.heap.size+1,1,none⟩ (.int .i64 T.at_)).setCell ⟨w1.heap.size+1,2,none⟩ (.int .i64 T.aR)).setCell ⟨w1.heap.size+1,3,none⟩ (.int .i64 0)).setCell ⟨w1.heap.size+1,4,none⟩ (.string ⟨#[]⟩)).heap[w1.heap.size+1]?=some (.cells #[.int .i64 0,.int .i64 T.at_,.int .i64 T.aR,.int .i64 0,.string ⟨#[]⟩,a5,a6,a7,a8,a9] 108 (0,0)):=ay h3 4 _
  have h5:((((((w2.setCell ⟨w1.heap.size+1,0,none⟩ (.int .i64 0)).setCell ⟨w1.heap.size+1,1,none⟩ (.int .i64 T.at_)).setCell ⟨w1.heap.size+1,2,none⟩ (.int .i64 T.aR)).setCell ⟨w1.heap.size+1,3,none⟩ (.int .i64 0)).setCell ⟨w1.heap.size+1,4,none⟩ (.string ⟨#[]⟩)).setCell ⟨w1.heap.size+1,5,none⟩ (.int .i64 0)).heap[w1.heap.size+1]?=some (.cells #[.int .i64 0,.int .i64 T.at_,.int .i64 T.aR,.int .i64 0,.string ⟨#[]⟩,.int .i64 0,a6,a7,a8,a9] 108 (0,0)):=ay h4 5 _
  have h6:(((((((w2.setCell ⟨w1.heap.size+1,0,none⟩ (.int .i64 0)).setCell ⟨w1.heap.size+1,1,none⟩ (.int .i64 T.at_)).setCell ⟨w1.heap.size+1,2,none⟩ (.int .i64 T.aR)).setCell ⟨w1.heap.size+1,3,none⟩ (.int .i64 0)).setCell ⟨w1.heap.size+1,4,none⟩ (.string ⟨#[]⟩)).setCell ⟨w1.heap.size+1,5,none⟩ (.int .i64 0)).setCell ⟨w1.heap.size+1,6,none⟩ (.int .i64 (-1))).heap[w1.heap.size+1]?=some (.cells #[.int .i64 0,.int .i64 T.at_,.int .i64 T.aR,.int .i64 0,.string ⟨#[]⟩,.int .i64 0,.int .i64 (-1),a7,a8,a9] 108 (0,0)):=ay h5 6 _
  have h7:((((((((w2.setCell ⟨w1.heap.size+1,0,none⟩ (.int .i64 0)).setCell ⟨w1.heap.size+1,1,none⟩ (.int .i64 T.at_)).setCell ⟨w1.heap.size+1,2,none⟩ (.int .i64 T.aR)).setCell ⟨w1.heap.size+1,3,none⟩ (.int .i64 0)).setCell ⟨w1.heap.size+1,4,none⟩ (.string ⟨#[]⟩)).setCell ⟨w1.heap.size+1,5,none⟩ (.int .i64 0)).setCell ⟨w1.heap.size+1,6,none⟩ (.int .i64 (-1))).setCell ⟨w1.heap.size+1,7,none⟩ (.int .i64 (-1))).heap[w1.heap.size+1]?=some (.cells #[.int .i64 0,.int .i64 T.at_,.int .i64 T.aR,.int .i64 0,.string ⟨#[]⟩,.int .i64 0,.int .i64 (-1),.int .i64 (-1),a8,a9] 108 (0,0)):=ay h6 7 _
  have h8:(((((((((w2.setCell ⟨w1.heap.size+1,0,none⟩ (.int .i64 0)).setCell ⟨w1.heap.size+1,1,none⟩ (.int .i64 T.at_)).setCell ⟨w1.heap.size+1,2,none⟩ (.int .i64 T.aR)).setCell ⟨w1.heap.size+1,3,none⟩ (.int .i64 0)).setCell ⟨w1.heap.size+1,4,none⟩ (.string ⟨#[]⟩)).setCell ⟨w1.heap.size+1,5,none⟩ (.int .i64 0)).setCell ⟨w1.heap.size+1,6,none⟩ (.int .i64 (-1))).setCell ⟨w1.heap.size+1,7,none⟩ (.int .i64 (-1))).setCell ⟨w1.heap.size+1,8,none⟩ (.int .i64 (-1))).heap[w1.heap.size+1]?=some (.cells #[.int .i64 0,.int .i64 T.at_,.int .i64 T.aR,.int .i64 0,.string ⟨#[]⟩,.int .i64 0,.int .i64 (-1),.int .i64 (-1),.int .i64 (-1),a9] 108 (0,0)):=ay h7 8 _
  have h9:((((((((((w2.setCell ⟨w1.heap.size+1,0,none⟩ (.int .i64 0)).setCell ⟨w1.heap.size+1,1,none⟩ (.int .i64 T.at_)).setCell ⟨w1.heap.size+1,2,none⟩ (.int .i64 T.aR)).setCell ⟨w1.heap.size+1,3,none⟩ (.int .i64 0)).setCell ⟨w1.heap.size+1,4,none⟩ (.string ⟨#[]⟩)).setCell ⟨w1.heap.size+1,5,none⟩ (.int .i64 0)).setCell ⟨w1.heap.size+1,6,none⟩ (.int .i64 (-1))).setCell ⟨w1.heap.size+1,7,none⟩ (.int .i64 (-1))).setCell ⟨w1.heap.size+1,8,none⟩ (.int .i64 (-1))).setCell ⟨w1.heap.size+1,9,none⟩ (.int .i64 (-1))).heap[w1.heap.size+1]?=some (.cells #[.int .i64 0,.int .i64 T.at_,.int .i64 T.aR,.int .i64 0,.string ⟨#[]⟩,.int .i64 0,.int .i64 (-1),.int .i64 (-1),.int .i64 (-1),.int .i64 (-1)] 108 (0,0)):=ay h8 9 _
  exact h9
 ·have h1:Below (w1.alloc (lZ T)).heap.size (w1.alloc (lZ T)) ((w1.alloc (lZ T)).alloc (.cells #[a0,a1,a2,a3,a4,a5,a6,a7,a8,a9] 108)).drew:=((Below.refl _ _).alloc (Nat.le_refl _) (.cells #[a0,a1,a2,a3,a4,a5,a6,a7,a8,a9] 108)).trans ⟨rfl,rfl,rfl,Nat.le_refl _,fun _ _=>rfl⟩
  have h2:=h1.trans (hb.mono (by show (w1.alloc (lZ T)).heap.size<=((w1.alloc (lZ T)).alloc (.cells #[a0,a1,a2,a3,a4,a5,a6,a7,a8,a9] 108)).heap.size;simp))
  rw [e1] at h2 ⊢
  exact (((((((((h2.setCell (p:=⟨w1.heap.size+1,0,none⟩) (by simp) _).setCell (p:=⟨w1.heap.size+1,1,none⟩) (by simp) _).setCell (p:=⟨w1.heap.size+1,2,none⟩) (by simp) _).setCell (p:=⟨w1.heap.size+1,3,none⟩) (by simp) _).setCell (p:=⟨w1.heap.size+1,4,none⟩) (by simp) _).setCell (p:=⟨w1.heap.size+1,5,none⟩) (by simp) _).setCell (p:=⟨w1.heap.size+1,6,none⟩) (by simp) _).setCell (p:=⟨w1.heap.size+1,7,none⟩) (by simp) _).setCell (p:=⟨w1.heap.size+1,8,none⟩) (by simp) _).setCell (p:=⟨w1.heap.size+1,9,none⟩) (by simp) _
def BdA (st:PS):Prop:=st.scope.length+st.l.length<=9000/\st.nodes.length+st.l.length<=9000/\st.opened.length+4 * st.l.length<=50001
end Go.Proofs.YtpicaknklgccoabGreatDoor
