import Derived.Test.YtpicaknklgccoabGreatDoorV30
set_option maxHeartbeats 4000000
set_option maxRecDepth 100000
namespace Go.Proofs.YtpicaknklgccoabGreatDoor
theorem s7 (f:Vl->cu->Vl × cu) (k:Nat) (v:Vl) (st:cu) (h:st.e≠0):(turns f k v st).2=st:=by
 cases k with
 | zero=>rfl
 | succ k=>simp only[turns];rw[if_pos h]
theorem gx (i:Int) (f:MM->MV × MM) (k:Nat) (v:MV) (m:MM) (h:m.fault≠0):(cU i f k v m).2=m:=by
 cases k with
 | zero=>rfl
 | succ k=>simp only[cU];rw[if_pos h]
theorem Lg.name {st:cu} {m:MM} (h:Lg st m) (i:Int) (v:MV):Lg st (m.name i v):=⟨h.1,by rw[(iN m i v).1];exact h.2⟩
open Go.RowKit
theorem OW (m:MM) (v:MV) (h:m.fault≠0):(m.use v).2=m:=by
 unfold MM.use;split
 ·rfl
 ·simp only;split
  ·rfl
  ·exact vD m 13 h
theorem j7:∀ (X:Vl) (v:MV) (m:MM),m.fault≠0->dz X v m=m
 | .n _,_,_,_=>rfl
 | .p a b,v,m,h=>by
  simp only[dz];rw[OW m v h,j7 a _ m h,j7 b _ m h]
theorem zq {cells:List MC}:∀ {X:Vl} {T:Ty},X.has T->X.size=T.size
 | .n _,.n,_=>rfl
 | .p a b,.p _ A B,h=>by
  simp only[Vl.has] at h;simp only[Vl.size,Ty.size];rw[zq (cells:=cells) h.1,zq (cells:=cells) h.2]
 | .n _,.p _ _ _,h=>by simp[Vl.has] at h
 | .p _ _,.n,h=>by simp[Vl.has] at h
def rZ (y:Vl × cu):Value:=if y.2.e≠0 then .agg #[.string ⟨#[]⟩,.int .i64 0,.int .i64 0,.int .i64 0,.int .i64 0] else .agg #[.string (bs y.1.txt),.int .i64 y.2.steps,.int .i64 y.2.cells,.int .i64 y.2.cells,.int .i64 y.2.cells]
theorem rm {w:World} {base:Nat} {e:TypeId} {size:Nat} {v:Value} {n:Nat} {xs:List Value} (h:w.ownsRow base e size v n xs) {b:Nat} {arr:Array Value} {t:TypeId} {fr:Nat × Nat} (hb:w.heap[b]?=some (.cells arr t fr)) (ht:t≠e):∀ k,v.ownBlock=some k->k≠b:=by
 intro k hk hkb
 rcases h.2 with ⟨h1,_⟩ | ⟨g,cap,cur,h1,_,hh,_⟩
 ·rw[h1] at hk;simp[Value.ownBlock] at hk
 ·rw[h1] at hk
  simp[Value.ownBlock] at hk;rw[hk,hkb,hb] at hh;simp only[Option.some.injEq,Obj.cells.injEq] at hh;exact ht hh.2.1
theorem CR (s:ByteArray) (w:World) (hs:s.size<=3000) (e:PT) (hp:PE false (tokens s.data.toList) e []):Calls Tryz.prog 30 #[.string s] w λv w'=>∃ x1 n1 c1 x2 n2 c2 ns,v=.returned (.tuple #[aQ (.slice x1 n1 c1) (.slice x2 n2 c2),.int .i64 (dF e).1,.int .i64 (dF e).2])/\Below w.heap.size w w'/\bB w' (.slice x1 n1 c1) (.slice x2 n2 c2) ns (opn e 0)/\NA [] e 0 ns/\(kB false s.size (tokens s.data.toList)).nodes=ns:=by
 obtain⟨ns,aO,Gn⟩:=tS (len:=s.size) hp;have nF:=jU hp;have kJ:=aO.len
 have D4:=λw=>zu s w (by omega)
 have jN:=λ(w:World) (nv ov:Value) (h:bB w nv ov ns (opn e 0))=>pN w nv ov ns (opn e 0) h (xT aO) (by omega) (aO.small (λ_ h=>by simp at h) (by omega)) (λj n hj=>by have:=aO.back j n hj;simpa using this)
 rw[xS aO] at jN;have TD:Hid _:=Gn;have Dt:Hid _:=jN
 have hnd:(kB false s.size (tokens s.data.toList)).nodes=ns:=by rw[Gn]
 have D5:Hid _:=And.intro aO hnd;clear hp aO Gn jN kJ hnd;generalize dF e=ans at *
 go_enter Tryz.func30,Tryz.ntmps30
 go_wp2_with fail
 refine (D4 _).mono ?_;rintro v w1 ⟨hb,hv⟩;have hr:=tP hb;have hlt:=af hr;have HB:Hid _:=n8 hb;have HR:Hid _:=hr
 rcases hv with ⟨q',hq',_⟩ | ⟨_,nv,ov,rfl,hT⟩
 ·rw[TD.out] at hq';cases hq'
 ·rw[TD.out] at hT
  simp only at hT;obtain⟨x1,c1,e1⟩:=aG hT.nd;obtain⟨x2,c2,e2⟩:=aG hT.op;have Dw:Hid _:=rm hT.nd hr (by decide);have uN:Hid _:=rm hT.op hr (by decide);have oN:=hT.below ((Below.refl _ w1).alloc (Nat.le_refl _) (.cells #[nv,ov] 62));have jN:=Dt.out (w1.alloc (.cells #[nv,ov] 62)) nv ov (hT.below ((Below.refl _ w1).alloc (Nat.le_refl _) _));subst e1;subst e2;unfold aQ at jN;unfold aQ;clear hT hb hr D4
  go_wp2_with fail
  refine jN.mono ?_;rintro _ w2 ⟨rfl,hb2⟩;have D6:Hid _:=oN.below hb2;have hk:=tP hb2
  have k0:w2.cell? ⟨w1.heap.size,0,none⟩=some (.slice x1 ns.length c1):=by rw[aa hk];rfl
  have k1:w2.cell? ⟨w1.heap.size,1,none⟩=some (.slice x2 (opn e 0).length c2):=by rw[aa hk];rfl
  have dV:w2.heap[w.heap.size]?=some (.cells #[.slice none 0 0,.slice none 0 0] 62 (0,0)):=by
   rw[hb2.block _ (by simp;omega)];exact aR _ HR.out
  have r0:w2.cell? ⟨w.heap.size,0,none⟩=some (.slice none 0 0):=by rw[aa dV];rfl
  have r1:w2.cell? ⟨w.heap.size,1,none⟩=some (.slice none 0 0):=by rw[aa dV];rfl
  have f0:=ag dV 0;have f1:=ag dV 1;have mi:Below w.heap.size w w2:=HB.out.trans ((n8 hb2).mono HB.out.size);have eC:Hid _:=mi
  have hne:w.heap.size≠w1.heap.size:=by omega
  clear hk dV hb2 mi jN
  go_wp2
  refine bodyPost_ret (v:=.tuple #[.agg #[.slice x1 ns.length c1,.slice x2 (opn e 0).length c2],.int .i64 ans.1,.int .i64 ans.2]) (by simp[results,Tryz.results30,go_sem,r0,r1]) rfl ⟨x1,ns.length,c1,x2,(opn e 0).length,c2,ns,rfl,?_,⟨ay D6.out.nd (λk hk=>by rw[aq _ _ (by simpa using Dw.out k hk),aq _ _ (by simpa using Dw.out k hk)]),ay D6.out.op (λk hk=>by rw[aq _ _ (by simpa using uN.out k hk),aq _ _ (by simpa using uN.out k hk)])⟩,D5.out⟩;exact (eC.out.setCell (p:=⟨w.heap.size,0,none⟩) (Nat.le_refl _) _).setCell (p:=⟨w.heap.size,1,none⟩) (Nat.le_refl _) _
theorem lD {w:World} {q:Nat} {S:ByteArray} {a b c d:Int} (h:w.heap[q]?=some (.cells #[.string S,.int .i64 a,.int .i64 b,.int .i64 c,.int .i64 d] 35)) :
  w.cell? ⟨q,0,none⟩=some (.string S)/\w.cell? ⟨q,1,none⟩=some (.int .i64 a)/\w.cell? ⟨q,2,none⟩=some (.int .i64 b)/\w.cell? ⟨q,3,none⟩=some (.int .i64 c)/\w.cell? ⟨q,4,none⟩=some (.int .i64 d):=by
 refine⟨?_,?_,?_,?_,?_⟩ <;> (rw[aa h];rfl)
theorem Wn (w:World) (x1:Option Addr) (n1 c1:Nat) (x2:Option Addr) (n2 c2:Nat) (fuel:Nat) (hf:fuel<=20000) (S:ByteArray) (a b c d E:Int)
  (hrun:∀ w',Below w.heap.size w w'->Calls Tryz.prog 48 #[aQ (.slice x1 n1 c1) (.slice x2 n2 c2),.int .i64 fuel] w' λe w''=>e=.returned (.tuple #[.agg #[.string S,.int .i64 a,.int .i64 b,.int .i64 c,.int .i64 d],.int .i64 E])/\Below w'.heap.size w' w'') :
  Calls Tryz.prog 28 #[aQ (.slice x1 n1 c1) (.slice x2 n2 c2),.int .i64 fuel] w λe w'=>e=.returned (.tuple #[.agg #[.string S,.int .i64 a,.int .i64 b,.int .i64 c,.int .i64 d],.int .i64 E])/\Below w.heap.size w w':=by
 have HR:Hid _:=hrun;clear hrun;unfold aQ at HR;unfold aQ
 go_enter Tryz.func28,Tryz.ntmps28
 go_wp2_with fail
 refine Calls.mono (HR.out _ (aD (aD (Below.refl _ _) _) _)) ?_;rintro _ w2 ⟨rfl,hb2⟩
 have hq:w2.heap[w.heap.size+1]?=some (.cells #[.string ⟨#[]⟩,.int .i64 0,.int .i64 0,.int .i64 0,.int .i64 0] 35):=by
  rw[hb2.block _ (by simp)];have:=aj (w.alloc (.cells #[.slice x1 n1 c1,.slice x2 n2 c2] 62)) (.cells #[.string ⟨#[]⟩,.int .i64 0,.int .i64 0,.int .i64 0,.int .i64 0] 35)
  simpa using this
 have hB:Below w.heap.size w w2:=(aD (aD (Below.refl _ w) (.cells #[.slice x1 n1 c1,.slice x2 n2 c2] 62)) (.cells #[.string ⟨#[]⟩,.int .i64 0,.int .i64 0,.int .i64 0,.int .i64 0] 35)).trans (hb2.mono (by simp;omega));have HB:Hid _:=hB
 have hle:w.heap.size<=w.heap.size+1:=by omega
 have MK:Hid _:=hle;clear hb2 hB hle HR;generalize w.heap.size+1=q at *
 go_wp2_with (refine jY rfl 35 (.tmp 4) (.tmp 16) rfl q #[.string S,.int .i64 a,.int .i64 b,.int .i64 c,.int .i64 d] rfl rfl 35 _ hq Tryz.xp rfl (by simp[Value.oneCell']) ?_;intro W hW mr nU hW1 hW2 hW3)
 obtain⟨s0,s1,s2,s3,s4⟩:=lD hW;have Dy:Hid _:=fP HB.out MK.out mr nU hW1 hW2 hW3;clear hW mr nU hW1 hW2 hW3 HB hq
 go_wp2
 refine bodyPost_ret (v:=.tuple #[.agg #[.string S,.int .i64 a,.int .i64 b,.int .i64 c,.int .i64 d],.int .i64 E]) (by simp[results,Tryz.results28,go_sem,s0,s1,s2,s3,s4]) rfl ⟨rfl,Dy.out⟩
theorem E4 (k:Kw):Wt.region ∉ bP k false:=by cases k <;> decide
mutual
theorem PE.plain:∀ {l:List Tk} {e:PT} {r:List Tk},PE false l e r->(∀ t∈l,mU t)->(e.iE/\dC e)/\∀ t∈r,mU t
 | _,_,_,.num (t:=t) h,ha=>⟨⟨by simp only[PT.iE];exact (ha t (by simp)).1 h,.num⟩,λx hx=>ha x (by simp[hx])⟩
 | _,_,_,.name (t:=t) h,ha=>⟨⟨by simp[PT.iE],.name⟩,λx hx=>ha x (by simp[hx])⟩
 | _,_,_,.node (k:=k) _ _ h3 h4,ha=>by
  have h:=PW.plain h4 (E4 k) (λx hx=>ha x (by simp[hx]));refine⟨⟨by simp only[PT.iE];exact⟨by rw[h.1];decide,h.2.1⟩,.node (λe=>by subst e;exact h3 rfl) h.2.2.1⟩,h.2.2.2⟩
theorem PW.plain:∀ {ws:List Wt} {l:List Tk} {nm rg:List UInt8} {kids:List PT} {r:List Tk},PW false ws l nm rg kids r->Wt.region ∉ ws->(∀ t∈l,mU t)->rg=[]/\cJ kids/\(∀ x∈kids,dC x)/\∀ t∈r,mU t
 | _,_,_,_,_,_,.nil,_,ha=>⟨rfl,by simp[cJ],by simp,ha⟩
 | _,_,_,_,_,_,.close _ h1,hn,ha=>PW.plain h1 (λh=>hn (by simp[h])) (λx hx=>ha x (by simp[hx]))
 | _,_,_,_,_,_,.name _ h1,hn,ha=>PW.plain h1 (λh=>hn (by simp[h])) (λx hx=>ha x (by simp[hx]))
 | _,_,_,_,_,_,.region _ h1,hn,ha=>absurd (by simp) hn
 | _,_,_,_,_,_,.e h0 h1,hn,ha=>by
  have a:=PE.plain h0 ha;have b:=PW.plain h1 (λh=>hn (by simp[h])) a.2;refine⟨b.1,by simp only[cJ];exact⟨a.1.1,b.2.1⟩,?_,b.2.2.2⟩;intro x hx
  rcases List.mem_cons.1 hx with rfl | hx
  ·exact a.1.2
  ·exact b.2.2.1 x hx
end
theorem Wo {e:PT} (hw:e.wf) (h:(dF e).1=0):∃ T,WT [] e T/\T.size<=63:=by
 unfold dF at h
 split at h
 ·simp at h
 ·have:=jT (List.range e.bz) e 0 0 [] (XE e) hw h
  exact⟨_,this.2.2,by rw[iH];exact this.2.1⟩
open Go.Lib (decDigits)
abbrev wO:Obj:=.cells #[.string ⟨#[]⟩,.int .i64 0,.int .i64 0,.int .i64 0,.int .i64 0] 35 (0,0)
theorem l8 {B:Nat} {w W:World} (h:Below B w W) (p:Addr) (hp:B<=p.block) (x:Value):Below B w (W.setCell p x):=h.setCell hp x
theorem Iu (w:World) (x:KE) (t p fuel:Nat) (nH:fuel<=20000) (hT:KT [] x t) (hk:eD w x p) (hit:∀ W,Below w.heap.size w W->pP W) (R:Vl × cu) (hR:R=ev fuel (x.pt []) [] ⟨0,0,0⟩) :
  Calls Tryz.prog 14 #[.pointer (some ⟨p,0,none⟩),.int .i64 fuel] w λe w'=>e=.returned (.tuple #[rZ R,.bool (decide (R.2.e=0))])/\Below w.heap.size w w':=by
 have hb0:Below w.heap.size w (w.alloc wO):=bg (Below.refl _ _) _
 have hs0:(w.alloc wO).heap.size=w.heap.size+1:=by simp
 have hin:dX (w.alloc wO) ((w.alloc wO).alloc (.cells (dU (.slice none 0 0) fuel ⟨0,0,0⟩) 70 (0,0))) (w.heap.size+1) [] [] fuel ⟨0,0,0⟩ (.slice none 0 0):=by
  refine⟨⟨bg (Below.refl _ _) _,by omega,?_,World.ownsRow_nil _ _ _ _,by simp[Value.ownBlock]⟩,rfl,λi v p h=>by simp at h⟩;have:=aj (w.alloc wO) (.cells (dU (.slice none 0 0) fuel ⟨0,0,0⟩) 70 (0,0));rw[hs0] at this;exact this
 have hs:uh fuel ⟨0,0,0⟩:=⟨nH,Nat.zero_le _,Nat.le_refl _⟩
 have bq:qj (cP []) (wL []):=λs T h=>by simp[look,wL] at h
 have hgo:=RC (w0:=w.alloc wO) (w.heap.size+1) fuel hT (by simp) p [] [] ⟨0,0,0⟩ _ _ (hk.below hb0) hin (λ_=>bq) rfl hs;have hres:=ld (fuel:=fuel) hT (by simp) [] ⟨0,0,0⟩ (λ_=>bq);rw[show cP []=([]:ep) from rfl,<- hR] at hgo hres;have HGO:Hid _:=hgo;have jL:Hid _:=hres;have Uf:Hid _:=hit;have Gx:Hid _:=hb0;have Gh:=(hs.on (x.pt []) []);rw[<- hR] at Gh;have HQ0:Hid ((w.alloc wO).heap[w.heap.size]?=some wO):=aj w wO;clear hgo hin hs bq hres hit hb0 hk hR hT
 by_cases he:R.2.e=0
 ·have hV:rZ R=.agg #[.string (bs R.1.txt),.int .i64 R.2.steps,.int .i64 R.2.cells,.int .i64 R.2.cells,.int .i64 R.2.cells]:=by unfold rZ;rw[if_neg (λh=>h he)]
  rw[hV,show decide (R.2.e=0)=true by simp[he]];have HE:Hid _:=he;clear hV he
  go_enter Tryz.func14,Tryz.ntmps14
  go_wp2_with fail
  refine Calls.mono HGO.out ?_;rintro _ w2 ⟨r,cO,rfl,hfr,bC,Lr⟩;have nV:=af bC.ob.y
  have y2:w2.cell? ⟨w.heap.size+1,2,none⟩=some (.int .i64 R.2.steps):=by rw[aa bC.ob.y];rfl
  have y3:w2.cell? ⟨w.heap.size+1,3,none⟩=some (.int .i64 R.2.cells):=by rw[aa bC.ob.y];rfl
  have y4:w2.cell? ⟨w.heap.size+1,4,none⟩=some (.bool false):=by rw[aa bC.ob.y];simp[dU,HE.out]
  have hq:w2.heap[w.heap.size]?=some wO:=by rw[bC.ob.b0.block _ (by omega)];exact HQ0.out
  have eC:Hid (Below w.heap.size w w2):=Gx.out.trans (bC.ob.b0.mono Gx.out.size)
  have Tx:Hid (∀ W,Below w2.heap.size w2 W->Calls Tryz.prog 9 #[.pointer (some ⟨r,0,none⟩)] W λe w'=>e=.returned (.string (bs R.1.txt))/\Below W.heap.size W w'):=λW hW=>qW R.1 (sS t) r W (jL.out.1 HE.out).2 (by have:=p9 t;omega) (Lr.below hW) (λW' hW'=>Uf.out W' (eC.out.trans ((hW.trans (hW'.mono hW.size)).mono eC.out.size)))
  have hS:∀ W,Below w2.heap.size w2 W->W.cell? ⟨w.heap.size+1,2,none⟩=some (.int .i64 R.2.steps)/\W.cell? ⟨w.heap.size+1,3,none⟩=some (.int .i64 R.2.cells):=λW hW=>⟨(hW.cell (p:=⟨w.heap.size+1,2,none⟩) nV).trans y2,(hW.cell (p:=⟨w.heap.size+1,3,none⟩) nV).trans y3⟩
  have Wp:∀ W,Below w2.heap.size w2 W->W.cell? ⟨w.heap.size,0,none⟩=some (.string ⟨#[]⟩)/\W.cell? ⟨w.heap.size,1,none⟩=some (.int .i64 0)/\W.cell? ⟨w.heap.size,2,none⟩=some (.int .i64 0)/\W.cell? ⟨w.heap.size,3,none⟩=some (.int .i64 0)/\W.cell? ⟨w.heap.size,4,none⟩=some (.int .i64 0)/\W.frozen? ⟨w.heap.size,0,none⟩=false/\W.frozen? ⟨w.heap.size,1,none⟩=false/\W.frozen? ⟨w.heap.size,2,none⟩=false/\W.frozen? ⟨w.heap.size,3,none⟩=false/\W.frozen? ⟨w.heap.size,4,none⟩=false/\w.heap.size<W.heap.size/\w.heap.size+1<W.heap.size:=λW hW=>by
   have OX:=(hW.block _ (af hq)).trans hq;exact⟨by rw[aa OX];rfl,by rw[aa OX];rfl,by rw[aa OX];rfl,by rw[aa OX];rfl,by rw[aa OX];rfl,ag OX 0,ag OX 1,ag OX 2,ag OX 3,ag OX 4,af OX,by have:=hW.size;omega⟩
  have TK:=af hq
  have hYQ:w.heap.size+1≠w.heap.size:=by omega
  have hQY:w.heap.size≠w.heap.size+1:=by omega
  have HS:Hid _:=hS;have XV:Hid _:=Wp;have HQ:Hid _:=hq;clear hfr bC Lr hq hS Wp HGO jL Uf HQ0 Gx y2 y3;generalize w.heap.size+1=Y at *;generalize hQE:w.heap.size=Q at *;have HQE:Hid _:=hQE;clear hQE
  go_wp2_with fail
  have HSa:Hid (w2.cell? ⟨Y,2,none⟩=some (.int .i64 R.2.steps)/\w2.cell? ⟨Y,3,none⟩=some (.int .i64 R.2.cells)):=HS.out w2 (Below.refl _ _)
  have HSb:Hid (∀ m,(w2.drewN m).cell? ⟨Y,2,none⟩=some (.int .i64 R.2.steps)/\(w2.drewN m).cell? ⟨Y,3,none⟩=some (.int .i64 R.2.cells)):=λm=>HS.out _ (dx w2 m)
  have HSc:Hid (w2.drew.cell? ⟨Y,2,none⟩=some (.int .i64 R.2.steps)/\w2.drew.cell? ⟨Y,3,none⟩=some (.int .i64 R.2.cells)):=HS.out w2.drew ⟨rfl,rfl,rfl,Nat.le_refl _,λ_ _=>rfl⟩
  go_region_held3 (λW=>W.cell? ⟨Y,2,none⟩=some (.int .i64 R.2.steps)/\W.cell? ⟨Y,3,none⟩=some (.int .i64 R.2.cells)) (first | with_reducible exact HSa.out | with_reducible exact HSb.out _ | with_reducible exact HSc.out | with_reducible exact⟨t2,t3⟩ | go_keep) (first | (go_at_call 9;refine Calls.mono (Tx.out _ ?_) ?_;exact⟨rfl,rfl,rfl,Nat.le_refl _,λ_ _=>rfl⟩;rintro e w3 ⟨rfl,hb3⟩;obtain⟨t2,t3⟩:=HS.out w3 ⟨hb3.os,hb3.tape,hb3.output,hb3.size,λk hk=>hb3.block k hk⟩;obtain⟨r0,r1,r2,r3,r4,g0,g1,g2,g3,g4,l1,l2⟩:=XV.out w3 ⟨hb3.os,hb3.tape,hb3.output,hb3.size,λk hk=>hb3.block k hk⟩))
  all_goals
   have Mx:w3.heap[Q]?=some wO:=(hb3.block Q TK).trans HQ.out;have Gl:Below Q w w3:=eC.out.trans ((⟨hb3.os,hb3.tape,hb3.output,hb3.size,λk hk=>hb3.block k hk⟩:Below w2.heap.size w2 w3).mono (by omega));obtain⟨W7,R9⟩:∃ W7,W7=(((((w3.setCell ⟨Q,0,none⟩ (.string (bs R.1.txt))).setCell ⟨Q,1,none⟩ (.int .i64 R.2.steps)).setCell ⟨Q,2,none⟩ (.int .i64 R.2.cells)).setCell ⟨Q,3,none⟩ (.int .i64 R.2.cells)).setCell ⟨Q,4,none⟩ (.int .i64 R.2.cells)):=⟨_,rfl⟩
   have Sa:W7.heap[Q]?=some (.cells #[.string (bs R.1.txt),.int .i64 R.2.steps,.int .i64 R.2.cells,.int .i64 R.2.cells,.int .i64 R.2.cells] 35 (0,0)):=by
    rw[R9];exact (aA (aA (aA (aA (aA Mx 0 _) 1 _) 2 _) 3 _) 4 _).trans rfl
   have EZ:Hid (Below Q w W7):=by
    show Below Q w W7
    rw[R9];exact l8 (l8 (l8 (l8 (l8 Gl _ (Nat.le_refl _) _) _ (Nat.le_refl _) _) _ (Nat.le_refl _) _) _ (Nat.le_refl _) _) _ (Nat.le_refl _) _
   rw[<- R9];obtain⟨s0,s1,s2,s3,s4⟩:=lD Sa;clear R9 Sa Mx Gl hb3 t2 t3 r0 r1 r2 r3 r4 g0 g1 g2 g3 g4 l1 l2 y4
   go_wp2
   refine bodyPost_ret (v:=.tuple #[.agg #[.string (bs R.1.txt),.int .i64 R.2.steps,.int .i64 R.2.cells,.int .i64 R.2.cells,.int .i64 R.2.cells],.bool true]) (by simp[results,Tryz.results14,go_sem,s0,s1,s2,s3,s4]) rfl ⟨rfl,by rw[HQE.out];exact EZ.out⟩
 ·have hV:rZ R=.agg #[.string ⟨#[]⟩,.int .i64 0,.int .i64 0,.int .i64 0,.int .i64 0]:=by unfold rZ;rw[if_pos he]
  rw[hV,show decide (R.2.e=0)=false by simp[he]];have HE:Hid _:=he;clear hV he
  go_enter Tryz.func14,Tryz.ntmps14
  go_wp2_with fail
  refine Calls.mono HGO.out ?_;rintro _ w2 ⟨r,cO,rfl,hfr,bC,Lr⟩;have nV:=af bC.ob.y
  have y4:w2.cell? ⟨w.heap.size+1,4,none⟩=some (.bool true):=by
   have hne:decide (R.2.e≠0)=true:=decide_eq_true HE.out;rw[aa bC.ob.y]
   show some (Value.bool (decide (R.2.e≠0)))=_
   rw[hne]
  have hq:w2.heap[w.heap.size]?=some wO:=by rw[bC.ob.b0.block _ (by omega)];exact HQ0.out
  have eC:Hid (Below w.heap.size w w2):=Gx.out.trans (bC.ob.b0.mono Gx.out.size);clear hfr bC Lr HGO jL Uf HQ0 Gx
  go_wp2_with (refine jY rfl 35 (.tmp 4) (.tmp 18) rfl w.heap.size #[.string ⟨#[]⟩,.int .i64 0,.int .i64 0,.int .i64 0,.int .i64 0] rfl rfl 35 _ hq Tryz.xp rfl (by simp[Value.oneCell']) ?_;intro W hW mr nU hW1 hW2 hW3)
  obtain⟨s0,s1,s2,s3,s4⟩:=lD hW;have Dy:Hid _:=fP eC.out (Nat.le_refl _) mr nU hW1 hW2 hW3;clear hW mr nU hW1 hW2 hW3 eC hq
  go_wp2
  refine bodyPost_ret (v:=.tuple #[.agg #[.string ⟨#[]⟩,.int .i64 0,.int .i64 0,.int .i64 0,.int .i64 0],.bool false]) (by simp[results,Tryz.results14,go_sem,s0,s1,s2,s3,s4]) rfl ⟨rfl,Dy.out⟩
theorem E5 {ae:Bool} {rg:List UInt8} (hr:Rl ae rg) {x:KE} {t:Nat} (h:KT [] x t) (hp:x.bz<=100) :
  ∃ e,PE ae (tokens (x.pt rg).tidy) e []/\dF e=(0,0)/\e.np=x.pt rg/\∀ fuel env st,ev fuel e env st=ev fuel (x.pt []) env st:=by
 obtain⟨e,he,xk⟩:=Cv (x.pt rg) (NT hr h);rw[wi] at xk;have ux:WT [] (x.pt rg) (sS t):=En (rg:=rg) h (by simp);refine⟨e,he,H7 (iy e (by rw[xk];exact ux)) ?_,xk,λfuel env st=>?_⟩
 ·rw[<- yP,xk,Hr rg h];exact hp
 ·rw[<- nJ,xk,kS]
def cF (r:Nat):Ty->Ty
 | .n=>.n
 | .p _ a b=>.p r (cF r a) (cF r b)
theorem s8 (r:Nat):∀ t:Ty,(cF r t).size=t.size
 | .n=>rfl
 | .p _ a b=>by simp only[cF,Ty.size,s8 r a,s8 r b]
mutual
def PT.iZ (r:Int):PT->Prop
 | .num _ _=>True
 | .name _ _=>True
 | .node _ k _ rg kids=>k≠.new/\(k=.pair->ak rg=r)/\gQ r kids
def gQ (r:Int):List PT->Prop
 | []=>True
 | t::ts=>t.iZ r/\gQ r ts
end
structure CS (T:List Ty) (ns:List NR) (A:List Ty) (U:Ty):Prop where
 pl:oV T ns=(0,0)
 sz:ij T ns
 run:aU T ns=T++(A++[U])
theorem gy (T A X:List Ty) (U:Ty) (c:Nat) (hc:c=A.length+1):ai (T++(A++[U])++X) (((T.length+c:Nat):Int)-1)=U:=by
 have e:(((T.length+c:Nat):Int)-1)=((T.length+A.length:Nat):Int):=by omega
 rw[e];refine sP X ?_;rw[List.getElem?_append_right (by omega),Nat.add_sub_cancel_left,List.getElem?_append_right (by omega),Nat.sub_self];rfl
theorem CS.root {T:List Ty} {ks:List NR} {A:List Ty} (n:NR) (U:Ty) (hp:oV T ks=(0,0)) (hs:ij T ks) (hr:aU T ks=T++A) (hU:cH (T++A) n=U) (hv:uP (T++A++[U]) n=0) (h4:n.form=4->(Ty.p 0 (ai (T++A) n.p0) (ai (T++A) n.p1)).size<=63):CS T (ks++[n]) A U:=by
 refine⟨?_,?_,?_⟩
 ·rw[tO,hp,if_neg (by simp),hr]
  simp only[oV,hU,hv,ne_eq,not_true_eq_false,if_false]
 ·refine tN _ _ _ hs ?_
  rw[hr];simp only[ij,and_true];exact h4
 ·rw[eA,hr]
  simp only[aU,hU,List.append_assoc]
theorem CS.two {T:List Ty} {n1 n2:List NR} {A B:List Ty} {U V:Ty} (h:CS T n1 A U) (g:CS (T++(A++[U])) n2 B V):oV T (n1++n2)=(0,0)/\ij T (n1++n2)/\aU T (n1++n2)=T++((A++[U])++(B++[V])):=by
 refine⟨?_,?_,?_⟩
 ·rw[tO,h.pl,if_neg (by simp),h.run,g.pl]
 ·exact tN _ _ _ h.sz (by rw[h.run];exact g.sz)
 ·rw[eA,h.run,g.run,List.append_assoc]
theorem CS.three {T:List Ty} {n1 n2 n3:List NR} {A B C:List Ty} {U V W:Ty} (h:CS T n1 A U) (g:CS (T++(A++[U])) n2 B V) (k:CS (T++(A++[U])++(B++[V])) n3 C W):oV T (n1++(n2++n3))=(0,0)/\ij T (n1++(n2++n3))/\aU T (n1++(n2++n3))=T++((A++[U])++((B++[V])++(C++[W]))):=by
 have g2:=g.two k;refine⟨?_,?_,?_⟩
 ·rw[tO,h.pl,if_neg (by simp),h.run,g2.1]
 ·exact tN _ _ _ h.sz (by rw[h.run];exact g2.2.1)
 ·rw[eA,h.run,g2.2.2,List.append_assoc]
theorem XW (T A B X:List Ty) (U V:Ty) (ca cb:Nat) (hA:A.length+1=ca) (hB:B.length+1=cb) :
  ai (T++((A++[U])++(B++[V]))++X) (((T.length+ca:Nat):Int)-1)=U/\ai (T++((A++[U])++(B++[V]))++X) (((T.length+ca+cb:Nat):Int)-1)=V:=by
 constructor
 ·have:=gy T A ((B++[V])++X) U ca hA.symm
  simpa only[List.append_assoc] using this
 ·have:=gy (T++(A++[U])) B X V cb hB.symm
  have hl:(T++(A++[U])).length=T.length+ca:=by simp;omega
  rw[hl] at this
  simpa only[List.append_assoc] using this
theorem kn3 (T A B C X:List Ty) (U V W:Ty) (ca cb cc:Nat) (hA:A.length+1=ca) (hB:B.length+1=cb) (hC:C.length+1=cc) :
  ai (T++((A++[U])++((B++[V])++(C++[W])))++X) (((T.length+ca:Nat):Int)-1)=U/\ai (T++((A++[U])++((B++[V])++(C++[W])))++X) (((T.length+ca+cb:Nat):Int)-1)=V/\ai (T++((A++[U])++((B++[V])++(C++[W])))++X) (((T.length+ca+cb+cc:Nat):Int)-1)=W:=by
 have h1:=XW T A B ((C++[W])++X) U V ca cb hA hB;have h2:=gy (T++(A++[U])++(B++[V])) C X W cc hC.symm
 have hl:(T++(A++[U])++(B++[V])).length=T.length+ca+cb:=by simp;omega
 rw[hl] at h2;refine⟨?_,?_,?_⟩
 ·simpa only[List.append_assoc] using h1.1
 ·simpa only[List.append_assoc] using h1.2
 ·simpa only[List.append_assoc] using h2
def Iv (r:Nat) (G:aV) (sc:Sc) (T:List Ty):Prop:=∀ s U,look G s=some U->∃ i:Nat,cE sc s=(i:Int)/\T[i]?=some (cF r U)
theorem Iv.more {r:Nat} {G:aV} {sc:Sc} {T:List Ty} (h:Iv r G sc T) (X:List Ty):Iv r G sc (T++X):=λs U hs=>by
 obtain⟨i,h1,h2⟩:=h s U hs;exact⟨i,h1,by rw[List.getElem?_append_left (List.getElem?_eq_some_iff.1 h2).1];exact h2⟩
theorem iT (sc:Sc) (nm:List UInt8) (i:Int) (s:List UInt8):cE (sc++[(nm,i)]) s=if nm=s then i else cE sc s:=by
 unfold cE;rw[List.reverse_append,List.reverse_singleton,List.singleton_append,List.find?_cons]
 by_cases h:nm=s
 ·subst h;simp
 ·have:(nm==s)=false:=by rw[beq_eq_false_iff_ne];exact h
  simp only[this,if_neg h]
theorem Iv.snoc {r:Nat} {G:aV} {sc:Sc} {T A:List Ty} {nm:List UInt8} {U:Ty} {c:Nat} (h:Iv r G sc T) (hc:c=A.length+1):Iv r (G++[(nm,U)]) (sc++[(nm,((T.length+c:Nat):Int)-1)]) (T++(A++[cF r U])):=λs V hs=>by
 rw[fw] at hs;rw[iT]
 by_cases e:nm=s
 ·rw[if_pos e] at hs ⊢
  simp only[Option.some.injEq] at hs;subst hs;refine⟨T.length+A.length,by omega,?_⟩;rw[List.getElem?_append_right (by omega),Nat.add_sub_cancel_left,List.getElem?_append_right (by omega),Nat.sub_self];rfl
 ·rw[if_neg e] at hs ⊢
  exact h.more _ s V hs
theorem WT.plr {r:Nat} {G:aV} {e:PT} {U:Ty} (h:WT G e U):∀ (sc:Sc) (T:List Ty) (ns:List NR),NA sc e T.length ns->Iv r G sc T->e.iZ r->∃ A,A.length+1=e.cnt/\CS T ns A (cF r U):=by
 induction h with
 | num =>
  intro sc T ns aO _ _;simp only[NA] at aO;subst aO;refine⟨[],rfl,CS.root (ks:=[]) _ _ rfl trivial (by simp[aU]) ?_ ?_ ?_⟩
  ·simp[cH,cF]
  ·simp[uP]
  ·simp
 | name hs =>
  intro sc T ns aO hE _;simp only[NA] at aO;subst aO;obtain⟨i,h1,h2⟩:=hE _ _ hs;refine⟨[],rfl,CS.root (ks:=[]) _ _ rfl trivial (by simp[aU]) ?_ ?_ ?_⟩
  ·simp only[cH,if_true,h1];rw[List.append_nil];have:=sP [] h2;rw[List.append_nil] at this;exact this
  ·simp[uP]
  ·simp
 | @aP G p nm rg a b UA UB ha hb aF bu =>
  intro sc T ns aO hE hr;simp only[PT.iZ,gQ] at hr;simp only[NA,bU,cK,Bool.false_eq_true,if_false] at aO;obtain⟨ks,aL,⟨a1,c1,ct,⟨a2,c2,eZ,⟨_,rfl⟩,rfl⟩,rfl⟩,rfl⟩:=aO;obtain⟨A,hA,h1⟩:=aF sc T a1 ct hE hr.2.2.1;obtain⟨B,hB,h2⟩:=bu _ (T++(A++[cF r _])) a2 (by simp only[if_true] at eZ;rw[List.length_append,List.length_append,List.length_singleton,hA];exact eZ) (hE.snoc hA.symm) hr.2.2.2.1;obtain⟨t1,t2,t3⟩:=h1.two h2;rw[List.append_nil];have hk:=XW T A B [] (cF r UA) (cF r UB) _ _ hA hB;rw[List.append_nil] at hk;refine⟨_,?_,CS.root _ _ t1 t2 t3 ?_ ?_ ?_⟩
  ·simp only[PT.cnt,ax,List.length_append,List.length_singleton];omega
  ·simp only[cH,mX,az,List.getD_cons_succ,List.getD_cons_zero]
   exact hk.2
  ·simp[uP,mX]
  ·simp[mX]
 | @pair G p nm rg a b UA UB ha hb hsz aF bu =>
  intro sc T ns aO hE hr;simp only[PT.iZ,gQ] at hr;simp only[NA,bU,cK,Bool.false_eq_true,if_false] at aO;obtain⟨ks,aL,⟨a1,c1,ct,⟨a2,c2,eZ,⟨_,rfl⟩,rfl⟩,rfl⟩,rfl⟩:=aO;obtain⟨A,hA,h1⟩:=aF sc T a1 ct hE hr.2.2.1;obtain⟨B,hB,h2⟩:=bu _ (T++(A++[cF r _])) a2 (by rw[List.length_append,List.length_append,List.length_singleton,hA];exact eZ) (hE.more _) hr.2.2.2.1;obtain⟨t1,t2,t3⟩:=h1.two h2;rw[List.append_nil];have hk:=XW T A B [] (cF r UA) (cF r UB) _ _ hA hB;rw[List.append_nil] at hk;have E6:=hr.2.1 trivial;refine⟨_,?_,CS.root _ _ t1 t2 t3 ?_ ?_ ?_⟩
  ·simp only[PT.cnt,ax,List.length_append,List.length_singleton];omega
  ·simp only[cH,mI,az,List.getD_cons_succ,List.getD_cons_zero,E6]
   simp only[Nat.reduceEqDiff,if_false,if_true];rw[hk.1,hk.2];simp only[cF,Int.toNat_natCast]
  ·simp[uP,mI]
  ·intro _
   simp only[az,List.getD_cons_succ,List.getD_cons_zero];rw[hk.1,hk.2];simp only[Ty.size,s8] at hsz ⊢;exact hsz
 | @fst G p nm rg a UA UB ha aF =>
  intro sc T ns aO hE hr;simp only[PT.iZ,gQ] at hr;simp only[NA,bU,cK,Bool.false_eq_true,if_false] at aO;obtain⟨ks,aL,⟨a1,c1,ct,⟨_,rfl⟩,rfl⟩,rfl⟩:=aO;obtain⟨A,hA,h1⟩:=aF sc T a1 ct hE hr.2.2.1;rw[List.append_nil];have hk:=gy T A [] (cF r (.p 0 UA UB)) _ hA.symm;rw[List.append_nil] at hk;refine⟨_,?_,CS.root _ _ h1.pl h1.sz h1.run ?_ ?_ ?_⟩
  ·simp only[PT.cnt,ax,List.length_append,List.length_singleton];omega
  ·simp only[cH,mY,az,List.getD_cons_zero]
   simp only[Nat.reduceEqDiff,if_false,if_true];rw[hk];rfl
  ·simp[uP,mY]
  ·simp[mY]
 | @snd G p nm rg a UA UB ha aF =>
  intro sc T ns aO hE hr;simp only[PT.iZ,gQ] at hr;simp only[NA,bU,cK,Bool.false_eq_true,if_false] at aO;obtain⟨ks,aL,⟨a1,c1,ct,⟨_,rfl⟩,rfl⟩,rfl⟩:=aO;obtain⟨A,hA,h1⟩:=aF sc T a1 ct hE hr.2.2.1;rw[List.append_nil];have hk:=gy T A [] (cF r (.p 0 UA UB)) _ hA.symm;rw[List.append_nil] at hk;refine⟨_,?_,CS.root _ _ h1.pl h1.sz h1.run ?_ ?_ ?_⟩
  ·simp only[PT.cnt,ax,List.length_append,List.length_singleton];omega
  ·simp only[cH,mZ,az,List.getD_cons_zero]
   simp only[Nat.reduceEqDiff,if_false,if_true];rw[hk];rfl
  ·simp[uP,mZ]
  ·simp[mZ]
 | @di G p nm rg a b c U ha hb hc aF bu fe =>
  intro sc T ns aO hE hr;simp only[PT.iZ,gQ] at hr;simp only[NA,bU,cK,Bool.false_eq_true,if_false] at aO;obtain⟨ks,aL,⟨a1,c1,ct,⟨a2,c2,eZ,⟨a3,c3,uy,⟨_,rfl⟩,rfl⟩,rfl⟩,rfl⟩,rfl⟩:=aO;obtain⟨A,hA,h1⟩:=aF sc T a1 ct hE hr.2.2.1;obtain⟨B,hB,h2⟩:=bu _ (T++(A++[cF r _])) a2 (by rw[List.length_append,List.length_append,List.length_singleton,hA];exact eZ) (hE.more _) hr.2.2.2.1
  have hl1:(T++(A++[cF r .n])).length=T.length+a.cnt:=by rw[List.length_append,List.length_append,List.length_singleton,hA]
  have hl2:(T++(A++[cF r .n])++(B++[cF r U])).length=T.length+a.cnt+b.cnt:=by rw[List.length_append,hl1,List.length_append,List.length_singleton,hB]
  obtain⟨C,hC,h3⟩:=fe sc (T++(A++[cF r .n])++(B++[cF r U])) a3 (by rw[hl2];exact uy) ((hE.more _).more _) hr.2.2.2.2.1;obtain⟨t1,t2,t3⟩:=h1.three h2 h3;rw[List.append_nil]
  have hk:=λX=>kn3 T A B C X (cF r .n) (cF r U) (cF r U) _ _ _ hA hB hC
  have ko:=hk [];rw[List.append_nil] at ko;refine⟨_,?_,CS.root _ _ t1 t2 t3 ?_ ?_ ?_⟩
  ·simp only[PT.cnt,ax,List.length_append,List.length_singleton];omega
  ·simp only[cH,tT,az,List.getD_cons_succ,List.getD_cons_zero]
   simp only[Nat.reduceEqDiff,if_false,if_true];exact ko.2.1
  ·simp only[uP,tT,true_or,if_true,az,List.getD_cons_succ,List.getD_cons_zero]
   rw[(hk [cF r U]).2.1,(hk [cF r U]).2.2,if_pos rfl]
  ·simp[tT]
 | @two G p k nm rg a b hkk ha hb aF bu =>
  intro sc T ns aO hE hr
  have hkb:bU k=[false,false]:=by rcases hkk with rfl | rfl | rfl <;> rfl
  have A9:aZ k=8\/aZ k=9\/aZ k=10:=by rcases hkk with rfl | rfl | rfl <;> decide
  simp only[PT.iZ,gQ] at hr;simp only[NA,hkb,cK,Bool.false_eq_true,if_false] at aO;obtain⟨ks,aL,⟨a1,c1,ct,⟨a2,c2,eZ,⟨_,rfl⟩,rfl⟩,rfl⟩,rfl⟩:=aO;obtain⟨A,hA,h1⟩:=aF sc T a1 ct hE hr.2.2.1;obtain⟨B,hB,h2⟩:=bu _ (T++(A++[cF r _])) a2 (by rw[List.length_append,List.length_append,List.length_singleton,hA];exact eZ) (hE.more _) hr.2.2.2.1;obtain⟨t1,t2,t3⟩:=h1.two h2;rw[List.append_nil];refine⟨_,?_,CS.root _ _ t1 t2 t3 ?_ ?_ ?_⟩
  ·simp only[PT.cnt,ax,List.length_append,List.length_singleton];omega
  ·simp only[cH]
   rcases A9 with h | h | h <;> simp[h,cF]
  ·simp only[uP]
   rcases A9 with h | h | h <;> simp[h]
  ·intro h4
   simp only at h4
   rcases A9 with h | h | h <;> omega
 | @loop G p nm rg a b c U ha hb hc aF bu fe =>
  intro sc T ns aO hE hr;simp only[PT.iZ,gQ] at hr;simp only[NA,bU,cK,Bool.false_eq_true,if_false,if_true] at aO;obtain⟨ks,aL,⟨a1,c1,ct,⟨a2,c2,eZ,⟨a3,c3,uy,⟨_,rfl⟩,rfl⟩,rfl⟩,rfl⟩,rfl⟩:=aO;obtain⟨A,hA,h1⟩:=aF sc T a1 ct hE hr.2.2.1;obtain⟨B,hB,h2⟩:=bu _ (T++(A++[cF r _])) a2 (by rw[List.length_append,List.length_append,List.length_singleton,hA];exact eZ) (hE.more _) hr.2.2.2.1
  have hl1:(T++(A++[cF r .n])).length=T.length+a.cnt:=by rw[List.length_append,List.length_append,List.length_singleton,hA]
  have uq:=(hE.more (A++[cF r .n])).snoc (nm:=nm) (U:=U) hB.symm;rw[hl1] at uq
  have hl2:(T++(A++[cF r .n])++(B++[cF r U])).length=T.length+a.cnt+b.cnt:=by rw[List.length_append,hl1,List.length_append,List.length_singleton,hB]
  obtain⟨C,hC,h3⟩:=fe _ (T++(A++[cF r .n])++(B++[cF r U])) a3 (by rw[hl2];exact uy) uq hr.2.2.2.2.1;obtain⟨t1,t2,t3⟩:=h1.three h2 h3;rw[List.append_nil]
  have hk:=λX=>kn3 T A B C X (cF r .n) (cF r U) (cF r U) _ _ _ hA hB hC
  have ko:=hk [];rw[List.append_nil] at ko;refine⟨_,?_,CS.root _ _ t1 t2 t3 ?_ ?_ ?_⟩
  ·simp only[PT.cnt,ax,List.length_append,List.length_singleton];omega
  ·simp only[cH,kY,az,List.getD_cons_succ,List.getD_cons_zero]
   simp only[Nat.reduceEqDiff,if_false,if_true];exact ko.2.1
  ·simp only[uP,kY,or_true,if_true,az,List.getD_cons_succ,List.getD_cons_zero]
   rw[(hk [cF r U]).2.1,(hk [cF r U]).2.2,if_pos rfl]
  ·simp[kY]
 | new _ _ =>
  intro sc T ns _ _ hr;simp only[PT.iZ] at hr;exact absurd rfl hr.1
theorem zw {w:World} {base:Nat} {e:TypeId} {size:Nat} {v:Value} {n:Nat} {xs:List Value} (h:w.ownsRow base e size v n xs):∃ a c,v=.slice a n c:=by
 rcases h.2 with ⟨h1,h2⟩ | ⟨g,cap,cur,h1,_⟩
 ·exact⟨none,0,by rw[h1,h2]⟩
 ·exact⟨_,_,h1⟩
theorem vF (s:ByteArray) (w:World) (hs:s.size<=9000) (e:PT) (hp:PE true (tokens s.data.toList) e []):Calls Tryz.prog 36 #[.string s] w λv w'=>∃ x1 n1 c1 x2 n2 c2 ns,v=.returned (.tuple #[aQ (.slice x1 n1 c1) (.slice x2 n2 c2),.int .i64 0,.int .i64 0])/\Below w.heap.size w w'/\bB w' (.slice x1 n1 c1) (.slice x2 n2 c2) ns (opn e 0)/\NA [] e 0 ns:=by
 obtain⟨ns,aO,Gn⟩:=tS (len:=s.size) hp
 have D4:=λw=>oM s w (by omega)
 have TD:Hid _:=Gn;have D5:Hid _:=aO;clear hp aO Gn
 go_enter Tryz.func36,Tryz.ntmps36
 go_wp2_with fail
 refine (D4 _).mono ?_;rintro v w1 ⟨hb,hv⟩;have hr:=tP hb;have hlt:=af hr;have HB:Hid _:=n8 hb
 rcases hv with ⟨q',hq',_⟩ | ⟨_,nv,ov,rfl,hT⟩
 ·rw[TD.out] at hq';cases hq'
 ·rw[TD.out] at hT
  simp only at hT;obtain⟨x1,c1,e1⟩:=zw hT.nd;obtain⟨x2,c2,e2⟩:=zw hT.op;have Dw:Hid _:=rm hT.nd hr (by decide);have uN:Hid _:=rm hT.op hr (by decide);subst e1;subst e2
  have r0:w1.cell? ⟨w.heap.size,0,none⟩=some (.slice none 0 0):=by rw[aa hr];rfl
  have r1:w1.cell? ⟨w.heap.size,1,none⟩=some (.slice none 0 0):=by rw[aa hr];rfl
  have f0:=ag hr 0;have f1:=ag hr 1;have hW:=aR (.cells #[.slice x1 ns.length c1,.slice x2 (opn e 0).length c2] 62) (aA (aA hr 0 (.slice x1 ns.length c1)) 1 (.slice x2 (opn e 0).length c2));have S0:Hid ((((w1.setCell ⟨w.heap.size,0,none⟩ (.slice x1 ns.length c1)).setCell ⟨w.heap.size,1,none⟩ (.slice x2 (opn e 0).length c2)).alloc (.cells #[.slice x1 ns.length c1,.slice x2 (opn e 0).length c2] 62)).cell? ⟨w.heap.size,0,none⟩=some (.slice x1 ns.length c1)):=(aa hW 0).trans rfl;have S1:Hid ((((w1.setCell ⟨w.heap.size,0,none⟩ (.slice x1 ns.length c1)).setCell ⟨w.heap.size,1,none⟩ (.slice x2 (opn e 0).length c2)).alloc (.cells #[.slice x1 ns.length c1,.slice x2 (opn e 0).length c2] 62)).cell? ⟨w.heap.size,1,none⟩=some (.slice x2 (opn e 0).length c2)):=(aa hW 1).trans rfl;have YI:bB ((w1.setCell ⟨w.heap.size,0,none⟩ (.slice x1 ns.length c1)).setCell ⟨w.heap.size,1,none⟩ (.slice x2 (opn e 0).length c2)) (.slice x1 ns.length c1) (.slice x2 (opn e 0).length c2) ns (opn e 0):=⟨ay hT.nd (λk hk=>by rw[aq _ _ (by simpa using Dw.out k hk),aq _ _ (by simpa using Dw.out k hk)]),ay hT.op (λk hk=>by rw[aq _ _ (by simpa using uN.out k hk),aq _ _ (by simpa using uN.out k hk)])⟩;have HTS:Hid _:=YI.below ((Below.refl _ _).alloc (Nat.le_refl _) (.cells #[.slice x1 ns.length c1,.slice x2 (opn e 0).length c2] 62))
  have hne:w.heap.size≠w1.heap.size:=by omega
  unfold aQ;clear hT hb hr D4 hW YI
  go_wp2
  refine bodyPost_ret (v:=.tuple #[.agg #[.slice x1 ns.length c1,.slice x2 (opn e 0).length c2],.int .i64 0,.int .i64 0]) (by have s0:=S0.out;have s1:=S1.out;simp[results,Tryz.results36,go_sem,s0,s1]) rfl ⟨x1,ns.length,c1,x2,(opn e 0).length,c2,ns,rfl,?_,HTS.out,D5.out⟩;exact ((HB.out.setCell (p:=⟨w.heap.size,0,none⟩) (Nat.le_refl _) _).setCell (p:=⟨w.heap.size,1,none⟩) (Nat.le_refl _) _).alloc (by have:=HB.out.size;simp[World.setCell];omega) _
theorem wP (s:ByteArray) (w:World) (hs:s.size<=9000) (e:PT) (hp:PE true (tokens s.data.toList) e []):Calls Tryz.prog 26 #[.string s] w λv w'=>∃ x1 n1 c1 x2 n2 c2 ns,v=.returned (.tuple #[aQ (.slice x1 n1 c1) (.slice x2 n2 c2),.int .i64 (dF e).1,.int .i64 (dF e).2])/\Below w.heap.size w w'/\bB w' (.slice x1 n1 c1) (.slice x2 n2 c2) ns (opn e 0)/\NA [] e 0 ns:=by
 have nF:=jU hp
 have D4:=λw=>vF s w hs e hp
 have jN:=λ(w:World) (nv ov:Value) (ns:List NR) (aO:NA [] e 0 ns) (h:bB w nv ov ns (opn e 0))=>pN w nv ov ns (opn e 0) h (xT aO) (by have:=aO.len;omega) (aO.small (λ_ h=>by simp at h) (by omega)) (λj n hj=>by have:=aO.back j n hj;simpa using this)
 unfold aQ at D4;have Dt:Hid _:=jN;have YJ:Hid _:=D4;clear hp jN D4;obtain⟨ans,dm⟩:∃ ans,ans=dF e:=⟨_,rfl⟩;rw[<- dm];have kX:Hid _:=dm;clear dm
 go_enter Tryz.func26,Tryz.ntmps26
 go_wp2_with fail
 refine (YJ.out _).mono ?_;rintro _ w1 ⟨x1,n1,c1,x2,n2,c2,ns,rfl,hb,hT,aO⟩;have hr:=tP hb;have hlt:=af hr;have HB:Hid _:=n8 hb;have HR:Hid _:=hr;have Dw:Hid _:=rm hT.nd hr (by decide);have uN:Hid _:=rm hT.op hr (by decide);have oN:=hT.below ((Below.refl _ w1).alloc (Nat.le_refl _) (.cells #[.slice x1 n1 c1,.slice x2 n2 c2] 62));have jN:=Dt.out (w1.alloc (.cells #[.slice x1 n1 c1,.slice x2 n2 c2] 62)) _ _ ns aO oN;rw[xS aO,<- kX.out] at jN;have D5:Hid _:=aO;unfold aQ at jN;clear hT hb hr YJ Dt aO
 go_wp2_with fail
 refine jN.mono ?_;rintro _ w2 ⟨rfl,hb2⟩;have D6:Hid _:=oN.below hb2;have hk:=tP hb2
 have k0:w2.cell? ⟨w1.heap.size,0,none⟩=some (.slice x1 n1 c1):=by rw[aa hk];rfl
 have k1:w2.cell? ⟨w1.heap.size,1,none⟩=some (.slice x2 n2 c2):=by rw[aa hk];rfl
 have dV:w2.heap[w.heap.size]?=some (.cells #[.slice none 0 0,.slice none 0 0] 62 (0,0)):=by
  rw[hb2.block _ (by simp;omega)];exact aR _ HR.out
 have r0:w2.cell? ⟨w.heap.size,0,none⟩=some (.slice none 0 0):=by rw[aa dV];rfl
 have r1:w2.cell? ⟨w.heap.size,1,none⟩=some (.slice none 0 0):=by rw[aa dV];rfl
 have f0:=ag dV 0;have f1:=ag dV 1;have mi:Below w.heap.size w w2:=HB.out.trans ((n8 hb2).mono HB.out.size);have eC:Hid _:=mi
 have hne:w.heap.size≠w1.heap.size:=by omega
 clear hk dV hb2 mi jN oN
 go_wp2
 refine bodyPost_ret (v:=.tuple #[.agg #[.slice x1 n1 c1,.slice x2 n2 c2],.int .i64 ans.1,.int .i64 ans.2]) (by simp[results,Tryz.results26,go_sem,r0,r1]) rfl ⟨x1,n1,c1,x2,n2,c2,ns,rfl,?_,⟨ay D6.out.nd (λk hk=>by rw[aq _ _ (by simpa using Dw.out k hk),aq _ _ (by simpa using Dw.out k hk)]),ay D6.out.op (λk hk=>by rw[aq _ _ (by simpa using uN.out k hk),aq _ _ (by simpa using uN.out k hk)])⟩,D5.out⟩;exact (eC.out.setCell (p:=⟨w.heap.size,0,none⟩) (Nat.le_refl _) _).setCell (p:=⟨w.heap.size,1,none⟩) (Nat.le_refl _) _
theorem E7 (s:ByteArray) (fuel:Int) (w:World) (e:PT) (y:Nat) (S:ByteArray) (a b c d E:Int) (MA:∀ w,Calls Tryz.prog 26 #[.string s] w λv w'=>∃ x1 n1 c1 x2 n2 c2 ns,v=.returned (.tuple #[aQ (.slice x1 n1 c1) (.slice x2 n2 c2),.int .i64 0,.int .i64 y])/\Below w.heap.size w w'/\bB w' (.slice x1 n1 c1) (.slice x2 n2 c2) ns (opn e 0)/\NA [] e 0 ns)
  (pz:∀ (w':World) (x1:Option Addr) (n1 c1:Nat) (x2:Option Addr) (n2 c2:Nat) (ns:List NR),Below w.heap.size w w'->bB w' (.slice x1 n1 c1) (.slice x2 n2 c2) ns (opn e 0)->NA [] e 0 ns->Calls Tryz.prog 28 #[aQ (.slice x1 n1 c1) (.slice x2 n2 c2),.int .i64 fuel] w' λv w''=>v=.returned (.tuple #[.agg #[.string S,.int .i64 a,.int .i64 b,.int .i64 c,.int .i64 d],.int .i64 E])/\Below w'.heap.size w' w'') :
  Calls Tryz.prog 13 #[.string s,.int .i64 fuel] w λv w'=>v=.returned (.tuple #[.agg #[.string S,.int .i64 a,.int .i64 b,.int .i64 c,.int .i64 d],.int .i64 E])/\Below w.heap.size w w':=by
 unfold aQ at MA pz;have HR:Hid _:=MA;have HN:Hid _:=pz;clear MA pz
 go_enter Tryz.func13,Tryz.ntmps13
 go_wp2_with fail
 refine (HR.out _).mono ?_;rintro _ w1 ⟨x1,n1,c1,x2,n2,c2,ns,rfl,hb,hT,aO⟩;have hq:w1.heap[w.heap.size]?=some (.cells #[.string ⟨#[]⟩,.int .i64 0,.int .i64 0,.int .i64 0,.int .i64 0] 35):=tP hb;have hB:=n8 hb;obtain⟨W2,uq⟩:∃ W2,W2=w1.alloc (.cells #[.slice x1 n1 c1,.slice x2 n2 c2] 62):=⟨_,rfl⟩
 have hb2:Below w1.heap.size w1 W2:=by rw[uq];exact aD (Below.refl _ _) _
 have ZZ:=HN.out W2 x1 n1 c1 x2 n2 c2 ns (hB.trans (hb2.mono hB.size)) (hT.below hb2) aO;have MB:Hid _:=ZZ;have eC:Hid _:=hB.trans (hb2.mono hB.size)
 have HQ2:Hid (W2.heap[w.heap.size]?=some (.cells #[.string ⟨#[]⟩,.int .i64 0,.int .i64 0,.int .i64 0,.int .i64 0] 35)):=by
  show W2.heap[w.heap.size]?=_
  rw[hb2.block _ (af hq)];exact hq
 clear hb hT aO hq hB hb2 ZZ HR HN
 go_wp2_with fail
 rw[<- uq];refine Calls.mono MB.out ?_;rintro _ w3 ⟨rfl,hb3⟩
 have Mx:w3.heap[w.heap.size]?=some (.cells #[.string ⟨#[]⟩,.int .i64 0,.int .i64 0,.int .i64 0,.int .i64 0] 35):=by rw[hb3.block _ (af HQ2.out)];exact HQ2.out
 have jb:Hid _:=eC.out.trans (hb3.mono eC.out.size);clear hb3 MB eC HQ2 uq
 go_wp2_with (refine jY rfl 35 (.tmp 4) (.tmp 22) rfl w.heap.size #[.string S,.int .i64 a,.int .i64 b,.int .i64 c,.int .i64 d] rfl rfl 35 _ Mx Tryz.xp rfl (by simp[Value.oneCell']) ?_;intro W hW mr nU hW1 hW2 hW3)
 obtain⟨s0,s1,s2,s3,s4⟩:=lD hW;have Dy:Hid _:=fP jb.out (Nat.le_refl _) mr nU hW1 hW2 hW3;clear hW mr nU hW1 hW2 hW3 jb Mx
 go_wp2
 refine bodyPost_ret (v:=.tuple #[.agg #[.string S,.int .i64 a,.int .i64 b,.int .i64 c,.int .i64 d],.int .i64 E]) (by simp[results,Tryz.results13,go_sem,s0,s1,s2,s3,s4]) rfl ⟨rfl,Dy.out⟩
mutual
theorem NA.forms:∀ {scope:Sc} {t:PT} {base:Nat} {ns:List NR} {r:Int},NA scope t base ns->t.iZ r->∀ n∈ns,n.form≠12
 | _,.num p s,_,_,_,h,_,n,hn=>by simp only[NA] at h;subst h;rw[List.mem_singleton] at hn;subst hn;simp
 | _,.name p s,_,_,_,h,_,n,hn=>by simp only[NA] at h;subst h;rw[List.mem_singleton] at hn;subst hn;simp
 | _,.node p k nm rg kids,_,_,_,h,h3,n,hn=>by
  simp only[NA] at h;obtain⟨ks,aL,hk,rfl⟩:=h;simp only[PT.iZ] at h3
  rcases List.mem_append.1 hn with hn | hn
  ·exact hk.forms h3.2.2 n hn
  ·rw[List.mem_singleton] at hn;subst hn;simp only;have:=h3.1;cases k <;> first | decide | exact absurd rfl this
theorem cK.forms:∀ {scope:Sc} {nm:List UInt8} {ts:List PT} {bs:List Bool} {base:Nat} {ns:List NR} {r:Int},cK scope nm ts bs base ns->gQ r ts->∀ n∈ns,n.form≠12
 | _,_,[],_,_,_,_,h,_,n,hn=>by simp only[cK] at h;rw[h.2] at hn;simp at hn
 | _,_,_::_,[],_,_,_,h,_,n,hn=>by simp[cK] at h
 | _,_,t::r,b::bs,_,_,_,h,h3,n,hn=>by
  simp only[cK] at h;obtain⟨a,c,h1,h2,rfl⟩:=h;simp only[gQ] at h3
  rcases List.mem_append.1 hn with hn | hn
  ·exact h1.forms h3.1 n hn
  ·exact h2.forms h3.2 n hn
end
mutual
theorem NA.OY:∀ {scope:Sc} {t:PT} {base:Nat} {ns:List NR},NA scope t base ns->t.rK->∀ n∈ns,0<=n.region
 | _,.num p s,_,_,h,_,n,hn=>by simp only[NA] at h;subst h;rw[List.mem_singleton] at hn;subst hn;exact Int.le_refl _
 | _,.name p s,_,_,h,_,n,hn=>by simp only[NA] at h;subst h;rw[List.mem_singleton] at hn;subst hn;exact Int.le_refl _
 | _,.node p k nm rg kids,_,_,h,h3,n,hn=>by
  simp only[NA] at h;obtain⟨ks,aL,hk,rfl⟩:=h;simp only[PT.rK] at h3
  rcases List.mem_append.1 hn with hn | hn
  ·exact hk.OY h3.2 n hn
  ·rw[List.mem_singleton] at hn;subst hn;simp only;omega
theorem cK.OY:∀ {scope:Sc} {nm:List UInt8} {ts:List PT} {bs:List Bool} {base:Nat} {ns:List NR},cK scope nm ts bs base ns->n9 ts->∀ n∈ns,0<=n.region
 | _,_,[],_,_,_,h,_,n,hn=>by simp only[cK] at h;rw[h.2] at hn;simp at hn
 | _,_,_::_,[],_,_,h,_,n,hn=>by simp[cK] at h
 | _,_,t::r,b::bs,_,_,h,h3,n,hn=>by
  simp only[cK] at h;obtain⟨a,c,h1,h2,rfl⟩:=h;simp only[n9] at h3
  rcases List.mem_append.1 hn with hn | hn
  ·exact h1.OY h3.1 n hn
  ·exact h2.OY h3.2 n hn
end
mutual
theorem uz:∀ t:PT,t.bQ->t.rK->t.iE
 | .num _ _,h,_=>by simp only[PT.bQ] at h;simp only[PT.iE];exact h
 | .name _ _,_,_=>by simp[PT.iE]
 | .node _ _ _ _ kids,h,h3=>by
  simp only[PT.bQ] at h;simp only[PT.rK] at h3;simp only[PT.iE];exact⟨by omega,E8 kids h.2 h3.2⟩
theorem E8:∀ ts:List PT,bH ts->n9 ts->cJ ts
 | [],_,_=>by simp[cJ]
 | t::r,h,h3=>by
  simp only[bH] at h;simp only[n9] at h3;simp only[cJ];exact⟨uz t h.1 h3.1,E8 r h.2 h3.2⟩
end
theorem zx:∀ (l acc:List NR),(∀ n∈l,n.form≠12)->dr l acc=(acc,0,0)
 | [],_,_=>rfl
 | n::r,acc,h=>by
  simp only[dr];rw[if_neg (h n (by simp))];exact zx r acc (λm hm=>h m (by simp[hm]))
theorem BC:∀ (l:List NR),kz [] l=(0,0)
 | []=>rfl
 | n::r=>by
  simp only[kz,lM,List.find?_nil]
  split <;> exact BC r
theorem OZ {ns:List NR} {op:List Int} {n:NR} (h:n∈bw ns op):n∈ns\/n=Gm:=by
 unfold bw at h;rw[List.mem_map] at h;obtain⟨x,_,rfl⟩:=h
 cases hx:ns[x.toNat]? with
 | none=>exact Or.inr rfl
 | some m=>exact Or.inl (List.mem_of_getElem? hx)
theorem Iw {e:PT} {U:Ty} {r:Nat} {ns:List NR} (aO:NA [] e 0 ns) (ux:WT [] e U) (hr:e.iZ r):jm ns (opn e 0)=(0,0)/\ij [] ns:=by
 obtain⟨A,_,hpl⟩:=ux.plr (r:=r) [] [] ns aO (λs U h=>by simp[look] at h) hr;have hf:=aO.forms hr
 have hn:=zx (bw ns (opn e 0)) [] (λn h=>by
  rcases OZ h with h | h
  ·exact hf n h
  ·rw[h];decide)
 refine⟨?_,hpl.sz⟩;unfold jm;rw[hn,if_neg (by simp),BC,if_neg (by simp)];exact hpl.pl
theorem CT (s:ByteArray) (w:World) (hs:s.size<=9000) (e:PT) (U:Ty) (r:Nat) (hp:PE true (tokens s.data.toList) e []) (hc:dF e=(0,0)) (ux:WT [] e U) (hr:e.iZ r) :
  Calls Tryz.prog 12 #[.string s] w λv w'=>v=.returned (.tuple #[.int .i64 (0:Nat),.int .i64 (0:Nat)])/\Below w.heap.size w w':=by
 have h3:=(hp.rK (nE _)).1;have nF:=jU hp;refine D7 s w e 0 (0,0) (λw=>?_) (λw' x1 n1 c1 x2 n2 c2 ns Z0 aO=>?_)
 ·have:=pV s w hs e hp
  rw[hc] at this;exact this
 ·obtain⟨UU,hsz⟩:=Iw aO.1 ux hr
  have:=pU w' (.slice x1 n1 c1) (.slice x2 n2 c2) ns (opn e 0) Z0 (xT aO.1) (by have:=aO.1.len;omega) (aO.1.small (λ_ h=>by simp at h) (by omega)) (aO.1.OY h3) hsz;rw[UU] at this;exact this
end Go.Proofs.YtpicaknklgccoabGreatDoor
