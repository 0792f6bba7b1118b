import Derived.Test.YtpicaknklgccoabGreatDoorS29
set_option maxHeartbeats 4000000
set_option maxRecDepth 100000
namespace Go.Proofs.YtpicaknklgccoabGreatDoor
open Go.RowKit
open Go.Lib (decDigits)
theorem gV (k:Kw) (n:Nat):∀ (l:List (List UInt8)) (i:Nat),bn k (iO k n) i l=bn k (bG n) i l
 | [],_=>rfl
 | x::r,i=>by
  simp only [bn]
  rw [gV k n r (i+1)]
  congr 1
  unfold bP
  split
  ·rename_i h
   unfold iO
   rw [if_pos (h.elim (fun h=>Or.inl h.1) (fun h=>Or.inr h.1))]
  ·rfl
def Im (w:World) (p:Nat) (k:Kw) (n:Nat) (ks:List KE):Prop:=∃ c:Nat,c < w.heap.size/\w.heap[p]?=some (.cells (uO k.bytes n (.slice (some ⟨c,0,none⟩) ks.length ks.length)) 59 (0,0))/\∀ (j:Nat) (y:KE),ks[j]?=some y->∃ q:Nat,w.cell? ⟨c,j,none⟩=some (.pointer (some ⟨q,0,none⟩))/\eS w y q
theorem NC {w:World} {p:Nat} {k:Kw} {a:KE} (h:eS w (.n1 k a) p):Im w p k 0 [a]:=by
 obtain ⟨c,pa,h1,h2,h3⟩:=h
 refine ⟨c,af h2,h1,fun j y hj=>?_⟩
 match j,hj with
 | 0,hj=>simp at hj;subst hj;exact ⟨pa,by rw [aa h2];rfl,h3⟩
 | j+1,hj=>simp at hj
theorem Gc {w:World} {p:Nat} {k:Kw} {n:Nat} {a b:KE} (h:eS w (.n2 k n a b) p):Im w p k n [a,b]:=by
 obtain ⟨c,pa,pb,h1,h2,h3,h4⟩:=h
 refine ⟨c,af h2,h1,fun j y hj=>?_⟩
 match j,hj with
 | 0,hj=>simp at hj;subst hj;exact ⟨pa,by rw [aa h2];rfl,h3⟩
 | 1,hj=>simp at hj;subst hj;exact ⟨pb,by rw [aa h2];rfl,h4⟩
 | j+2,hj=>simp at hj
theorem ND {w:World} {p:Nat} {k:Kw} {n:Nat} {a b d:KE} (h:eS w (.n3 k n a b d) p):Im w p k n [a,b,d]:=by
 obtain ⟨c,pa,pb,pd,h1,h2,h3,h4,h5⟩:=h
 refine ⟨c,af h2,h1,fun j y hj=>?_⟩
 match j,hj with
 | 0,hj=>simp at hj;subst hj;exact ⟨pa,by rw [aa h2];rfl,h3⟩
 | 1,hj=>simp at hj;subst hj;exact ⟨pb,by rw [aa h2];rfl,h4⟩
 | 2,hj=>simp at hj;subst hj;exact ⟨pd,by rw [aa h2];rfl,h5⟩
 | j+3,hj=>simp at hj
theorem jx (rg:List UInt8) (x:KE) (k:Kw) (n:Nat) (ks:List KE) (hkn:k≠.new) (hn:n<=1000)
  (hpt:(x.pt rg).tidy=40::(k.bytes++((if k=.pair then fP rg else [])++(bn k (bG n) 0 (ks.map (fun y=>(y.pt rg).tidy))++[41]))))
  (hin:∀ w p,eS w x p->Im w p k n ks) (qt:ks.length<=3) (ih:∀ y∈ks,DM rg y):DM rg x:=by
 intro p w hx hlen hit
 obtain ⟨c,hc,hb,Mc⟩:=hin w p hx
 have hp:=af hb
 have x0:w.cell? ⟨p,0,none⟩=some (.string (bs k.bytes)):=by rw [aa hb];rfl
 have x1:w.cell? ⟨p,1,none⟩=some (.int .i64 n):=by rw [aa hb];rfl
 have x2:w.cell? ⟨p,2,none⟩=some (.slice (some ⟨c,0,none⟩) ks.length ks.length):=by rw [aa hb];rfl
 have h1:((bs k.bytes).toList == [])=false:=by rw [aU];cases k <;> decide
 have h2:((bs k.bytes).toList == [120])=false:=by rw [aU];cases k <;> decide
 obtain ⟨bp,hbp⟩:∃ bp,((bs k.bytes).toList == [112,97,105,114])=bp:=⟨_,rfl⟩
 obtain ⟨bl,hl⟩:∃ bl,((bs k.bytes).toList == [108,101,116])=bl:=⟨_,rfl⟩
 obtain ⟨bo,ho⟩:∃ bo,((bs k.bytes).toList == [108,111,111,112])=bo:=⟨_,rfl⟩
 have hP:bp=decide (k=.pair):=by rw [<- hbp,aU];cases k <;> decide
 have hL:bl=decide (k=.aT):=by rw [<- hl,aU];cases k <;> decide
 have hO:bo=decide (k=.loop):=by rw [<- ho,aU];cases k <;> decide
 have hLO:¬ (bl=true/\bo=true):=by rw [hL,hO];cases k <;> simp
 obtain ⟨ts,hts⟩:∃ ts,ts=ks.map (fun y=>(y.pt rg).tidy):=⟨_,rfl⟩
 have htl:ts.length=ks.length:=by rw [hts];simp
 obtain ⟨pre,hpre⟩:∃ pre,pre=40::(k.bytes++(if k=.pair then fP rg else [])):=⟨_,rfl⟩
 rw [<- hts] at hpt
 have hfin:lK pre k (bG n) ts ks.length++[41]=(x.pt rg).tidy:=by
  rw [hpt,hpre];unfold lK;rw [<- htl,List.take_length];simp
 have NF:pre.length+(bn k (bG n) 0 ts).length+1=(x.pt rg).tidy.length:=by rw [hpt,hpre];simp;omega
 have Mj:=fun j=>Q3 pre k (bG n) ts j
 have hall:∀ j,(hj:j < ks.length)->∀ w',Below w.heap.size w w'->∃ (q:Nat) (tx:List UInt8),w'.cell? ⟨c,j,none⟩=some (.pointer (some ⟨q,0,none⟩))/\ts[j]?=some tx/\tx.length<=100000 /\
   Calls Tryz.prog 11 #[.pointer (some ⟨q,0,none⟩),.string (bs (fP rg))] w' (fun e w''=>e=.returned (.string (bs tx))/\Below w'.heap.size w' w''):=by
  intro j hj w' hw'
  obtain ⟨q,hq,hy⟩:=Mc j ks[j] (List.getElem?_eq_getElem hj)
  have Bt:ts[j]?=some (ks[j].pt rg).tidy:=by rw [hts,List.getElem?_map,List.getElem?_eq_getElem hj];rfl
  have hm:=Av k (bG n) ts 0 _ (List.mem_of_getElem? Bt)
  exact ⟨q,_,(hw'.cell (p:=⟨c,j,none⟩) hc).trans hq,Bt,by omega,ih ks[j] (List.getElem_mem hj) q w' (hy.below hw') (by omega) (fun W hW=>hit W (hw'.trans (hW.mono hw'.size)))⟩
 have hnm:=fun W=>Ar n hn W
 have hkb:k.bytes.length<=4:=by cases k <;> decide
 have hrl:(fP rg).length<=100000\/k≠.pair:=by
  by_cases h:k=.pair
  ·left;rw [hpre,if_pos h] at NF;simp at NF;omega
  ·exact Or.inr h
 have hz:∀ j,(bs (lK pre k (bG n) ts j)).size<=100000:=fun j=>by rw [cN];have:=Mj j;omega
 have Vh:Hid _:=hall
 have SD:Hid _:=hnm
 have MI:Hid _:=hfin
 have HL:Hid _:=hL
 have HO:Hid _:=hO
 have HZ:Hid _:=hz
 have z1:(ByteArray.mk #[40]).size=1:=rfl
 have z2:(bs k.bytes).size<=4:=by rw [cN];exact hkb
 have z3:(bs (bG n)).size=3:=rfl
 have zR:bp=true->(bs (fP rg)).size<=100000:=by
  intro h;rw [cN];rw [hP,decide_eq_true_eq] at h
  rcases hrl with h1 | h1
  ·exact h1
  ·exact absurd h h1
 have e0:bp=true->ByteArray.mk #[40]++bs k.bytes++bs (fP rg)=bs (lK pre k (bG n) ts 0):=by
  intro h
  rw [hP,decide_eq_true_eq] at h
  rw [show ByteArray.mk #[40]=bs [40] from rfl,eB,eB,hpre,if_pos h];simp [lK,bn]
 have e1:bp=false->ByteArray.mk #[40]++bs k.bytes=bs (lK pre k (bG n) ts 0):=by
  intro h
  rw [hP,decide_eq_false_iff_not] at h
  rw [show ByteArray.mk #[40]=bs [40] from rfl,eB,hpre,if_neg h];simp [lK,bn]
 have zS:(ByteArray.mk #[40]++bs k.bytes).size<=5:=by rw [ByteArray.size_append];omega
 have E0:Hid _:=e0
 have E1:Hid _:=e1
 have ZR:Hid _:=zR
 clear hall hx Mc ih hit hL hO hP hpt hin hfin hpre hts Mj hnm hz e0 e1 zR hb hrl hlen NF hkb
 go_enter Tryz.func11,Tryz.ntmps11
 cases bp
 all_goals
  first
  | (have ee0:Hid _:=E1.out rfl)
  | (have ee0:Hid _:=E0.out rfl)
  first
  | (have zR:=ZR.out rfl)
  | skip
  clear E0 E1 ZR
  go_wp2_with fail
  go_loopw [5,6] (fun v i wr=>∃ j:Nat,j<=ks.length/\i=.int .i64 j/\v=.string (bs (lK pre k (bG n) ts j))/\Below w.heap.size w wr) (fun _ i _=>ks.length - (intOf i).toNat)
  case atStart=>exact ⟨0,by omega,rfl,by rw [<- ee0.out],Below.refl _ _⟩
  case round =>
   obtain ⟨j,hj,rfl,rfl,hbel⟩:=hrel
   have hsz:=hbel.size
   have q0:wr.cell? ⟨p,0,none⟩=some (.string (bs k.bytes)):=(hbel.cell (p:=⟨p,0,none⟩) hp).trans x0
   have q1:wr.cell? ⟨p,1,none⟩=some (.int .i64 n):=(hbel.cell (p:=⟨p,1,none⟩) hp).trans x1
   have q2:wr.cell? ⟨p,2,none⟩=some (.slice (some ⟨c,0,none⟩) ks.length ks.length):=(hbel.cell (p:=⟨p,2,none⟩) hp).trans x2
   have jj:p < wr.heap.size:=by omega
   have Jy:c < wr.heap.size:=by omega
   have zA:=HZ.out j
   have z4:(ByteArray.mk #[32]).size=1:=rfl
   have z5:(ByteArray.mk #[41]).size=1:=rfl
   have HB:Hid _:=hbel
   by_cases hlt:j < ks.length
   ·have iH:∀ tx,ts[j]?=some tx->lK pre k (bG n) ts (j+1)=lK pre k (bG n) ts j++bP k (bG n) j tx:=fun tx Bt=>Kf pre k (bG n) ts j tx Bt
    have nu:Hid _:=iH
    have zB:(bs (lK pre k (bG n) ts j)++ByteArray.mk #[32]).size<=100001:=by rw [ByteArray.size_append];omega
    have zC:(bs (lK pre k (bG n) ts j)++ByteArray.mk #[32]++bs (bG n)).size<=100004:=by rw [ByteArray.size_append];omega
    have zD:(bs (lK pre k (bG n) ts j)++ByteArray.mk #[32]++bs (bG n)++ByteArray.mk #[32]).size<=100005:=by rw [ByteArray.size_append];omega
    have eN:((bl=true/\j=0)\/(bo=true/\j=1))->∀ tx,ts[j]?=some tx->bs (lK pre k (bG n) ts j)++ByteArray.mk #[32]++bs (bG n)++ByteArray.mk #[32]++bs tx=bs (lK pre k (bG n) ts (j+1)):=by
     intro Kj tx Bt
     rw [HL.out,HO.out,decide_eq_true_eq,decide_eq_true_eq] at Kj
     rw [nu.out tx Bt,show ByteArray.mk #[32]=bs [32] from rfl,eB,eB,eB,eB]
     unfold bP;rw [if_pos Kj];simp
    have eP:¬ ((bl=true/\j=0)\/(bo=true/\j=1))->∀ tx,ts[j]?=some tx->bs (lK pre k (bG n) ts j)++ByteArray.mk #[32]++bs tx=bs (lK pre k (bG n) ts (j+1)):=by
     intro Kj tx Bt
     rw [HL.out,HO.out,decide_eq_true_eq,decide_eq_true_eq] at Kj
     rw [nu.out tx Bt,show ByteArray.mk #[32]=bs [32] from rfl,eB,eB]
     unfold bP;rw [if_neg Kj];simp
    have EN:Hid _:=eN
    have EP:Hid _:=eP
    clear eN eP iH hbel
    by_cases Kj:(bl=true/\j=0)\/(bo=true/\j=1)
    ·have TS:Hid _:=EN.out Kj
     clear EN EP nu HL HO HZ
     have dF:(bl=true/\j=0)\/(bl=false/\bo=true/\j=1):=by
      rcases Kj with h | h
      ·exact Or.inl h
      ·right
       refine ⟨?_,h⟩
       cases bl with
       | false=>rfl
       | true=>exact absurd ⟨rfl,h.1⟩ hLO
     clear Kj hLO
     have hbq:(bl=true/\((j:Int) == 0)=true)\/(bl=false/\bo=true/\((j:Int) == 1)=true):=by
      rcases dF with ⟨h1,h2⟩ | ⟨h1,h2,h3⟩
      ·exact Or.inl ⟨h1,by rw [h2];rfl⟩
      ·exact Or.inr ⟨h1,h2,by rw [h3];rfl⟩
     clear dF
     rcases hbq with ⟨rfl,hqj⟩ | ⟨rfl,rfl,hqj⟩
     all_goals
      go_wp2_with fail
      refine Calls.mono (SD.out _) ?_
      rintro _ w1 ⟨rfl,hb1⟩
      have dG:Hid _:=HB.out.trans (hb1.mono hsz)
      have r2:w1.cell? ⟨p,2,none⟩=some (.slice (some ⟨c,0,none⟩) ks.length ks.length):=(dG.out.cell (p:=⟨p,2,none⟩) hp).trans x2
      have abO:p < w1.heap.size:=by have:=dG.out.size;omega
      have abP:c < w1.heap.size:=by have:=dG.out.size;omega
      obtain ⟨q,tx,hq,Bt,Vi,hcall⟩:=Vh.out _ hlt w1 dG.out
      have YE:=TS.out tx Bt
      have zE:(bs tx).size<=100000:=by rw [cN];exact Vi
      have HC:Hid _:=hcall
      have HFE:Hid _:=YE
      clear hcall YE Bt TS hb1
      go_wp2_with fail
      refine Calls.mono HC.out ?_
      rintro _ w2 ⟨rfl,hb2⟩
      have dU:Hid _:=dG.out.trans (hb2.mono dG.out.size)
      clear hb2 HC
      go_wp2
      go_roundw
      case rel=>exact ⟨j+1,by omega,by go_num,by rw [<- HFE.out],dU.out⟩
      case measure=>simp [intOf];omega
    ·have TS:Hid _:=EP.out Kj
     clear EN EP nu HL HO HZ
     obtain ⟨q,tx,hq,Bt,Vi,hcall⟩:=Vh.out j hlt wr HB.out
     have YE:=TS.out tx Bt
     have zE:(bs tx).size<=100000:=by rw [cN];exact Vi
     have HC:Hid _:=hcall
     have HFE:Hid _:=YE
     have kN:¬ (bl=true/\j=0):=fun h=>Kj (Or.inl h)
     have hno:¬ (bo=true/\j=1):=fun h=>Kj (Or.inr h)
     clear hcall YE Bt TS Kj
     have qj0:j≠0->((j:Int) == 0)=false:=fun h=>by rw [beq_eq_false_iff_ne];omega
     have qj1:j≠1->((j:Int) == 1)=false:=fun h=>by rw [beq_eq_false_iff_ne];omega
     cases bl <;> cases bo <;> first | exact absurd ⟨rfl,rfl⟩ hLO | skip
     all_goals
      clear hLO
      first
      | (have hj0:j≠0:=fun h=>kN ⟨rfl,h⟩
         have q6:=qj0 hj0)
      | (have hj1:j≠1:=fun h=>hno ⟨rfl,h⟩
         have q6:=qj1 hj1)
      | skip
      clear kN hno qj0 qj1
      go_wp2_with fail
      refine Calls.mono HC.out ?_
      rintro _ w2 ⟨rfl,hb2⟩
      have dU:Hid _:=HB.out.trans (hb2.mono hsz)
      clear hb2 HC
      go_wp2
      go_roundw
      case rel=>exact ⟨j+1,by omega,by go_num,by rw [<- HFE.out],dU.out⟩
      case measure=>simp [intOf];omega
   ·have hjk:j=ks.length:=by omega
    subst hjk
    clear Vh HL HO
    go_wp2_with fail
    go_ret
    refine ⟨?_,HB.out⟩
    rw [<- MI.out,<- eB];rfl
theorem Vl.Q6 (a b:Vl):(Vl.p a b).txt.length=a.txt.length+b.txt.length+3:=by simp only [Vl.txt,List.length_cons,List.length_append,List.length_nil];omega
theorem Vl.vQ:∀ {v:Vl} {T:Ty},v.has T->v.txt.length<=7 * T.size+4
 | .n k,.n,h=>by
  simp only [Vl.has] at h
  simp only [Vl.txt,Ty.size]
  rw [decDigits];split
  ·simp
  ·rw [decDigits];split
   ·simp
   ·rw [decDigits];split
    ·simp
    ·rw [decDigits];split
     ·simp
     ·omega
 | .p a b,.p _ x y,h=>by
  simp only [Vl.has] at h
  have h1:=Vl.vQ h.1
  have h2:=Vl.vQ h.2
  rw [Vl.Q6]
  simp only [Ty.size];omega
 | .n _,.p _ _ _,h=>by simp [Vl.has] at h
 | .p _ _,.n,h=>by simp [Vl.has] at h
def oN (env:dL) (G:aQ):Prop:=∀ s T,look G s=some T->(nF env s).has T
theorem oN.snoc {env:dL} {G:aQ} {nm:List UInt8} {v:Vl} {T:Ty} (h:oN env G) (hv:v.has T):oN (env++[(nm,v)]) (G++[(nm,T)]):=by
 intro s U hs
 rw [Kg] at hs
 rw [xm]
 by_cases e:nm=s
 ·rw [if_pos (by simpa using e)] at hs;rw [if_pos e];cases hs;exact hv
 ·rw [if_neg (by simpa using e)] at hs;rw [if_neg e];exact h s U hs
def Vj (T:Ty) (st:bY) (r:Vl × bY):Prop:=(r.2.e=0->st.e=0/\r.1.has T)/\(r.2.e≠0->r.1=.n 0)
theorem gf {fuel:Nat} {st:bY} {T:Ty} {f:bY->Vl × bY} (h:∀ st':bY,st'.e=0->st.e=0->Vj T st' (f st')):Vj T st (begun fuel st f):=by
 unfold begun
 split
 ·rename_i he;exact ⟨fun e=>absurd e he,fun _=>rfl⟩
 ·rename_i he
  have h0:st.e=0:=by simpa using he
  split
  ·exact ⟨fun e=>by simp at e,fun _=>rfl⟩
  ·have:=h { st with steps:=st.steps+1 } h0 h0
   exact ⟨fun e=>⟨h0,(this.1 e).2⟩,this.2⟩
theorem Ax {T:Ty} {f:Vl->bY->Vl × bY} (hf:∀ v st,(st.e=0->v.has T)->Vj T st (f v st)):∀ (k:Nat) (v:Vl) (st:bY),(st.e=0->v.has T)->(st.e≠0->v=.n 0)->Vj T st (turns f k v st)
 | 0,v,st,h1,h2=>⟨fun e=>⟨e,h1 e⟩,h2⟩
 | k+1,v,st,h1,h2=>by
  unfold turns
  split
  ·rename_i he;exact ⟨fun e=>absurd e he,h2⟩
  ·rename_i he
   have h0:st.e=0:=by simpa using he
   have hx:=hf v st h1
   have:=Ax hf k (f v st).1 (f v st).2 (fun e=>(hx.1 e).2) hx.2
   exact ⟨fun e=>⟨h0,(this.1 e).2⟩,this.2⟩
theorem nB {v:Vl} (h:v.has .n):∃ k,v=.n k/\k<=9999:=by
 cases v with
 | n k=>exact ⟨k,rfl,h⟩
 | p a b=>simp [Vl.has] at h
theorem cS.NG {p:Nat} {k:Kw} {nm rg:List UInt8} {kids:List PT} (h:cS (.node p k nm rg kids)):∀ x∈kids,cS x:=by cases h with | node _ h=>exact h
theorem cS.kw {p:Nat} {k:Kw} {nm rg:List UInt8} {kids:List PT} (h:cS (.node p k nm rg kids)):k≠.new:=by cases h with | node h _=>exact h
def rJ (fuel:Nat) (k:Kw) (kids:List PT) (env:dL) (st:bY):Vl × bY :=
 if (bO fuel kids env st).2.e≠0 then (.n 0,(bO fuel kids env st).2) else cA k (bO fuel kids env st).1 (bO fuel kids env st).2
theorem BH (fuel:Nat) (k:Kw) (x:PT) (env:dL) (st:bY):rJ fuel k [x] env st=if (ev fuel x env st).2.e≠0 then (.n 0,(ev fuel x env st).2) else cA k [(ev fuel x env st).1] (ev fuel x env st).2:=by
 unfold rJ;simp only [bO];rfl
theorem BI (fuel:Nat) (k:Kw) (x y:PT) (env:dL) (st:bY):rJ fuel k [x,y] env st=if (ev fuel y env (ev fuel x env st).2).2.e≠0 then (.n 0,(ev fuel y env (ev fuel x env st).2).2) else cA k [(ev fuel x env st).1,(ev fuel y env (ev fuel x env st).2).1] (ev fuel y env (ev fuel x env st).2).2:=by
 unfold rJ;simp only [bO];rfl
theorem mK (fuel p:Nat) (k:Kw) (nm rg:List UInt8) (kids:List PT) (env:dL) (st:bY) (h1:k≠.aT) (h2:k≠.dQ) (h3:k≠.loop):ev fuel (.node p k nm rg kids) env st=begun fuel st (fun st=>rJ fuel k kids env st):=by
 conv=>lhs;unfold ev
 simp only [if_neg h1,if_neg h2,if_neg h3]
 rfl
theorem Vk (fuel:Nat) {G:aQ} {t:PT} {T:Ty} (h:WT G t T):∀ (env:dL) (st:bY),t.bL->cS t->(st.e=0->oN env G)->Vj T st (ev fuel t env st):=by
 induction h with
 | num =>
  intro env st ht hn he
  simp only [PT.bL] at ht
  unfold ev
  exact gf (fun st' h0 _=>⟨fun _=>⟨h0,by simp only [Vl.has];omega⟩,fun e=>absurd h0 e⟩)
 | name hl =>
  intro env st ht hn he
  unfold ev
  exact gf (fun st' h0 hs=>⟨fun _=>⟨h0,he hs _ _ hl⟩,fun e=>absurd h0 e⟩)
 | @aT G p nm rg a b A B ha hb aM bH =>
  intro env st ht hn he
  simp only [PT.bL,bI] at ht
  unfold ev
  refine gf (fun st' h0 hs=>?_)
  simp only [if_pos,iC]
  have x:=aM env st' ht.2.1 (hn.NG _ (by simp)) (fun _=>he hs)
  have y:=bH (env++[(nm,(ev fuel a env st').1)]) (ev fuel a env st').2 ht.2.2.1 (hn.NG _ (by simp)) (fun e=>(he (by have:=(x.1 e).1;exact hs)).snoc (x.1 e).2)
  exact ⟨fun e=>⟨h0,(y.1 e).2⟩,y.2⟩
 | @pair G p nm rg a b A B ha hb hsz aM bH =>
  intro env st ht hn he
  simp only [PT.bL,bI] at ht
  rw [mK _ _ _ _ _ _ _ _ (by decide) (by decide) (by decide)]
  refine gf (fun st' h0 hs=>?_)
  have x:=aM env st' ht.2.1 (hn.NG _ (by simp)) (fun _=>he hs)
  have y:=bH env (ev fuel a env st').2 ht.2.2.1 (hn.NG _ (by simp)) (fun _=>he hs)
  rw [BI]
  split
  ·rename_i e1;exact ⟨fun e=>absurd e e1,fun _=>rfl⟩
  ·rename_i e1
   have e0:(ev fuel b env (ev fuel a env st').2).2.e=0:=by simpa using e1
   have y0:=y.1 e0
   refine ⟨fun _=>⟨h0,?_⟩,fun e=>absurd e0 e⟩
   simp only [cA,Vl.has]
   exact ⟨(x.1 y0.1).2,y0.2⟩
 | @fst G p nm rg a A B ha aM =>
  intro env st ht hn he
  simp only [PT.bL,bI] at ht
  rw [mK _ _ _ _ _ _ _ _ (by decide) (by decide) (by decide)]
  refine gf (fun st' h0 hs=>?_)
  have x:=aM env st' ht.2.1 (hn.NG _ (by simp)) (fun _=>he hs)
  rw [BH]
  split
  ·rename_i e1;exact ⟨fun e=>absurd e e1,fun _=>rfl⟩
  ·rename_i e1
   have e0:(ev fuel a env st').2.e=0:=by simpa using e1
   have x0:=(x.1 e0).2
   refine ⟨fun _=>⟨h0,?_⟩,fun e=>absurd e0 e⟩
   simp only [cA]
   revert x0
   generalize (ev fuel a env st').1=v
   intro x0
   cases v with
   | n k=>simp [Vl.has] at x0
   | p u v=>simp only [Vl.has] at x0;exact x0.1
 | @snd G p nm rg a A B ha aM =>
  intro env st ht hn he
  simp only [PT.bL,bI] at ht
  rw [mK _ _ _ _ _ _ _ _ (by decide) (by decide) (by decide)]
  refine gf (fun st' h0 hs=>?_)
  have x:=aM env st' ht.2.1 (hn.NG _ (by simp)) (fun _=>he hs)
  rw [BH]
  split
  ·rename_i e1;exact ⟨fun e=>absurd e e1,fun _=>rfl⟩
  ·rename_i e1
   have e0:(ev fuel a env st').2.e=0:=by simpa using e1
   have x0:=(x.1 e0).2
   refine ⟨fun _=>⟨h0,?_⟩,fun e=>absurd e0 e⟩
   simp only [cA]
   revert x0
   generalize (ev fuel a env st').1=v
   intro x0
   cases v with
   | n k=>simp [Vl.has] at x0
   | p u v=>simp only [Vl.has] at x0;exact x0.2
 | @dQ G p nm rg a b c T ha hb hc aM bH gL =>
  intro env st ht hn he
  simp only [PT.bL,bI] at ht
  unfold ev
  refine gf (fun st' h0 hs=>?_)
  simp only [reduceCtorEq,if_false,if_true,mD]
  have x:=aM env st' ht.2.1 (hn.NG _ (by simp)) (fun _=>he hs)
  split
  ·have y:=bH env (ev fuel a env st').2 ht.2.2.1 (hn.NG _ (by simp)) (fun _=>he hs)
   exact ⟨fun e=>⟨h0,(y.1 e).2⟩,y.2⟩
  ·have y:=gL env (ev fuel a env st').2 ht.2.2.2.1 (hn.NG _ (by simp)) (fun _=>he hs)
   exact ⟨fun e=>⟨h0,(y.1 e).2⟩,y.2⟩
 | @two G p k nm rg a b hk ha hb aM bH =>
  intro env st ht hn he
  simp only [PT.bL,bI] at ht
  have k1:k≠.aT:=by rcases hk with rfl | rfl | rfl <;> decide
  have k2:k≠.dQ:=by rcases hk with rfl | rfl | rfl <;> decide
  have k3:k≠.loop:=by rcases hk with rfl | rfl | rfl <;> decide
  rw [mK _ _ _ _ _ _ _ _ k1 k2 k3]
  refine gf (fun st' h0 hs=>?_)
  rw [BI]
  split
  ·rename_i e1;exact ⟨fun e=>absurd e e1,fun _=>rfl⟩
  ·rename_i e1
   have e0:(ev fuel b env (ev fuel a env st').2).2.e=0:=by simpa using e1
   rcases hk with rfl | rfl | rfl
   all_goals
    refine ⟨fun _=>⟨h0,?_⟩,fun e=>absurd e0 e⟩
    simp only [cA,Vl.has]
    first | omega | (split <;> omega)
 | @loop G p nm rg a b c T ha hb hc aM bH gL =>
  intro env st ht hn he
  simp only [PT.bL,bI] at ht
  unfold ev
  refine gf (fun st' h0 hs=>?_)
  simp only [reduceCtorEq,if_false,if_true,ez]
  have y:=bH env (ev fuel a env st').2 ht.2.2.1 (hn.NG _ (by simp)) (fun _=>he hs)
  have z:=Ax (f:=fun v st=>ev fuel c (env++[(nm,v)]) st) (fun v st hv=>gL (env++[(nm,v)]) st ht.2.2.2.1 (hn.NG _ (by simp)) (fun e=>(he hs).snoc (hv e))) (ev fuel a env st').1.num (ev fuel b env (ev fuel a env st').2).1 (ev fuel b env (ev fuel a env st').2).2 (fun e=>(y.1 e).2) y.2
  exact ⟨fun e=>⟨h0,(z.1 e).2⟩,z.2⟩
 | new ha aM =>
  intro env st ht hn he
  exact absurd rfl hn.kw
def iP (fuel:Nat) (st st':bY):Prop:=st.steps<=fuel->st'.steps<=fuel/\st'.cells+st.steps<=st.cells+st'.steps/\st.steps<=st'.steps
theorem iP.refl (fuel:Nat) (st:bY):iP fuel st st:=fun h=>⟨h,by omega,by omega⟩
theorem iP.trans {fuel:Nat} {a b c:bY} (h:iP fuel a b) (h':iP fuel b c):iP fuel a c:=fun h0=>by
 have h1:=h h0
 have h2:=h' h1.1
 exact ⟨h2.1,by omega,by omega⟩
theorem rK {fuel:Nat} {st:bY} {f:bY->Vl × bY} (h:∀ st':bY,st'.steps=st.steps+1->st'.cells=st.cells->st'.steps<=fuel->(f st').2.steps<=fuel/\(f st').2.cells+st'.steps<=st'.cells+(f st').2.steps+1/\st'.steps<=(f st').2.steps):iP fuel st (begun fuel st f).2:=by
 unfold begun
 split
 ·exact iP.refl _ _
 ·split
  ·exact fun h=>⟨h,by simp,by simp⟩
  ·rename_i hne
   intro h0
   have:=h { st with steps:=st.steps+1 } rfl rfl (by simp only;omega)
   simp only at this ⊢
   omega
theorem xY {fuel:Nat} {f:Vl->bY->Vl × bY} (hf:∀ v st,iP fuel st (f v st).2):∀ (k:Nat) (v:Vl) (st:bY),iP fuel st (turns f k v st).2
 | 0,_,st=>iP.refl _ _
 | k+1,v,st=>by
  unfold turns
  split
  ·exact iP.refl _ _
  ·exact (hf v st).trans (xY hf k _ _)
theorem Kk (k:Kw) (vs:List Vl) (st:bY):(cA k vs st).2.steps=st.steps/\(cA k vs st).2.cells<=st.cells+1:=by
 unfold cA
 split <;> simp
mutual
theorem iQ (fuel:Nat):∀ (t:PT) (env:dL) (st:bY),iP fuel st (ev fuel t env st).2
 | .num _ s,env,st=>by
  unfold ev;exact rK (fun st' _ _ h=>⟨h,by simp,Nat.le_refl _⟩)
 | .name _ s,env,st=>by
  unfold ev;exact rK (fun st' _ _ h=>⟨h,by simp,Nat.le_refl _⟩)
 | .node _ k nm _ kids,env,st=>by
  unfold ev
  refine rK (fun st' _ _ h=>?_)
  split
  ·have:=Gd fuel nm kids env st' h;omega
  ·split
   ·have:=Kl fuel kids env st' h;omega
   ·split
    ·have:=DQ fuel nm kids env st' h;omega
    ·have:=uP fuel kids env st' h
     simp only
     split
     ·simp only;omega
     ·have:=Kk k (bO fuel kids env st').1 (bO fuel kids env st').2
      omega
theorem uP (fuel:Nat):∀ (ts:List PT) (env:dL) (st:bY),iP fuel st (bO fuel ts env st).2
 | [],_,st=>by simp only [bO];exact iP.refl _ _
 | a::r,env,st=>by simp only [bO];exact (iQ fuel a env st).trans (uP fuel r env _)
theorem Gd (fuel:Nat) (nm:List UInt8):∀ (ts:List PT) (env:dL) (st:bY),iP fuel st (iC fuel nm ts env st).2
 | [a,b],env,st=>by simp only [iC];exact (iQ fuel a env st).trans (iQ fuel b _ _)
 | [],_,st=>by simp only [iC];exact iP.refl _ _
 | [_],_,st=>by simp only [iC];exact iP.refl _ _
 | _::_::_::_,_,st=>by simp only [iC];exact iP.refl _ _
theorem Kl (fuel:Nat):∀ (ts:List PT) (env:dL) (st:bY),iP fuel st (mD fuel ts env st).2
 | [a,b,c],env,st=>by
  simp only [mD]
  split
  ·exact (iQ fuel a env st).trans (iQ fuel b _ _)
  ·exact (iQ fuel a env st).trans (iQ fuel c _ _)
 | [],_,st=>by simp only [mD];exact iP.refl _ _
 | [_],_,st=>by simp only [mD];exact iP.refl _ _
 | [_,_],_,st=>by simp only [mD];exact iP.refl _ _
 | _::_::_::_::_,_,st=>by simp only [mD];exact iP.refl _ _
theorem DQ (fuel:Nat) (nm:List UInt8):∀ (ts:List PT) (env:dL) (st:bY),iP fuel st (ez fuel nm ts env st).2
 | [a,b,c],env,st=>by
  simp only [ez]
  exact ((iQ fuel a env st).trans (iQ fuel b _ _)).trans (xY (fun v st=>iQ fuel c _ st) _ _ _)
 | [],_,st=>by simp only [ez];exact iP.refl _ _
 | [_],_,st=>by simp only [ez];exact iP.refl _ _
 | [_,_],_,st=>by simp only [ez];exact iP.refl _ _
 | _::_::_::_::_,_,st=>by simp only [ez];exact iP.refl _ _
end
theorem Io (k:Kw) (rg:List UInt8):fP (if k=.pair then rg else [])=if k=.pair then fP rg else []:=by split <;> rfl
theorem Km (rg:List UInt8):∀ {vs:List Nat} {x:KE} {t:Nat},KT vs x t->vs.length<=101->DM rg x:=by
 intro vs x t h
 induction h with
 | num h=>intro _;exact Nr rg _ (by omega)
 | var h =>
  intro hl
  refine Ns rg _ ?_
  have:=(List.getElem?_eq_some_iff.1 h).1
  omega
 | aT _ hl _ _ ha hb =>
  intro _
  refine jx rg _ .aT _ [_,_] (by decide) (by omega) ?_ (fun w p h=>Gc h) (by simp) ?_
  ·simp only [KE.pt,PT.tidy,ct,Io,gV,List.map_cons,List.map_nil]
  ·intro y hy
   simp only [List.mem_cons,List.not_mem_nil,or_false] at hy
   rcases hy with rfl | rfl
   ·exact ha (by omega)
   ·exact hb (by simp;omega)
 | dQ _ _ _ ha hb hc =>
  intro hl
  refine jx rg _ .dQ 0 [_,_,_] (by decide) (by omega) ?_ (fun w p h=>ND h) (by simp) ?_
  ·simp only [KE.pt,PT.tidy,ct,gV,List.map_cons,List.map_nil]
   rfl
  ·intro y hy
   simp only [List.mem_cons,List.not_mem_nil,or_false] at hy
   rcases hy with rfl | rfl | rfl
   ·exact ha hl
   ·exact hb hl
   ·exact hc hl
 | loop hl _ _ _ ha hb hc =>
  intro _
  refine jx rg _ .loop _ [_,_,_] (by decide) (by omega) ?_ (fun w p h=>ND h) (by simp) ?_
  ·simp only [KE.pt,PT.tidy,ct,gV,List.map_cons,List.map_nil]
   rfl
  ·intro y hy
   simp only [List.mem_cons,List.not_mem_nil,or_false] at hy
   rcases hy with rfl | rfl | rfl
   ·exact ha (by omega)
   ·exact hb (by omega)
   ·exact hc (by simp;omega)
 | pair _ _ _ _ ha hb =>
  intro hl
  refine jx rg _ .pair 0 [_,_] (by decide) (by omega) ?_ (fun w p h=>Gc h) (by simp) ?_
  ·simp only [KE.pt,PT.tidy,ct,gV,List.map_cons,List.map_nil,if_true]
  ·intro y hy
   simp only [List.mem_cons,List.not_mem_nil,or_false] at hy
   rcases hy with rfl | rfl
   ·exact ha hl
   ·exact hb hl
 | fst _ _ _ ha =>
  intro hl
  refine jx rg _ .fst 0 [_] (by decide) (by omega) ?_ (fun w p h=>NC h) (by simp) ?_
  ·simp only [KE.pt,PT.tidy,ct,List.map_cons,List.map_nil,<- gV]
   rfl
  ·intro y hy
   simp only [List.mem_cons,List.not_mem_nil,or_false] at hy
   subst hy
   exact ha hl
 | snd _ _ _ ha =>
  intro hl
  refine jx rg _ .snd 0 [_] (by decide) (by omega) ?_ (fun w p h=>NC h) (by simp) ?_
  ·simp only [KE.pt,PT.tidy,ct,List.map_cons,List.map_nil,<- gV]
   rfl
  ·intro y hy
   simp only [List.mem_cons,List.not_mem_nil,or_false] at hy
   subst hy
   exact ha hl
 | two hk _ _ ha hb =>
  intro hl
  refine jx rg _ _ 0 [_,_] (by rcases hk with rfl | rfl | rfl <;> decide) (by omega) ?_ (fun w p h=>Gc h) (by simp) ?_
  ·simp only [KE.pt,PT.tidy,ct,Io,gV,List.map_cons,List.map_nil]
  ·intro y hy
   simp only [List.mem_cons,List.not_mem_nil,or_false] at hy
   rcases hy with rfl | rfl
   ·exact ha hl
   ·exact hb hl
def Pr (n:Nat) (a b:Value):Array Value:=#[.int .i64 n,a,b]
def dD (w:World):Vl->Nat->Prop
 | .n k,p=>w.heap[p]?=some (.cells (Pr k (.pointer none) (.pointer none)) 29 (0,0))
 | .p a b,p=>∃ pa pb:Nat,w.heap[p]?=some (.cells (Pr 0 (.pointer (some ⟨pa,0,none⟩)) (.pointer (some ⟨pb,0,none⟩))) 29 (0,0))/\dD w a pa/\dD w b pb
theorem dD.keep {w w':World} (h:∀ (k:Nat) (arr:Array Value),w.heap[k]?=some (.cells arr 29 (0,0))->w'.heap[k]?=some (.cells arr 29 (0,0))):∀ {v:Vl} {p:Nat},dD w v p->dD w' v p
 | .n _,_,hx=>h _ _ hx
 | .p _ _,_,⟨pa,pb,h1,h2,h3⟩=>⟨pa,pb,h _ _ h1,dD.keep h h2,dD.keep h h3⟩
theorem dD.below {w w':World} {v:Vl} {p:Nat} (h:dD w v p) (hb:Below w.heap.size w w'):dD w' v p:=h.keep (fun k _ hk=>(hb.block k (af hk)).trans hk)
theorem dD.num {w:World} {v:Vl} {p:Nat} (h:dD w v p):p < w.heap.size/\w.cell? ⟨p,0,none⟩=some (.int .i64 v.num):=by
 cases v with
 | n k=>have h':w.heap[p]?=some (.cells (Pr k (.pointer none) (.pointer none)) 29 (0,0)):=h;exact ⟨af h',by rw [aa h'];rfl⟩
 | p a b=>obtain ⟨pa,pb,h1,_,_⟩:=h;exact ⟨af h1,by rw [aa h1];rfl⟩
def nH (l:List Nat):List Value:=l.map (fun (k:Nat)=>Value.pointer (some ⟨k,0,none⟩))
theorem fA (l:List Nat):(nH l).length=l.length:=by simp [nH]
theorem xZ (l:List Nat) (v:Nat):nH (l++[v])=nH l++[.pointer (some ⟨v,0,none⟩)]:=by simp [nH]
def dB (nv:Value) (fuel:Nat) (st:bY):Array Value:=#[nv,.int .i64 fuel,.int .i64 st.steps,.int .i64 st.cells,.bool (decide (st.e≠0))]
structure dE (w0 w:World) (yb:Nat) (vals:List Vl) (ps:List Nat) (fuel:Nat) (st:bY) (nv:Value):Prop where
 ob:jW w0 w yb (dB nv fuel st) 70 nv 26 (nH ps)
 len:ps.length=vals.length
 v:∀ (i:Nat) (v:Vl) (p:Nat),vals[i]?=some v->ps[i]?=some p->dD w v p
theorem dD.fr {w0 w w':World} {yb:Nat} {cs:Array Value} {xs:List Value} {nv bB:Value} {v:Vl} {p:Nat} (h:dD w v p) (hm:jW w0 w yb cs 70 nv 26 xs) (hf:cO w w' yb nv bB):dD w' v p :=
 h.keep (fun k arr hk=>hm.other hf (by decide) (by decide) hk)
theorem dE.grow {w0 w w':World} {yb:Nat} {vals:List Vl} {ps:List Nat} {fuel:Nat} {st:bY} {nv:Value} (h:dE w0 w yb vals ps fuel st nv) (hb:Below w.heap.size w w'):dE w0 w' yb vals ps fuel st nv :=
 ⟨h.ob.grow hb,h.len,fun i v p h1 h2=>(h.v i v p h1 h2).below hb⟩
theorem dE.set {w0 w:World} {yb:Nat} {vals:List Vl} {ps:List Nat} {fuel:Nat} {st st':bY} {nv:Value} (h:dE w0 w yb vals ps fuel st nv) (o:Nat) (x:Value) (hx:(dB nv fuel st).setIfInBounds o x=dB nv fuel st'):dE w0 (w.setCell ⟨yb,o,none⟩ x) yb vals ps fuel st' nv :=
 ⟨h.ob.set o x hx,h.len,fun i v p h1 h2=>(h.v i v p h1 h2).fr h.ob (cO.xO w yb nv o x)⟩
theorem tY:∀ (v:Vl) (T:Ty) (p:Nat) (w:World),v.has T->T.size<=63->dD w v p->(∀ W,Below w.heap.size w W->wH W) ->
  Calls Tryz.prog 9 #[.pointer (some ⟨p,0,none⟩)] w fun e w'=>e=.returned (.string (bs v.txt))/\Below w.heap.size w w'
 | .n k,T,p,w,hv,_,hk,hit=>by
  have hk9:k<=9999:=by
   cases T with
   | n=>exact hv
   | p _ _ _=>exact hv.elim
  have hk':w.heap[p]?=some (.cells (Pr k (.pointer none) (.pointer none)) 29 (0,0)):=hk
  have hp:=af hk'
  have x0:w.cell? ⟨p,0,none⟩=some (.int .i64 k):=by rw [aa hk'];rfl
  have x1:w.cell? ⟨p,1,none⟩=some (.pointer none):=by rw [aa hk'];rfl
  have HI:Hid _:=hit w (Below.refl _ _) k w hk9 (Below.refl _ _)
  simp only [Vl.txt]
  clear hk hk' hit hv
  go_enter Tryz.func9,Tryz.ntmps9
  go_wp2_with fail
  refine Calls.mono HI.out ?_
  rintro _ w2 ⟨rfl,hb⟩
  go_wp2
  go_ret
  exact ⟨rfl,hb⟩
 | .p a b,T,p,w,hv,hT,hk,hit=>by
  obtain ⟨r,A,B,rfl,ha,hb⟩:∃ r A B,T=.p r A B/\a.has A/\b.has B:=by
   cases T with
   | n=>exact hv.elim
   | p r A B=>exact ⟨r,A,B,rfl,hv.1,hv.2⟩
  simp only [Ty.size] at hT
  obtain ⟨pa,pb,h1,h2,h3⟩:=hk
  have hp:=af h1
  have x1:w.cell? ⟨p,1,none⟩=some (.pointer (some ⟨pa,0,none⟩)):=by rw [aa h1];rfl
  have x2:w.cell? ⟨p,2,none⟩=some (.pointer (some ⟨pb,0,none⟩)):=by rw [aa h1];rfl
  have HA:Hid _:=tY a A pa w ha (by omega) h2 hit
  have HB:Hid _:=fun W hW=>tY b B pb W hb (by omega) (h3.below hW) (fun W' hW'=>hit W' (hW.trans (hW'.mono hW.size)))
  have la:=Vl.vQ ha
  have lb:=Vl.vQ hb
  have z1:(ByteArray.mk #[91]).size=1:=rfl
  have z2:(ByteArray.mk #[32]).size=1:=rfl
  have z3:(ByteArray.mk #[93]).size=1:=rfl
  have zA:(bs a.txt).size<=1000:=by rw [cN];omega
  have zB:(bs b.txt).size<=1000:=by rw [cN];omega
  have zC:(ByteArray.mk #[91]++bs a.txt).size<=1001:=by rw [ByteArray.size_append];omega
  have zD:(ByteArray.mk #[91]++bs a.txt++ByteArray.mk #[32]).size<=1002:=by rw [ByteArray.size_append];omega
  have zE:(ByteArray.mk #[91]++bs a.txt++ByteArray.mk #[32]++bs b.txt).size<=2002:=by rw [ByteArray.size_append];omega
  have hfin:ByteArray.mk #[91]++bs a.txt++ByteArray.mk #[32]++bs b.txt++ByteArray.mk #[93]=bs (Vl.txt (.p a b)):=by
   rw [show ByteArray.mk #[91]=bs [91] from rfl,show ByteArray.mk #[32]=bs [32] from rfl,show ByteArray.mk #[93]=bs [93] from rfl,eB,eB,eB,eB]
   simp [Vl.txt]
  have MI:Hid _:=hfin
  clear hfin h1 h2 h3 hit hv ha hb la lb
  go_enter Tryz.func9,Tryz.ntmps9
  go_wp2_with fail
  refine Calls.mono HA.out ?_
  rintro _ w2 ⟨rfl,hb2⟩
  have y2:w2.cell? ⟨p,2,none⟩=some (.pointer (some ⟨pb,0,none⟩)):=(hb2.cell (p:=⟨p,2,none⟩) hp).trans x2
  have vA:p < w2.heap.size:=by have:=hb2.size;omega
  have dU:Hid _:=hb2
  clear hb2 HA
  go_wp2_with fail
  refine Calls.mono (HB.out w2 dU.out) ?_
  rintro _ w3 ⟨rfl,hb3⟩
  have iV:Hid _:=dU.out.trans (hb3.mono dU.out.size)
  clear hb3 HB
  go_wp2
  go_ret
  exact ⟨by rw [<- MI.out];rfl,iV.out⟩
theorem jD {id p:Nat} {x:Ty × dM} {T:Ty} {A:Nat} (h0:x.2.e=0) (hb:x.1.bare=T) (hs:T.size<=63) (ha:x.2.at_=A):(fin id p x).2.e=0/\(fin id p x).1.bare=T/\T.size<=63/\(fin id p x).2.at_=A:=by
 have hsz:x.1.size<=63:=by rw [<- eM,hb];exact hs
 unfold fin
 have:¬ (x.2.e=0/\63 < x.1.size):=by omega
 simp only [if_neg this]
 exact ⟨h0,hb,hs,ha⟩
theorem kD {T A B:Ty} {r:Nat} (h:T.bare=.p r A B):∃ q u v,T=.p q u v/\u.bare=A/\v.bare=B:=by
 cases T with
 | n=>simp [Ty.bare] at h
 | p q u v=>simp only [Ty.bare,Ty.p.injEq] at h;exact ⟨q,u,v,rfl,h.2.1,h.2.2⟩
theorem jO {T:Ty} (h:T.bare=.n):T=.n:=by cases T with
 | n=>rfl
 | p q u v=>simp [Ty.bare] at h
theorem WT.find {G:aQ} {e:PT} {T:Ty} (h:WT G e T):∀ (cls:List Nat) (id site:Nat) (env:aQ) (st:dM),gq env=G->(∀ x∈env,x.2.size<=63)->st.e=0 ->
  (aD cls e id site env st).2.e=0/\(aD cls e id site env st).1.bare=T/\T.size<=63/\(aD cls e id site env st).2.at_=st.at_:=by
 induction h with
 | num=>intro cls id site env st _ _ h0;simp only [aD];exact jD h0 rfl (by simp [Ty.size]) rfl
 | name h =>
  intro cls id site env st hG hs h0
  simp only [aD]
  rw [<- hG,o4] at h
  cases hl:look env _ with
  | none=>rw [hl] at h;simp at h
  | some U =>
   rw [hl] at h
   simp only [Option.map_some,Option.some.injEq] at h
   have hU:U.size<=63:=by
    unfold look at hl
    cases hf:env.reverse.find? (fun x=>x.1 == _) with
    | none=>rw [hf] at hl;simp at hl
    | some z =>
     rw [hf] at hl
     simp only [Option.map_some,Option.some.injEq] at hl
     have:=List.mem_of_find?_eq_some hf
     rw [<- hl]
     exact hs z (List.mem_reverse.1 this)
   exact jD h0 h (by rw [<- h,eM];exact hU) rfl
 | aT ha hb aM bH =>
  intro cls id site env st hG hs h0
  simp only [aD,if_true,dH]
  obtain ⟨a1,a2,a3,a4⟩:=aM cls (id+1) site env st hG hs h0
  rename_i nm _ a b A B
  obtain ⟨b1,b2,b3,b4⟩:=bH cls (id+1+a.cnt) (site+a.bK) (env++[(nm,(aD cls a (id+1) site env st).1)]) (aD cls a (id+1) site env st).2 (by rw [jk,hG,a2]) (by
   intro x hx
   rcases List.mem_append.1 hx with hx | hx
   ·exact hs x hx
   ·simp only [List.mem_singleton] at hx;subst hx;rw [<- eM,a2];exact a3) a1
  exact jD b1 b2 b3 (b4.trans a4)
 | pair ha hb hsz aM bH =>
  intro cls id site env st hG hs h0
  simp only [aD,if_true,bh,if_neg (show Kw.pair≠.aT by decide),if_neg (show Kw.pair≠.loop by decide)]
  rename_i a b A B
  obtain ⟨a1,a2,a3,a4⟩:=aM cls (id+1) (site+1) env st hG hs h0
  obtain ⟨b1,b2,b3,b4⟩:=bH cls (id+1+a.cnt) (site+1+a.bK) env _ hG hs a1
  rw [if_neg (by rw [b1];simp)]
  simp only [bD]
  exact jD b1 (by simp only [Ty.bare,a2,b2]) hsz (b4.trans a4)
 | fst ha aM =>
  intro cls id site env st hG hs h0
  simp only [aD,bh,if_neg (show Kw.fst≠.aT by decide),if_neg (show Kw.fst≠.loop by decide),if_neg (show Kw.fst≠.pair by decide),Nat.add_zero]
  obtain ⟨a1,a2,a3,a4⟩:=aM cls (id+1) site env st hG hs h0
  rw [if_neg (by rw [a1];simp)]
  obtain ⟨q,u,v,e,hu,hv⟩:=kD a2
  rw [e]
  simp only [bD]
  simp only [Ty.size] at a3
  exact jD a1 hu (by omega) a4
 | snd ha aM =>
  intro cls id site env st hG hs h0
  simp only [aD,bh,if_neg (show Kw.snd≠.aT by decide),if_neg (show Kw.snd≠.loop by decide),if_neg (show Kw.snd≠.pair by decide),Nat.add_zero]
  obtain ⟨a1,a2,a3,a4⟩:=aM cls (id+1) site env st hG hs h0
  rw [if_neg (by rw [a1];simp)]
  obtain ⟨q,u,v,e,hu,hv⟩:=kD a2
  rw [e]
  simp only [bD]
  simp only [Ty.size] at a3
  exact jD a1 hv (by omega) a4
 | dQ ha hb hc aM bH gL =>
  intro cls id site env st hG hs h0
  simp only [aD,bh,if_neg (show Kw.dQ≠.aT by decide),if_neg (show Kw.dQ≠.loop by decide),if_neg (show Kw.dQ≠.pair by decide),Nat.add_zero]
  rename_i a b c T
  obtain ⟨a1,a2,a3,a4⟩:=aM cls (id+1) site env st hG hs h0
  obtain ⟨b1,b2,b3,b4⟩:=bH cls (id+1+a.cnt) (site+a.bK) env _ hG hs a1
  obtain ⟨c1,c2,c3,c4⟩:=gL cls (id+1+a.cnt+b.cnt) (site+a.bK+b.bK) env _ hG hs b1
  rw [if_neg (by rw [c1];simp)]
  simp only [bD]
  rw [if_pos ⟨jO a2,by rw [b2,c2]⟩]
  exact jD c1 b2 b3 (c4.trans (b4.trans a4))
 | two hk ha hb aM bH =>
  intro cls id site env st hG hs h0
  rename_i k _ _ a b
  have hk':k≠.aT/\k≠.loop/\k≠.pair:=by rcases hk with rfl | rfl | rfl <;> decide
  simp only [aD,bh,if_neg hk'.1,if_neg hk'.2.1,if_neg hk'.2.2,Nat.add_zero]
  obtain ⟨a1,a2,a3,a4⟩:=aM cls (id+1) site env st hG hs h0
  obtain ⟨b1,b2,b3,b4⟩:=bH cls (id+1+a.cnt) (site+a.bK) env _ hG hs a1
  rw [if_neg (by rw [b1];simp)]
  have hm:∀ (ps:Nat) (A B:Ty) (s:dM),A=.n->B=.n->bD cls k ps site [A,B] s=(.n,s):=by
   rintro ps _ _ s rfl rfl
   rcases hk with rfl | rfl | rfl <;> simp [bD]
  rw [hm _ _ _ _ (jO a2) (jO b2)]
  exact jD b1 rfl (by simp [Ty.size]) (b4.trans a4)
 | loop ha hb hc aM bH gL =>
  intro cls id site env st hG hs h0
  simp only [aD,aW,if_true,if_neg (show Kw.loop≠.aT by decide)]
  rename_i nm _ a b c T
  obtain ⟨a1,a2,a3,a4⟩:=aM cls (id+1) site env st hG hs h0
  obtain ⟨b1,b2,b3,b4⟩:=bH cls (id+1+a.cnt) (site+a.bK) env _ hG hs a1
  obtain ⟨c1,c2,c3,c4⟩:=gL cls (id+1+a.cnt+b.cnt) (site+a.bK+b.bK) (env++[(nm,(aD cls b (id+1+a.cnt) (site+a.bK) env (aD cls a (id+1) site env st).2).1)]) _ (by rw [jk,hG,b2]) (by
   intro x hx
   rcases List.mem_append.1 hx with hx | hx
   ·exact hs x hx
   ·simp only [List.mem_singleton] at hx;subst hx;rw [<- eM,b2];exact b3) b1
  rw [if_neg (by rw [c1];simp)]
  simp only [bD]
  rw [if_pos ⟨jO a2,by rw [b2,c2]⟩]
  exact jD c1 b2 b3 (c4.trans (b4.trans a4))
 | new ha aM =>
  intro cls id site env st hG hs h0
  simp only [aD,bh,if_neg (show Kw.new≠.aT by decide),if_neg (show Kw.new≠.loop by decide),if_neg (show Kw.new≠.pair by decide),Nat.add_zero]
  obtain ⟨a1,a2,a3,a4⟩:=aM cls (id+1) site env st hG hs h0
  rw [if_neg (by rw [a1];simp)]
  simp only [bD]
  exact jD a1 a2 a3 a4
theorem Ge {e:PT} {T:Ty} (h:WT [] e T) (hp:e.bK<=100):cC e=(0,0):=by
 unfold cC
 have hf:=h.find (List.range e.bK) 0 0 [] (CO e) rfl (by simp) rfl
 rw [if_neg (by omega),hf.1,hf.2.2.2]
 rfl
mutual
theorem tZ:∀ e:PT,e.np.bK=e.bK
 | .num _ _=>rfl
 | .name _ _=>rfl
 | .node _ _ _ _ kids=>by simp only [PT.np,PT.bK,Ip kids]
theorem Ip:∀ l:List PT,iX (eX l)=iX l
 | []=>rfl
 | t::r=>by simp only [eX,iX,tZ t,Ip r]
end
mutual
theorem lV (fuel:Nat):∀ (e:PT) (env:dL) (st:bY),ev fuel e.np env st=ev fuel e env st
 | .num _ _,_,_=>rfl
 | .name _ _,_,_=>rfl
 | .node _ k nm rg kids,env,st=>by
  simp only [PT.np,ev]
  congr 1
  funext st
  rw [NH fuel nm kids,Q7 fuel kids,Kn fuel nm kids,Ay fuel kids]
theorem Ay (fuel:Nat):∀ (l:List PT) (env:dL) (st:bY),bO fuel (eX l) env st=bO fuel l env st
 | [],_,_=>rfl
 | t::r,env,st=>by simp only [eX,bO,lV fuel t,Ay fuel r]
theorem NH (fuel:Nat) (nm:List UInt8):∀ (l:List PT) (env:dL) (st:bY),iC fuel nm (eX l) env st=iC fuel nm l env st
 | [],_,_=>rfl
 | [_],_,_=>rfl
 | [a,b],env,st=>by simp only [eX,iC,lV fuel a,lV fuel b]
 | _::_::_::_,_,_=>rfl
theorem Q7 (fuel:Nat):∀ (l:List PT) (env:dL) (st:bY),mD fuel (eX l) env st=mD fuel l env st
 | [],_,_=>rfl
 | [_],_,_=>rfl
 | [_,_],_,_=>rfl
 | [a,b,c],env,st=>by simp only [eX,mD,lV fuel a,lV fuel b,lV fuel c]
 | _::_::_::_::_,_,_=>rfl
theorem Kn (fuel:Nat) (nm:List UInt8):∀ (l:List PT) (env:dL) (st:bY),ez fuel nm (eX l) env st=ez fuel nm l env st
 | [],_,_=>rfl
 | [_],_,_=>rfl
 | [_,_],_,_=>rfl
 | [a,b,c],env,st=>by simp only [eX,ez,lV fuel a,lV fuel b,lV fuel c]
 | _::_::_::_::_,_,_=>rfl
end
theorem x5 {fuel p:Nat} {k:Kw} {nm rg sQ:List UInt8} {kids uQ:List PT} (h1:iC fuel nm kids=iC fuel nm uQ) (h2:mD fuel kids=mD fuel uQ) (h3:ez fuel nm kids=ez fuel nm uQ) (h4:bO fuel kids=bO fuel uQ):ev fuel (.node p k nm rg kids)=ev fuel (.node p k nm sQ uQ):=by
 funext env st
 simp only [ev]
 rw [h1,h2,h3,h4]
theorem lp (fuel:Nat) (rg:List UInt8):∀ (x:KE),ev fuel (x.pt rg)=ev fuel (x.pt [])
 | .num _=>rfl
 | .var _=>rfl
 | .n1 k a=>by
  simp only [KE.pt]
  refine x5 rfl rfl rfl ?_
  funext env st;simp only [bO,lp fuel rg a]
 | .n2 k n a b=>by
  simp only [KE.pt]
  refine x5 ?_ rfl rfl ?_
  ·funext env st;simp only [iC,lp fuel rg a,lp fuel rg b]
  ·funext env st;simp only [bO,lp fuel rg a,lp fuel rg b]
 | .n3 k n a b c=>by
  simp only [KE.pt]
  refine x5 rfl ?_ ?_ ?_
  ·funext env st;simp only [mD,lp fuel rg a,lp fuel rg b,lp fuel rg c]
  ·funext env st;simp only [ez,lp fuel rg a,lp fuel rg b,lp fuel rg c]
  ·funext env st;simp only [bO,lp fuel rg a,lp fuel rg b,lp fuel rg c]
mutual
theorem gW:∀ (e:PT) {G:aQ} {T:Ty},WT G e.np T->WT G e T
 | .num _ _,_,_,h=>by cases h;exact .num
 | .name _ _,_,_,h=>by cases h with | name h=>exact .name h
 | .node p k nm rg kids,G,T,h=>by
  match kids with
  | []=>simp only [PT.np,eX] at h;cases h
  | [a] =>
   simp only [PT.np,eX] at h
   cases h with
   | fst h=>exact .fst (gW a h)
   | snd h=>exact .snd (gW a h)
   | new h=>exact .new (gW a h)
  | [a,b] =>
   simp only [PT.np,eX] at h
   cases h with
   | aT h1 h2=>exact .aT (gW a h1) (gW b h2)
   | pair h1 h2 h3=>exact .pair (gW a h1) (gW b h2) h3
   | two hk h1 h2=>exact .two hk (gW a h1) (gW b h2)
  | [a,b,c] =>
   simp only [PT.np,eX] at h
   cases h with
   | dQ h1 h2 h3=>exact .dQ (gW a h1) (gW b h2) (gW c h3)
   | loop h1 h2 h3=>exact .loop (gW a h1) (gW b h2) (gW c h3)
  | _::_::_::_::_=>simp only [PT.np,eX] at h;cases h
end
end Go.Proofs.YtpicaknklgccoabGreatDoor
