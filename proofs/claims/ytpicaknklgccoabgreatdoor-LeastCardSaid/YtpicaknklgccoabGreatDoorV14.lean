import Derived.Test.YtpicaknklgccoabGreatDoorV13
import Derived.Test.YtpicaknklgccoabGreatDoorV9
set_option maxHeartbeats 8000000
set_option maxRecDepth 100000
namespace Go.Proofs.YtpicaknklgccoabGreatDoor
open Go.RowKit
def Gm:NR:=⟨0,0,0,0,[],0,0,0,0,0⟩
def lM (l:List NR) (rg:Int):Option NR:=l.find? (λn=>n.region==rg)
theorem KN (l:List NR) (rg:Int) (k:Nat) (hk:k<l.length):lM (l.drop k) rg=if l[k].region==rg then some l[k] else lM (l.drop (k+1)) rg:=by
 rw[List.drop_eq_getElem_cons hk];unfold lM;rw[List.find?_cons]
 cases l[k].region==rg <;> rfl
theorem A8 (w:World) (vv:Value) (l:List NR) (rg:Int) (base:Nat) (h:w.ownsRow base 108 10 vv l.length (l.flatMap rV)) (hl:l.length<=9000) :
  Calls Tryz.prog 65 #[vv,.int .i64 rg] w λv w'=>v=.returned (.tuple #[aK ((lM l rg).getD Gm),.bool (lM l rg).isSome])/\Below w.heap.size w w':=by
 have h0:w.ownsRow 0 108 10 vv l.length (l.flatMap rV):=dL h (λk hk=>Nat.zero_le _);clear h;obtain⟨ans,dm⟩:∃ ans,ans=lM l rg:=⟨_,rfl⟩;rw[<- dm];have kX:Hid _:=dm;clear dm
 rcases h0.2 with ⟨hv,hn⟩ | ⟨g,cap,cur,hv,hx⟩
 ·subst hv
  have hA:ans=none:=by rw[kX.out,List.length_eq_zero_iff.1 hn];rfl
  subst hA;clear h0 hn kX
  show Calls _ _ _ _ (λv w'=>v=.returned (.tuple #[aK Gm,.bool false])/\Below w.heap.size w w')
  unfold aK Gm
  go_enter Tryz.func65,Tryz.ntmps65
  go_wp2
  go_loopw [6] (λi wr=>i=.int .i64 0/\Below w.heap.size w wr/\wr=w.alloc (cA Gm)) (λ_ _=>0)
  case atStart=>exact⟨rfl,(Below.refl _ w).alloc (Nat.le_refl _) _,rfl⟩
  case round =>
   obtain⟨rfl,hb,rfl⟩:=hrel;unfold cA AA Gm
   go_wp2
   refine bodyPost_ret (v:=.tuple #[.agg #[.int .i64 0,.int .i64 0,.int .i64 0,.int .i64 0,.string (bs []),.int .i64 0,.int .i64 0,.int .i64 0,.int .i64 0,.int .i64 0],.bool false]) (by simp[results,Tryz.results65,go_sem];rfl) rfl ⟨rfl,?_⟩;exact (Below.refl _ w).alloc (Nat.le_refl _) _
 ·subst hv
  have hcells:=λk hk=>xM h0 k hk
  have hgl:g<w.heap.size:=(h0.lt g rfl).2;obtain⟨m,hm⟩:∃ m,m=l.length:=⟨_,rfl⟩;have HM:Hid _:=hm;have HC:Hid _:=hcells;rw[<- hm] at hl ⊢;clear hcells h0 hx hm;unfold aK
  go_enter Tryz.func65,Tryz.ntmps65
  go_wp2
  go_loopw [6] (λi wr=>∃ k:Nat,k<=m/\i=.int .i64 k/\wr=w.alloc (cA Gm)/\Hid (lM l rg=lM (l.drop k) rg)) (λi _=>m-(intOf i).toNat)
  case atStart=>exact⟨0,Nat.zero_le _,rfl,rfl,(rfl:lM l rg=lM (l.drop 0) rg)⟩
  case round =>
   obtain⟨k,hk,rfl,rfl,HF⟩:=hrel;unfold cA AA Gm
   by_cases hlt:k<m
   ·have hkl:k<l.length:=by have:=HM.out;omega
    obtain⟨c0,c1,c2,c3,c4,c5,c6,c7,c8,c9⟩:=HC.out k hkl;have pq:=KN l rg k hkl;obtain⟨n,hn⟩:∃ n,n=l[k]:=⟨_,rfl⟩;rw[<- hn] at c0 c1 c2 c3 c4 c5 c6 c7 c8 c9 pq;clear hn
    cases hr:(n.region==rg) with
    | true =>
     have HA:Hid (ans=some n):=(show ans=some n by rw[kX.out,HF.out,pq,if_pos hr]);clear pq
     go_wp2
     refine bodyPost_ret (v:=.tuple #[.agg #[.int .i64 n.form,.int .i64 n.at_,.int .i64 n.aL,.int .i64 n.num,.string (bs n.word),.int .i64 n.region,.int .i64 n.source,.int .i64 n.p0,.int .i64 n.p1,.int .i64 n.p2],.bool true]) (by simp[results,Tryz.results65,go_sem]) rfl ⟨by rw[HA.out];rfl,?_⟩;exact (Below.refl _ w).alloc (Nat.le_refl _) _
    | false =>
     have cS:Hid (lM l rg=lM (l.drop (k+1)) rg):=(show lM l rg=_ by rw[HF.out,pq,if_neg (by rw[hr];simp)]);clear pq
     go_wp2
     go_roundw
     case rel=>exact⟨k+1,by omega,by go_num,rfl,cS.out⟩
     case measure=>simp[intOf];omega
   ·have HA:Hid (ans=none):=(show ans=none by rw[kX.out,HF.out,List.drop_eq_nil_of_le (by have:=HM.out;omega)];rfl)
    go_wp2
    refine bodyPost_ret (v:=.tuple #[.agg #[.int .i64 0,.int .i64 0,.int .i64 0,.int .i64 0,.string (bs []),.int .i64 0,.int .i64 0,.int .i64 0,.int .i64 0,.int .i64 0],.bool false]) (by simp[results,Tryz.results65,go_sem];rfl) rfl ⟨by rw[HA.out];rfl,?_⟩;exact (Below.refl _ w).alloc (Nat.le_refl _) _
def dr:List NR->List NR->List NR × Nat × Nat
 | [],l=>(l,0,0)
 | n::r,l=>if n.form=12 then (if (lM l n.region).isSome=true then (l,7,n.at_) else dr r (l++[n])) else dr r l
def bw (ns:List NR) (op:List Int):List NR:=op.map (λx=>(ns[x.toNat]?).getD Gm)
theorem lN (ns:List NR) (op:List Int):(bw ns op).length=op.length:=List.length_map _
theorem Ch {ns:List NR} {op:List Int} (ho:xK ns op) (k:Nat) (hk:k<ns.length):∃ (i:Nat) (n:NR),op[k]?=some (i:Int)/\ns[i]?=some n/\(bw ns op).drop k=n::(bw ns op).drop (k+1)/\n∈bw ns op:=by
 have hkl:k<op.length:=by rw[ho.1];exact hk
 obtain⟨x0,x1⟩:=ho.2 op[k] (List.getElem_mem hkl);have hx:ns[op[k].toNat]?=some ns[op[k].toNat]:=List.getElem?_eq_getElem x1;refine⟨op[k].toNat,ns[op[k].toNat],by rw[List.getElem?_eq_getElem hkl,Int.toNat_of_nonneg x0],hx,?_,?_⟩
 ·rw[List.drop_eq_getElem_cons (by rw[lN];exact hkl)]
  congr 1
  unfold bw;rw[List.getElem_map,hx];rfl
 ·unfold bw
  rw[List.mem_map];exact⟨op[k],List.getElem_mem hkl,by rw[hx];rfl⟩
theorem GS (w:World) (nv ov:Value) (ns:List NR) (op:List Int) (h:bB w nv ov ns op) (ho:xK ns op) (hl:ns.length<=9000) :
  Calls Tryz.prog 45 #[aQ nv ov] w λv w'=>∃ vv,v=.returned (.tuple #[vv,.int .i64 (dr (bw ns op) []).2.1,.int .i64 (dr (bw ns op) []).2.2])/\w'.ownsRow w.heap.size 108 10 vv (dr (bw ns op) []).1.length ((dr (bw ns op) []).1.flatMap rV)/\Below w.heap.size w w':=by
 obtain⟨i0,hi0,hz0,hz1,hz2⟩:=info_parts Tryz.DQ;have HI:Hid _:=hi0;have rR:Hid _:=hz0;have rS:Hid _:=hz1;have rT:Hid _:=hz2;clear hi0 hz0 hz1 hz2
 have hlen:=λ(w':World) (hb:Below w.heap.size w w')=>iC w' nv ov ns op (h.below hb)
 have iI:=λ(w':World) (hb:Below w.heap.size w w') (k i:Nat) (n:NR) (hk:op[k]?=some (i:Int)) (hi:ns[i]?=some n)=>nZ w' nv ov ns op (h.below hb) k i n hk hi hl (by rw[ho.1];omega)
 obtain⟨a0,kW,e0⟩:=aG h.nd;obtain⟨a1,lL,e1⟩:=aG h.op;rw[ho.1] at e1;obtain⟨m,hm⟩:∃ m,m=ns.length:=⟨_,rfl⟩;rw[<- hm] at e0 e1 hl;subst e0;subst e1;have HO:Hid _:=ho;have HM:Hid _:=hm;unfold aQ at hlen iI;unfold aQ;unfold aK at iI;rw[<- hm] at hlen;have mR:Hid _:=hlen;have GU:Hid _:=iI;obtain⟨ans,dm⟩:∃ ans,ans=dr (bw ns op) []:=⟨_,rfl⟩;rw[<- dm];have kX:Hid _:=dm;clear hlen iI ho h hm dm;have Du:Below w.heap.size w (w.alloc (.cells #[.slice a0 m kW,.slice a1 m lL] 62)):=(Below.refl _ w).alloc (Nat.le_refl _) _;have eE:Hid _:=Du;clear Du
 go_enter Tryz.func45,Tryz.ntmps45
 go_wp2
 obtain⟨WB,sE⟩:∃ WB,WB=w.alloc (.cells #[.slice a0 m kW,.slice a1 m lL] 62):=⟨_,rfl⟩;have DR:Hid (WB.heap.size=w.heap.size+1):=(show WB.heap.size=w.heap.size+1 by rw[sE];simp)
 have rJ:Hid (∀ wr,Below WB.heap.size WB wr->wr.cell? ⟨w.heap.size,0,none⟩=some (.slice a0 m kW)/\wr.cell? ⟨w.heap.size,1,none⟩=some (.slice a1 m lL)/\w.heap.size<wr.heap.size):=by
  intro wr hb;rw[sE] at hb;exact dK hb
 rw[<- sE] at eE ⊢;have Qx:Hid _:=sE;clear sE
 go_loopw [5,6,7,8,9] (λv5 i _ _ _ wr=>∃ (k:Nat) (l:List NR) (vv:Value),k<=m/\i=.int .i64 k/\v5=vv/\l.length<=k/\wr.ownsRow WB.heap.size 108 10 vv l.length (l.flatMap rV)/\Hid (dr (bw ns op) []=dr ((bw ns op).drop k) l)/\Below WB.heap.size WB wr) (λ_ i _ _ _ _=>m-(intOf i).toNat)
 case atStart =>
  refine⟨0,[],_,Nat.zero_le _,rfl,rfl,Nat.le_refl _,⟨rfl,Or.inr ⟨w.heap.size+1,0,#[],rfl,by rw[DR.out];exact Nat.le_refl _,?_,Nat.le_refl _,by unfold maxLen;omega,rfl,rfl⟩⟩,(rfl:dr (bw ns op) []=dr ((bw ns op).drop 0) []),(Below.refl _ WB).alloc (Nat.le_refl _) _⟩;rw[<- DR.out];exact aj _ _
 case round =>
  obtain⟨k,l,_,hk,rfl,rfl,hlk,hown,HF,dI⟩:=hrel;obtain⟨b0,b1,bl⟩:=rJ.out _ dI;have AF:=eE.out.trans (dI.mono eE.out.size);have ja:=mR.out _ AF;have mS:=dI.size
  by_cases hlt:k<m
  ·obtain⟨i,n,hop,hni,pq,_⟩:=Ch HO.out k (by have:=HM.out;omega)
   have hst:=HF.out;rw[pq] at hst;simp only[dr] at hst;have jO:Hid _:=hst;have KO:Hid _:=hop;have Yu:Hid _:=hni;have eK:Hid _:=hown;have ji:Hid _:=dI;clear hop hni pq hst hown HF
   go_wp2_with fail
   refine ja.mono ?_;rintro _ w1 ⟨rfl,hb1⟩;have ky:=dI.trans (hb1.mono mS);obtain⟨d0,d1,dl⟩:=rJ.out _ ky;have iI:=GU.out w1 (eE.out.trans (ky.mono eE.out.size)) k i n KO.out Yu.out;have dZ:Hid _:=hb1;clear ky hb1 ja b0 b1 dI
   go_wp2_with fail
   refine iI.mono ?_;rintro _ w2 ⟨rfl,hb2⟩;have dV:Below wr.heap.size wr w2:=dZ.out.trans (hb2.mono dZ.out.size);have hW3:Below wr.heap.size wr (w2.alloc (cA n)):=dV.alloc dV.size (cA n);have hnb:(w2.alloc (cA n)).heap[w2.heap.size]?=some (cA n):=aj _ _;have mA:=A8 (w2.alloc (cA n)) u5 l n.region WB.heap.size (aB eK.out hW3) (by omega);have Jd:Hid _:=hW3;have Mu:Hid _:=hnb;clear hb2 dV hW3 hnb iI d0 d1
   by_cases h12:n.form=12
   ·have A5:((n.form:Int)==12)=true:=aJ (b:=12) h12
    have hst:=jO.out;rw[if_pos h12] at hst;have eU:Hid _:=hst;clear hst jO h12;obtain⟨x,hx⟩:∃ x,x=lM l n.region:=⟨_,rfl⟩;rw[<- hx] at mA eU;obtain⟨y,hy⟩:∃ y,y=x.getD Gm:=⟨_,rfl⟩;rw[<- hy] at mA;unfold aK at mA;unfold cA AA at mA;clear hx hy
    go_wp2_with fail
    refine mA.mono ?_;rintro _ w4 ⟨rfl,hb4⟩
    have GV:w4.heap[w2.heap.size]?=some (cA n):=by rw[hb4.block _ (by simp)];exact Mu.out
    obtain⟨d0,d1,d2,d3,d4,d5,d6,d7,d8,d9⟩:=aC GV;have kJ:=af GV;have XB:Below wr.heap.size wr w4:=Jd.out.trans (hb4.mono Jd.out.size);have XC:Hid _:=XB;clear hb4 GV mA XB
    cases x with
    | some z =>
     have HA:Hid (ans=(l,7,n.at_)):=(show ans=_ by rw[kX.out,eU.out];rfl)
     have rI:Hid (Below WB.heap.size WB (w4.alloc (cA y))):=by
      have:=ji.out.trans (XC.out.mono mS);exact this.alloc this.size _
     have Mv:Hid ((w4.alloc (cA y)).ownsRow WB.heap.size 108 10 u5 l.length (l.flatMap rV)):=(aB eK.out XC.out).alloc _
     go_wp2
     go_quiet (fail)
     go_wp2
     refine bodyPost_ret (v:=.tuple #[u5,.int .i64 7,.int .i64 n.at_]) (by simp[results,Tryz.results45,go_sem]) rfl ⟨u5,by rw[HA.out];rfl,?_,?_⟩
     ·rw[HA.out]
      exact dL Mv.out (λk hk=>by have:=DR.out;have:=(World.ownsRow.lt Mv.out k hk).1;omega)
     ·exact (eE.out.trans (rI.out.mono eE.out.size)).trans ⟨rfl,rfl,rfl,Nat.le_refl _,λ_ _=>rfl⟩
    | none =>
     have HN:Hid (dr (bw ns op) []=dr ((bw ns op).drop (k+1)) (l++[n])):=(show _=_ by rw[eU.out];rfl)
     have HW5:Hid (Below WB.heap.size WB ((w4.alloc (cA y)).alloc (cA n))):=by
      have:=ji.out.trans (XC.out.mono mS);have h2:=this.alloc this.size (cA y);exact h2.alloc h2.size _
     have QY:Hid (((w4.alloc (cA y)).alloc (cA n)).ownsRow WB.heap.size 108 10 u5 l.length (l.flatMap rV)):=((aB eK.out XC.out).alloc _).alloc _
     have h45:(w4.alloc (cA y)).heap.size=w4.heap.size+1:=by simp
     have Ay:Hid (∀ (j:Nat) (u:Value),(rV n)[j]?=some u->((w4.alloc (cA y)).alloc (cA n)).cell? ((⟨w4.heap.size+1,0,none⟩:Addr).add j)=some u):=by
      intro j u hj;have hq:=bV (w4.alloc (cA y)) (rV n) 108 j;rw[h45] at hq;rw[<- hj,<- hq];rfl
     unfold cA AA at QY Ay HW5;clear h45
     go_wp2_with (at_builtin;go_must (refine wpList_append_own _ rfl (.tmp 34) (.tmp 36) 60 rfl WB.heap.size 108 i0 _ 10 88 Tryz.DS HI.out rR.out rS.out rT.out rfl (by decide) u5 l.length (l.flatMap rV) rfl QY.out ⟨w4.heap.size+1,0,none⟩ 1 1 (rV n) rfl rfl Ay.out (Nb n) ?c3 ?c4 ?c5 ?_))
     case c3=>unfold maxLen;omega
     case c4=>omega
     case c5=>have:=XC.out.size;first | omega | (simp;omega)
     intro v' w6 hown' hgrow hnil;have Ci:Hid (Below WB.heap.size WB w6):=(HW5.out).grown hgrow HW5.out.size (λb hb=>(World.ownsRow.lt QY.out b hb).1)
     have QZ:Hid (w6.ownsRow WB.heap.size 108 10 v' (l++[n]).length ((l++[n]).flatMap rV)):=by
      show w6.ownsRow WB.heap.size 108 10 v' (l++[n]).length ((l++[n]).flatMap rV)
      rw[List.length_append,List.flatMap_append]
      simpa using hown'
     clear hown' hgrow hnil
     go_wp2
     go_roundw
     case rel=>exact⟨k+1,l++[n],_,by omega,by go_num,rfl,by simp;omega,QZ.out,HN.out,Ci.out⟩
     case measure=>simp[intOf];omega
   ·have A5:((n.form:Int)==12)=false:=ah (b:=12) h12
    have hst:=jO.out;rw[if_neg h12] at hst;have eU:Hid _:=hst;have jb:Hid (Below WB.heap.size WB (w2.alloc (cA n))):=ji.out.trans (Jd.out.mono mS);have GW:Hid ((w2.alloc (cA n)).ownsRow WB.heap.size 108 10 u5 l.length (l.flatMap rV)):=aB eK.out Jd.out;unfold cA AA at jb GW;clear hst jO h12 mA
    go_wp2
    go_roundw
    case rel=>exact⟨k+1,l,_,by omega,by go_num,rfl,by omega,GW.out,eU.out,jb.out⟩
    case measure=>simp[intOf];omega
  ·have HA:Hid (ans=(l,0,0)):=by
    have Je:(bw ns op).drop k=[]:=List.drop_eq_nil_of_le (by rw[lN];have:=HO.out.1;have:=HM.out;omega);rw[kX.out,HF.out,Je];exact rfl
   have ji:Hid _:=dI;have eK:Hid _:=hown;clear dI hown
   go_wp2_with fail
   refine ja.mono ?_;rintro _ w1 ⟨rfl,hb1⟩;have dZ:Hid _:=eE.out.trans ((ji.out.trans (hb1.mono mS)).mono eE.out.size);have Tz:Hid _:=aB eK.out hb1;clear hb1 ja
   go_wp2
   refine bodyPost_ret (v:=.tuple #[u5,.int .i64 0,.int .i64 0]) (by simp[results,Tryz.results45,go_sem]) rfl ⟨u5,by rw[HA.out];rfl,?_,dZ.out⟩;rw[HA.out];exact dL Tz.out (λk hk=>by have:=DR.out;have:=(World.ownsRow.lt Tz.out k hk).1;omega)
def kz (l:List NR):List NR->Nat × Nat
 | []=>(0,0)
 | n::r=>if n.form=4 then (match lM l n.region with
   | some o=>if n.at_<o.at_\/o.aL<=n.at_ then (8,n.at_) else kz l r
   | none=>kz l r) else kz l r
theorem DT (w:World) (nv ov vv:Value) (ns:List NR) (op:List Int) (l:List NR) (base:Nat) (h:bB w nv ov ns op) (ho:xK ns op) (hl:ns.length<=9000) (hown:w.ownsRow base 108 10 vv l.length (l.flatMap rV)) (hll:l.length<=9000) :
  Calls Tryz.prog 46 #[aQ nv ov,vv] w λv w'=>v=.returned (.tuple #[.int .i64 (kz l (bw ns op)).1,.int .i64 (kz l (bw ns op)).2])/\Below w.heap.size w w':=by
 have hlen:=λ(w':World) (hb:Below w.heap.size w w')=>iC w' nv ov ns op (h.below hb)
 have iI:=λ(w':World) (hb:Below w.heap.size w w') (k i:Nat) (n:NR) (hk:op[k]?=some (i:Int)) (hi:ns[i]?=some n)=>nZ w' nv ov ns op (h.below hb) k i n hk hi hl (by rw[ho.1];omega)
 have Yv:=λ(w':World) (hb:Below w.heap.size w w') (rg:Int)=>A8 w' vv l rg base (aB hown hb) hll
 obtain⟨a0,kW,e0⟩:=aG h.nd;obtain⟨a1,lL,e1⟩:=aG h.op;rw[ho.1] at e1;obtain⟨m,hm⟩:∃ m,m=ns.length:=⟨_,rfl⟩;rw[<- hm] at e0 e1 hl;subst e0;subst e1;have HO:Hid _:=ho;have HM:Hid _:=hm;unfold aQ at hlen iI;unfold aQ;unfold aK at iI;rw[<- hm] at hlen;have mR:Hid _:=hlen;have GU:Hid _:=iI;have abf:Hid _:=Yv;obtain⟨ans,dm⟩:∃ ans,ans=kz l (bw ns op):=⟨_,rfl⟩;rw[<- dm];have kX:Hid _:=dm;clear hlen iI Yv ho h hm dm hown hll;have Du:Below w.heap.size w (w.alloc (.cells #[.slice a0 m kW,.slice a1 m lL] 62)):=(Below.refl _ w).alloc (Nat.le_refl _) _;have eE:Hid _:=Du;clear Du
 go_enter Tryz.func46,Tryz.ntmps46
 go_wp2
 obtain⟨WB,sE⟩:∃ WB,WB=w.alloc (.cells #[.slice a0 m kW,.slice a1 m lL] 62):=⟨_,rfl⟩
 have rJ:Hid (∀ wr,Below WB.heap.size WB wr->wr.cell? ⟨w.heap.size,0,none⟩=some (.slice a0 m kW)/\wr.cell? ⟨w.heap.size,1,none⟩=some (.slice a1 m lL)/\w.heap.size<wr.heap.size):=by
  intro wr hb;rw[sE] at hb;exact dK hb
 rw[<- sE] at eE ⊢;clear sE
 go_loopw [6,7,8,9] (λi _ _ _ wr=>∃ (k:Nat),k<=m/\i=.int .i64 k/\Hid (kz l (bw ns op)=kz l ((bw ns op).drop k))/\Below WB.heap.size WB wr) (λi _ _ _ _=>m-(intOf i).toNat)
 case atStart=>exact⟨0,Nat.zero_le _,rfl,(rfl:kz l (bw ns op)=kz l ((bw ns op).drop 0)),Below.refl _ _⟩
 case round =>
  obtain⟨k,hk,rfl,HF,dI⟩:=hrel;obtain⟨b0,b1,bl⟩:=rJ.out _ dI;have AF:=eE.out.trans (dI.mono eE.out.size);have ja:=mR.out _ AF;have mS:=dI.size
  by_cases hlt:k<m
  ·obtain⟨i,n,hop,hni,pq,_⟩:=Ch HO.out k (by have:=HM.out;omega)
   have hst:=HF.out;rw[pq] at hst;simp only[kz] at hst;have jO:Hid _:=hst;have KO:Hid _:=hop;have Yu:Hid _:=hni;have ji:Hid _:=dI;clear hop hni pq hst HF
   go_wp2_with fail
   refine ja.mono ?_;rintro _ w1 ⟨rfl,hb1⟩;have ky:=dI.trans (hb1.mono mS);obtain⟨d0,d1,dl⟩:=rJ.out _ ky;have iI:=GU.out w1 (eE.out.trans (ky.mono eE.out.size)) k i n KO.out Yu.out;have dZ:Hid _:=hb1;clear ky hb1 ja b0 b1 dI
   go_wp2_with fail
   refine iI.mono ?_;rintro _ w2 ⟨rfl,hb2⟩;have dV:Below wr.heap.size wr w2:=dZ.out.trans (hb2.mono dZ.out.size);have hW3:Below wr.heap.size wr (w2.alloc (cA n)):=dV.alloc dV.size (cA n);have hnb:(w2.alloc (cA n)).heap[w2.heap.size]?=some (cA n):=aj _ _;have mA:=abf.out (w2.alloc (cA n)) (eE.out.trans ((ji.out.trans (hW3.mono mS)).mono eE.out.size)) n.region;have Jd:Hid _:=hW3;have Mu:Hid _:=hnb;clear hb2 dV hW3 hnb iI d0 d1
   by_cases h4:n.form=4
   ·have q4:((n.form:Int)==4)=true:=aJ (b:=4) h4
    have hst:=jO.out;rw[if_pos h4] at hst;have eU:Hid _:=hst;clear hst jO h4;obtain⟨x,hx⟩:∃ x,x=lM l n.region:=⟨_,rfl⟩;rw[<- hx] at mA eU;obtain⟨y,hy⟩:∃ y,y=x.getD Gm:=⟨_,rfl⟩;rw[<- hy] at mA;have HY:Hid _:=hy;unfold aK at mA;unfold cA AA at mA;clear hx hy
    go_wp2_with fail
    refine mA.mono ?_;rintro _ w4 ⟨rfl,hb4⟩
    have GV:w4.heap[w2.heap.size]?=some (cA n):=by rw[hb4.block _ (by simp)];exact Mu.out
    obtain⟨d0,d1,d2,d3,d4,d5,d6,d7,d8,d9⟩:=aC GV;have kJ:=af GV;have XB:Below wr.heap.size wr w4:=Jd.out.trans (hb4.mono Jd.out.size);have XC:Hid _:=XB
    have rI:Hid (Below WB.heap.size WB (w4.alloc (cA y))):=by
     have:=ji.out.trans (XB.mono mS);exact this.alloc this.size _
    clear hb4 GV mA XB
    cases x with
    | some z =>
     have hyz:y=z:=HY.out;subst hyz;clear HY
     by_cases h1:n.at_<y.at_
     ·have HA:Hid (ans=(8,n.at_)):=(show ans=_ by rw[kX.out,eU.out];simp[h1])
      have hz:(n.at_:Int)<(y.at_:Int):=by omega
      have hzd:decide ((n.at_:Int)<(y.at_:Int))=true:=by simpa using hz
      go_wp2
      go_quiet (fail)
      go_wp2
      refine bodyPost_ret (v:=.tuple #[.int .i64 8,.int .i64 n.at_]) (by simp[results,Tryz.results46,go_sem]) rfl ⟨by rw[HA.out];rfl,?_⟩;exact (eE.out.trans (rI.out.mono eE.out.size)).trans ⟨rfl,rfl,rfl,Nat.le_refl _,λ_ _=>rfl⟩
     ·have hz:¬ (n.at_:Int)<(y.at_:Int):=by omega
      have hzd:decide ((n.at_:Int)<(y.at_:Int))=false:=by simpa using hz
      by_cases h2:y.aL<=n.at_
      ·have HA:Hid (ans=(8,n.at_)):=(show ans=_ by rw[kX.out,eU.out];simp[h2])
       have hz2:(y.aL:Int)<=(n.at_:Int):=by omega
       go_wp2
       go_quiet (fail)
       go_wp2
       refine bodyPost_ret (v:=.tuple #[.int .i64 8,.int .i64 n.at_]) (by simp[results,Tryz.results46,go_sem]) rfl ⟨by rw[HA.out];rfl,?_⟩;exact (eE.out.trans (rI.out.mono eE.out.size)).trans ⟨rfl,rfl,rfl,Nat.le_refl _,λ_ _=>rfl⟩
      ·have HN:Hid (kz l (bw ns op)=kz l ((bw ns op).drop (k+1))):=(show _=_ by rw[eU.out];simp[h1,h2])
       have hz2:¬ (y.aL:Int)<=(n.at_:Int):=by omega
       have acO:decide ((y.aL:Int)<=(n.at_:Int))=false:=by simpa using hz2
       clear eU
       go_wp2
       go_roundw
       case rel=>exact⟨k+1,by omega,by go_num,HN.out,rI.out⟩
       case measure=>simp[intOf];omega
    | none =>
     have HN:Hid (kz l (bw ns op)=kz l ((bw ns op).drop (k+1))):=(show _=_ by rw[eU.out])
     go_wp2
     go_roundw
     case rel=>exact⟨k+1,by omega,by go_num,HN.out,rI.out⟩
     case measure=>simp[intOf];omega
   ·have q4:((n.form:Int)==4)=false:=ah (b:=4) h4
    have hst:=jO.out;rw[if_neg h4] at hst;have eU:Hid _:=hst;have jb:Hid (Below WB.heap.size WB (w2.alloc (cA n))):=ji.out.trans (Jd.out.mono mS);unfold cA AA at jb;clear hst jO h4 mA
    go_wp2
    go_roundw
    case rel=>exact⟨k+1,by omega,by go_num,eU.out,jb.out⟩
    case measure=>simp[intOf];omega
  ·have HA:Hid (ans=(0,0)):=by
    have Je:(bw ns op).drop k=[]:=List.drop_eq_nil_of_le (by rw[lN];have:=HO.out.1;have:=HM.out;omega);rw[kX.out,HF.out,Je];exact rfl
   have ji:Hid _:=dI;clear dI
   go_wp2_with fail
   refine ja.mono ?_;rintro _ w1 ⟨rfl,hb1⟩;have dZ:Hid _:=eE.out.trans ((ji.out.trans (hb1.mono mS)).mono eE.out.size);clear hb1 ja
   go_wp2
   refine bodyPost_ret (v:=.tuple #[.int .i64 0,.int .i64 0]) (by simp[results,Tryz.results46,go_sem]) rfl ⟨by rw[HA.out];rfl,dZ.out⟩
def jk (tb:List TP):Nat->Nat->Int->Bool
 | 0,_,_=>false
 | f+1,k,rg=>if k=0\/tb.length<k then false else (((fW tb k).r:Int)==rg) || jk tb f (fW tb k).a rg || jk tb f (fW tb k).b rg
def Yw (tb:List TP):Prop:=∀ k,(fW tb (k+1)).a<=k/\(fW tb (k+1)).b<=k
theorem rW (cb o:Nat) (pv:Value) (tb:List TP) (hl:tb.length<=9000) (hlow:Yw tb) (rg:Int):∀ (f k:Nat),k<f->k<=10000->∀ (w:World),w.cell? ⟨cb,o,none⟩=some pv->w.ownsRow 0 146 4 pv tb.length (tb.flatMap Ds) ->
  Calls Tryz.prog 87 #[.pointer (some ⟨cb,o,none⟩),.int .i64 k,.int .i64 rg] w λv w'=>v=.returned (.bool (jk tb f k rg))/\Below w.heap.size w w':=by
 intro f
 induction f with
 | zero=>intro k hk;omega
 | succ f ih =>
  intro k A9 hk w hc hr;have Al:=World.block_lt_of_cell? _ _ hc
  show Calls _ _ #[Value.pointer (some ⟨cb,o,none⟩),_,_] w _
  by_cases h0:k=0\/tb.length<k
  ·have e:jk tb (f+1) k rg=false:=by simp only[jk];rw[if_pos h0]
   rw[e];obtain⟨a,cap,rfl⟩:=aG hr;generalize tb.length=m at *;clear hr e ih hlow
   rcases h0 with h0 | h0
   ·have h0':k<1:=by omega
    clear h0
    go_enter Tryz.func87,Tryz.ntmps87
    go_wp2
    go_ret
    exact⟨rfl,Below.refl _ _⟩
   ·have h1:1<=k:=by omega
    go_enter Tryz.func87,Tryz.ntmps87
    go_wp2
    go_ret
    exact⟨rfl,Below.refl _ _⟩
  ·have hrec:∀ (k':Nat),k'<k->∀ w',Below w.heap.size w w'->Calls Tryz.prog 87 #[.pointer (some ⟨cb,o,none⟩),.int .i64 k',.int .i64 rg] w' λv w''=>v=.returned (.bool (jk tb f k' rg))/\Below w'.heap.size w' w'':=by
    intro k' hk' w' hb;exact ih k' (by omega) (by omega) w' (by rw[hb.cell (p:=⟨cb,o,none⟩) Al];exact hc) (aB hr hb)
   have hm:jk tb (f+1) k rg=((((fW tb k).r:Int)==rg) || jk tb f (fW tb k).a rg || jk tb f (fW tb k).b rg):=by simp only[jk];rw[if_neg h0]
   obtain⟨g,cap,rfl⟩:=gp hr (by omega);obtain⟨j,rfl⟩:∃ j,k=j+1:=⟨k-1,by omega⟩
   have hj:j<tb.length:=by omega
   obtain⟨p,hp⟩:∃ p,tb[j]?=some p:=⟨tb[j],List.getElem?_eq_getElem hj⟩
   have e:fW tb (j+1)=p:=by unfold fW;rw[if_neg (by omega),Nat.add_sub_cancel,hp];rfl
   have hlo:=hlow j;rw[e] at hm hlo;obtain⟨c0,c1,c2,c3⟩:=xH hr j p hp;have hg:g<w.heap.size:=(hr.lt g rfl).2
   have ej:((j+1:Nat):Int)=(j:Int)+1:=by omega
   have ej2:(j:Int)+1-1=(j:Int):=by omega
   have TA:=hrec p.a (by omega);have Jf:=hrec p.b (by omega);have XD:Hid _:=TA;have Q0:Hid _:=Jf;obtain⟨ma,hma⟩:∃ ma,ma=jk tb f p.a rg:=⟨_,rfl⟩;obtain⟨mb,oL⟩:∃ mb,mb=jk tb f p.b rg:=⟨_,rfl⟩;rw[<- hma] at XD hm;rw[<- oL] at Q0 hm;obtain⟨R,hR⟩:∃ R,R=jk tb (f+1) (j+1) rg:=⟨_,rfl⟩;rw[<- hR] at hm ⊢;generalize tb.length=m at *;have eE:Hid (Below w.heap.size w (w.alloc (.cells #[.int .i64 p.r,.int .i64 p.a,.int .i64 p.b,.int .i64 p.sz] 146))):=(Below.refl _ _).alloc (Nat.le_refl _) _;have HM:Hid _:=hm;clear hr e hp h0 hrec TA Jf ih hlow hma oL hR hm hlo;rw[ej]
   cases hq:((p.r:Int)==rg) with
   | true =>
    have HR:Hid (R=true):=(show R=true by rw[HM.out,hq];rfl);clear HM
    go_enter Tryz.func87,Tryz.ntmps87
    go_wp2
    go_ret
    exact⟨by rw[HR.out];first | done | rfl,eE.out⟩
   | false =>
    go_enter Tryz.func87,Tryz.ntmps87
    go_wp2_with fail
    refine (XD.out _ eE.out).mono ?_;rintro _ w2 ⟨rfl,hb2⟩
    have mQ:w2.heap[w.heap.size]?=some (.cells #[.int .i64 p.r,.int .i64 p.a,.int .i64 p.b,.int .i64 p.sz] 146 (0,0)):=by rw[hb2.block _ (by simp)];exact aj _ _
    have d2:w2.cell? ⟨w.heap.size,2,none⟩=some (.int .i64 p.b):=by rw[aa mQ];rfl
    have hpl:=af mQ;have hW2:Below w.heap.size w w2:=eE.out.trans (hb2.mono eE.out.size);have HW2:Hid _:=hW2;clear hb2 mQ hW2
    cases ma with
    | true =>
     have HR:Hid (R=true):=(show R=true by rw[HM.out,hq];rfl);clear HM
     go_wp2
     go_ret
     exact⟨by rw[HR.out];first | done | rfl,HW2.out⟩
    | false =>
     have HR:Hid (R=mb):=(show R=mb by rw[HM.out,hq];rfl);clear HM
     go_wp2_with fail
     refine (Q0.out _ HW2.out).mono ?_;rintro _ w3 ⟨rfl,hb3⟩;have jb:Hid (Below w.heap.size w w3):=HW2.out.trans (hb3.mono HW2.out.size);clear hb3
     go_wp2
     go_ret
     exact⟨by rw[HR.out];first | done | rfl,jb.out⟩
theorem Cj (cb:Nat) (pv:Value) (tb:List TP) (hl:tb.length<=9000) (hlow:Yw tb) (rg:Int):∀ (f k:Nat),k<f->k<=10000->∀ (w:World),w.cell? ⟨cb,0,none⟩=some pv->w.ownsRow 0 146 4 pv tb.length (tb.flatMap Ds) ->
  Calls Tryz.prog 87 #[ptr cb,.int .i64 k,.int .i64 rg] w λv w'=>v=.returned (.bool (jk tb f k rg))/\Below w.heap.size w w' :=
 rW cb 0 pv tb hl hlow rg
def Yx (tb:List TP) (K:List Nat) (n:NR):Nat :=
 if n.form=7\/n.form=11 then (if au K n.p1=au K n.p2 then 0 else 9)
 else if n.form=12 then (if jk tb (tb.length+1) (au K n.p0) n.region=true then 10 else 0)
 else 0
theorem Ck (w:World) (cb:Nat) (pv tv:Value) (tb:List TP) (K:List Nat) (n:NR) (h:Cc cb w pv tv tb K) (hlow:Yw tb) (hl:tb.length<=9000) (hK:K.length<=9000) (hkn:au K n.p0<=tb.length) (nT:-10<=n.p0/\n.p0<=10000) (fk:-10<=n.p1/\n.p1<=10000) (oU:-10<=n.p2/\n.p2<=10000) :
  Calls Tryz.prog 66 #[aK n,ptr cb] w λv w'=>v=.returned (.int .i64 (Yx tb K n))/\Below w.heap.size w w':=by
 have hbx:Below w.heap.size w (w.alloc (cA n)):=(Below.refl _ _).alloc (Nat.le_refl _) _;have hin:=h.below hbx;have ko:=lp (w.alloc (cA n)) cb pv tv tb K n.p0 hin hK nT;have hk1:=lp (w.alloc (cA n)) cb pv tv tb K n.p1 hin hK fk;have hk2:=lp (w.alloc (cA n)) cb pv tv tb K n.p2 hin hK oU;have Gh:=af hin.y
 have hm:=λ(w':World) (hb:Below (w.alloc (cA n)).heap.size (w.alloc (cA n)) w')=>Cj cb pv tb hl hlow n.region (tb.length+1) (au K n.p0) (by omega) (by omega) w' (by rw[hb.cell (p:=⟨cb,0,none⟩) Gh,aa hin.y];rfl) (aB hin.p hb)
 have eE:Hid _:=hbx
 have jG:Hid (Yx tb K n=if n.form=7\/n.form=11 then (if au K n.p1=au K n.p2 then 0 else 9)
  else if n.form=12 then (if jk tb (tb.length+1) (au K n.p0) n.region=true then 10 else 0) else 0):=rfl
 obtain⟨R,hR⟩:∃ R,R=Yx tb K n:=⟨_,rfl⟩;rw[<- hR] at jG ⊢;obtain⟨mv,hmv⟩:∃ mv,mv=jk tb (tb.length+1) (au K n.p0) n.region:=⟨_,rfl⟩;rw[<- hmv] at jG hm;clear hR h hin hbx hmv;unfold ptr at ko hk1 hk2 hm;unfold aK;unfold cA AA at ko hk1 hk2 hm eE;have KJ:Hid _:=ko;have GL:Hid _:=hk1;have pj:Hid _:=hk2;have Q1:Hid _:=hm
 have acP:cb<w.heap.size+1:=by simpa using Gh
 clear ko hk1 hk2 hm hkn Gh;generalize au K n.p0=ka at *;generalize au K n.p1=kb at *;generalize au K n.p2=kc at *
 show Calls _ _ #[_,Value.pointer (some ⟨cb,0,none⟩)] w _
 by_cases k7:n.form=7\/n.form=11
 ·have HQ:Hid (R=if kb=kc then 0 else 9):=(show R=_ by rw[jG.out,if_pos k7])
  have q7:((n.form:Int)==7)=true\/(((n.form:Int)==7)=false/\((n.form:Int)==11)=true):=by
   rcases k7 with h | h
   ·exact .inl (aJ (b:=7) h)
   ·exact .inr ⟨ah (b:=7) (by omega),aJ (b:=11) h⟩
  clear jG k7 Q1
  by_cases hc:kb=kc
  ·have e1:((kb:Int)==(kc:Int))=true:=by rw[hc];simp
   have HR:Hid (R=0):=by rw[HQ.out,if_pos hc];exact rfl
   clear hc HQ
   rcases q7 with q7 | ⟨q7,AB⟩
   all_goals
    go_enter Tryz.func66,Tryz.ntmps66
    go_wp2_with fail
    refine Calls.mono KJ.out ?_;rintro _ _ ⟨rfl,rfl⟩
    go_wp2_with fail
    refine Calls.mono GL.out ?_;rintro _ _ ⟨rfl,rfl⟩
    go_wp2_with fail
    refine Calls.mono pj.out ?_;rintro _ _ ⟨rfl,rfl⟩
    go_wp2
    go_ret
    exact⟨by rw[HR.out];first | done | rfl,eE.out⟩
  ·have e1:((kb:Int)==(kc:Int))=false:=by rw[beq_eq_false_iff_ne];omega
   have HR:Hid (R=9):=by rw[HQ.out,if_neg hc];exact rfl
   clear hc HQ
   rcases q7 with q7 | ⟨q7,AB⟩
   all_goals
    go_enter Tryz.func66,Tryz.ntmps66
    go_wp2_with fail
    refine Calls.mono KJ.out ?_;rintro _ _ ⟨rfl,rfl⟩
    go_wp2_with fail
    refine Calls.mono GL.out ?_;rintro _ _ ⟨rfl,rfl⟩
    go_wp2_with fail
    refine Calls.mono pj.out ?_;rintro _ _ ⟨rfl,rfl⟩
    go_wp2
    go_ret
    exact⟨by rw[HR.out];first | done | rfl,eE.out⟩
 ·have q7:((n.form:Int)==7)=false:=ah (b:=7) (by omega)
  have AB:((n.form:Int)==11)=false:=ah (b:=11) (by omega)
  by_cases k12:n.form=12
  ·have A5:((n.form:Int)==12)=true:=aJ (b:=12) k12
   have HQ:Hid (R=if mv=true then 10 else 0):=(show R=_ by rw[jG.out,if_neg k7,if_pos k12]);clear jG k7 k12
   go_enter Tryz.func66,Tryz.ntmps66
   go_wp2_with fail
   refine Calls.mono KJ.out ?_;rintro _ _ ⟨rfl,rfl⟩
   go_wp2_with fail
   refine Calls.mono GL.out ?_;rintro _ _ ⟨rfl,rfl⟩
   go_wp2_with fail
   refine Calls.mono pj.out ?_;rintro _ _ ⟨rfl,rfl⟩
   go_wp2
   go_region_with (go_at_call 87;refine (Q1.out _ ?_).mono ?_;exact⟨rfl,rfl,rfl,Nat.le_refl _,λ_ _=>rfl⟩;rintro e w5 ⟨rfl,nD⟩)
   all_goals
    have DU:Hid (Below w.heap.size w w5):=eE.out.trans (⟨nD.os,nD.tape,nD.output,nD.size,λk hk=>nD.block k (by have h2:k<w.heap.size:=hk;simp[World.drew] at *;omega)⟩);clear nD
    cases mv with
    | true =>
     have HR:Hid (R=10):=(show R=10 by rw[HQ.out];rfl)
     go_wp2
     go_ret
     exact⟨by rw[HR.out];first | done | rfl,DU.out⟩
    | false =>
     have HR:Hid (R=0):=(show R=0 by rw[HQ.out];rfl)
     go_wp2
     go_ret
     exact⟨by rw[HR.out];first | done | rfl,DU.out⟩
  ·have A5:((n.form:Int)==12)=false:=ah (b:=12) k12
   have HR:Hid (R=0):=(show R=0 by rw[jG.out,if_neg k7,if_neg k12]);clear jG k7 k12 Q1
   go_enter Tryz.func66,Tryz.ntmps66
   go_wp2_with fail
   refine Calls.mono KJ.out ?_;rintro _ _ ⟨rfl,rfl⟩
   go_wp2_with fail
   refine Calls.mono GL.out ?_;rintro _ _ ⟨rfl,rfl⟩
   go_wp2_with fail
   refine Calls.mono pj.out ?_;rintro _ _ ⟨rfl,rfl⟩
   go_wp2
   go_ret
   exact⟨by rw[HR.out];first | done | rfl,eE.out⟩
theorem dB (E:List Nat) (x y:Nat):(je E x y).length=E.length:=by unfold je;split <;> simp
def mT (tb:List TP):Nat->List Nat->Nat->Nat->List Nat
 | 0,E,_,_=>E
 | f+1,E,x,y=>if x=y\/x=0\/y=0 then E else mT tb f (mT tb f (je E (fW tb x).r (fW tb y).r) (fW tb x).a (fW tb y).a) (fW tb x).b (fW tb y).b
theorem sF (tb:List TP):∀ (f:Nat) (E:List Nat) (x y:Nat),(mT tb f E x y).length=E.length
 | 0,_,_,_=>rfl
 | f+1,E,x,y=>by
  simp only[mT]
  split
  ·rfl
  ·rw[sF tb f,sF tb f,dB]
structure Ao (g:Nat) (w w':World):Prop where
 os:w'.os=w.os
 tape:w'.tape=w.tape
 output:w'.output=w.output
 size:w.heap.size<=w'.heap.size
 blk:∀ k,k<w.heap.size->k≠g->w'.heap[k]?=w.heap[k]?
theorem Ao.trans {g:Nat} {w w1 w2:World} (h:Ao g w w1) (h':Ao g w1 w2):Ao g w w2 :=
 ⟨h'.os.trans h.os,h'.tape.trans h.tape,h'.output.trans h.output,Nat.le_trans h.size h'.size,λk hk hg=>(h'.blk k (Nat.lt_of_lt_of_le hk h.size) hg).trans (h.blk k hk hg)⟩
theorem Ao.below {w w':World} (g:Nat) (h:Below w.heap.size w w'):Ao g w w':=⟨h.os,h.tape,h.output,h.size,λk hk _=>h.block k hk⟩
theorem Ao.set (g k:Nat) (w:World) (v:Value):Ao g w (w.setCell ⟨g,k,none⟩ v):=⟨rfl,rfl,rfl,by simp[World.setCell],λj _ hg=>aq _ _ (by simpa using hg)⟩
theorem Ao.cell {g:Nat} {w w':World} (h:Ao g w w') {b o:Nat} (hb:b<w.heap.size) (hg:b≠g):w'.cell? ⟨b,o,none⟩=w.cell? ⟨b,o,none⟩:=by
 unfold World.cell?;simp only[h.blk b hb hg]
theorem KP (sb g cap:Nat) (pv:Value) (tb:List TP) (hl:tb.length<=9000) (hlow:Yw tb) (hgs:g≠sb) (Gn:pv.ownBlock≠some g):∀ (f x y:Nat) (E:List Nat) (w:World),x<f->x<=10000->y<=10000->E.length<=9000->(∀ k,(fW tb k).r<E.length) ->
  w.cell? ⟨sb,0,none⟩=some pv->w.cell? ⟨sb,2,none⟩=some (.slice (some ⟨g,0,none⟩) E.length cap)->w.ownsRow 0 146 4 pv tb.length (tb.flatMap Ds)->w.ownsRow 0 3 1 (.slice (some ⟨g,0,none⟩) E.length cap) E.length (dc E) ->
  Calls Tryz.prog 93 #[ptr sb,.int .i64 x,.int .i64 y] w λv w'=>v=.returned (.tuple #[])/\Ao g w w'/\w'.ownsRow 0 3 1 (.slice (some ⟨g,0,none⟩) E.length cap) E.length (dc (mT tb f E x y)):=by
 intro f
 induction f with
 | zero=>intro x y E w hx;omega
 | succ f ih =>
  intro x y E w hxf hx hy hE hr hc0 hc2 hp he;have hsb:=World.block_lt_of_cell? _ _ hc0
  show Calls _ _ #[Value.pointer (some ⟨sb,0,none⟩),_,_] w _
  obtain⟨R,hR⟩:∃ R,R=mT tb (f+1) E x y:=⟨_,rfl⟩;rw[<- hR];simp only[mT] at hR
  by_cases h0:x=y\/x=0\/y=0
  ·rw[if_pos h0] at hR
   subst hR;have HE:Hid _:=he;clear he ih hp hr
   rcases h0 with h0 | h0 | h0
   ·have q1:((x:Int)==(y:Int))=true:=by rw[h0];simp
    clear h0
    go_enter Tryz.func93,Tryz.ntmps93
    go_wp2
    refine bodyPost_ret (v:=.tuple #[]) (by simp[results,Tryz.results93,go_sem]) rfl ⟨rfl,Ao.below g (Below.refl _ _),HE.out⟩
   ·by_cases q:x=y
    ·have q1:((x:Int)==(y:Int))=true:=by rw[q];simp
     clear q h0
     go_enter Tryz.func93,Tryz.ntmps93
     go_wp2
     refine bodyPost_ret (v:=.tuple #[]) (by simp[results,Tryz.results93,go_sem]) rfl ⟨rfl,Ao.below g (Below.refl _ _),HE.out⟩
    ·have q1:((x:Int)==(y:Int))=false:=by rw[beq_eq_false_iff_ne];omega
     have q2:((x:Int)==0)=true:=by rw[h0];rfl
     clear q h0
     go_enter Tryz.func93,Tryz.ntmps93
     go_wp2
     refine bodyPost_ret (v:=.tuple #[]) (by simp[results,Tryz.results93,go_sem]) rfl ⟨rfl,Ao.below g (Below.refl _ _),HE.out⟩
   ·by_cases q:x=y
    ·have q1:((x:Int)==(y:Int))=true:=by rw[q];simp
     clear q h0
     go_enter Tryz.func93,Tryz.ntmps93
     go_wp2
     refine bodyPost_ret (v:=.tuple #[]) (by simp[results,Tryz.results93,go_sem]) rfl ⟨rfl,Ao.below g (Below.refl _ _),HE.out⟩
    ·have q1:((x:Int)==(y:Int))=false:=by rw[beq_eq_false_iff_ne];omega
     have q2:((x:Int)==0)=false:=by rw[beq_eq_false_iff_ne];omega
     have q3:((y:Int)==0)=true:=by rw[h0];rfl
     clear q h0
     go_enter Tryz.func93,Tryz.ntmps93
     go_wp2
     refine bodyPost_ret (v:=.tuple #[]) (by simp[results,Tryz.results93,go_sem]) rfl ⟨rfl,Ao.below g (Below.refl _ _),HE.out⟩
  ·rw[if_neg h0] at hR
   have q1:((x:Int)==(y:Int))=false:=by rw[beq_eq_false_iff_ne];omega
   have q2:((x:Int)==0)=false:=by rw[beq_eq_false_iff_ne];omega
   have q3:((y:Int)==0)=false:=by rw[beq_eq_false_iff_ne];omega
   have hx1:1<=x:=by omega
   have hy1:1<=y:=by omega
   have hlx:=hlow (x-1);have hly:=hlow (y-1);rw[show x-1+1=x by omega] at hlx;rw[show y-1+1=y by omega] at hly;have hrx:=hr x;have hry:=hr y;have hg:g<w.heap.size:=(he.lt g rfl).2;have hA:=qK w sb 0 pv tb x hc0 hp hl hx
   have hB:=λ(W:World) (hb:Below w.heap.size w W)=>qK W sb 0 pv tb y (by rw[hb.cell (p:=⟨sb,0,none⟩) hsb];exact hc0) (aB hp hb) hl hy
   generalize fW tb x=P at *;generalize fW tb y=Q at *
   have hJ:=λ(W:World) (hb:Below w.heap.size w W)=>Nc W sb 0 g cap E P.r Q.r (by rw[hb.cell (p:=⟨sb,2,none⟩) hsb];exact hc2) (aB he hb) hE hrx hry
   have hjl:=dB E P.r Q.r;generalize je E P.r Q.r=E1 at *;have Yy:=sF tb f E1 P.a Q.a
   have hM:∀ (W:World) (E':List Nat) (x' y':Nat),E'.length=E.length->x'<x->y'<y->Ao g w W->W.ownsRow 0 3 1 (.slice (some ⟨g,0,none⟩) E.length cap) E.length (dc E')->Calls Tryz.prog 93 #[.pointer (some ⟨sb,0,none⟩),.int .i64 x',.int .i64 y'] W λv w'=>v=.returned (.tuple #[])/\Ao g W w'/\w'.ownsRow 0 3 1 (.slice (some ⟨g,0,none⟩) E.length cap) E.length (dc (mT tb f E' x' y')):=λW E' x' y' hE' hx' hy' hW ho=>by
    have:=ih x' y' E' W (by omega) (by omega) (by omega) (by omega) (by rw[hE'];exact hr) (by rw[hW.cell hsb (λe=>hgs e.symm)];exact hc0) (by rw[hW.cell hsb (λe=>hgs e.symm),hE'];exact hc2) (ay hp (λk hk=>hW.blk k (hp.lt k hk).2 (λe=>Gn (by rw[hk,e])))) (by rw[hE'];exact ho);rw[hE'] at this;exact this
   unfold we at hA hB;unfold ptr at hJ;have HA:Hid _:=hA;have HB:Hid _:=hB;have HJ:Hid _:=hJ;have HM:Hid _:=hM;have HR:Hid _:=hR;clear hA hB hJ hM hR he hp hr ih h0 hc0 hc2
   go_enter Tryz.func93,Tryz.ntmps93
   go_wp2_with fail
   refine Calls.mono HA.out ?_;rintro _ w1 ⟨rfl,hb1⟩;have TB:=hb1.alloc hb1.size (.cells #[.int .i64 P.r,.int .i64 P.a,.int .i64 P.b,.int .i64 P.sz] 146);have HA1:Hid _:=aj w1 (.cells #[.int .i64 P.r,.int .i64 P.a,.int .i64 P.b,.int .i64 P.sz] 146 (0,0));have HBA:Hid _:=TB;have hz1:=hb1.size;clear TB hb1 HA
   go_wp2_with fail
   refine Calls.mono (HB.out _ HBA.out) ?_;rintro _ w2 ⟨rfl,hb2⟩;have Mw:=HBA.out.trans (hb2.mono HBA.out.size);have Yz:=Mw.alloc Mw.size (.cells #[.int .i64 Q.r,.int .i64 Q.a,.int .i64 Q.b,.int .i64 Q.sz] 146);have ha2:=(hb2.block _ (af HA1.out)).trans HA1.out;have hal:Below w2.heap.size w2 (w2.alloc (.cells #[.int .i64 Q.r,.int .i64 Q.a,.int .i64 Q.b,.int .i64 Q.sz] 146 (0,0))):=(Below.refl _ w2).alloc (Nat.le_refl _) _;have ha3:=(hal.block _ (af ha2)).trans ha2;have Mx:=aj w2 (.cells #[.int .i64 Q.r,.int .i64 Q.a,.int .i64 Q.b,.int .i64 Q.sz] 146 (0,0));have hz2:=Mw.size;have Gj:Hid _:=Yz;have Vk:Hid _:=ha3;have HQ3:Hid _:=Mx
   have e0:(w2.alloc (.cells #[.int .i64 Q.r,.int .i64 Q.a,.int .i64 Q.b,.int .i64 Q.sz] 146 (0,0))).cell? ⟨w1.heap.size,0,none⟩=some (.int .i64 P.r):=by rw[aa ha3];rfl
   have el:=af ha3;clear Mw Yz ha2 hal ha3 Mx hb2 HBA HA1 HB;generalize w1.heap.size=S1 at *
   go_wp2_with fail
   refine Calls.mono (HJ.out _ Gj.out) ?_;rintro _ w3 ⟨rfl,⟨k3,a3,hw3⟩,Q2⟩;have hf3:=Ao.set g k3 (w2.alloc (.cells #[.int .i64 Q.r,.int .i64 Q.a,.int .i64 Q.b,.int .i64 Q.sz] 146 (0,0))) (.int .i64 a3);rw[<- hw3] at hf3;have hA4:=(hf3.blk _ (af Vk.out) (by omega)).trans Vk.out;have hQ4:=(hf3.blk _ (af HQ3.out) (by omega)).trans HQ3.out;have ee:Hid _:=(Ao.below g Gj.out).trans hf3
   have s1:w3.cell? ⟨S1,1,none⟩=some (.int .i64 P.a):=by rw[aa hA4];rfl
   have t1:w3.cell? ⟨w2.heap.size,1,none⟩=some (.int .i64 Q.a):=by rw[aa hQ4];rfl
   have sl:=af hA4;have tl:=af hQ4;have HA4:Hid _:=hA4;have HQ4:Hid _:=hQ4;have GW:Hid _:=Q2;clear hw3 hf3 hA4 hQ4 Q2 Gj Vk HQ3 HJ e0 el;generalize w2.heap.size=S2 at *
   go_wp2_with fail
   refine Calls.mono (HM.out w3 E1 P.a Q.a hjl (by omega) (by omega) ee.out GW.out) ?_;rintro _ w4 ⟨rfl,dE,ho4⟩;have hA5:=(dE.blk _ (af HA4.out) (by omega)).trans HA4.out;have hQ5:=(dE.blk _ (af HQ4.out) (by omega)).trans HQ4.out;have kA:Hid _:=ee.out.trans dE;have Mv:Hid _:=ho4
   have u1:w4.cell? ⟨S1,2,none⟩=some (.int .i64 P.b):=by rw[aa hA5];rfl
   have v1:w4.cell? ⟨S2,2,none⟩=some (.int .i64 Q.b):=by rw[aa hQ5];rfl
   have ul:=af hA5;have vl:=af hQ5;clear dE ho4 hA5 hQ5 HA4 HQ4 ee GW s1 t1 sl tl
   go_wp2_with fail
   refine Calls.mono (HM.out w4 _ P.b Q.b (Yy.trans hjl) (by omega) (by omega) kA.out Mv.out) ?_;rintro _ w5 ⟨rfl,eY,ho5⟩;have gB:Hid _:=kA.out.trans eY;rw[<- HR.out] at ho5;have QY:Hid _:=ho5;clear eY ho5 kA Mv HM u1 v1 ul vl
   go_wp2
   refine bodyPost_end (v:=.tuple #[]) (by simp[results,Tryz.results93,go_sem]) rfl ⟨rfl,gB.out,QY.out⟩
def Ty.has (T:Ty) (rg:Int):Bool:=T.u7.any (λx=>(x:Int)==rg)
theorem Rel.YA {tb:List TP} {D:List Ty} {K:List Nat} {T:List Ty} (h:Rel tb D K T) (r a b:Nat) (ha:a<=tb.length) (hb:b<=tb.length) (sa:(cR D a).size<=63) (sb:(cR D b).size<=63) :
  ∃ D',Rel (Go.Proofs.YtpicaknklgccoabGreatDoor.dH tb r a b).2 D' K T/\cR D' (Go.Proofs.YtpicaknklgccoabGreatDoor.dH tb r a b).1=.p r (cR D a) (cR D b)/\(Go.Proofs.YtpicaknklgccoabGreatDoor.dH tb r a b).1<=(Go.Proofs.YtpicaknklgccoabGreatDoor.dH tb r a b).2.length/\(∀ k,k<=tb.length->cR D' k=cR D k):=by
 unfold Go.Proofs.YtpicaknklgccoabGreatDoor.dH
 cases hf:tb.findIdx? (jR r a b) with
 | some i =>
  obtain⟨hi,hp,_⟩:=List.findIdx?_eq_some_iff_getElem.1 hf;simp only;unfold jR at hp;simp only[Bool.and_eq_true,beq_iff_eq] at hp;obtain⟨p,p1,p2,_⟩:=h.pair (i+1) (by omega) (by omega);rw[Nat.add_sub_cancel,List.getElem?_eq_getElem hi] at p1;simp only[Option.some.injEq] at p1;refine⟨D,h,?_,by omega,λ_ _=>rfl⟩;rw[p2,<- p1,hp.1.1,hp.1.2,hp.2]
 | none =>
  simp only;rw[List.findIdx?_eq_none_iff] at hf;have hD:=h.len;refine⟨D++[.p r (cR D a) (cR D b)],⟨by simp[hD],?_,?_,λx hx=>by have:=h.k x hx;simp;omega,?_,h.s⟩,?_,by simp,λk hk=>fH D _ k (by omega)⟩
  ·intro j p hj
   by_cases hjl:j<tb.length
   ·rw[List.getElem?_append_left hjl] at hj
    obtain⟨h1,h2,h3,h4,h5⟩:=h.at_ j p hj;rw[fH D _ p.a (by omega),fH D _ p.b (by omega),List.getElem?_append_left (by omega)];exact⟨h1,h2,h3,h4,h5⟩
   ·have Gf:j=tb.length:=by
     have:=(List.getElem?_eq_some_iff.1 hj).1;simp at this;omega
    subst Gf;rw[List.getElem?_append_right (Nat.le_refl _)] at hj;simp only[Nat.sub_self,List.getElem?_cons_zero,Option.some.injEq] at hj;subst hj;simp only;rw[fH D _ a (by omega),fH D _ b (by omega),List.getElem?_append_right (by omega),hD,Nat.sub_self,h.sz a ha,h.sz b hb];refine⟨ha,hb,rfl,by simp only[Ty.size];omega,by omega⟩
  ·intro i j p q hi hj e1 e2 e3
   have key:∀ (i:Nat) (p:TP),tb[i]?=some p->¬ (p.r=r/\p.a=a/\p.b=b):=by
    intro i p hi hh;have:=hf p (List.mem_of_getElem? hi);unfold jR at this;simp[hh.1,hh.2.1,hh.2.2] at this
   have last:∀ (i:Nat) (p:TP),(tb++[⟨r,a,b,1+(fW tb a).sz+(fW tb b).sz⟩])[i]?=some p->(tb[i]?=some p/\i<tb.length)\/(i=tb.length/\p.r=r/\p.a=a/\p.b=b):=by
    intro i p hi
    by_cases mG:i<tb.length
    ·rw[List.getElem?_append_left mG] at hi;exact Or.inl ⟨hi,mG⟩
    ·have hie:i=tb.length:=by
      have:=(List.getElem?_eq_some_iff.1 hi).1;simp at this;omega
     subst hie;rw[List.getElem?_append_right (Nat.le_refl _)] at hi;simp only[Nat.sub_self,List.getElem?_cons_zero,Option.some.injEq] at hi;subst hi;exact Or.inr ⟨rfl,rfl,rfl,rfl⟩
   rcases last i p hi with ⟨h1,_⟩ | ⟨h1,h2⟩
   ·rcases last j q hj with ⟨g1,_⟩ | ⟨g1,g2⟩
    ·exact h.nd i j p q h1 g1 e1 e2 e3
    ·exact absurd ⟨e1.trans g2.1,e2.trans g2.2.1,e3.trans g2.2.2⟩ (key i p h1)
   ·rcases last j q hj with ⟨g1,_⟩ | ⟨g1,g2⟩
    ·exact absurd ⟨e1.symm.trans h2.1,e2.symm.trans h2.2.1,e3.symm.trans h2.2.2⟩ (key j q g1)
    ·omega
  ·rw[<- h.t]
   apply List.map_congr_left
   intro x hx;exact fH D _ x (by have:=h.k x hx;omega)
  ·unfold cR
   rw[if_neg (by omega),Nat.add_sub_cancel,<- hD,List.getElem?_append_right (Nat.le_refl _)];simp
def GX:Ty->Ty
 | .n=>.n
 | .p _ a _=>a
def GY:Ty->Ty
 | .n=>.n
 | .p _ _ b=>b
def cH (T:List Ty) (n:NR):Ty :=
 if n.form=2 then ai T n.source
 else if n.form=12 then ai T n.p0
 else if n.form=3 then ai T n.p1
 else if n.form=7 then ai T n.p1
 else if n.form=11 then ai T n.p1
 else if n.form=4 then .p n.region.toNat (ai T n.p0) (ai T n.p1)
 else if n.form=5 then GX (ai T n.p0)
 else if n.form=6 then GY (ai T n.p0)
 else .n
theorem Nd (t:Ty):(GX t).size<=t.size:=by cases t <;> simp[GX,Ty.size];omega
theorem Nf (t:Ty):(GY t).size<=t.size:=by cases t <;> simp[GY,Ty.size];omega
theorem Ng {tb:List TP} {D:List Ty} {K:List Nat} {T:List Ty} (h:Rel tb D K T) (n:NR) (hs:n.form=4->(Ty.p 0 (ai T n.p0) (ai T n.p1)).size<=63) :
  ∃ D',Rel (iX tb K n n.region.toNat).2 D' (K++[(iX tb K n n.region.toNat).1]) (T++[cH T n]):=by
 obtain⟨a1,a2,a3⟩:=h.known n.p0;obtain⟨b1,b2,b3⟩:=h.known n.p1;obtain⟨s1,s2,s3⟩:=h.known n.source
 have push:∀ k,k<=tb.length->(cR D k).size<=63->∃ D',Rel tb D' (K++[k]) (T++[cR D k]):=λk hk hs=>⟨D,h.push k hk hs⟩
 have p0:∃ D',Rel tb D' (K++[0]) (T++[Ty.n]):=push 0 (Nat.zero_le _) (by simp[cR,Ty.size]);have hfs:=Nd (ai T n.p0);have iV:=Nf (ai T n.p0)
 have part:GX (ai T n.p0)=cR D (fW tb (au K n.p0)).a/\GY (ai T n.p0)=cR D (fW tb (au K n.p0)).b/\(fW tb (au K n.p0)).a<=tb.length/\(fW tb (au K n.p0)).b<=tb.length:=by
  by_cases hk:au K n.p0=0
  ·rw[a1,hk]
   refine⟨rfl,rfl,?_,?_⟩ <;> simp[fW]
  ·obtain⟨p,q1,q2,q3,q4,q5⟩:=h.pair (au K n.p0) hk a2
   rw[a1,q2,q5];exact⟨rfl,rfl,by omega,by omega⟩
 unfold iX cH
 by_cases k2:n.form=2
 ·rw[if_pos k2,if_pos k2,s1];exact push _ s2 (by rw[<- s1];exact s3)
 rw[if_neg k2,if_neg k2]
 by_cases k12:n.form=12
 ·rw[if_pos k12,if_pos k12,a1];exact push _ a2 (by rw[<- a1];exact a3)
 rw[if_neg k12,if_neg k12]
 by_cases k3:n.form=3
 ·rw[if_pos k3,if_pos k3,b1];exact push _ b2 (by rw[<- b1];exact b3)
 rw[if_neg k3,if_neg k3]
 by_cases k7:n.form=7
 ·rw[if_pos k7,if_pos k7,b1];exact push _ b2 (by rw[<- b1];exact b3)
 rw[if_neg k7,if_neg k7]
 by_cases k11:n.form=11
 ·rw[if_pos k11,if_pos k11,b1];exact push _ b2 (by rw[<- b1];exact b3)
 rw[if_neg k11,if_neg k11]
 by_cases k4:n.form=4
 ·rw[if_pos k4,if_pos k4]
  obtain⟨D',h1,h2,h3,_⟩:=h.YA n.region.toNat (au K n.p0) (au K n.p1) a2 b2 (by rw[<- a1];exact a3) (by rw[<- b1];exact b3);have Dv:=hs k4;refine⟨D',?_⟩;have:=h1.push _ h3 (by rw[h2,<- a1,<- b1];simpa [Ty.size] using Dv);rw[h2,<- a1,<- b1] at this;exact this
 rw[if_neg k4,if_neg k4]
 by_cases k5:n.form=5
 ·rw[if_pos k5,if_pos k5,part.1];exact push _ part.2.2.1 (by rw[<- part.1];omega)
 rw[if_neg k5,if_neg k5]
 by_cases k6:n.form=6
 ·rw[if_pos k6,if_pos k6,part.2.1];exact push _ part.2.2.2 (by rw[<- part.2.1];omega)
 rw[if_neg k6,if_neg k6];exact p0
theorem TC (r:Nat) (a b:Ty) (rg:Int):(Ty.p r a b).has rg=(((r:Int)==rg) || a.has rg || b.has rg):=by
 unfold Ty.has;simp only[Ty.u7,List.any_cons,List.any_append,Bool.or_assoc]
theorem wU {tb:List TP} {D:List Ty} {K:List Nat} {T:List Ty} (h:Rel tb D K T) (rg:Int):∀ (f k:Nat),k<f->k<=tb.length->jk tb f k rg=(cR D k).has rg
 | 0,k,h1,_=>by omega
 | f+1,k,h1,h2=>by
  simp only[jk]
  by_cases hk:k=0
  ·rw[if_pos (.inl hk),hk];rfl
  ·rw[if_neg (by omega)]
   obtain⟨p,q1,q2,q3,q4,q5⟩:=h.pair k hk h2;rw[q5,q2,TC,wU h rg f p.a (by omega) (by omega),wU h rg f p.b (by omega) (by omega)]
theorem Rel.low {tb:List TP} {D:List Ty} {K:List Nat} {T:List Ty} (h:Rel tb D K T):Yw tb:=by
 intro k
 by_cases hk:k<tb.length
 ·obtain⟨p,q1,q2,q3,q4,q5⟩:=h.pair (k+1) (by omega) (by omega)
  rw[q5];omega
 ·unfold fW
  rw[if_neg (by omega),List.getElem?_eq_none (by omega)];exact⟨Nat.zero_le _,Nat.zero_le _⟩
def uP (T:List Ty) (n:NR):Nat :=
 if n.form=7\/n.form=11 then (if ai T n.p1=ai T n.p2 then 0 else 9)
 else if n.form=12 then (if (ai T n.p0).has n.region=true then 10 else 0)
 else 0
theorem Vm {tb:List TP} {D:List Ty} {K:List Nat} {T:List Ty} (h:Rel tb D K T) (n:NR):Yx tb K n=uP T n:=by
 obtain⟨a1,a2,a3⟩:=h.known n.p0;obtain⟨b1,b2,b3⟩:=h.known n.p1;obtain⟨c1,c2,c3⟩:=h.known n.p2;unfold Yx uP
 have ebc:ai T n.p1=ai T n.p2↔au K n.p1=au K n.p2:=by rw[b1,c1];exact h.U6 b2 c2
 rw[wU h n.region _ _ (by omega) a2,<- a1];simp only[ebc]
def oV:List Ty->List NR->Nat × Nat
 | _,[]=>(0,0)
 | T,n::r=>if uP (T++[cH T n]) n≠0 then (uP (T++[cH T n]) n,n.at_) else oV (T++[cH T n]) r
def ij:List Ty->List NR->Prop
 | _,[]=>True
 | T,n::r=>(n.form=4->(Ty.p 0 (ai T n.p0) (ai T n.p1)).size<=63)/\ij (T++[cH T n]) r
def aU:List Ty->List NR->List Ty
 | T,[]=>T
 | T,n::r=>aU (T++[cH T n]) r
theorem eA:∀ (a b:List NR) (T:List Ty),aU T (a++b)=aU (aU T a) b
 | [],_,_=>rfl
 | n::r,b,T=>by simp only[List.cons_append,aU];exact eA r b _
theorem tN:∀ (a b:List NR) (T:List Ty),ij T a->ij (aU T a) b->ij T (a++b)
 | [],_,_,_,h=>h
 | n::r,b,T,h,h'=>by
  simp only[List.cons_append,ij] at h ⊢;exact⟨h.1,tN r b _ h.2 h'⟩
theorem tO:∀ (a b:List NR) (T:List Ty),oV T (a++b)=if (oV T a).1≠0 then oV T a else oV (aU T a) b
 | [],_,_=>by simp[oV,aU]
 | n::r,b,T=>by
  have e1:oV T (n::(r++b))=if uP (T++[cH T n]) n≠0 then (uP (T++[cH T n]) n,n.at_) else oV (T++[cH T n]) (r++b):=rfl
  have e2:oV T (n::r)=if uP (T++[cH T n]) n≠0 then (uP (T++[cH T n]) n,n.at_) else oV (T++[cH T n]) r:=rfl
  by_cases h:uP (T++[cH T n]) n≠0
  ·rw[if_pos h] at e1 e2;rw[List.cons_append,e1,e2,if_pos h]
  ·rw[if_neg h] at e1 e2;rw[List.cons_append,e1,e2,tO r b];rfl
end Go.Proofs.YtpicaknklgccoabGreatDoor
