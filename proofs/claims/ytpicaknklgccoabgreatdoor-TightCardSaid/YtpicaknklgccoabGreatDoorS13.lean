import Derived.Test.YtpicaknklgccoabGreatDoorS12
import Derived.Test.YtpicaknklgccoabGreatDoorS8
set_option maxHeartbeats 8000000
set_option maxRecDepth 100000
namespace Go.Proofs.YtpicaknklgccoabGreatDoor
open Go.RowKit
def Fc:NR:=⟨0,0,0,0,[],0,0,0,0,0⟩
def l8 (l:List NR) (rg:Int):Option NR:=l.find? (fun n=>n.region == rg)
theorem Jg (l:List NR) (rg:Int) (k:Nat) (hk:k < l.length):l8 (l.drop k) rg=if l[k].region == rg then some l[k] else l8 (l.drop (k+1)) rg:=by
 rw [List.drop_eq_getElem_cons hk]
 unfold l8
 rw [List.find?_cons]
 cases l[k].region == rg <;> rfl
theorem zV (w:World) (vv:Value) (l:List NR) (rg:Int) (base:Nat) (h:w.ownsRow base 108 10 vv l.length (l.flatMap qg)) (hl:l.length<=9000) :
  Calls Tryz.prog 65 #[vv,.int .i64 rg] w fun v w'=>v=.returned (.tuple #[aI ((l8 l rg).getD Fc),.bool (l8 l rg).isSome])/\Below w.heap.size w w':=by
 have h0:w.ownsRow 0 108 10 vv l.length (l.flatMap qg):=dn h (fun k hk=>Nat.zero_le _)
 clear h
 obtain ⟨ans,cQ⟩:∃ ans,ans=l8 l rg:=⟨_,rfl⟩
 rw [<- cQ]
 have j8:Hid _:=cQ
 clear cQ
 rcases h0.2 with ⟨hv,hn⟩ | ⟨g,cap,cur,hv,hx⟩
 ·subst hv
  have hA:ans=none:=by rw [j8.out,List.length_eq_zero_iff.1 hn];rfl
  subst hA
  clear h0 hn j8
  show Calls _ _ _ _ (fun v w'=>v=.returned (.tuple #[aI Fc,.bool false])/\Below w.heap.size w w')
  unfold aI Fc
  go_enter Tryz.func65,Tryz.ntmps65
  go_wp2
  go_loopw [6] (fun i wr=>i=.int .i64 0/\Below w.heap.size w wr/\wr=w.alloc (bU Fc)) (fun _ _=>0)
  case atStart=>exact ⟨rfl,(Below.refl _ w).alloc (Nat.le_refl _) _,rfl⟩
  case round =>
   obtain ⟨rfl,hb,rfl⟩:=hrel
   unfold bU za Fc
   go_wp2
   refine bodyPost_ret (v:=.tuple #[.agg #[.int .i64 0,.int .i64 0,.int .i64 0,.int .i64 0,.string (bs []),.int .i64 0,.int .i64 0,.int .i64 0,.int .i64 0,.int .i64 0],.bool false]) (by simp [results,Tryz.results65,go_sem];rfl) rfl ⟨rfl,?_⟩
   exact (Below.refl _ w).alloc (Nat.le_refl _) _
 ·subst hv
  have hcells:=fun k hk=>wz h0 k hk
  have hgl:g < w.heap.size:=(h0.lt g rfl).2
  obtain ⟨m,hm⟩:∃ m,m=l.length:=⟨_,rfl⟩
  have HM:Hid _:=hm
  have HC:Hid _:=hcells
  rw [<- hm] at hl ⊢
  clear hcells h0 hx hm
  unfold aI
  go_enter Tryz.func65,Tryz.ntmps65
  go_wp2
  go_loopw [6] (fun i wr=>∃ k:Nat,k<=m/\i=.int .i64 k/\wr=w.alloc (bU Fc)/\Hid (l8 l rg=l8 (l.drop k) rg)) (fun i _=>m - (intOf i).toNat)
  case atStart=>exact ⟨0,Nat.zero_le _,rfl,rfl,(rfl:l8 l rg=l8 (l.drop 0) rg)⟩
  case round =>
   obtain ⟨k,hk,rfl,rfl,HF⟩:=hrel
   unfold bU za Fc
   by_cases hlt:k < m
   ·have hkl:k < l.length:=by have:=HM.out;omega
    obtain ⟨c0,c1,c2,c3,c4,c5,c6,c7,c8,c9⟩:=HC.out k hkl
    have ml:=Jg l rg k hkl
    obtain ⟨n,hn⟩:∃ n,n=l[k]:=⟨_,rfl⟩
    rw [<- hn] at c0 c1 c2 c3 c4 c5 c6 c7 c8 c9 ml
    clear hn
    cases hr:(n.region == rg) with
    | true =>
     have HA:Hid (ans=some n):=(show ans=some n by rw [j8.out,HF.out,ml,if_pos hr])
     clear ml
     go_wp2
     refine bodyPost_ret (v:=.tuple #[.agg #[.int .i64 n.form,.int .i64 n.at_,.int .i64 n.aR,.int .i64 n.num,.string (bs n.word),.int .i64 n.region,.int .i64 n.source,.int .i64 n.p0,.int .i64 n.p1,.int .i64 n.p2],.bool true]) (by simp [results,Tryz.results65,go_sem]) rfl ⟨by rw [HA.out];rfl,?_⟩
     exact (Below.refl _ w).alloc (Nat.le_refl _) _
    | false =>
     have cx:Hid (l8 l rg=l8 (l.drop (k+1)) rg):=(show l8 l rg=_ by rw [HF.out,ml,if_neg (by rw [hr];simp)])
     clear ml
     go_wp2
     go_roundw
     case rel=>exact ⟨k+1,by omega,by go_num,rfl,cx.out⟩
     case measure=>simp [intOf];omega
   ·have HA:Hid (ans=none):=(show ans=none by rw [j8.out,HF.out,List.drop_eq_nil_of_le (by have:=HM.out;omega)];rfl)
    go_wp2
    refine bodyPost_ret (v:=.tuple #[.agg #[.int .i64 0,.int .i64 0,.int .i64 0,.int .i64 0,.string (bs []),.int .i64 0,.int .i64 0,.int .i64 0,.int .i64 0,.int .i64 0],.bool false]) (by simp [results,Tryz.results65,go_sem];rfl) rfl ⟨by rw [HA.out];rfl,?_⟩
    exact (Below.refl _ w).alloc (Nat.le_refl _) _
def dW:List NR->List NR->List NR × Nat × Nat
 | [],l=>(l,0,0)
 | n::r,l=>if n.form=12 then (if (l8 l n.region).isSome=true then (l,7,n.at_) else dW r (l++[n])) else dW r l
def bE (ns:List NR) (op:List Int):List NR:=op.map (fun x=>(ns[x.toNat]?).getD Fc)
theorem kP (ns:List NR) (op:List Int):(bE ns op).length=op.length:=List.length_map _
theorem A4 {ns:List NR} {op:List Int} (ho:wq ns op) (k:Nat) (hk:k < ns.length):∃ (i:Nat) (n:NR),op[k]?=some (i:Int)/\ns[i]?=some n/\(bE ns op).drop k=n::(bE ns op).drop (k+1)/\n∈bE ns op:=by
 have hkl:k < op.length:=by rw [ho.1];exact hk
 obtain ⟨x0,x1⟩:=ho.2 op[k] (List.getElem_mem hkl)
 have hx:ns[op[k].toNat]?=some ns[op[k].toNat]:=List.getElem?_eq_getElem x1
 refine ⟨op[k].toNat,ns[op[k].toNat],by rw [List.getElem?_eq_getElem hkl,Int.toNat_of_nonneg x0],hx,?_,?_⟩
 ·rw [List.drop_eq_getElem_cons (by rw [kP];exact hkl)]
  congr 1
  unfold bE
  rw [List.getElem_map,hx];rfl
 ·unfold bE
  rw [List.mem_map]
  exact ⟨op[k],List.getElem_mem hkl,by rw [hx];rfl⟩
theorem Fe (w:World) (nv ov:Value) (ns:List NR) (op:List Int) (h:bg w nv ov ns op) (ho:wq ns op) (hl:ns.length<=9000) :
  Calls Tryz.prog 45 #[aJ nv ov] w fun v w'=>∃ vv,v=.returned (.tuple #[vv,.int .i64 (dW (bE ns op) []).2.1,.int .i64 (dW (bE ns op) []).2.2])/\w'.ownsRow w.heap.size 108 10 vv (dW (bE ns op) []).1.length ((dW (bE ns op) []).1.flatMap qg)/\Below w.heap.size w w':=by
 obtain ⟨i0,hi0,hz0,hz1,hz2⟩:=info_parts Tryz.CC
 have HI:Hid _:=hi0
 have pZ:Hid _:=hz0
 have p8:Hid _:=hz1
 have p9:Hid _:=hz2
 clear hi0 hz0 hz1 hz2
 have hlen:=fun (w':World) (hb:Below w.heap.size w w')=>gJ w' nv ov ns op (h.below hb)
 have gO:=fun (w':World) (hb:Below w.heap.size w w') (k i:Nat) (n:NR) (hk:op[k]?=some (i:Int)) (hi:ns[i]?=some n)=>mS w' nv ov ns op (h.below hb) k i n hk hi hl (by rw [ho.1];omega)
 obtain ⟨a0,j7,e0⟩:=aF h.nd
 obtain ⟨a1,kO,e1⟩:=aF h.op
 rw [ho.1] at e1
 obtain ⟨m,hm⟩:∃ m,m=ns.length:=⟨_,rfl⟩
 rw [<- hm] at e0 e1 hl
 subst e0
 subst e1
 have HO:Hid _:=ho
 have HM:Hid _:=hm
 unfold aJ at hlen gO
 unfold aJ
 unfold aI at gO
 rw [<- hm] at hlen
 have l7:Hid _:=hlen
 have Ff:Hid _:=gO
 obtain ⟨ans,cQ⟩:∃ ans,ans=dW (bE ns op) []:=⟨_,rfl⟩
 rw [<- cQ]
 have j8:Hid _:=cQ
 clear hlen gO ho h hm cQ
 have Cg:Below w.heap.size w (w.alloc (.cells #[.slice a0 m j7,.slice a1 m kO] 62)):=(Below.refl _ w).alloc (Nat.le_refl _) _
 have dP:Hid _:=Cg
 clear Cg
 go_enter Tryz.func45,Tryz.ntmps45
 go_wp2
 obtain ⟨WB,qL⟩:∃ WB,WB=w.alloc (.cells #[.slice a0 m j7,.slice a1 m kO] 62):=⟨_,rfl⟩
 have CD:Hid (WB.heap.size=w.heap.size+1):=(show WB.heap.size=w.heap.size+1 by rw [qL];simp)
 have pQ:Hid (∀ wr,Below WB.heap.size WB wr->wr.cell? ⟨w.heap.size,0,none⟩=some (.slice a0 m j7)/\wr.cell? ⟨w.heap.size,1,none⟩=some (.slice a1 m kO)/\w.heap.size < wr.heap.size):=by
  intro wr hb
  rw [qL] at hb
  exact dm hb
 rw [<- qL] at dP ⊢
 have O8:Hid _:=qL
 clear qL
 go_loopw [5,6,7,8,9] (fun v5 i _ _ _ wr=>∃ (k:Nat) (l:List NR) (vv:Value),k<=m/\i=.int .i64 k/\v5=vv/\l.length<=k/\wr.ownsRow WB.heap.size 108 10 vv l.length (l.flatMap qg)/\Hid (dW (bE ns op) []=dW ((bE ns op).drop k) l)/\Below WB.heap.size WB wr) (fun _ i _ _ _ _=>m - (intOf i).toNat)
 case atStart =>
  refine ⟨0,[],_,Nat.zero_le _,rfl,rfl,Nat.le_refl _,⟨rfl,Or.inr ⟨w.heap.size+1,0,#[],rfl,by rw [CD.out];exact Nat.le_refl _,?_,Nat.le_refl _,by unfold maxLen;omega,rfl,rfl⟩⟩,(rfl:dW (bE ns op) []=dW ((bE ns op).drop 0) []),(Below.refl _ WB).alloc (Nat.le_refl _) _⟩
  rw [<- CD.out];exact aj _ _
 case round =>
  obtain ⟨k,l,_,hk,rfl,rfl,hlk,hown,HF,dF⟩:=hrel
  obtain ⟨b0,b1,bl⟩:=pQ.out _ dF
  have zg:=dP.out.trans (dF.mono dP.out.size)
  have il:=l7.out _ zg
  have l9:=dF.size
  by_cases hlt:k < m
  ·obtain ⟨i,n,hop,hni,ml,_⟩:=A4 HO.out k (by have:=HM.out;omega)
   have hst:=HF.out
   rw [ml] at hst
   simp only [dW] at hst
   have jf:Hid _:=hst
   have Jh:Hid _:=hop
   have WM:Hid _:=hni
   have dY:Hid _:=hown
   have iA:Hid _:=dF
   clear hop hni ml hst hown HF
   go_wp2_with fail
   refine il.mono ?_
   rintro _ w1 ⟨rfl,hb1⟩
   have jF:=dF.trans (hb1.mono l9)
   obtain ⟨d0,d1,dl⟩:=pQ.out _ jF
   have gO:=Ff.out w1 (dP.out.trans (jF.mono dP.out.size)) k i n Jh.out WM.out
   have dG:Hid _:=hb1
   clear jF hb1 il b0 b1 dF
   go_wp2_with fail
   refine gO.mono ?_
   rintro _ w2 ⟨rfl,hb2⟩
   have eH:Below wr.heap.size wr w2:=dG.out.trans (hb2.mono dG.out.size)
   have hW3:Below wr.heap.size wr (w2.alloc (bU n)):=eH.alloc eH.size (bU n)
   have hnb:(w2.alloc (bU n)).heap[w2.heap.size]?=some (bU n):=aj _ _
   have lD:=zV (w2.alloc (bU n)) u5 l n.region WB.heap.size (aB dY.out hW3) (by omega)
   have G5:Hid _:=hW3
   have KX:Hid _:=hnb
   clear hb2 eH hW3 hnb gO d0 d1
   by_cases h12:n.form=12
   ·have zQ:((n.form:Int) == 12)=true:=aH (b:=12) h12
    have hst:=jf.out
    rw [if_pos h12] at hst
    have eA:Hid _:=hst
    clear hst jf h12
    obtain ⟨x,hx⟩:∃ x,x=l8 l n.region:=⟨_,rfl⟩
    rw [<- hx] at lD eA
    obtain ⟨y,hy⟩:∃ y,y=x.getD Fc:=⟨_,rfl⟩
    rw [<- hy] at lD
    unfold aI at lD
    unfold bU za at lD
    clear hx hy
    go_wp2_with fail
    refine lD.mono ?_
    rintro _ w4 ⟨rfl,hb4⟩
    have Fg:w4.heap[w2.heap.size]?=some (bU n):=by rw [hb4.block _ (by simp)];exact KX.out
    obtain ⟨d0,d1,d2,d3,d4,d5,d6,d7,d8,d9⟩:=aC Fg
    have kN:=af Fg
    have V0:Below wr.heap.size wr w4:=G5.out.trans (hb4.mono G5.out.size)
    have V1:Hid _:=V0
    clear hb4 Fg lD V0
    cases x with
    | some z =>
     have HA:Hid (ans=(l,7,n.at_)):=(show ans=_ by rw [j8.out,eA.out];rfl)
     have pP:Hid (Below WB.heap.size WB (w4.alloc (bU y))):=by
      have:=iA.out.trans (V1.out.mono l9)
      exact this.alloc this.size _
     have KY:Hid ((w4.alloc (bU y)).ownsRow WB.heap.size 108 10 u5 l.length (l.flatMap qg)):=(aB dY.out V1.out).alloc _
     go_wp2
     go_quiet (fail)
     go_wp2
     refine bodyPost_ret (v:=.tuple #[u5,.int .i64 7,.int .i64 n.at_]) (by simp [results,Tryz.results45,go_sem]) rfl ⟨u5,by rw [HA.out];rfl,?_,?_⟩
     ·rw [HA.out]
      exact dn KY.out (fun k hk=>by have:=CD.out;have:=(World.ownsRow.lt KY.out k hk).1;omega)
     ·exact (dP.out.trans (pP.out.mono dP.out.size)).trans ⟨rfl,rfl,rfl,Nat.le_refl _,fun _ _=>rfl⟩
    | none =>
     have HN:Hid (dW (bE ns op) []=dW ((bE ns op).drop (k+1)) (l++[n])):=(show _=_ by rw [eA.out];rfl)
     have HW5:Hid (Below WB.heap.size WB ((w4.alloc (bU y)).alloc (bU n))):=by
      have:=iA.out.trans (V1.out.mono l9)
      have h2:=this.alloc this.size (bU y)
      exact h2.alloc h2.size _
     have PN:Hid (((w4.alloc (bU y)).alloc (bU n)).ownsRow WB.heap.size 108 10 u5 l.length (l.flatMap qg)):=((aB dY.out V1.out).alloc _).alloc _
     have h45:(w4.alloc (bU y)).heap.size=w4.heap.size+1:=by simp
     have zi:Hid (∀ (j:Nat) (u:Value),(qg n)[j]?=some u->((w4.alloc (bU y)).alloc (bU n)).cell? ((⟨w4.heap.size+1,0,none⟩:Addr).add j)=some u):=by
      intro j u hj
      have hq:=bJ (w4.alloc (bU y)) (qg n) 108 j
      rw [h45] at hq
      rw [<- hj,<- hq];rfl
     unfold bU za at PN zi HW5
     clear h45
     go_wp2_with (at_builtin;go_must (refine wpList_append_own _ rfl (.tmp 34) (.tmp 36) 60 rfl WB.heap.size 108 i0 _ 10 88 Tryz.CE HI.out pZ.out p8.out p9.out rfl (by decide) u5 l.length (l.flatMap qg) rfl PN.out ⟨w4.heap.size+1,0,none⟩ 1 1 (qg n) rfl rfl zi.out (LF n) ?c3 ?c4 ?c5 ?_))
     case c3=>unfold maxLen;omega
     case c4=>omega
     case c5=>have:=V1.out.size;first | omega | (simp;omega)
     intro v' w6 hown' hgrow hnil
     have Ch:Hid (Below WB.heap.size WB w6):=(HW5.out).grown hgrow HW5.out.size (fun b hb=>(World.ownsRow.lt PN.out b hb).1)
     have PO:Hid (w6.ownsRow WB.heap.size 108 10 v' (l++[n]).length ((l++[n]).flatMap qg)):=by
      show w6.ownsRow WB.heap.size 108 10 v' (l++[n]).length ((l++[n]).flatMap qg)
      rw [List.length_append,List.flatMap_append]
      simpa using hown'
     clear hown' hgrow hnil
     go_wp2
     go_roundw
     case rel=>exact ⟨k+1,l++[n],_,by omega,by go_num,rfl,by simp;omega,PO.out,HN.out,Ch.out⟩
     case measure=>simp [intOf];omega
   ·have zQ:((n.form:Int) == 12)=false:=ah (b:=12) h12
    have hst:=jf.out
    rw [if_neg h12] at hst
    have eA:Hid _:=hst
    have iV:Hid (Below WB.heap.size WB (w2.alloc (bU n))):=iA.out.trans (G5.out.mono l9)
    have Fh:Hid ((w2.alloc (bU n)).ownsRow WB.heap.size 108 10 u5 l.length (l.flatMap qg)):=aB dY.out G5.out
    unfold bU za at iV Fh
    clear hst jf h12 lD
    go_wp2
    go_roundw
    case rel=>exact ⟨k+1,l,_,by omega,by go_num,rfl,by omega,Fh.out,eA.out,iV.out⟩
    case measure=>simp [intOf];omega
  ·have HA:Hid (ans=(l,0,0)):=by
    have G6:(bE ns op).drop k=[]:=List.drop_eq_nil_of_le (by rw [kP];have:=HO.out.1;have:=HM.out;omega)
    rw [j8.out,HF.out,G6];exact rfl
   have iA:Hid _:=dF
   have dY:Hid _:=hown
   clear dF hown
   go_wp2_with fail
   refine il.mono ?_
   rintro _ w1 ⟨rfl,hb1⟩
   have dG:Hid _:=dP.out.trans ((iA.out.trans (hb1.mono l9)).mono dP.out.size)
   have RZ:Hid _:=aB dY.out hb1
   clear hb1 il
   go_wp2
   refine bodyPost_ret (v:=.tuple #[u5,.int .i64 0,.int .i64 0]) (by simp [results,Tryz.results45,go_sem]) rfl ⟨u5,by rw [HA.out];rfl,?_,dG.out⟩
   rw [HA.out]
   exact dn RZ.out (fun k hk=>by have:=CD.out;have:=(World.ownsRow.lt RZ.out k hk).1;omega)
def mE (l:List NR):List NR->Nat × Nat
 | []=>(0,0)
 | n::r=>if n.form=4 then (match l8 l n.region with
   | some o=>if n.at_ < o.at_\/o.aR<=n.at_ then (8,n.at_) else mE l r
   | none=>mE l r) else mE l r
theorem CF (w:World) (nv ov vv:Value) (ns:List NR) (op:List Int) (l:List NR) (base:Nat) (h:bg w nv ov ns op) (ho:wq ns op) (hl:ns.length<=9000) (hown:w.ownsRow base 108 10 vv l.length (l.flatMap qg)) (hll:l.length<=9000) :
  Calls Tryz.prog 46 #[aJ nv ov,vv] w fun v w'=>v=.returned (.tuple #[.int .i64 (mE l (bE ns op)).1,.int .i64 (mE l (bE ns op)).2])/\Below w.heap.size w w':=by
 have hlen:=fun (w':World) (hb:Below w.heap.size w w')=>gJ w' nv ov ns op (h.below hb)
 have gO:=fun (w':World) (hb:Below w.heap.size w w') (k i:Nat) (n:NR) (hk:op[k]?=some (i:Int)) (hi:ns[i]?=some n)=>mS w' nv ov ns op (h.below hb) k i n hk hi hl (by rw [ho.1];omega)
 have WN:=fun (w':World) (hb:Below w.heap.size w w') (rg:Int)=>zV w' vv l rg base (aB hown hb) hll
 obtain ⟨a0,j7,e0⟩:=aF h.nd
 obtain ⟨a1,kO,e1⟩:=aF h.op
 rw [ho.1] at e1
 obtain ⟨m,hm⟩:∃ m,m=ns.length:=⟨_,rfl⟩
 rw [<- hm] at e0 e1 hl
 subst e0
 subst e1
 have HO:Hid _:=ho
 have HM:Hid _:=hm
 unfold aJ at hlen gO
 unfold aJ
 unfold aI at gO
 rw [<- hm] at hlen
 have l7:Hid _:=hlen
 have Ff:Hid _:=gO
 have aag:Hid _:=WN
 obtain ⟨ans,cQ⟩:∃ ans,ans=mE l (bE ns op):=⟨_,rfl⟩
 rw [<- cQ]
 have j8:Hid _:=cQ
 clear hlen gO WN ho h hm cQ hown hll
 have Cg:Below w.heap.size w (w.alloc (.cells #[.slice a0 m j7,.slice a1 m kO] 62)):=(Below.refl _ w).alloc (Nat.le_refl _) _
 have dP:Hid _:=Cg
 clear Cg
 go_enter Tryz.func46,Tryz.ntmps46
 go_wp2
 obtain ⟨WB,qL⟩:∃ WB,WB=w.alloc (.cells #[.slice a0 m j7,.slice a1 m kO] 62):=⟨_,rfl⟩
 have pQ:Hid (∀ wr,Below WB.heap.size WB wr->wr.cell? ⟨w.heap.size,0,none⟩=some (.slice a0 m j7)/\wr.cell? ⟨w.heap.size,1,none⟩=some (.slice a1 m kO)/\w.heap.size < wr.heap.size):=by
  intro wr hb
  rw [qL] at hb
  exact dm hb
 rw [<- qL] at dP ⊢
 clear qL
 go_loopw [6,7,8,9] (fun i _ _ _ wr=>∃ (k:Nat),k<=m/\i=.int .i64 k/\Hid (mE l (bE ns op)=mE l ((bE ns op).drop k))/\Below WB.heap.size WB wr) (fun i _ _ _ _=>m - (intOf i).toNat)
 case atStart=>exact ⟨0,Nat.zero_le _,rfl,(rfl:mE l (bE ns op)=mE l ((bE ns op).drop 0)),Below.refl _ _⟩
 case round =>
  obtain ⟨k,hk,rfl,HF,dF⟩:=hrel
  obtain ⟨b0,b1,bl⟩:=pQ.out _ dF
  have zg:=dP.out.trans (dF.mono dP.out.size)
  have il:=l7.out _ zg
  have l9:=dF.size
  by_cases hlt:k < m
  ·obtain ⟨i,n,hop,hni,ml,_⟩:=A4 HO.out k (by have:=HM.out;omega)
   have hst:=HF.out
   rw [ml] at hst
   simp only [mE] at hst
   have jf:Hid _:=hst
   have Jh:Hid _:=hop
   have WM:Hid _:=hni
   have iA:Hid _:=dF
   clear hop hni ml hst HF
   go_wp2_with fail
   refine il.mono ?_
   rintro _ w1 ⟨rfl,hb1⟩
   have jF:=dF.trans (hb1.mono l9)
   obtain ⟨d0,d1,dl⟩:=pQ.out _ jF
   have gO:=Ff.out w1 (dP.out.trans (jF.mono dP.out.size)) k i n Jh.out WM.out
   have dG:Hid _:=hb1
   clear jF hb1 il b0 b1 dF
   go_wp2_with fail
   refine gO.mono ?_
   rintro _ w2 ⟨rfl,hb2⟩
   have eH:Below wr.heap.size wr w2:=dG.out.trans (hb2.mono dG.out.size)
   have hW3:Below wr.heap.size wr (w2.alloc (bU n)):=eH.alloc eH.size (bU n)
   have hnb:(w2.alloc (bU n)).heap[w2.heap.size]?=some (bU n):=aj _ _
   have lD:=aag.out (w2.alloc (bU n)) (dP.out.trans ((iA.out.trans (hW3.mono l9)).mono dP.out.size)) n.region
   have G5:Hid _:=hW3
   have KX:Hid _:=hnb
   clear hb2 eH hW3 hnb gO d0 d1
   by_cases h4:n.form=4
   ·have q4:((n.form:Int) == 4)=true:=aH (b:=4) h4
    have hst:=jf.out
    rw [if_pos h4] at hst
    have eA:Hid _:=hst
    clear hst jf h4
    obtain ⟨x,hx⟩:∃ x,x=l8 l n.region:=⟨_,rfl⟩
    rw [<- hx] at lD eA
    obtain ⟨y,hy⟩:∃ y,y=x.getD Fc:=⟨_,rfl⟩
    rw [<- hy] at lD
    have HY:Hid _:=hy
    unfold aI at lD
    unfold bU za at lD
    clear hx hy
    go_wp2_with fail
    refine lD.mono ?_
    rintro _ w4 ⟨rfl,hb4⟩
    have Fg:w4.heap[w2.heap.size]?=some (bU n):=by rw [hb4.block _ (by simp)];exact KX.out
    obtain ⟨d0,d1,d2,d3,d4,d5,d6,d7,d8,d9⟩:=aC Fg
    have kN:=af Fg
    have V0:Below wr.heap.size wr w4:=G5.out.trans (hb4.mono G5.out.size)
    have V1:Hid _:=V0
    have pP:Hid (Below WB.heap.size WB (w4.alloc (bU y))):=by
     have:=iA.out.trans (V0.mono l9)
     exact this.alloc this.size _
    clear hb4 Fg lD V0
    cases x with
    | some z =>
     have hyz:y=z:=HY.out
     subst hyz
     clear HY
     by_cases h1:n.at_ < y.at_
     ·have HA:Hid (ans=(8,n.at_)):=(show ans=_ by rw [j8.out,eA.out];simp [h1])
      have hz:(n.at_:Int) < (y.at_:Int):=by omega
      have hzd:decide ((n.at_:Int) < (y.at_:Int))=true:=by simpa using hz
      go_wp2
      go_quiet (fail)
      go_wp2
      refine bodyPost_ret (v:=.tuple #[.int .i64 8,.int .i64 n.at_]) (by simp [results,Tryz.results46,go_sem]) rfl ⟨by rw [HA.out];rfl,?_⟩
      exact (dP.out.trans (pP.out.mono dP.out.size)).trans ⟨rfl,rfl,rfl,Nat.le_refl _,fun _ _=>rfl⟩
     ·have hz:¬ (n.at_:Int) < (y.at_:Int):=by omega
      have hzd:decide ((n.at_:Int) < (y.at_:Int))=false:=by simpa using hz
      by_cases h2:y.aR<=n.at_
      ·have HA:Hid (ans=(8,n.at_)):=(show ans=_ by rw [j8.out,eA.out];simp [h2])
       have hz2:(y.aR:Int)<=(n.at_:Int):=by omega
       go_wp2
       go_quiet (fail)
       go_wp2
       refine bodyPost_ret (v:=.tuple #[.int .i64 8,.int .i64 n.at_]) (by simp [results,Tryz.results46,go_sem]) rfl ⟨by rw [HA.out];rfl,?_⟩
       exact (dP.out.trans (pP.out.mono dP.out.size)).trans ⟨rfl,rfl,rfl,Nat.le_refl _,fun _ _=>rfl⟩
      ·have HN:Hid (mE l (bE ns op)=mE l ((bE ns op).drop (k+1))):=(show _=_ by rw [eA.out];simp [h1,h2])
       have hz2:¬ (y.aR:Int)<=(n.at_:Int):=by omega
       have aby:decide ((y.aR:Int)<=(n.at_:Int))=false:=by simpa using hz2
       clear eA
       go_wp2
       go_roundw
       case rel=>exact ⟨k+1,by omega,by go_num,HN.out,pP.out⟩
       case measure=>simp [intOf];omega
    | none =>
     have HN:Hid (mE l (bE ns op)=mE l ((bE ns op).drop (k+1))):=(show _=_ by rw [eA.out])
     go_wp2
     go_roundw
     case rel=>exact ⟨k+1,by omega,by go_num,HN.out,pP.out⟩
     case measure=>simp [intOf];omega
   ·have q4:((n.form:Int) == 4)=false:=ah (b:=4) h4
    have hst:=jf.out
    rw [if_neg h4] at hst
    have eA:Hid _:=hst
    have iV:Hid (Below WB.heap.size WB (w2.alloc (bU n))):=iA.out.trans (G5.out.mono l9)
    unfold bU za at iV
    clear hst jf h4 lD
    go_wp2
    go_roundw
    case rel=>exact ⟨k+1,by omega,by go_num,eA.out,iV.out⟩
    case measure=>simp [intOf];omega
  ·have HA:Hid (ans=(0,0)):=by
    have G6:(bE ns op).drop k=[]:=List.drop_eq_nil_of_le (by rw [kP];have:=HO.out.1;have:=HM.out;omega)
    rw [j8.out,HF.out,G6];exact rfl
   have iA:Hid _:=dF
   clear dF
   go_wp2_with fail
   refine il.mono ?_
   rintro _ w1 ⟨rfl,hb1⟩
   have dG:Hid _:=dP.out.trans ((iA.out.trans (hb1.mono l9)).mono dP.out.size)
   clear hb1 il
   go_wp2
   refine bodyPost_ret (v:=.tuple #[.int .i64 0,.int .i64 0]) (by simp [results,Tryz.results46,go_sem]) rfl ⟨by rw [HA.out];rfl,dG.out⟩
def iD (tb:List TP):Nat->Nat->Int->Bool
 | 0,_,_=>false
 | f+1,k,rg=>if k=0\/tb.length < k then false else (((fD tb k).r:Int) == rg) || iD tb f (fD tb k).a rg || iD tb f (fD tb k).b rg
def WO (tb:List TP):Prop:=∀ k,(fD tb (k+1)).a<=k/\(fD tb (k+1)).b<=k
theorem qi (cb o:Nat) (pv:Value) (tb:List TP) (hl:tb.length<=9000) (hlow:WO tb) (rg:Int):∀ (f k:Nat),k < f->k<=10000->∀ (w:World),w.cell? ⟨cb,o,none⟩=some pv->w.ownsRow 0 146 4 pv tb.length (tb.flatMap Ci) ->
  Calls Tryz.prog 87 #[.pointer (some ⟨cb,o,none⟩),.int .i64 k,.int .i64 rg] w fun v w'=>v=.returned (.bool (iD tb f k rg))/\Below w.heap.size w w':=by
 intro f
 induction f with
 | zero=>intro k hk;omega
 | succ f ih =>
  intro k Fj hk w hc hr
  have yQ:=World.block_lt_of_cell? _ _ hc
  show Calls _ _ #[Value.pointer (some ⟨cb,o,none⟩),_,_] w _
  by_cases h0:k=0\/tb.length < k
  ·have e:iD tb (f+1) k rg=false:=by simp only [iD];rw [if_pos h0]
   rw [e]
   obtain ⟨a,cap,rfl⟩:=aF hr
   generalize tb.length=m at *
   clear hr e ih hlow
   rcases h0 with h0 | h0
   ·have h0':k < 1:=by omega
    clear h0
    go_enter Tryz.func87,Tryz.ntmps87
    go_wp2
    go_ret
    exact ⟨rfl,Below.refl _ _⟩
   ·have h1:1<=k:=by omega
    go_enter Tryz.func87,Tryz.ntmps87
    go_wp2
    go_ret
    exact ⟨rfl,Below.refl _ _⟩
  ·have hrec:∀ (k':Nat),k' < k->∀ w',Below w.heap.size w w'->Calls Tryz.prog 87 #[.pointer (some ⟨cb,o,none⟩),.int .i64 k',.int .i64 rg] w' fun v w''=>v=.returned (.bool (iD tb f k' rg))/\Below w'.heap.size w' w'':=by
    intro k' hk' w' hb
    exact ih k' (by omega) (by omega) w' (by rw [hb.cell (p:=⟨cb,o,none⟩) yQ];exact hc) (aB hr hb)
   have hm:iD tb (f+1) k rg=((((fD tb k).r:Int) == rg) || iD tb f (fD tb k).a rg || iD tb f (fD tb k).b rg):=by simp only [iD];rw [if_neg h0]
   obtain ⟨g,cap,rfl⟩:=fK hr (by omega)
   obtain ⟨j,rfl⟩:∃ j,k=j+1:=⟨k - 1,by omega⟩
   have hj:j < tb.length:=by omega
   obtain ⟨p,hp⟩:∃ p,tb[j]?=some p:=⟨tb[j],List.getElem?_eq_getElem hj⟩
   have e:fD tb (j+1)=p:=by unfold fD;rw [if_neg (by omega),Nat.add_sub_cancel,hp];rfl
   have hlo:=hlow j
   rw [e] at hm hlo
   obtain ⟨c0,c1,c2,c3⟩:=wA hr j p hp
   have hg:g < w.heap.size:=(hr.lt g rfl).2
   have ej:((j+1:Nat):Int)=(j:Int)+1:=by omega
   have ej2:(j:Int)+1 - 1=(j:Int):=by omega
   have R1:=hrec p.a (by omega)
   have G7:=hrec p.b (by omega)
   have V2:Hid _:=R1
   have PQ:Hid _:=G7
   obtain ⟨ma,hma⟩:∃ ma,ma=iD tb f p.a rg:=⟨_,rfl⟩
   obtain ⟨mb,nR⟩:∃ mb,mb=iD tb f p.b rg:=⟨_,rfl⟩
   rw [<- hma] at V2 hm
   rw [<- nR] at PQ hm
   obtain ⟨R,hR⟩:∃ R,R=iD tb (f+1) (j+1) rg:=⟨_,rfl⟩
   rw [<- hR] at hm ⊢
   generalize tb.length=m at *
   have dP:Hid (Below w.heap.size w (w.alloc (.cells #[.int .i64 p.r,.int .i64 p.a,.int .i64 p.b,.int .i64 p.sz] 146))):=(Below.refl _ _).alloc (Nat.le_refl _) _
   have HM:Hid _:=hm
   clear hr e hp h0 hrec R1 G7 ih hlow hma nR hR hm hlo
   rw [ej]
   cases hq:((p.r:Int) == rg) with
   | true =>
    have HR:Hid (R=true):=(show R=true by rw [HM.out,hq];rfl)
    clear HM
    go_enter Tryz.func87,Tryz.ntmps87
    go_wp2
    go_ret
    exact ⟨by rw [HR.out];first | done | rfl,dP.out⟩
   | false =>
    go_enter Tryz.func87,Tryz.ntmps87
    go_wp2_with fail
    refine (V2.out _ dP.out).mono ?_
    rintro _ w2 ⟨rfl,hb2⟩
    have rS:w2.heap[w.heap.size]?=some (.cells #[.int .i64 p.r,.int .i64 p.a,.int .i64 p.b,.int .i64 p.sz] 146 (0,0)):=by rw [hb2.block _ (by simp)];exact aj _ _
    have d2:w2.cell? ⟨w.heap.size,2,none⟩=some (.int .i64 p.b):=by rw [aa rS];rfl
    have hpl:=af rS
    have hW2:Below w.heap.size w w2:=dP.out.trans (hb2.mono dP.out.size)
    have ZA:Hid _:=hW2
    clear hb2 rS hW2
    cases ma with
    | true =>
     have HR:Hid (R=true):=(show R=true by rw [HM.out,hq];rfl)
     clear HM
     go_wp2
     go_ret
     exact ⟨by rw [HR.out];first | done | rfl,ZA.out⟩
    | false =>
     have HR:Hid (R=mb):=(show R=mb by rw [HM.out,hq];rfl)
     clear HM
     go_wp2_with fail
     refine (PQ.out _ ZA.out).mono ?_
     rintro _ w3 ⟨rfl,hb3⟩
     have iV:Hid (Below w.heap.size w w3):=ZA.out.trans (hb3.mono ZA.out.size)
     clear hb3
     go_wp2
     go_ret
     exact ⟨by rw [HR.out];first | done | rfl,iV.out⟩
theorem A5 (cb:Nat) (pv:Value) (tb:List TP) (hl:tb.length<=9000) (hlow:WO tb) (rg:Int):∀ (f k:Nat),k < f->k<=10000->∀ (w:World),w.cell? ⟨cb,0,none⟩=some pv->w.ownsRow 0 146 4 pv tb.length (tb.flatMap Ci) ->
  Calls Tryz.prog 87 #[ptr cb,.int .i64 k,.int .i64 rg] w fun v w'=>v=.returned (.bool (iD tb f k rg))/\Below w.heap.size w w' :=
 qi cb 0 pv tb hl hlow rg
def WQ (tb:List TP) (K:List Nat) (n:NR):Nat :=
 if n.form=7\/n.form=11 then (if au K n.p1=au K n.p2 then 0 else 9)
 else if n.form=12 then (if iD tb (tb.length+1) (au K n.p0) n.region=true then 10 else 0)
 else 0
theorem A6 (w:World) (cb:Nat) (pv tv:Value) (tb:List TP) (K:List Nat) (n:NR) (h:A1 cb w pv tv tb K) (hlow:WO tb) (hl:tb.length<=9000) (hK:K.length<=9000) (hkn:au K n.p0<=tb.length) (oU:-10<=n.p0/\n.p0<=10000) (gI:-10<=n.p1/\n.p1<=10000) (vA:-10<=n.p2/\n.p2<=10000) :
  Calls Tryz.prog 66 #[aI n,ptr cb] w fun v w'=>v=.returned (.int .i64 (WQ tb K n))/\Below w.heap.size w w':=by
 have hbx:Below w.heap.size w (w.alloc (bU n)):=(Below.refl _ _).alloc (Nat.le_refl _) _
 have hin:=h.below hbx
 have pX:=ku (w.alloc (bU n)) cb pv tv tb K n.p0 hin hK oU
 have hk1:=ku (w.alloc (bU n)) cb pv tv tb K n.p1 hin hK gI
 have hk2:=ku (w.alloc (bU n)) cb pv tv tb K n.p2 hin hK vA
 have tD:=af hin.y
 have hm:=fun (w':World) (hb:Below (w.alloc (bU n)).heap.size (w.alloc (bU n)) w')=>A5 cb pv tb hl hlow n.region (tb.length+1) (au K n.p0) (by omega) (by omega) w' (by rw [hb.cell (p:=⟨cb,0,none⟩) tD,aa hin.y];rfl) (aB hin.p hb)
 have dP:Hid _:=hbx
 have iY:Hid (WQ tb K n=if n.form=7\/n.form=11 then (if au K n.p1=au K n.p2 then 0 else 9)
  else if n.form=12 then (if iD tb (tb.length+1) (au K n.p0) n.region=true then 10 else 0) else 0):=rfl
 obtain ⟨R,hR⟩:∃ R,R=WQ tb K n:=⟨_,rfl⟩
 rw [<- hR] at iY ⊢
 obtain ⟨mv,hmv⟩:∃ mv,mv=iD tb (tb.length+1) (au K n.p0) n.region:=⟨_,rfl⟩
 rw [<- hmv] at iY hm
 clear hR h hin hbx hmv
 unfold ptr at pX hk1 hk2 hm
 unfold aI
 unfold bU za at pX hk1 hk2 hm dP
 have Lu:Hid _:=pX
 have E7:Hid _:=hk1
 have nQ:Hid _:=hk2
 have PR:Hid _:=hm
 have abz:cb < w.heap.size+1:=by simpa using tD
 clear pX hk1 hk2 hm hkn tD
 generalize au K n.p0=ka at *
 generalize au K n.p1=kb at *
 generalize au K n.p2=kc at *
 show Calls _ _ #[_,Value.pointer (some ⟨cb,0,none⟩)] w _
 by_cases k7:n.form=7\/n.form=11
 ·have HQ:Hid (R=if kb=kc then 0 else 9):=(show R=_ by rw [iY.out,if_pos k7])
  have q7:((n.form:Int) == 7)=true\/(((n.form:Int) == 7)=false/\((n.form:Int) == 11)=true):=by
   rcases k7 with h | h
   ·exact .inl (aH (b:=7) h)
   ·exact .inr ⟨ah (b:=7) (by omega),aH (b:=11) h⟩
  clear iY k7 PR
  by_cases hc:kb=kc
  ·have e1:((kb:Int) == (kc:Int))=true:=by rw [hc];simp
   have HR:Hid (R=0):=by rw [HQ.out,if_pos hc];exact rfl
   clear hc HQ
   rcases q7 with q7 | ⟨q7,zb⟩
   all_goals
    go_enter Tryz.func66,Tryz.ntmps66
    go_wp2_with fail
    refine Calls.mono Lu.out ?_
    rintro _ _ ⟨rfl,rfl⟩
    go_wp2_with fail
    refine Calls.mono E7.out ?_
    rintro _ _ ⟨rfl,rfl⟩
    go_wp2_with fail
    refine Calls.mono nQ.out ?_
    rintro _ _ ⟨rfl,rfl⟩
    go_wp2
    go_ret
    exact ⟨by rw [HR.out];first | done | rfl,dP.out⟩
  ·have e1:((kb:Int) == (kc:Int))=false:=by rw [beq_eq_false_iff_ne];omega
   have HR:Hid (R=9):=by rw [HQ.out,if_neg hc];exact rfl
   clear hc HQ
   rcases q7 with q7 | ⟨q7,zb⟩
   all_goals
    go_enter Tryz.func66,Tryz.ntmps66
    go_wp2_with fail
    refine Calls.mono Lu.out ?_
    rintro _ _ ⟨rfl,rfl⟩
    go_wp2_with fail
    refine Calls.mono E7.out ?_
    rintro _ _ ⟨rfl,rfl⟩
    go_wp2_with fail
    refine Calls.mono nQ.out ?_
    rintro _ _ ⟨rfl,rfl⟩
    go_wp2
    go_ret
    exact ⟨by rw [HR.out];first | done | rfl,dP.out⟩
 ·have q7:((n.form:Int) == 7)=false:=ah (b:=7) (by omega)
  have zb:((n.form:Int) == 11)=false:=ah (b:=11) (by omega)
  by_cases k12:n.form=12
  ·have zQ:((n.form:Int) == 12)=true:=aH (b:=12) k12
   have HQ:Hid (R=if mv=true then 10 else 0):=(show R=_ by rw [iY.out,if_neg k7,if_pos k12])
   clear iY k7 k12
   go_enter Tryz.func66,Tryz.ntmps66
   go_wp2_with fail
   refine Calls.mono Lu.out ?_
   rintro _ _ ⟨rfl,rfl⟩
   go_wp2_with fail
   refine Calls.mono E7.out ?_
   rintro _ _ ⟨rfl,rfl⟩
   go_wp2_with fail
   refine Calls.mono nQ.out ?_
   rintro _ _ ⟨rfl,rfl⟩
   go_wp2
   go_region_with (go_at_call 87;refine (PR.out _ ?_).mono ?_;exact ⟨rfl,rfl,rfl,Nat.le_refl _,fun _ _=>rfl⟩;rintro e w5 ⟨rfl,mF⟩)
   all_goals
    have CG:Hid (Below w.heap.size w w5):=dP.out.trans (⟨mF.os,mF.tape,mF.output,mF.size,fun k hk=>mF.block k (by have h2:k < w.heap.size:=hk;simp [World.drew] at *;omega)⟩)
    clear mF
    cases mv with
    | true =>
     have HR:Hid (R=10):=(show R=10 by rw [HQ.out];rfl)
     go_wp2
     go_ret
     exact ⟨by rw [HR.out];first | done | rfl,CG.out⟩
    | false =>
     have HR:Hid (R=0):=(show R=0 by rw [HQ.out];rfl)
     go_wp2
     go_ret
     exact ⟨by rw [HR.out];first | done | rfl,CG.out⟩
  ·have zQ:((n.form:Int) == 12)=false:=ah (b:=12) k12
   have HR:Hid (R=0):=(show R=0 by rw [iY.out,if_neg k7,if_neg k12])
   clear iY k7 k12 PR
   go_enter Tryz.func66,Tryz.ntmps66
   go_wp2_with fail
   refine Calls.mono Lu.out ?_
   rintro _ _ ⟨rfl,rfl⟩
   go_wp2_with fail
   refine Calls.mono E7.out ?_
   rintro _ _ ⟨rfl,rfl⟩
   go_wp2_with fail
   refine Calls.mono nQ.out ?_
   rintro _ _ ⟨rfl,rfl⟩
   go_wp2
   go_ret
   exact ⟨by rw [HR.out];first | done | rfl,dP.out⟩
theorem fo (E:List Nat) (x y:Nat):(jd E x y).length=E.length:=by unfold jd;split <;> simp
def mc (tb:List TP):Nat->List Nat->Nat->Nat->List Nat
 | 0,E,_,_=>E
 | f+1,E,x,y=>if x=y\/x=0\/y=0 then E else mc tb f (mc tb f (jd E (fD tb x).r (fD tb y).r) (fD tb x).a (fD tb y).a) (fD tb x).b (fD tb y).b
theorem qM (tb:List TP):∀ (f:Nat) (E:List Nat) (x y:Nat),(mc tb f E x y).length=E.length
 | 0,_,_,_=>rfl
 | f+1,E,x,y=>by
  simp only [mc]
  split
  ·rfl
  ·rw [qM tb f,qM tb f,fo]
structure yS (g:Nat) (w w':World):Prop where
 os:w'.os=w.os
 tape:w'.tape=w.tape
 output:w'.output=w.output
 size:w.heap.size<=w'.heap.size
 blk:∀ k,k < w.heap.size->k≠g->w'.heap[k]?=w.heap[k]?
theorem yS.trans {g:Nat} {w w1 w2:World} (h:yS g w w1) (h':yS g w1 w2):yS g w w2 :=
 ⟨h'.os.trans h.os,h'.tape.trans h.tape,h'.output.trans h.output,Nat.le_trans h.size h'.size,fun k hk hg=>(h'.blk k (Nat.lt_of_lt_of_le hk h.size) hg).trans (h.blk k hk hg)⟩
theorem yS.below {w w':World} (g:Nat) (h:Below w.heap.size w w'):yS g w w':=⟨h.os,h.tape,h.output,h.size,fun k hk _=>h.block k hk⟩
theorem yS.set (g k:Nat) (w:World) (v:Value):yS g w (w.setCell ⟨g,k,none⟩ v):=⟨rfl,rfl,rfl,by simp [World.setCell],fun j _ hg=>ak _ _ (by simpa using hg)⟩
theorem yS.cell {g:Nat} {w w':World} (h:yS g w w') {b o:Nat} (hb:b < w.heap.size) (hg:b≠g):w'.cell? ⟨b,o,none⟩=w.cell? ⟨b,o,none⟩:=by
 unfold World.cell?
 simp only [h.blk b hb hg]
theorem Ji (sb g cap:Nat) (pv:Value) (tb:List TP) (hl:tb.length<=9000) (hlow:WO tb) (hgs:g≠sb) (A7:pv.ownBlock≠some g):∀ (f x y:Nat) (E:List Nat) (w:World),x < f->x<=10000->y<=10000->E.length<=9000->(∀ k,(fD tb k).r < E.length) ->
  w.cell? ⟨sb,0,none⟩=some pv->w.cell? ⟨sb,2,none⟩=some (.slice (some ⟨g,0,none⟩) E.length cap)->w.ownsRow 0 146 4 pv tb.length (tb.flatMap Ci)->w.ownsRow 0 3 1 (.slice (some ⟨g,0,none⟩) E.length cap) E.length (cF E) ->
  Calls Tryz.prog 93 #[ptr sb,.int .i64 x,.int .i64 y] w fun v w'=>v=.returned (.tuple #[])/\yS g w w'/\w'.ownsRow 0 3 1 (.slice (some ⟨g,0,none⟩) E.length cap) E.length (cF (mc tb f E x y)):=by
 intro f
 induction f with
 | zero=>intro x y E w hx;omega
 | succ f ih =>
  intro x y E w hxf hx hy hE hr hc0 hc2 hp he
  have hsb:=World.block_lt_of_cell? _ _ hc0
  show Calls _ _ #[Value.pointer (some ⟨sb,0,none⟩),_,_] w _
  obtain ⟨R,hR⟩:∃ R,R=mc tb (f+1) E x y:=⟨_,rfl⟩
  rw [<- hR]
  simp only [mc] at hR
  by_cases h0:x=y\/x=0\/y=0
  ·rw [if_pos h0] at hR
   subst hR
   have HE:Hid _:=he
   clear he ih hp hr
   rcases h0 with h0 | h0 | h0
   ·have q1:((x:Int) == (y:Int))=true:=by rw [h0];simp
    clear h0
    go_enter Tryz.func93,Tryz.ntmps93
    go_wp2
    refine bodyPost_ret (v:=.tuple #[]) (by simp [results,Tryz.results93,go_sem]) rfl ⟨rfl,yS.below g (Below.refl _ _),HE.out⟩
   ·by_cases q:x=y
    ·have q1:((x:Int) == (y:Int))=true:=by rw [q];simp
     clear q h0
     go_enter Tryz.func93,Tryz.ntmps93
     go_wp2
     refine bodyPost_ret (v:=.tuple #[]) (by simp [results,Tryz.results93,go_sem]) rfl ⟨rfl,yS.below g (Below.refl _ _),HE.out⟩
    ·have q1:((x:Int) == (y:Int))=false:=by rw [beq_eq_false_iff_ne];omega
     have q2:((x:Int) == 0)=true:=by rw [h0];rfl
     clear q h0
     go_enter Tryz.func93,Tryz.ntmps93
     go_wp2
     refine bodyPost_ret (v:=.tuple #[]) (by simp [results,Tryz.results93,go_sem]) rfl ⟨rfl,yS.below g (Below.refl _ _),HE.out⟩
   ·by_cases q:x=y
    ·have q1:((x:Int) == (y:Int))=true:=by rw [q];simp
     clear q h0
     go_enter Tryz.func93,Tryz.ntmps93
     go_wp2
     refine bodyPost_ret (v:=.tuple #[]) (by simp [results,Tryz.results93,go_sem]) rfl ⟨rfl,yS.below g (Below.refl _ _),HE.out⟩
    ·have q1:((x:Int) == (y:Int))=false:=by rw [beq_eq_false_iff_ne];omega
     have q2:((x:Int) == 0)=false:=by rw [beq_eq_false_iff_ne];omega
     have q3:((y:Int) == 0)=true:=by rw [h0];rfl
     clear q h0
     go_enter Tryz.func93,Tryz.ntmps93
     go_wp2
     refine bodyPost_ret (v:=.tuple #[]) (by simp [results,Tryz.results93,go_sem]) rfl ⟨rfl,yS.below g (Below.refl _ _),HE.out⟩
  ·rw [if_neg h0] at hR
   have q1:((x:Int) == (y:Int))=false:=by rw [beq_eq_false_iff_ne];omega
   have q2:((x:Int) == 0)=false:=by rw [beq_eq_false_iff_ne];omega
   have q3:((y:Int) == 0)=false:=by rw [beq_eq_false_iff_ne];omega
   have hx1:1<=x:=by omega
   have hy1:1<=y:=by omega
   have hlx:=hlow (x - 1)
   have hly:=hlow (y - 1)
   rw [show x - 1+1=x by omega] at hlx
   rw [show y - 1+1=y by omega] at hly
   have hrx:=hr x
   have hry:=hr y
   have hg:g < w.heap.size:=(he.lt g rfl).2
   have hA:=oT w sb 0 pv tb x hc0 hp hl hx
   have hB:=fun (W:World) (hb:Below w.heap.size w W)=>oT W sb 0 pv tb y (by rw [hb.cell (p:=⟨sb,0,none⟩) hsb];exact hc0) (aB hp hb) hl hy
   generalize fD tb x=P at *
   generalize fD tb y=Q at *
   have hJ:=fun (W:World) (hb:Below w.heap.size w W)=>LG W sb 0 g cap E P.r Q.r (by rw [hb.cell (p:=⟨sb,2,none⟩) hsb];exact hc2) (aB he hb) hE hrx hry
   have hjl:=fo E P.r Q.r
   generalize jd E P.r Q.r=E1 at *
   have WR:=qM tb f E1 P.a Q.a
   have hM:∀ (W:World) (E':List Nat) (x' y':Nat),E'.length=E.length->x' < x->y' < y->yS g w W->W.ownsRow 0 3 1 (.slice (some ⟨g,0,none⟩) E.length cap) E.length (cF E')->Calls Tryz.prog 93 #[.pointer (some ⟨sb,0,none⟩),.int .i64 x',.int .i64 y'] W fun v w'=>v=.returned (.tuple #[])/\yS g W w'/\w'.ownsRow 0 3 1 (.slice (some ⟨g,0,none⟩) E.length cap) E.length (cF (mc tb f E' x' y')):=fun W E' x' y' hE' hx' hy' hW ho=>by
    have:=ih x' y' E' W (by omega) (by omega) (by omega) (by omega) (by rw [hE'];exact hr) (by rw [hW.cell hsb (fun e=>hgs e.symm)];exact hc0) (by rw [hW.cell hsb (fun e=>hgs e.symm),hE'];exact hc2) (ax hp (fun k hk=>hW.blk k (hp.lt k hk).2 (fun e=>A7 (by rw [hk,e])))) (by rw [hE'];exact ho)
    rw [hE'] at this
    exact this
   unfold uC at hA hB
   unfold ptr at hJ
   have HA:Hid _:=hA
   have HB:Hid _:=hB
   have HJ:Hid _:=hJ
   have HM:Hid _:=hM
   have HR:Hid _:=hR
   clear hA hB hJ hM hR he hp hr ih h0 hc0 hc2
   go_enter Tryz.func93,Tryz.ntmps93
   go_wp2_with fail
   refine Calls.mono HA.out ?_
   rintro _ w1 ⟨rfl,hb1⟩
   have R2:=hb1.alloc hb1.size (.cells #[.int .i64 P.r,.int .i64 P.a,.int .i64 P.b,.int .i64 P.sz] 146)
   have HA1:Hid _:=aj w1 (.cells #[.int .i64 P.r,.int .i64 P.a,.int .i64 P.b,.int .i64 P.sz] 146 (0,0))
   have ZB:Hid _:=R2
   have hz1:=hb1.size
   clear R2 hb1 HA
   go_wp2_with fail
   refine Calls.mono (HB.out _ ZB.out) ?_
   rintro _ w2 ⟨rfl,hb2⟩
   have KZ:=ZB.out.trans (hb2.mono ZB.out.size)
   have WS:=KZ.alloc KZ.size (.cells #[.int .i64 Q.r,.int .i64 Q.a,.int .i64 Q.b,.int .i64 Q.sz] 146)
   have ha2:=(hb2.block _ (af HA1.out)).trans HA1.out
   have hal:Below w2.heap.size w2 (w2.alloc (.cells #[.int .i64 Q.r,.int .i64 Q.a,.int .i64 Q.b,.int .i64 Q.sz] 146 (0,0))):=(Below.refl _ w2).alloc (Nat.le_refl _) _
   have ZC:=(hal.block _ (af ha2)).trans ha2
   have K0:=aj w2 (.cells #[.int .i64 Q.r,.int .i64 Q.a,.int .i64 Q.b,.int .i64 Q.sz] 146 (0,0))
   have hz2:=KZ.size
   have EM:Hid _:=WS
   have Tn:Hid _:=ZC
   have HQ3:Hid _:=K0
   have e0:(w2.alloc (.cells #[.int .i64 Q.r,.int .i64 Q.a,.int .i64 Q.b,.int .i64 Q.sz] 146 (0,0))).cell? ⟨w1.heap.size,0,none⟩=some (.int .i64 P.r):=by rw [aa ZC];rfl
   have el:=af ZC
   clear KZ WS ha2 hal ZC K0 hb2 ZB HA1 HB
   generalize w1.heap.size=S1 at *
   go_wp2_with fail
   refine Calls.mono (HJ.out _ EM.out) ?_
   rintro _ w3 ⟨rfl,⟨k3,a3,hw3⟩,PU⟩
   have hf3:=yS.set g k3 (w2.alloc (.cells #[.int .i64 Q.r,.int .i64 Q.a,.int .i64 Q.b,.int .i64 Q.sz] 146 (0,0))) (.int .i64 a3)
   rw [<- hw3] at hf3
   have ZE:=(hf3.blk _ (af Tn.out) (by omega)).trans Tn.out
   have ZF:=(hf3.blk _ (af HQ3.out) (by omega)).trans HQ3.out
   have dK:Hid _:=(yS.below g EM.out).trans hf3
   have s1:w3.cell? ⟨S1,1,none⟩=some (.int .i64 P.a):=by rw [aa ZE];rfl
   have t1:w3.cell? ⟨w2.heap.size,1,none⟩=some (.int .i64 Q.a):=by rw [aa ZF];rfl
   have sl:=af ZE
   have tl:=af ZF
   have HA4:Hid _:=ZE
   have HQ4:Hid _:=ZF
   have Fh:Hid _:=PU
   clear hw3 hf3 ZE ZF PU EM Tn HQ3 HJ e0 el
   generalize w2.heap.size=S2 at *
   go_wp2_with fail
   refine Calls.mono (HM.out w3 E1 P.a Q.a hjl (by omega) (by omega) dK.out Fh.out) ?_
   rintro _ w4 ⟨rfl,dc,ho4⟩
   have hA5:=(dc.blk _ (af HA4.out) (by omega)).trans HA4.out
   have hQ5:=(dc.blk _ (af HQ4.out) (by omega)).trans HQ4.out
   have jG:Hid _:=dK.out.trans dc
   have KY:Hid _:=ho4
   have u1:w4.cell? ⟨S1,2,none⟩=some (.int .i64 P.b):=by rw [aa hA5];rfl
   have v1:w4.cell? ⟨S2,2,none⟩=some (.int .i64 Q.b):=by rw [aa hQ5];rfl
   have ul:=af hA5
   have vl:=af hQ5
   clear dc ho4 hA5 hQ5 HA4 HQ4 dK Fh s1 t1 sl tl
   go_wp2_with fail
   refine Calls.mono (HM.out w4 _ P.b Q.b (WR.trans hjl) (by omega) (by omega) jG.out KY.out) ?_
   rintro _ w5 ⟨rfl,eG,ho5⟩
   have fS:Hid _:=jG.out.trans eG
   rw [<- HR.out] at ho5
   have PN:Hid _:=ho5
   clear eG ho5 jG KY HM u1 v1 ul vl
   go_wp2
   refine bodyPost_end (v:=.tuple #[]) (by simp [results,Tryz.results93,go_sem]) rfl ⟨rfl,fS.out,PN.out⟩
def Ty.has (T:Ty) (rg:Int):Bool:=T.zh.any (fun x=>(x:Int) == rg)
theorem Rel.WU {tb:List TP} {D:List Ty} {K:List Nat} {T:List Ty} (h:Rel tb D K T) (r a b:Nat) (ha:a<=tb.length) (hb:b<=tb.length) (sa:(cw D a).size<=63) (sb:(cw D b).size<=63) :
  ∃ D',Rel (Go.Proofs.YtpicaknklgccoabGreatDoor.dh tb r a b).2 D' K T/\cw D' (Go.Proofs.YtpicaknklgccoabGreatDoor.dh tb r a b).1=.p r (cw D a) (cw D b)/\(Go.Proofs.YtpicaknklgccoabGreatDoor.dh tb r a b).1<=(Go.Proofs.YtpicaknklgccoabGreatDoor.dh tb r a b).2.length/\(∀ k,k<=tb.length->cw D' k=cw D k):=by
 unfold Go.Proofs.YtpicaknklgccoabGreatDoor.dh
 cases hf:tb.findIdx? (ji r a b) with
 | some i =>
  obtain ⟨hi,hp,_⟩:=List.findIdx?_eq_some_iff_getElem.1 hf
  simp only
  unfold ji at hp
  simp only [Bool.and_eq_true,beq_iff_eq] at hp
  obtain ⟨p,p1,p2,_⟩:=h.pair (i+1) (by omega) (by omega)
  rw [Nat.add_sub_cancel,List.getElem?_eq_getElem hi] at p1
  simp only [Option.some.injEq] at p1
  refine ⟨D,h,?_,by omega,fun _ _=>rfl⟩
  rw [p2,<- p1,hp.1.1,hp.1.2,hp.2]
 | none =>
  simp only
  rw [List.findIdx?_eq_none_iff] at hf
  have hD:=h.len
  refine ⟨D++[.p r (cw D a) (cw D b)],⟨by simp [hD],?_,?_,fun x hx=>by have:=h.k x hx;simp;omega,?_,h.s⟩,?_,by simp,fun k hk=>fg D _ k (by omega)⟩
  ·intro j p hj
   by_cases hjl:j < tb.length
   ·rw [List.getElem?_append_left hjl] at hj
    obtain ⟨h1,h2,h3,h4,h5⟩:=h.at_ j p hj
    rw [fg D _ p.a (by omega),fg D _ p.b (by omega),List.getElem?_append_left (by omega)]
    exact ⟨h1,h2,h3,h4,h5⟩
   ·have zO:j=tb.length:=by
     have:=(List.getElem?_eq_some_iff.1 hj).1
     simp at this;omega
    subst zO
    rw [List.getElem?_append_right (Nat.le_refl _)] at hj
    simp only [Nat.sub_self,List.getElem?_cons_zero,Option.some.injEq] at hj
    subst hj
    simp only
    rw [fg D _ a (by omega),fg D _ b (by omega),List.getElem?_append_right (by omega),hD,Nat.sub_self,h.sz a ha,h.sz b hb]
    refine ⟨ha,hb,rfl,by simp only [Ty.size];omega,by omega⟩
  ·intro i j p q hi hj e1 e2 e3
   have key:∀ (i:Nat) (p:TP),tb[i]?=some p->¬ (p.r=r/\p.a=a/\p.b=b):=by
    intro i p hi hh
    have:=hf p (List.mem_of_getElem? hi)
    unfold ji at this
    simp [hh.1,hh.2.1,hh.2.2] at this
   have last:∀ (i:Nat) (p:TP),(tb++[⟨r,a,b,1+(fD tb a).sz+(fD tb b).sz⟩])[i]?=some p->(tb[i]?=some p/\i < tb.length)\/(i=tb.length/\p.r=r/\p.a=a/\p.b=b):=by
    intro i p hi
    by_cases lN:i < tb.length
    ·rw [List.getElem?_append_left lN] at hi;exact Or.inl ⟨hi,lN⟩
    ·have hie:i=tb.length:=by
      have:=(List.getElem?_eq_some_iff.1 hi).1
      simp at this;omega
     subst hie
     rw [List.getElem?_append_right (Nat.le_refl _)] at hi
     simp only [Nat.sub_self,List.getElem?_cons_zero,Option.some.injEq] at hi
     subst hi
     exact Or.inr ⟨rfl,rfl,rfl,rfl⟩
   rcases last i p hi with ⟨h1,_⟩ | ⟨h1,h2⟩
   ·rcases last j q hj with ⟨g1,_⟩ | ⟨g1,g2⟩
    ·exact h.nd i j p q h1 g1 e1 e2 e3
    ·exact absurd ⟨e1.trans g2.1,e2.trans g2.2.1,e3.trans g2.2.2⟩ (key i p h1)
   ·rcases last j q hj with ⟨g1,_⟩ | ⟨g1,g2⟩
    ·exact absurd ⟨e1.symm.trans h2.1,e2.symm.trans h2.2.1,e3.symm.trans h2.2.2⟩ (key j q g1)
    ·omega
  ·rw [<- h.t]
   apply List.map_congr_left
   intro x hx
   exact fg D _ x (by have:=h.k x hx;omega)
  ·unfold cw
   rw [if_neg (by omega),Nat.add_sub_cancel,<- hD,List.getElem?_append_right (Nat.le_refl _)]
   simp
def CH:Ty->Ty
 | .n=>.n
 | .p _ a _=>a
def CI:Ty->Ty
 | .n=>.n
 | .p _ _ b=>b
def cR (T:List Ty) (n:NR):Ty :=
 if n.form=2 then ai T n.source
 else if n.form=12 then ai T n.p0
 else if n.form=3 then ai T n.p1
 else if n.form=7 then ai T n.p1
 else if n.form=11 then ai T n.p1
 else if n.form=4 then .p n.region.toNat (ai T n.p0) (ai T n.p1)
 else if n.form=5 then CH (ai T n.p0)
 else if n.form=6 then CI (ai T n.p0)
 else .n
theorem LH (t:Ty):(CH t).size<=t.size:=by cases t <;> simp [CH,Ty.size];omega
theorem LI (t:Ty):(CI t).size<=t.size:=by cases t <;> simp [CI,Ty.size];omega
theorem LJ {tb:List TP} {D:List Ty} {K:List Nat} {T:List Ty} (h:Rel tb D K T) (n:NR) (hs:n.form=4->(Ty.p 0 (ai T n.p0) (ai T n.p1)).size<=63) :
  ∃ D',Rel (ic tb K n n.region.toNat).2 D' (K++[(ic tb K n n.region.toNat).1]) (T++[cR T n]):=by
 obtain ⟨a1,a2,a3⟩:=h.known n.p0
 obtain ⟨b1,b2,b3⟩:=h.known n.p1
 obtain ⟨s1,s2,s3⟩:=h.known n.source
 have push:∀ k,k<=tb.length->(cw D k).size<=63->∃ D',Rel tb D' (K++[k]) (T++[cw D k]):=fun k hk hs=>⟨D,h.push k hk hs⟩
 have p0:∃ D',Rel tb D' (K++[0]) (T++[Ty.n]):=push 0 (Nat.zero_le _) (by simp [cw,Ty.size])
 have hfs:=LH (ai T n.p0)
 have gY:=LI (ai T n.p0)
 have part:CH (ai T n.p0)=cw D (fD tb (au K n.p0)).a/\CI (ai T n.p0)=cw D (fD tb (au K n.p0)).b/\(fD tb (au K n.p0)).a<=tb.length/\(fD tb (au K n.p0)).b<=tb.length:=by
  by_cases hk:au K n.p0=0
  ·rw [a1,hk]
   refine ⟨rfl,rfl,?_,?_⟩ <;> simp [fD]
  ·obtain ⟨p,q1,q2,q3,q4,q5⟩:=h.pair (au K n.p0) hk a2
   rw [a1,q2,q5]
   exact ⟨rfl,rfl,by omega,by omega⟩
 unfold ic cR
 by_cases k2:n.form=2
 ·rw [if_pos k2,if_pos k2,s1];exact push _ s2 (by rw [<- s1];exact s3)
 rw [if_neg k2,if_neg k2]
 by_cases k12:n.form=12
 ·rw [if_pos k12,if_pos k12,a1];exact push _ a2 (by rw [<- a1];exact a3)
 rw [if_neg k12,if_neg k12]
 by_cases k3:n.form=3
 ·rw [if_pos k3,if_pos k3,b1];exact push _ b2 (by rw [<- b1];exact b3)
 rw [if_neg k3,if_neg k3]
 by_cases k7:n.form=7
 ·rw [if_pos k7,if_pos k7,b1];exact push _ b2 (by rw [<- b1];exact b3)
 rw [if_neg k7,if_neg k7]
 by_cases k11:n.form=11
 ·rw [if_pos k11,if_pos k11,b1];exact push _ b2 (by rw [<- b1];exact b3)
 rw [if_neg k11,if_neg k11]
 by_cases k4:n.form=4
 ·rw [if_pos k4,if_pos k4]
  obtain ⟨D',h1,h2,h3,_⟩:=h.WU n.region.toNat (au K n.p0) (au K n.p1) a2 b2 (by rw [<- a1];exact a3) (by rw [<- b1];exact b3)
  have Fk:=hs k4
  refine ⟨D',?_⟩
  have:=h1.push _ h3 (by rw [h2,<- a1,<- b1];simpa [Ty.size] using Fk)
  rw [h2,<- a1,<- b1] at this
  exact this
 rw [if_neg k4,if_neg k4]
 by_cases k5:n.form=5
 ·rw [if_pos k5,if_pos k5,part.1];exact push _ part.2.2.1 (by rw [<- part.1];omega)
 rw [if_neg k5,if_neg k5]
 by_cases k6:n.form=6
 ·rw [if_pos k6,if_pos k6,part.2.1];exact push _ part.2.2.2 (by rw [<- part.2.1];omega)
 rw [if_neg k6,if_neg k6]
 exact p0
theorem R3 (r:Nat) (a b:Ty) (rg:Int):(Ty.p r a b).has rg=(((r:Int) == rg) || a.has rg || b.has rg):=by
 unfold Ty.has
 simp only [Ty.zh,List.any_cons,List.any_append,Bool.or_assoc]
theorem vB {tb:List TP} {D:List Ty} {K:List Nat} {T:List Ty} (h:Rel tb D K T) (rg:Int):∀ (f k:Nat),k < f->k<=tb.length->iD tb f k rg=(cw D k).has rg
 | 0,k,h1,_=>by omega
 | f+1,k,h1,h2=>by
  simp only [iD]
  by_cases hk:k=0
  ·rw [if_pos (.inl hk),hk];rfl
  ·rw [if_neg (by omega)]
   obtain ⟨p,q1,q2,q3,q4,q5⟩:=h.pair k hk h2
   rw [q5,q2,R3,vB h rg f p.a (by omega) (by omega),vB h rg f p.b (by omega) (by omega)]
theorem Rel.low {tb:List TP} {D:List Ty} {K:List Nat} {T:List Ty} (h:Rel tb D K T):WO tb:=by
 intro k
 by_cases hk:k < tb.length
 ·obtain ⟨p,q1,q2,q3,q4,q5⟩:=h.pair (k+1) (by omega) (by omega)
  rw [q5];omega
 ·unfold fD
  rw [if_neg (by omega),List.getElem?_eq_none (by omega)]
  exact ⟨Nat.zero_le _,Nat.zero_le _⟩
def pR (T:List Ty) (n:NR):Nat :=
 if n.form=7\/n.form=11 then (if ai T n.p1=ai T n.p2 then 0 else 9)
 else if n.form=12 then (if (ai T n.p0).has n.region=true then 10 else 0)
 else 0
theorem Tp {tb:List TP} {D:List Ty} {K:List Nat} {T:List Ty} (h:Rel tb D K T) (n:NR):WQ tb K n=pR T n:=by
 obtain ⟨a1,a2,a3⟩:=h.known n.p0
 obtain ⟨b1,b2,b3⟩:=h.known n.p1
 obtain ⟨c1,c2,c3⟩:=h.known n.p2
 unfold WQ pR
 have ebc:ai T n.p1=ai T n.p2↔au K n.p1=au K n.p2:=by rw [b1,c1];exact h.Tb b2 c2
 rw [vB h n.region _ _ (by omega) a2,<- a1]
 simp only [ebc]
def uD:List Ty->List NR->Nat × Nat
 | _,[]=>(0,0)
 | T,n::r=>if pR (T++[cR T n]) n≠0 then (pR (T++[cR T n]) n,n.at_) else uD (T++[cR T n]) r
def jm:List Ty->List NR->Prop
 | _,[]=>True
 | T,n::r=>(n.form=4->(Ty.p 0 (ai T n.p0) (ai T n.p1)).size<=63)/\jm (T++[cR T n]) r
def bC:List Ty->List NR->List Ty
 | T,[]=>T
 | T,n::r=>bC (T++[cR T n]) r
theorem ky:∀ (a b:List NR) (T:List Ty),bC T (a++b)=bC (bC T a) b
 | [],_,_=>rfl
 | n::r,b,T=>by simp only [List.cons_append,bC];exact ky r b _
theorem wB:∀ (a b:List NR) (T:List Ty),jm T a->jm (bC T a) b->jm T (a++b)
 | [],_,_,_,h=>h
 | n::r,b,T,h,h'=>by
  simp only [List.cons_append,jm] at h ⊢
  exact ⟨h.1,wB r b _ h.2 h'⟩
theorem o5:∀ (a b:List NR) (T:List Ty),uD T (a++b)=if (uD T a).1≠0 then uD T a else uD (bC T a) b
 | [],_,_=>by simp [uD,bC]
 | n::r,b,T=>by
  have e1:uD T (n::(r++b))=if pR (T++[cR T n]) n≠0 then (pR (T++[cR T n]) n,n.at_) else uD (T++[cR T n]) (r++b):=rfl
  have e2:uD T (n::r)=if pR (T++[cR T n]) n≠0 then (pR (T++[cR T n]) n,n.at_) else uD (T++[cR T n]) r:=rfl
  by_cases h:pR (T++[cR T n]) n≠0
  ·rw [if_pos h] at e1 e2;rw [List.cons_append,e1,e2,if_pos h]
  ·rw [if_neg h] at e1 e2;rw [List.cons_append,e1,e2,o5 r b];rfl
end Go.Proofs.YtpicaknklgccoabGreatDoor
