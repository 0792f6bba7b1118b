import Derived.Test.YtpicaknklgccoabGreatDoorS38
set_option maxHeartbeats 8000000
set_option maxRecDepth 100000
namespace Go.Proofs.YtpicaknklgccoabGreatDoor
open Go.RowKit
theorem yJ (t:Int) (ra:Option Addr) (rn rc:Nat) (ga:Option Addr) (gn gc:Nat) (w:World) (x:KE) (src P Q US VS:ByteArray) (Ua Ub Uc Ud Va Vb Vc Vd Za Zb Zc Zd:Int) (E:Nat) (ends:Bool) (hA:(ends=false/\E=12)\/(ends=true/\E=0/\VS=US/\Zb=Ub/\Vc<=Zc/\Vd<=Zd))
  (HBD:Hid (Calls Tryz.prog 8 #[.int .i64 t,.slice ra rn rc] w fun e w'=>∃ p,e=.returned (.pointer (some ⟨p,0,none⟩))/\Below w.heap.size w w'/\eS w' x p))
  (Wk:Hid (∀ W' p,Below w.heap.size w W'->eS W' x p->Calls Tryz.prog 11 #[.pointer (some ⟨p,0,none⟩),.string ⟨#[]⟩] W' fun e w'=>e=.returned (.string src)/\Below W'.heap.size W' w'))
  (Tu:Hid (∀ W,Below w.heap.size w W->Calls Tryz.prog 16 #[.string src] W fun e w'=>e=.returned (.tuple #[.string P,.int .i64 0])/\Below W.heap.size W w'))
  (HLI:Hid (∀ W,Below w.heap.size w W->Calls Tryz.prog 17 #[.string P,.slice ga gn gc] W fun e w'=>e=.returned (.string Q)/\Below W.heap.size W w'))
  (HVT:Hid (∀ W,Calls Tryz.prog 12 #[.string Q] W fun e w'=>e=.returned (.tuple #[.int .i64 0,.int .i64 0])/\Below W.heap.size W w'))
  (HER:Hid (∀ W,Below w.heap.size w W->Calls Tryz.prog 18 #[.string Q] W fun e w'=>e=.returned (.tuple #[.string src,.int .i64 0])/\Below W.heap.size W w'))
  (Ha:Hid (∀ W,Below w.heap.size w W->Calls Tryz.prog 13 #[.string P,.int .i64 20000] W fun e w'=>e=.returned (.tuple #[KG VS Va Vb Vc Vd,.int .i64 E])/\Below W.heap.size W w'))
  (Jw:Hid (∀ W,Below w.heap.size w W->Calls Tryz.prog 13 #[.string Q,.int .i64 20000] W fun e w'=>e=.returned (.tuple #[KG VS Za Zb Zc Zd,.int .i64 E])/\Below W.heap.size W w'))
  (UL:Hid (∀ W p,Below w.heap.size w W->eS W x p->Calls Tryz.prog 14 #[.pointer (some ⟨p,0,none⟩),.int .i64 20000] W fun e w'=>e=.returned (.tuple #[KG US Ua Ub Uc Ud,.bool ends])/\Below W.heap.size W w')) :
  Calls Tryz.prog 4 #[.int .i64 t,.slice ra rn rc,.slice ga gn gc] w fun e w'=>e=.returned (.bool true)/\Below w.heap.size w w':=by
 unfold KG at UL Ha Jw
 go_enter Tryz.func4,Tryz.ntmps4
 go_wp2_with fail
 refine Calls.mono HBD.out ?_
 rintro _ w1 ⟨p,rfl,hb1,hk1⟩
 have dG:Hid _:=hb1
 have E7:Hid _:=hk1
 clear hb1 hk1 HBD
 go_wp2_with fail
 refine Calls.mono (Wk.out w1 p dG.out E7.out) ?_
 rintro _ w2 ⟨rfl,hb2⟩
 have dU:Hid _:=dG.out.trans (hb2.mono dG.out.size)
 have nQ:Hid _:=E7.out.below hb2
 clear hb2 dG E7 Wk
 go_wp2_with fail
 refine Calls.mono (Tu.out w2 dU.out) ?_
 rintro _ w3 ⟨rfl,hb3⟩
 have iV:Hid _:=dU.out.trans (hb3.mono dU.out.size)
 have vf:Hid _:=nQ.out.below hb3
 clear hb3 dU nQ Tu
 go_wp2_with fail
 refine Calls.mono (HLI.out w3 iV.out) ?_
 rintro _ w4 ⟨rfl,hb4⟩
 have pP:Hid _:=iV.out.trans (hb4.mono iV.out.size)
 have Cn:Hid _:=vf.out.below hb4
 clear hb4 iV vf HLI
 go_wp2_with fail
 refine Calls.mono (HVT.out w4) ?_
 rintro _ w5 ⟨rfl,mF⟩
 have CG:Hid _:=pP.out.trans (mF.mono pP.out.size)
 have Ie:Hid _:=Cn.out.below mF
 clear mF pP Cn HVT
 go_wp2_with fail
 refine Calls.mono (HER.out w5 CG.out) ?_
 rintro _ w6 ⟨rfl,hb6⟩
 have Ch:Hid _:=CG.out.trans (hb6.mono CG.out.size)
 have Wo:Hid _:=Ie.out.below hb6
 clear hb6 CG Ie HER
 have qS:(src.toList != src.toList)=false:=by simp
 go_wp2_with fail
 refine Calls.mono (Ha.out w6 Ch.out) ?_
 rintro _ w7 ⟨rfl,hb7⟩
 have hB7:=Ch.out.trans (hb7.mono Ch.out.size)
 have Zj:Below w7.heap.size w7 (w7.alloc (.cells #[.string VS,.int .i64 Va,.int .i64 Vb,.int .i64 Vc,.int .i64 Vd] 35 (0,0))):=cB (Below.refl _ _) _
 have K7:Hid _:=hB7.alloc hB7.size (.cells #[.string VS,.int .i64 Va,.int .i64 Vb,.int .i64 Vc,.int .i64 Vd] 35 (0,0))
 have HQ7:Hid _:=aj w7 (.cells #[.string VS,.int .i64 Va,.int .i64 Vb,.int .i64 Vc,.int .i64 Vd] 35 (0,0))
 have Wp:Hid _:=(Wo.out.below hb7).below Zj
 clear hb7 hB7 Zj Ch Wo Ha
 go_wp2_with fail
 refine Calls.mono (Jw.out _ K7.out) ?_
 rintro _ w8 ⟨rfl,hb8⟩
 have hB8:=K7.out.trans (hb8.mono K7.out.size)
 have VH:Below w8.heap.size w8 (w8.alloc (.cells #[.string VS,.int .i64 Za,.int .i64 Zb,.int .i64 Zc,.int .i64 Zd] 35 (0,0))):=cB (Below.refl _ _) _
 have Hu:=(hb8.block _ (af HQ7.out)).trans HQ7.out
 have HQ8:Hid _:=(VH.block _ (af Hu)).trans Hu
 have HB8:Hid _:=hB8.alloc hB8.size (.cells #[.string VS,.int .i64 Za,.int .i64 Zb,.int .i64 Zc,.int .i64 Zd] 35 (0,0))
 have HR8:Hid _:=aj w8 (.cells #[.string VS,.int .i64 Za,.int .i64 Zb,.int .i64 Zc,.int .i64 Zd] 35 (0,0))
 have HK8:Hid _:=(Wp.out.below hb8).below VH
 clear hb8 hB8 VH Hu K7 HQ7 Wp Jw
 go_wp2_with fail
 refine Calls.mono (UL.out _ p HB8.out HK8.out) ?_
 rintro _ w9 ⟨rfl,hb9⟩
 have hB9:=HB8.out.trans (hb9.mono HB8.out.size)
 have Lb:=(hb9.block _ (af HQ8.out)).trans HQ8.out
 have hr9:=(hb9.block _ (af HR8.out)).trans HR8.out
 have HB9:Hid _:=hB9.alloc hB9.size (.cells #[.string US,.int .i64 Ua,.int .i64 Ub,.int .i64 Uc,.int .i64 Ud] 35 (0,0))
 obtain ⟨q0,q1,q2,q3,q4⟩:=kE Lb
 obtain ⟨r0,r1,r2,r3,r4⟩:=kE hr9
 have ql:=af Lb
 have qn:=Nat.ne_of_lt ql
 have rl:=af hr9
 have rn':=Nat.ne_of_lt rl
 clear hb9 hB9 Lb hr9 HB8 HQ8 HR8 HK8 UL
 rcases hA with ⟨rfl,rfl⟩ | ⟨rfl,rfl,rfl,rfl,c1,c2⟩
 ·go_wp2
  go_ret
  exact ⟨rfl,HB9.out⟩
 ·have qV:(VS.toList != VS.toList)=false:=by simp
  go_wp2
  go_ret
  exact ⟨by first | rfl | simp [c1,c2],HB9.out⟩
theorem KK (t:Int) (rv gv:Value) (raw OJ:List Int) (w:World) (ht:Wn t) (h:qy w rv raw) (hg:qy w gv OJ) (htab:Lib.TabIs Tryz.prog w "internal/strconv.uint64pow10" .u64 Lib.pow10Tab) :
  Calls Tryz.prog 4 #[.int .i64 t,rv,gv] w fun v w'=>v=.returned (.bool true)/\Below w.heap.size w w':=by
 have hsh:∀ {v:Value} {r:List Int},qy w v r->∃ ra rn rc,v=.slice ra rn rc:=fun h=>by
  rcases h.2 with ⟨h1,_⟩ | ⟨a,cap,h1,_,_⟩
  ·exact ⟨_,_,_,h1⟩
  ·exact ⟨_,_,_,h1⟩
 obtain ⟨ra,rn,rc,rfl⟩:=hsh h
 obtain ⟨ga,gn,gc,rfl⟩:=hsh hg
 have gZ:=Ka w t (.slice ra rn rc) raw ht h
 obtain ⟨hKT,hlen,Gv,_⟩:=Nc t raw
 generalize rH t raw=x at *
 have OG:=F8 (rg:=[]) hKT
 have Bt:=Km [] hKT (by simp)
 obtain ⟨src,hsrc⟩:∃ src,src=bs (x.pt []).tidy:=⟨_,rfl⟩
 have hit:∀ W,Below w.heap.size w W->wH W:=fun W hW=>by
  intro n W' hn hW'
  exact vD w htab n W' hn (hW.trans (hW'.mono hW.size))
 have hTx:∀ W p,Below w.heap.size w W->eS W x p->Calls Tryz.prog 11 #[.pointer (some ⟨p,0,none⟩),.string ⟨#[]⟩] W fun v w'=>v=.returned (.string src)/\Below W.heap.size W w':=fun W p hW hk=>by
  have:=Bt p W hk (by simp at OG;omega) (fun W' hW'=>hit W' (hW.trans (hW'.mono hW.size)))
  rw [<- hsrc] at this;exact this
 obtain ⟨P,Q,hP9,hsc,Y3,hVt,hEr,v,v',E,cQ,hR1,hR2⟩:=KI hKT Gv hlen OJ src hsrc
 have wu:=fun W (hW:Below w.heap.size w W)=>Lib.tabBelow_of_tabIs htab W hW
 have hLi:=fun W (hW:Below w.heap.size w W)=>GI W P Q hP9 (.slice ga gn gc) OJ (hg.below hW) hsc
 obtain ⟨R,hR⟩:∃ R,R=ev 20000 (x.pt []) [] ⟨0,0,0⟩:=⟨_,rfl⟩
 rw [<- hR] at cQ
 have hWk:∀ W p,Below w.heap.size w W->eS W x p->Calls Tryz.prog 14 #[.pointer (some ⟨p,0,none⟩),.int .i64 (20000:Nat)] W fun v w'=>v=.returned (.tuple #[qw R,.bool (decide (R.2.e=0))])/\Below W.heap.size W w':=fun W p hW hk =>
  Gm W x _ p 20000 (by omega) hKT hk (fun W' hW'=>hit W' (hW.trans (hW'.mono hW.size))) R hR
 rcases cQ with ⟨g1,rfl,rfl,rfl⟩ | ⟨g1,rfl,c,d,c',d',rfl,rfl,g2,g3⟩
 ·have hd:decide (R.2.e=0)=false:=by simp [g1]
  have hvR:qw R=KG ⟨#[]⟩ 0 0 0 0:=by
   unfold qw
   rw [if_pos (by rw [g1];decide)];rfl
  rw [hvR,hd] at hWk
  exact yJ t ra rn rc ga gn gc w x src P Q ⟨#[]⟩ ⟨#[]⟩ 0 0 0 0 0 0 0 0 0 0 0 0 12 false (Or.inl ⟨rfl,rfl⟩) gZ hTx (fun W hW=>Y3 W (wu W hW)) hLi hVt (fun W hW=>hEr W (wu W hW)) (fun W hW=>hR1 W (wu W hW)) (fun W hW=>hR2 W (wu W hW)) hWk
 ·have hd:decide (R.2.e=0)=true:=by simp [g1]
  have hvR:qw R=KG (bs R.1.txt) R.2.steps R.2.cells R.2.cells R.2.cells:=by
   unfold qw
   rw [if_neg (fun h=>h g1)];rfl
  rw [hvR,hd] at hWk
  exact yJ t ra rn rc ga gn gc w x src P Q (bs R.1.txt) (bs R.1.txt) R.2.steps R.2.cells R.2.cells R.2.cells R.2.steps R.2.cells c d R.2.steps R.2.cells c' d' 0 true (Or.inr ⟨rfl,rfl,rfl,rfl,g2,g3⟩) gZ hTx (fun W hW=>Y3 W (wu W hW)) hLi hVt (fun W hW=>hEr W (wu W hW)) (fun W hW=>hR1 W (wu W hW)) (fun W hW=>hR2 W (wu W hW)) hWk
end Go.Proofs.YtpicaknklgccoabGreatDoor
