import Derived.Test.YtpicaknklgccoabGreatDoorV17
set_option maxHeartbeats 16000000
set_option maxRecDepth 100000
namespace Go.Proofs.YtpicaknklgccoabGreatDoor
open Go.RowKit
theorem wH (w:World) (nv ov:Value) (ns:List NR) (op:List Int) (h:bB w nv ov ns op) (ho:xK ns op) (hl:ns.length<=9000) (uO:∀ n∈ns,n.small) (hrg:∀ n∈ns,0<=n.region) (hsz:ij [] ns) :
  Calls Tryz.prog 47 #[aQ nv ov] w λv w'=>v=.returned (.tuple #[.int .i64 (oV [] ns).1,.int .i64 (oV [] ns).2])/\Below w.heap.size w w':=by
 have hlen:=λ(w':World) (hb:Below w.heap.size w w')=>iC w' nv ov ns op (h.below hb)
 have nX:=λ(w':World) (hb:Below w.heap.size w w') (k:Nat) (n:NR) (hk:ns[k]?=some n)=>eT w' nv ov ns op (h.below hb) k n hk hl
 obtain⟨a0,kW,e0⟩:=aG h.nd;obtain⟨a1,lL,e1⟩:=aG h.op;rw[ho.1] at e1;obtain⟨m,hm⟩:∃ m,m=ns.length:=⟨_,rfl⟩;rw[<- hm] at e0 e1 hl;subst e0;subst e1;unfold aQ at hlen nX;unfold aQ;unfold aK at nX;rw[<- hm] at hlen;have mR:Hid _:=hlen;have GN:Hid _:=nX;have HM:Hid _:=hm;have Gi:Hid _:=uO;have HRG:Hid _:=hrg;have Vq:Hid _:=hsz;obtain⟨ans,dm⟩:∃ ans,ans=oV [] ns:=⟨_,rfl⟩;rw[<- dm];have HA:Hid _:=dm;clear hlen nX ho h hm dm uO hrg hsz;have Du:Below w.heap.size w (w.alloc (.cells #[.slice a0 m kW,.slice a1 m lL] 62)):=(Below.refl _ w).alloc (Nat.le_refl _) _;have eE:Hid _:=Du;clear Du;obtain⟨wb,Gp⟩:∃ wb,wb=w.alloc (.cells #[.slice a0 m kW,.slice a1 m lL] 62):=⟨_,rfl⟩
 have Gj:Hid (∀ wr,Below wb.heap.size wb wr->wr.cell? ⟨w.heap.size,0,none⟩=some (.slice a0 m kW)/\wr.cell? ⟨w.heap.size,1,none⟩=some (.slice a1 m lL)/\w.heap.size<wr.heap.size):=by
  intro wr hb;rw[Gp] at hb;exact dK hb
 have Am:Hid (Below w.heap.size w wb):=by rw[Gp];exact eE.out
 have Yo:Hid (Cc wb.heap.size (wb.alloc (.cells #[.slice none 0 0,.slice none 0 0] 104)) (.slice none 0 0) (.slice none 0 0) [] []):=⟨aj _ _,World.ownsRow_nil _ _ _ _,World.ownsRow_nil _ _ _ _,by simp[Value.ownBlock],by simp[Value.ownBlock],λg hg=>by simp[Value.ownBlock] at hg⟩;have Cf:w.heap.size<=wb.heap.size:=Am.out.size;have Qx:Hid _:=Gp;clear Gp eE
 go_enter Tryz.func47,Tryz.ntmps47
 go_wp2
 rw[<- Qx.out]
 have Ha:w.heap.size+1=wb.heap.size:=by rw[Qx.out];simp
 rw[Ha];clear Ha Qx
 go_loopw [5,6,7] (λi _ _ wr=>∃ k:Nat,k<=m/\i=.int .i64 k/\∃ pv tv tb D K T,Cc wb.heap.size wr pv tv tb K/\Rel tb D K T/\K.length=k/\tb.length<=k/\oV [] ns=oV T (ns.drop k)/\ij T (ns.drop k)/\Below wb.heap.size wb wr/\wb.heap.size<wr.heap.size/\(∀ g,pv.ownBlock=some g->wb.heap.size<=g)/\(∀ g,tv.ownBlock=some g->wb.heap.size<=g)) (λi _ _ _=>m-(intOf i).toNat)
 case atStart=>exact⟨0,by omega,rfl,_,_,[],[],[],[],Yo.out,M5,rfl,by simp,by simp,Vq.out,(Below.refl _ wb).alloc (Nat.le_refl _) _,by simp,by simp[Value.ownBlock],by simp[Value.ownBlock]⟩
 case round =>
  obtain⟨k,hk,rfl,pv,tv,tb,D,K,T,hC,kK,GM,htl,sD,Be,dI,hbs,mQ,uZ⟩:=hrel;have sx:Below w.heap.size w wr:=Am.out.trans (dI.mono Cf);obtain⟨x0,x1,xl⟩:=Gj.out _ dI;have ja:=mR.out wr sx;have nj:=dI.size
  by_cases hlt:k<m
  ·have hkl:k<ns.length:=by have:=HM.out;omega
   obtain⟨n,hn⟩:∃ n,ns[k]?=some n:=⟨ns[k],List.getElem?_eq_getElem hkl⟩;have eG:=Gi.out n (List.mem_of_getElem? hn);have abg:=HRG.out n (List.mem_of_getElem? hn)
   have pq:ns.drop k=n::ns.drop (k+1):=by
    rw[List.drop_eq_getElem_cons hkl];rw[List.getElem?_eq_getElem hkl] at hn;simp only[Option.some.injEq] at hn;rw[hn]
   rw[pq] at sD Be;simp only[oV] at sD;simp only[ij] at Be;obtain⟨r,hr⟩:∃ r,r=n.region.toNat:=⟨_,rfl⟩;obtain⟨D',jj⟩:=Ng kK n Be.1;rw[<- hr] at jj;have hok:U5 tb K n:=⟨by omega,by omega,λi=>by have:=(kK.known i).2.1;omega,λj=>by have:=kK.Ja j;omega,⟨by have:=eG.1;omega,by have:=eG.1;omega⟩,⟨by have:=eG.2.1;omega,by have:=eG.2.1;omega⟩,⟨by have:=eG.2.2.1;omega,by have:=eG.2.2.1;omega⟩,⟨by have:=eG.2.2.2;omega,by have:=eG.2.2.2;omega⟩⟩;have hpl:=nC tb r (au K n.p0) (au K n.p1)
   have wF:(iX tb K n r).2.length<=k+1:=by
    unfold iX
    repeat' split
    all_goals first | (simp only;omega) | omega
   have hvf:=Vm jj n;have hkn:=(jj.known n.p0).2.1;have hlow:=jj.low
   have hty:=λ(w':World) (hb:Below wr.heap.size wr w')=>Jc w' wb.heap.size pv tv tb K n n.region r (λ_=>by omega) (hC.below hb) hok
   have hfa:=λ(w':World) (nS qJ:Value) (hC':Cc wb.heap.size w' nS qJ (iX tb K n r).2 (K++[(iX tb K n r).1]))=>Ck w' wb.heap.size nS qJ (iX tb K n r).2 (K++[(iX tb K n r).1]) n hC' hlow (by omega) (by simp;omega) hkn hok.p0 hok.p1 hok.p2
   rw[hvf] at hfa;generalize uP (T++[cH T n]) n=F at *;unfold ptr aK at hty hfa;have QU:Hid _:=hty;have M8:Hid _:=hfa;have HN:Hid _:=hn;have Yp:Hid _:=sD;have Vr:Hid _:=Be.2;have M9:Hid _:=jj;have ji:Hid _:=dI;have HC:Hid _:=hC;have Tu:Hid _:=mQ;have Mt:Hid _:=uZ;have Yq:Hid _:=GM;have Tx:Hid _:=wF;clear hn eG abg pq sD Be hok hty kK jj hC dI mQ uZ hkl GM htl hfa wF hpl hvf hkn hlow hr
   go_wp2_with fail
   refine ja.mono ?_;rintro _ w1 ⟨rfl,hb1⟩;obtain⟨d0,d1,dl⟩:=Gj.out _ (ji.out.trans (hb1.mono nj));have hno:=GN.out w1 (Am.out.trans ((ji.out.trans (hb1.mono nj)).mono Cf)) k n HN.out;have dZ:Hid _:=hb1;clear hb1 ja x0 x1
   go_wp2_with fail
   refine hno.mono ?_;rintro _ w2 ⟨rfl,hb2⟩;have dV:Below wr.heap.size wr w2:=dZ.out.trans (hb2.mono dZ.out.size);have rH:=dV.alloc dV.size (cA n);have hty:=QU.out _ rH;have Gk:Hid _:=rH;have abc:=dV.size;clear hb2 dV hno d0 d1 rH QU;unfold cA AA at hty
   go_wp2_with fail
   refine hty.mono ?_;rintro _ w3 ⟨rfl,KK,Qw,cj,Gg⟩
   have hnb:w3.heap[w2.heap.size]?=some (cA n):=by
    rw[cj.blk w2.heap.size (by simp) (by omega) (λe=>by have:=(HC.out.lt.1 _ e);omega) (λe=>by have:=(HC.out.lt.2.1 _ e);omega)];exact aj _ _
   have Gl:Below wb.heap.size wb (w2.alloc (cA n)):=ji.out.trans (Gk.out.mono nj);obtain⟨g1,g2,g3⟩:=cj.toBelow Gl (Nat.le_refl _) (by simp;omega) Tu.out Mt.out;have Vf:=cj.size
   have abd:wb.heap.size<w3.heap.size:=by simp at Vf;omega
   have hfa:=M8.out w3 KK Qw Gg;obtain⟨d0,d1,d2,d3,d4,d5,d6,d7,d8,d9⟩:=aC hnb;have kJ:=af hnb;have KL:Hid _:=Gg;have Vg:Hid _:=g1;have HG2:Hid _:=g2;have Ys:Hid _:=g3;have Mu:Hid _:=hnb;clear cj Gg hnb Gl g1 g2 g3 hty Gk M8
   go_wp2_with fail
   refine hfa.mono ?_;rintro _ w4 ⟨rfl,hb4⟩
   have c1:w4.cell? ⟨w2.heap.size,1,none⟩=some (.int .i64 n.at_):=by rw[hb4.cell (p:=⟨w2.heap.size,1,none⟩) kJ];exact d1
   have rI:Hid _:=hb4;have Vh:=hb4.size;clear hb4 hfa d0 d1 d2 d3 d4 d5 d6 d7 d8 d9
   by_cases hf:F=0
   ·have q2:((F:Int) != 0)=false:=by simp;omega
    have sD:=Yp.out;rw[if_neg (by omega)] at sD;have Yt:Hid _:=KL.out.below rI.out;have Vj:Hid _:=sD;clear hf sD KL
    go_wp2
    go_roundw
    case rel=>exact⟨k+1,by omega,by go_num,KK,Qw,_,D',_,_,Yt.out,M9.out,by simp[Yq.out],Tx.out,Vj.out,Vr.out,Vg.out.trans (rI.out.mono (by omega)),by omega,HG2.out,Ys.out⟩
    case measure=>simp[intOf];omega
   ·have q2:((F:Int) != 0)=true:=by simp;omega
    have sD:=Yp.out;rw[if_pos hf] at sD
    have MY:Hid (ans=(F,n.at_)):=by rw[HA.out];exact sD
    clear hf sD
    go_wp2
    go_quiet (fail)
    go_wp2
    refine bodyPost_ret (v:=.tuple #[.int .i64 F,.int .i64 n.at_]) (by simp[results,Tryz.results47,go_sem]) rfl ⟨by rw[MY.out],?_⟩;exact (Am.out.trans ((Vg.out.trans (rI.out.mono (by omega))).mono Cf)).trans ⟨rfl,rfl,rfl,Nat.le_refl _,λ_ _=>rfl⟩
  ·have MY:Hid (ans=(0,0)):=by
    have hd:ns.drop k=[]:=List.drop_eq_nil_of_le (by have:=HM.out;omega);rw[hd] at sD;rw[HA.out,sD];exact rfl
   have ji:Hid _:=dI;clear dI hC kK sD mQ uZ Be
   go_wp2_with fail
   refine ja.mono ?_;rintro _ w1 ⟨rfl,hb1⟩;have dZ:Hid _:=Am.out.trans ((ji.out.trans (hb1.mono nj)).mono Cf);clear hb1 ja
   go_wp2
   refine bodyPost_ret (v:=.tuple #[.int .i64 0,.int .i64 0]) (by simp[results,Tryz.results47,go_sem]) rfl ⟨by rw[MY.out];rfl,dZ.out⟩
def jm (ns:List NR) (op:List Int):Nat × Nat :=
 if (dr (bw ns op) []).2.1≠0 then (dr (bw ns op) []).2
 else if (kz (dr (bw ns op) []).1 (bw ns op)).1≠0 then kz (dr (bw ns op) []).1 (bw ns op)
 else oV [] ns
theorem vk:∀ (l acc:List NR),(dr l acc).1.length<=acc.length+l.length
 | [],acc=>by simp[dr]
 | n::r,acc=>by
  simp only[dr,List.length_cons]
  split
  ·split
   ·simp only;omega
   ·have:=vk r (acc++[n]);simp at this;omega
  ·have:=vk r acc;omega
theorem pU (w:World) (nv ov:Value) (ns:List NR) (op:List Int) (h:bB w nv ov ns op) (ho:xK ns op) (hl:ns.length<=9000) (uO:∀ n∈ns,n.small) (hrg:∀ n∈ns,0<=n.region) (hsz:ij [] ns) :
  Calls Tryz.prog 27 #[aQ nv ov] w λv w'=>v=.returned (.tuple #[.int .i64 (jm ns op).1,.int .i64 (jm ns op).2])/\Below w.heap.size w w':=by
 have hne:=λ(w':World) (hb:Below w.heap.size w w')=>GS w' nv ov ns op (h.below hb) ho hl
 have hol:(dr (bw ns op) []).1.length<=9000:=by
  have:=vk (bw ns op) [];rw[lN,ho.1] at this;simp at this;omega
 have Vs:=λ(w':World) (hb:Below w.heap.size w w') (vv:Value) (base:Nat) (hown:w'.ownsRow base 108 10 vv (dr (bw ns op) []).1.length ((dr (bw ns op) []).1.flatMap rV))=>DT w' nv ov vv ns op _ base (h.below hb) ho hl hown hol
 have hpl:=λ(w':World) (hb:Below w.heap.size w w')=>wH w' nv ov ns op (h.below hb) ho hl uO hrg hsz
 obtain⟨a0,kW,e0⟩:=aG h.nd;obtain⟨a1,lL,e1⟩:=aG h.op;rw[ho.1] at e1;obtain⟨m,hm⟩:∃ m,m=ns.length:=⟨_,rfl⟩;rw[<- hm] at e0 e1 hl;subst e0;subst e1;obtain⟨ans,dm⟩:∃ ans,ans=jm ns op:=⟨_,rfl⟩;rw[<- dm];unfold jm at dm;have HA:Hid _:=dm;unfold aQ at hne Vs hpl;unfold aQ;have Mz:Hid _:=hne;have HOU:Hid _:=Vs;have HPL:Hid _:=hpl;have eE:Hid (Below w.heap.size w (w.alloc (.cells #[.slice a0 m kW,.slice a1 m lL] 62))):=(Below.refl _ w).alloc (Nat.le_refl _) _;clear hne Vs hpl ho h hm dm uO hrg hsz hol;generalize dr (bw ns op) []=N at *;generalize kz N.1 (bw ns op)=O at *;generalize oV [] ns=P at *
 go_enter Tryz.func27,Tryz.ntmps27
 go_wp2_with fail
 refine (Mz.out _ eE.out).mono ?_;rintro _ w1 ⟨vv,rfl,hown1,hb1⟩;obtain⟨b0,b1,bl⟩:=dK hb1;have Vt:=eE.out.trans (hb1.mono (by simp));have Vs:=HOU.out w1 Vt vv _ hown1;have dZ:Hid _:=Vt;have YG:Hid _:=hb1;clear hb1 Vt hown1
 by_cases h1:N.2.1=0
 ·have q1:((N.2.1:Int) != 0)=false:=by rw[h1];rfl
  have XH:Hid (ans=if O.1≠0 then O else P):=(show ans=_ by rw[HA.out,if_neg (by omega)]);clear HA h1
  go_wp2_with fail
  refine Vs.mono ?_;rintro _ w2 ⟨rfl,hb2⟩;have YH:=YG.out.trans (hb2.mono YG.out.size);obtain⟨c0,c1,cl⟩:=dK YH;have mi:=dZ.out.trans (hb2.mono dZ.out.size);have hpl:=HPL.out w2 mi;have eC:Hid _:=mi;clear hb2 YH mi Vs b0 b1
  by_cases h2:O.1=0
  ·have q2:((O.1:Int) != 0)=false:=by rw[h2];rfl
   have Vk:Hid (ans=P):=(show ans=_ by rw[XH.out,if_neg (by omega)]);clear XH h2
   go_wp2_with fail
   refine hpl.mono ?_;rintro _ w3 ⟨rfl,hb3⟩;have jb:Hid _:=eC.out.trans (hb3.mono eC.out.size);clear hb3 hpl
   go_wp2
   refine bodyPost_ret (v:=.tuple #[.int .i64 P.1,.int .i64 P.2]) (by simp[results,Tryz.results27,go_sem]) rfl ⟨by rw[Vk.out],jb.out⟩
  ·have q2:((O.1:Int) != 0)=true:=by simp;omega
   have Vk:Hid (ans=O):=(show ans=_ by rw[XH.out,if_pos h2]);clear XH h2 hpl
   go_wp2
   refine bodyPost_ret (v:=.tuple #[.int .i64 O.1,.int .i64 O.2]) (by simp[results,Tryz.results27,go_sem]) rfl ⟨by rw[Vk.out],eC.out⟩
 ·have q1:((N.2.1:Int) != 0)=true:=by simp;omega
  have XH:Hid (ans=N.2):=(show ans=_ by rw[HA.out,if_pos h1]);clear HA h1 Vs
  go_wp2
  refine bodyPost_ret (v:=.tuple #[.int .i64 N.2.1,.int .i64 N.2.2]) (by simp[results,Tryz.results27,go_sem]) rfl ⟨by rw[XH.out],dZ.out⟩
theorem ye {w:World} {base:Nat} {e:TypeId} {size:Nat} {v:Value} {n:Nat} {xs:List Value} (h:w.ownsRow base e size v n xs):∃ a c,v=.slice a n c:=by
 rcases h.2 with ⟨h1,h2⟩ | ⟨g,cap,cur,h1,_⟩
 ·exact⟨none,0,by rw[h1,h2]⟩
 ·exact⟨_,_,h1⟩
theorem wY {w:World} {base:Nat} {e:TypeId} {size:Nat} {v:Value} {n:Nat} {xs:List Value} (h:w.ownsRow base e size v n xs) {b:Nat} {arr:Array Value} {t:TypeId} {fr:Nat × Nat} (hb:w.heap[b]?=some (.cells arr t fr)) (ht:t≠e):∀ k,v.ownBlock=some k->k≠b:=by
 intro k hk hkb
 rcases h.2 with ⟨h1,_⟩ | ⟨g,cap,cur,h1,_,hh,_⟩
 ·rw[h1] at hk;simp[Value.ownBlock] at hk
 ·rw[h1] at hk
  simp[Value.ownBlock] at hk;rw[hk,hkb,hb] at hh;simp only[Option.some.injEq,Obj.cells.injEq] at hh;exact ht hh.2.1
theorem wI (s:ByteArray) (w:World) (hs:s.size<=9000) (e:PT) (hp:PE true (tokens s.data.toList) e []):Calls Tryz.prog 36 #[.string s] w λv w'=>∃ x1 n1 c1 x2 n2 c2 ns,v=.returned (.tuple #[aQ (.slice x1 n1 c1) (.slice x2 n2 c2),.int .i64 0,.int .i64 0])/\Below w.heap.size w w'/\bB w' (.slice x1 n1 c1) (.slice x2 n2 c2) ns (opn e 0)/\NA [] e 0 ns/\bG e ns (posOf s.size (tokens s.data.toList)) s.size:=by
 obtain⟨ns,aO,Gn⟩:=tS (len:=s.size) hp;have hps:=D3 (ae:=true) (len:=s.size) hp (xZ s.data.toList);rw[Gn] at hps
 have D4:=λw=>oM s w (by omega)
 have TD:Hid _:=Gn;have D5:Hid _:=And.intro aO hps;clear hp aO Gn hps
 go_enter Tryz.func36,Tryz.ntmps36
 go_wp2_with fail
 refine (D4 _).mono ?_;rintro v w1 ⟨hb,hv⟩;have hr:=tP hb;have hlt:=af hr;have HB:Hid _:=n8 hb
 rcases hv with ⟨q',hq',_⟩ | ⟨_,nv,ov,rfl,hT⟩
 ·rw[TD.out] at hq';cases hq'
 ·rw[TD.out] at hT
  simp only at hT;obtain⟨x1,c1,e1⟩:=ye hT.nd;obtain⟨x2,c2,e2⟩:=ye hT.op;have Dw:Hid _:=wY hT.nd hr (by decide);have uN:Hid _:=wY hT.op hr (by decide);subst e1;subst e2
  have r0:w1.cell? ⟨w.heap.size,0,none⟩=some (.slice none 0 0):=by rw[aa hr];rfl
  have r1:w1.cell? ⟨w.heap.size,1,none⟩=some (.slice none 0 0):=by rw[aa hr];rfl
  have f0:=ag hr 0;have f1:=ag hr 1;have hW:=aR (.cells #[.slice x1 ns.length c1,.slice x2 (opn e 0).length c2] 62) (aA (aA hr 0 (.slice x1 ns.length c1)) 1 (.slice x2 (opn e 0).length c2));have S0:Hid ((((w1.setCell ⟨w.heap.size,0,none⟩ (.slice x1 ns.length c1)).setCell ⟨w.heap.size,1,none⟩ (.slice x2 (opn e 0).length c2)).alloc (.cells #[.slice x1 ns.length c1,.slice x2 (opn e 0).length c2] 62)).cell? ⟨w.heap.size,0,none⟩=some (.slice x1 ns.length c1)):=(aa hW 0).trans rfl;have S1:Hid ((((w1.setCell ⟨w.heap.size,0,none⟩ (.slice x1 ns.length c1)).setCell ⟨w.heap.size,1,none⟩ (.slice x2 (opn e 0).length c2)).alloc (.cells #[.slice x1 ns.length c1,.slice x2 (opn e 0).length c2] 62)).cell? ⟨w.heap.size,1,none⟩=some (.slice x2 (opn e 0).length c2)):=(aa hW 1).trans rfl;have YI:bB ((w1.setCell ⟨w.heap.size,0,none⟩ (.slice x1 ns.length c1)).setCell ⟨w.heap.size,1,none⟩ (.slice x2 (opn e 0).length c2)) (.slice x1 ns.length c1) (.slice x2 (opn e 0).length c2) ns (opn e 0):=⟨ay hT.nd (λk hk=>by rw[aq _ _ (by simpa using Dw.out k hk),aq _ _ (by simpa using Dw.out k hk)]),ay hT.op (λk hk=>by rw[aq _ _ (by simpa using uN.out k hk),aq _ _ (by simpa using uN.out k hk)])⟩;have HTS:Hid _:=YI.below ((Below.refl _ _).alloc (Nat.le_refl _) (.cells #[.slice x1 ns.length c1,.slice x2 (opn e 0).length c2] 62))
  have hne:w.heap.size≠w1.heap.size:=by omega
  unfold aQ;clear hT hb hr D4 hW YI
  go_wp2
  refine bodyPost_ret (v:=.tuple #[.agg #[.slice x1 ns.length c1,.slice x2 (opn e 0).length c2],.int .i64 0,.int .i64 0]) (by have s0:=S0.out;have s1:=S1.out;simp[results,Tryz.results36,go_sem,s0,s1]) rfl ⟨x1,ns.length,c1,x2,(opn e 0).length,c2,ns,rfl,?_,HTS.out,D5.out⟩;exact ((HB.out.setCell (p:=⟨w.heap.size,0,none⟩) (Nat.le_refl _) _).setCell (p:=⟨w.heap.size,1,none⟩) (Nat.le_refl _) _).alloc (by have:=HB.out.size;simp[World.setCell];omega) _
theorem pV (s:ByteArray) (w:World) (hs:s.size<=9000) (e:PT) (hp:PE true (tokens s.data.toList) e []):Calls Tryz.prog 26 #[.string s] w λv w'=>∃ x1 n1 c1 x2 n2 c2 ns,v=.returned (.tuple #[aQ (.slice x1 n1 c1) (.slice x2 n2 c2),.int .i64 (dF e).1,.int .i64 (dF e).2])/\Below w.heap.size w w'/\bB w' (.slice x1 n1 c1) (.slice x2 n2 c2) ns (opn e 0)/\NA [] e 0 ns/\bG e ns (posOf s.size (tokens s.data.toList)) s.size:=by
 have nF:=jU hp
 have D4:=λw=>wI s w hs e hp
 have jN:=λ(w:World) (nv ov:Value) (ns:List NR) (aO:NA [] e 0 ns) (h:bB w nv ov ns (opn e 0))=>pN w nv ov ns (opn e 0) h (xT aO) (by have:=aO.len;omega) (aO.small (λ_ h=>by simp at h) (by omega)) (λj n hj=>by have:=aO.back j n hj;simpa using this)
 unfold aQ at D4;have Dt:Hid _:=jN;have YJ:Hid _:=D4;clear hp jN D4;obtain⟨ans,dm⟩:∃ ans,ans=dF e:=⟨_,rfl⟩;rw[<- dm];have kX:Hid _:=dm;clear dm
 go_enter Tryz.func26,Tryz.ntmps26
 go_wp2_with fail
 refine (YJ.out _).mono ?_;rintro _ w1 ⟨x1,n1,c1,x2,n2,c2,ns,rfl,hb,hT,aO⟩;have hr:=tP hb;have hlt:=af hr;have HB:Hid _:=n8 hb;have HR:Hid _:=hr;have Dw:Hid _:=wY hT.nd hr (by decide);have uN:Hid _:=wY hT.op hr (by decide);have oN:=hT.below ((Below.refl _ w1).alloc (Nat.le_refl _) (.cells #[.slice x1 n1 c1,.slice x2 n2 c2] 62));have jN:=Dt.out (w1.alloc (.cells #[.slice x1 n1 c1,.slice x2 n2 c2] 62)) _ _ ns aO.1 oN;rw[xS aO.1,<- kX.out] at jN;have D5:Hid _:=aO;unfold aQ at jN;clear hT hb hr YJ Dt aO
 go_wp2_with fail
 refine jN.mono ?_;rintro _ w2 ⟨rfl,hb2⟩;have D6:Hid _:=oN.below hb2;have hk:=tP hb2
 have k0:w2.cell? ⟨w1.heap.size,0,none⟩=some (.slice x1 n1 c1):=by rw[aa hk];rfl
 have k1:w2.cell? ⟨w1.heap.size,1,none⟩=some (.slice x2 n2 c2):=by rw[aa hk];rfl
 have dV:w2.heap[w.heap.size]?=some (.cells #[.slice none 0 0,.slice none 0 0] 62 (0,0)):=by
  rw[hb2.block _ (by simp;omega)];exact aR _ HR.out
 have r0:w2.cell? ⟨w.heap.size,0,none⟩=some (.slice none 0 0):=by rw[aa dV];rfl
 have r1:w2.cell? ⟨w.heap.size,1,none⟩=some (.slice none 0 0):=by rw[aa dV];rfl
 have f0:=ag dV 0;have f1:=ag dV 1;have mi:Below w.heap.size w w2:=HB.out.trans ((n8 hb2).mono HB.out.size);have eC:Hid _:=mi
 have hne:w.heap.size≠w1.heap.size:=by omega
 clear hk dV hb2 mi jN oN
 go_wp2
 refine bodyPost_ret (v:=.tuple #[.agg #[.slice x1 n1 c1,.slice x2 n2 c2],.int .i64 ans.1,.int .i64 ans.2]) (by simp[results,Tryz.results26,go_sem,r0,r1]) rfl ⟨x1,n1,c1,x2,n2,c2,ns,rfl,?_,⟨ay D6.out.nd (λk hk=>by rw[aq _ _ (by simpa using Dw.out k hk),aq _ _ (by simpa using Dw.out k hk)]),ay D6.out.op (λk hk=>by rw[aq _ _ (by simpa using uN.out k hk),aq _ _ (by simpa using uN.out k hk)])⟩,D5.out⟩;exact (eC.out.setCell (p:=⟨w.heap.size,0,none⟩) (Nat.le_refl _) _).setCell (p:=⟨w.heap.size,1,none⟩) (Nat.le_refl _) _
theorem D7 (s:ByteArray) (w:World) (e:PT) (y:Nat) (ans:Nat × Nat) (MA:∀ w,Calls Tryz.prog 26 #[.string s] w λv w'=>∃ x1 n1 c1 x2 n2 c2 ns,v=.returned (.tuple #[aQ (.slice x1 n1 c1) (.slice x2 n2 c2),.int .i64 0,.int .i64 y])/\Below w.heap.size w w'/\bB w' (.slice x1 n1 c1) (.slice x2 n2 c2) ns (opn e 0)/\NA [] e 0 ns/\bG e ns (posOf s.size (tokens s.data.toList)) s.size)
  (pz:∀ (w':World) (x1:Option Addr) (n1 c1:Nat) (x2:Option Addr) (n2 c2:Nat) (ns:List NR),bB w' (.slice x1 n1 c1) (.slice x2 n2 c2) ns (opn e 0)->NA [] e 0 ns/\bG e ns (posOf s.size (tokens s.data.toList)) s.size->Calls Tryz.prog 27 #[aQ (.slice x1 n1 c1) (.slice x2 n2 c2)] w' λv w''=>v=.returned (.tuple #[.int .i64 ans.1,.int .i64 ans.2])/\Below w'.heap.size w' w'') :
  Calls Tryz.prog 12 #[.string s] w λv w'=>v=.returned (.tuple #[.int .i64 ans.1,.int .i64 ans.2])/\Below w.heap.size w w':=by
 unfold aQ at MA pz;have HR:Hid _:=MA;have HN:Hid _:=pz;clear MA pz
 go_enter Tryz.func12,Tryz.ntmps12
 go_wp2_with fail
 refine (HR.out _).mono ?_;rintro _ w1 ⟨x1,n1,c1,x2,n2,c2,ns,rfl,hb,hT,aO⟩;have hb2:Below w1.heap.size w1 (w1.alloc (.cells #[.slice x1 n1 c1,.slice x2 n2 c2] 62)):=(Below.refl _ w1).alloc (Nat.le_refl _) _;have MB:Hid _:=HN.out _ x1 n1 c1 x2 n2 c2 ns (hT.below hb2) aO;have eC:Hid _:=hb.trans (hb2.mono hb.size);clear hb hT aO hb2 HR HN
 go_wp2_with fail
 refine Calls.mono MB.out ?_;rintro _ w3 ⟨rfl,hb3⟩;have jb:Hid _:=eC.out.trans (hb3.mono eC.out.size);clear hb3 MB eC
 go_wp2
 refine bodyPost_ret (v:=.tuple #[.int .i64 ans.1,.int .i64 ans.2]) (by simp[results,Tryz.results12,go_sem]) rfl ⟨rfl,jb.out⟩
theorem sP {T:List Ty} {i:Nat} {t:Ty} (U:List Ty) (h:T[i]?=some t):ai (T++U) (i:Int)=t :=
 yf (by rw[List.getElem?_append_left (List.getElem?_eq_some_iff.1 h).1];exact h)
theorem mX:aZ .aP=3:=by decide
theorem mI:aZ .pair=4:=by decide
theorem mY:aZ .fst=5:=by decide
theorem mZ:aZ .snd=6:=by decide
theorem tT:aZ .di=7:=by decide
theorem kY:aZ .loop=11:=by decide
theorem Nu:aZ .new=12:=by decide
def Tk.z (t:Tk):Tk:={ t with at_:=0 }
def sk (l:List UInt8):List Tk:=(tokens l).map Tk.z
theorem Hb:∀ (f p q:Nat) (l:List UInt8),(toks f p l).map Tk.z=(toks f q l).map Tk.z
 | 0,_,_,_=>rfl
 | _+1,_,_,[]=>rfl
 | f+1,p,q,c::r=>by
  simp only[toks]
  split
  ·exact Hb f _ _ _
  ·simp only[List.map_cons];rw[Hb f _ (q+(aN (c::r)).1)];rfl
theorem Jq (f p:Nat) (l:List UInt8) (h:l.length<=f):(toks f p l).map Tk.z=sk l:=by
 unfold sk tokens;rw[A1 f l.length p l h (Nat.le_refl _)];exact Hb _ _ _ _
theorem Vu:sk []=[]:=rfl
theorem Nv (c:UInt8) (r:List UInt8) (h:eS c=true):sk (c::r)=sk r:=by
 show (toks (r.length+1) 0 (c::r)).map Tk.z=_
 rw[xy _ _ _ _ h];exact Jq _ _ _ (Nat.le_refl _)
theorem yg (a:UInt8) (t r:List UInt8) (c:Cl) (ha:eS a=false) (h:aN (a::(t++r))=(t.length+1,c)):sk (a::(t++r))=⟨a::t,0,c⟩::sk r:=by
 show (toks ((t++r).length+1) 0 (a::(t++r))).map Tk.z=_
 rw[DB _ _ _ _ ha,h];simp only[List.map_cons,List.take_succ_cons,List.drop_succ_cons,List.take_left,List.drop_left];rw[Jq _ _ _ (by simp)];rfl
theorem wZ (lo hi:Int):∀ (w r:List UInt8),(∀ c∈w,ll lo hi c=true)->(∀ c∈r.head?,ll lo hi c=false)->run lo hi (w++r)=w.length
 | [],[],_,_=>rfl
 | [],c::r,_,h=>by simp[run,h c (by simp)]
 | a::w,r,h,h'=>by
  simp only[List.cons_append,run,h a (by simp),if_true,List.length_cons];rw[wZ lo hi w r (λc hc=>h c (by simp[hc])) h']
def Stop (r:List UInt8):Prop:=∀ c∈r.head?,ll 97 122 c=false/\ll 48 57 c=false
theorem Nw:Stop []:=by intro c h;simp at h
theorem om (r:List UInt8):Stop (32::r):=by intro c h;simp at h;subst h;decide
theorem Hc (r:List UInt8):Stop (41::r):=by intro c h;simp at h;subst h;decide
def Bf (s:List UInt8):Prop:=s≠[]/\(∀ c∈s,ll 97 122 c=true)/\s.length<=8/\wB s=none
def yh (s:List UInt8) (m:Nat):Prop:=(∀ c∈s,ll 48 57 c=true)/\cL s m=true
theorem Hd {lo hi:Int} {c:UInt8} (h:ll lo hi c=true):lo<=(c.toNat:Int)/\(c.toNat:Int)<=hi:=by
 unfold ll at h;simp only[Bool.and_eq_true,decide_eq_true_eq] at h;exact h
theorem Q6 {lo hi:Int} {c:UInt8} (h:(c.toNat:Int)<lo\/hi<(c.toNat:Int)):ll lo hi c=false:=by
 cases hb:ll lo hi c with
 | false=>rfl
 | true=>have:=Hd hb;omega
theorem Bg {c:UInt8} (h:33<=c.toNat):eS c=false:=by
 unfold eS;rw[Bool.or_eq_false_iff]
 constructor <;> (rw[beq_eq_false_iff_ne];rintro rfl;exact absurd h (by decide))
theorem Jr (w r:List UInt8) (hne:w≠[]) (hw:∀ c∈w,ll 97 122 c=true) (hr:Stop r):sk (w++r)=⟨w,0,eQ w w.length⟩::sk r:=by
 have hrun:=wZ 97 122 w r hw (λc hc=>(hr c hc).1)
 cases w with
 | nil=>exact absurd rfl hne
 | cons a t =>
  have ha:=Hd (hw a (by simp));refine yg a t r _ (Bg (by omega)) ?_;have hrun':run 97 122 (a::(t++r))=t.length+1:=hrun;unfold aN;rw[if_pos (by omega),hrun'];simp
theorem YK (k:Kw) (r:List UInt8) (hr:Stop r):sk (k.bytes++r)=⟨k.bytes,0,.kw k⟩::sk r:=by
 rw[Jr k.bytes r (by cases k <;> decide) (by cases k <;> decide) hr];unfold eQ;rw[xx]
theorem Js (s r:List UInt8) (h:Bf s) (hr:Stop r):sk (s++r)=⟨s,0,.Ak⟩::sk r:=by
 rw[Jr s r h.1 h.2.1 hr];unfold eQ;rw[h.2.2.2];simp only;rw[if_pos h.2.2.1]
theorem D8 {s:List UInt8} {m:Nat} (h:cL s m=true):s≠[]:=by
 rintro rfl;simp[cL] at h
theorem Vv (s r:List UInt8) (h:yh s 4) (hr:Stop r):sk (s++r)=⟨s,0,.num⟩::sk r:=by
 have hrun:=wZ 48 57 s r h.1 (λc hc=>(hr c hc).2);have hne:=D8 h.2
 cases s with
 | nil=>exact absurd rfl hne
 | cons a t =>
  have ha:=Hd (h.1 a (by simp));refine yg a t r _ (Bg (by omega)) ?_;have hrun':run 48 57 (a::(t++r))=t.length+1:=hrun
  have h0:run 97 122 (a::(t++r))=0:=by simp only[run];rw[Q6 (by omega)];simp
  unfold aN;rw[if_neg (by omega),if_pos (by omega),hrun'];simp only[List.take_succ_cons,List.take_left];rw[if_pos h.2]
theorem Vw (d r:List UInt8) (h:yh d 3) (hr:Stop r):sk (35::(d++r))=⟨35::d,0,.GH⟩::sk r:=by
 have hrun:=wZ 48 57 d r h.1 (λc hc=>(hr c hc).2);refine yg 35 d r _ (by decide) ?_;unfold aN;rw[if_neg (by simp[run,ll]),if_neg (by simp[run,ll])];simp only[if_true];rw[hrun,List.take_left,if_pos h.2]
theorem Vx (r:List UInt8):sk (40::r)=⟨[40],0,.opn⟩::sk r:=by
 refine yg 40 [] r _ (by decide) ?_;unfold aN;rw[if_neg (by simp[run,ll]),if_neg (by simp[run,ll])];simp
theorem Vy (r:List UInt8):sk (41::r)=⟨[41],0,.cls⟩::sk r:=by
 refine yg 41 [] r _ (by decide) ?_;unfold aN;rw[if_neg (by simp[run,ll]),if_neg (by simp[run,ll])];simp
theorem Ju (r:List UInt8):sk (32::r)=sk r:=Nv 32 r (by decide)
mutual
def PT.ok (ae:Bool):PT->Prop
 | .num _ s=>yh s 4
 | .name _ s=>Bf s
 | .node _ k nm rg kids=>bP k ae≠[]/\kids.length=arity k/\(if k=.aP\/k=.loop then Bf nm else nm=[])/\(if ae=true/\(k=.pair\/k=.new) then ∃ d,rg=35::d/\yh d 3 else rg=[])/\pW ae kids
def pW (ae:Bool):List PT->Prop
 | []=>True
 | t::r=>t.ok ae/\pW ae r
end
mutual
def PT.np:PT->PT
 | .num _ s=>.num 0 s
 | .name _ s=>.name 0 s
 | .node _ k nm rg kids=>.node 0 k nm rg (dN kids)
def dN:List PT->List PT
 | []=>[]
 | t::r=>t.np::dN r
end
def dn (rg:List UInt8):List UInt8:=if rg=[] then [] else 32::rg
mutual
def PT.tidy:PT->List UInt8
 | .num _ s=>s
 | .name _ s=>s
 | .node _ k nm rg kids=>40::(k.bytes++(dn rg++(bh k nm 0 (bT kids)++[41])))
def bT:List PT->List (List UInt8)
 | []=>[]
 | t::r=>t.tidy::bT r
end
def jX (k:Kw) (nm:List UInt8) (i:Nat) (x:List Tk):List Tk:=(if (k=.aP/\i=0)\/(k=.loop/\i=1) then [⟨nm,0,.Ak⟩] else [])++x
def kE (k:Kw) (nm:List UInt8):Nat->List (List Tk)->List Tk
 | _,[]=>[]
 | i,x::r=>jX k nm i x++kE k nm (i+1) r
def tU (rg:List UInt8):List Tk:=if rg=[] then [] else [⟨rg,0,.GH⟩]
mutual
def PT.Q7:PT->List Tk
 | .num _ s=>[⟨s,0,.num⟩]
 | .name _ s=>[⟨s,0,.Ak⟩]
 | .node _ k nm rg kids=>⟨[40],0,.opn⟩::⟨k.bytes,0,.kw k⟩::(tU rg++(kE k nm 0 (pX kids)++[⟨[41],0,.cls⟩]))
def pX:List PT->List (List Tk)
 | []=>[]
 | t::r=>t.Q7::pX r
end
theorem vm (k:Kw) (nm:List UInt8) (i:Nat) (l:List (List UInt8)) (r:List UInt8):Stop (bh k nm i l++(41::r)):=by
 cases l with
 | nil=>exact Hc r
 | cons x l =>
  unfold bh bF
  split
  ·exact om _
  ·exact om _
mutual
theorem Jv {ae:Bool}:∀ (e:PT),e.ok ae->∀ r,Stop r->sk (e.tidy++r)=e.Q7++sk r
 | .num _ s,h,r,hr=>Vv s r (by simpa only[PT.ok] using h) hr
 | .name _ s,h,r,hr=>Js s r (by simpa only[PT.ok] using h) hr
 | .node _ k nm rg kids,h,r,hr=>by
  simp only[PT.ok] at h;obtain⟨_,_,hn,hg,hk⟩:=h;have hj:=D9 (ae:=ae) kids hk k nm (λhx=>by rw[if_pos hx] at hn;exact hn) 0 r;simp only[PT.tidy,PT.Q7,List.cons_append,List.append_assoc,List.nil_append];rw[Vx,YK,List.cons.injEq,List.cons.injEq]
  ·refine⟨rfl,rfl,?_⟩
   unfold dn tU
   split
   ·exact hj
   ·rename_i e
    split at hg
    ·obtain⟨d,rfl,hd⟩:=hg
     simp only[List.cons_append];rw[Ju,Vw d _ hd (vm _ _ _ _ _),hj];rfl
    ·exact absurd hg e
  ·unfold dn
   split
   ·exact vm _ _ _ _ _
   ·exact om _
theorem D9 {ae:Bool}:∀ (kids:List PT),pW ae kids->∀ (k:Kw) (nm:List UInt8),((k=.aP\/k=.loop)->Bf nm)->∀ (i:Nat) (r:List UInt8),sk (bh k nm i (bT kids)++(41::r))=kE k nm i (pX kids)++(⟨[41],0,.cls⟩::sk r)
 | [],_,k,nm,_,i,r=>by simp only[bT,pX,bh,kE,List.nil_append];exact Vy r
 | t::ts,h,k,nm,hn,i,r=>by
  simp only[pW] at h;have ih:=D9 ts h.2 k nm hn (i+1) r;have iht:=Jv t h.1 (bh k nm (i+1) (bT ts)++(41::r)) (vm _ _ _ _ _);simp only[bT,pX,bh,kE,bF,jX,List.append_assoc]
  split
  ·rename_i hc
   have hg:Bf nm:=hn (hc.elim (λh=>Or.inl h.1) (λh=>Or.inr h.1));simp only[List.cons_append,List.nil_append];rw[Ju,Js nm _ hg (om _),Ju,iht,ih]
  ·simp only[List.cons_append,List.nil_append]
   rw[Ju,iht,ih]
end
mutual
theorem Nx {ae:Bool}:∀ (e:PT),e.ok ae->∀ r,PE ae (e.Q7++r) e.np r
 | .num _ s,_,r=>by simp only[PT.Q7,PT.np];exact .num (t:=⟨s,0,.num⟩) rfl
 | .name _ s,_,r=>by simp only[PT.Q7,PT.np];exact .name (t:=⟨s,0,.Ak⟩) rfl
 | .node _ k nm rg kids,h,r=>by
  simp only[PT.ok] at h;obtain⟨hw,hl,hn,hg,hk⟩:=h;have hks:=Ny (ae:=ae) kids hk
  have eM:∀ (R:List Tk) (nk gU:List UInt8) (ks:List PT),PW ae (bP k ae) R nk gU ks r->R=tU rg++(kE k nm 0 (pX kids)++[⟨[41],0,.cls⟩])++r->nk=nm->gU=rg->ks=dN kids->PE ae ((PT.node 0 k nm rg kids).Q7++r) (PT.node 0 k nm rg kids).np r:=by
   rintro R nk gU ks hp rfl rfl rfl rfl;simp only[PT.Q7,PT.np,List.cons_append];exact .node (t:=⟨[40],0,.opn⟩) (u:=⟨k.bytes,0,.kw k⟩) rfl rfl hw hp
  cases k with
  | aP =>
   match kids,hl,hks,eM with
   | [a,b],_,hks,eM =>
    simp only[bP] at eM;simp only[true_or,if_true] at hn;rw[if_neg (by simp)] at hg;subst hg;exact eM _ _ _ _ (.name (t:=⟨nm,0,.Ak⟩) rfl (.e (hks a (by simp) _) (.e (hks b (by simp) _) (.close (t:=⟨[41],0,.cls⟩) rfl .nil)))) (by simp[tU,pX,kE,jX]) rfl rfl rfl
  | loop =>
   match kids,hl,hks,eM with
   | [a,b,c],_,hks,eM =>
    simp only[bP] at eM;rw[if_neg (by simp)] at hg;subst hg;exact eM _ _ _ _ (.e (hks a (by simp) _) (.name (t:=⟨nm,0,.Ak⟩) rfl (.e (hks b (by simp) _) (.e (hks c (by simp) _) (.close (t:=⟨[41],0,.cls⟩) rfl .nil))))) (by simp[tU,pX,kE,jX]) rfl rfl rfl
  | di =>
   match kids,hl,hks,eM with
   | [a,b,c],_,hks,eM =>
    simp only[bP] at eM;rw[if_neg (by simp)] at hg;rw[if_neg (by decide)] at hn;subst hg;subst hn;exact eM _ _ _ _ (.e (hks a (by simp) _) (.e (hks b (by simp) _) (.e (hks c (by simp) _) (.close (t:=⟨[41],0,.cls⟩) rfl .nil)))) (by simp[tU,pX,kE,jX]) rfl rfl rfl
  | fst =>
   match kids,hl,hks,eM with
   | [a],_,hks,eM =>
    simp only[bP] at eM;rw[if_neg (by simp)] at hg;rw[if_neg (by decide)] at hn;subst hg;subst hn;exact eM _ _ _ _ (.e (hks a (by simp) _) (.close (t:=⟨[41],0,.cls⟩) rfl .nil)) (by simp[tU,pX,kE,jX]) rfl rfl rfl
  | snd =>
   match kids,hl,hks,eM with
   | [a],_,hks,eM =>
    simp only[bP] at eM;rw[if_neg (by simp)] at hg;rw[if_neg (by decide)] at hn;subst hg;subst hn;exact eM _ _ _ _ (.e (hks a (by simp) _) (.close (t:=⟨[41],0,.cls⟩) rfl .nil)) (by simp[tU,pX,kE,jX]) rfl rfl rfl
  | add =>
   match kids,hl,hks,eM with
   | [a,b],_,hks,eM =>
    simp only[bP] at eM;rw[if_neg (by simp)] at hg;rw[if_neg (by decide)] at hn;subst hg;subst hn;exact eM _ _ _ _ (.e (hks a (by simp) _) (.e (hks b (by simp) _) (.close (t:=⟨[41],0,.cls⟩) rfl .nil))) (by simp[tU,pX,kE,jX]) rfl rfl rfl
  | sub =>
   match kids,hl,hks,eM with
   | [a,b],_,hks,eM =>
    simp only[bP] at eM;rw[if_neg (by simp)] at hg;rw[if_neg (by decide)] at hn;subst hg;subst hn;exact eM _ _ _ _ (.e (hks a (by simp) _) (.e (hks b (by simp) _) (.close (t:=⟨[41],0,.cls⟩) rfl .nil))) (by simp[tU,pX,kE,jX]) rfl rfl rfl
  | less =>
   match kids,hl,hks,eM with
   | [a,b],_,hks,eM =>
    simp only[bP] at eM;rw[if_neg (by simp)] at hg;rw[if_neg (by decide)] at hn;subst hg;subst hn;exact eM _ _ _ _ (.e (hks a (by simp) _) (.e (hks b (by simp) _) (.close (t:=⟨[41],0,.cls⟩) rfl .nil))) (by simp[tU,pX,kE,jX]) rfl rfl rfl
  | pair =>
   match kids,hl,hks,eM with
   | [a,b],_,hks,eM =>
    rw[if_neg (by decide)] at hn;subst hn
    cases ae with
    | false =>
     simp only[bP] at eM;rw[if_neg (by simp)] at hg;subst hg;exact eM _ _ _ _ (.e (hks a (by simp) _) (.e (hks b (by simp) _) (.close (t:=⟨[41],0,.cls⟩) rfl .nil))) (by simp[tU,pX,kE,jX]) rfl rfl rfl
    | true =>
     simp only[bP] at eM;rw[if_pos (by simp)] at hg;obtain⟨d,rfl,hd⟩:=hg;exact eM _ _ _ _ (.region (t:=⟨35::d,0,.GH⟩) rfl (.e (hks a (by simp) _) (.e (hks b (by simp) _) (.close (t:=⟨[41],0,.cls⟩) rfl .nil)))) (by simp[tU,pX,kE,jX]) rfl rfl rfl
  | new =>
   match kids,hl,hks,eM with
   | [a],_,hks,eM =>
    rw[if_neg (by decide)] at hn;subst hn
    cases ae with
    | false=>exact absurd rfl hw
    | true =>
     simp only[bP] at eM;rw[if_pos (by simp)] at hg;obtain⟨d,rfl,hd⟩:=hg;exact eM _ _ _ _ (.region (t:=⟨35::d,0,.GH⟩) rfl (.e (hks a (by simp) _) (.close (t:=⟨[41],0,.cls⟩) rfl .nil))) (by simp[tU,pX,kE,jX]) rfl rfl rfl
theorem Ny {ae:Bool}:∀ (kids:List PT),pW ae kids->∀ x∈kids,∀ r,PE ae (x.Q7++r) x.np r
 | [],_,x,hx,_=>by simp at hx
 | t::ts,h,x,hx,r=>by
  simp only[pW] at h
  rcases List.mem_cons.1 hx with hx | hx
  ·rw[hx];exact Nx t h.1 r
  ·exact Ny ts h.2 x hx r
end
theorem sQ {l:List Tk} {t:Tk} {r:List Tk} (h:l.map Tk.z=t::r):∃ t2 r2,l=t2::r2/\t2.c=t.c/\t2.s=t.s/\r2.map Tk.z=r:=by
 cases l with
 | nil=>simp at h
 | cons a l =>
  simp only[List.map_cons,List.cons.injEq] at h;exact⟨a,l,rfl,by rw[<- h.1];rfl,by rw[<- h.1];rfl,h.2⟩
mutual
theorem PE.TE {ae:Bool}:∀ {l:List Tk} {e:PT} {r:List Tk},PE ae l e r->∀ l2,l2.map Tk.z=l->∃ e2 r2,PE ae l2 e2 r2/\e2.np=e.np/\r2.map Tk.z=r
 | _,_,_,.num h,l2,h2=>by
  obtain⟨t2,r2,rfl,hc,hs,hr⟩:=sQ h2;exact⟨_,r2,.num (hc.trans h),by simp only[PT.np,hs],hr⟩
 | _,_,_,.name h,l2,h2=>by
  obtain⟨t2,r2,rfl,hc,hs,hr⟩:=sQ h2;exact⟨_,r2,.name (hc.trans h),by simp only[PT.np,hs],hr⟩
 | _,_,_,.node h1 h3 h4 h5,l2,h2=>by
  obtain⟨t2,r2,rfl,hc,_,hr⟩:=sQ h2;obtain⟨u2,r3,rfl,hc3,_,rH⟩:=sQ hr;obtain⟨ks,r4,hp,hks,Aq⟩:=PW.TE h5 r3 rH;exact⟨_,r4,.node (hc.trans h1) (hc3.trans h3) h4 hp,by simp only[PT.np,hks],Aq⟩
theorem PW.TE {ae:Bool}:∀ {ws:List Wt} {l:List Tk} {nm rg:List UInt8} {kids:List PT} {r:List Tk},PW ae ws l nm rg kids r->∀ l2,l2.map Tk.z=l->∃ TF r2,PW ae ws l2 nm rg TF r2/\dN TF=dN kids/\r2.map Tk.z=r
 | _,_,_,_,_,_,.nil,l2,h2=>⟨[],l2,.nil,rfl,h2⟩
 | _,_,_,_,_,_,.close h h1,l2,h2=>by
  obtain⟨t2,r2,rfl,hc,_,hr⟩:=sQ h2;obtain⟨ks,r4,hp,hks,Aq⟩:=PW.TE h1 r2 hr;exact⟨ks,r4,.close (hc.trans h) hp,hks,Aq⟩
 | _,_,_,_,_,_,.name h h1,l2,h2=>by
  obtain⟨t2,r2,rfl,hc,hs,hr⟩:=sQ h2;obtain⟨ks,r4,hp,hks,Aq⟩:=PW.TE h1 r2 hr;exact⟨ks,r4,by rw[<- hs];exact .name (hc.trans h) hp,hks,Aq⟩
 | _,_,_,_,_,_,.region h h1,l2,h2=>by
  obtain⟨t2,r2,rfl,hc,hs,hr⟩:=sQ h2;obtain⟨ks,r4,hp,hks,Aq⟩:=PW.TE h1 r2 hr;exact⟨ks,r4,by rw[<- hs];exact .region (hc.trans h) hp,hks,Aq⟩
 | _,_,_,_,_,_,.e h h1,l2,h2=>by
  obtain⟨e2,r2,hp,he,hr⟩:=PE.TE h l2 h2;obtain⟨ks,r4,YL,hks,Aq⟩:=PW.TE h1 r2 hr;exact⟨_,r4,.e hp YL,by simp only[dN,he,hks],Aq⟩
end
mutual
theorem TG:∀ e:PT,e.np.np=e.np
 | .num _ _=>rfl
 | .name _ _=>rfl
 | .node _ _ _ _ kids=>by simp only[PT.np,Nz kids]
theorem Nz:∀ l:List PT,dN (dN l)=dN l
 | []=>rfl
 | t::r=>by simp only[dN,TG t,Nz r]
end
theorem Cv {ae:Bool} (e:PT) (h:e.ok ae):∃ e2,PE ae (tokens e.tidy) e2 []/\e2.np=e.np:=by
 have hs:=Jv e h [] Nw;rw[List.append_nil,Vu] at hs;obtain⟨e2,r2,hp,he,hr⟩:=(Nx e h []).TE (tokens e.tidy) hs
 have:r2=[]:=by simpa using hr
 subst this;exact⟨e2,hp,he.trans (TG e)⟩
end Go.Proofs.YtpicaknklgccoabGreatDoor
